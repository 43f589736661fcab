import PyProof.Rows.All
import Wide.All
import OpenK.AllK
import Wide.FinOn
import Lean
import PyProof.EqAt
import PyProof.EqKinds
import PyProof.TupleCall
import PyProof.NeKinds
import PyProof.SumAny
import PyProof.ConsumeS
import PyProof.WalkInts
import PyProof.Draws
import PyProof.EnumMake
import PyProof.Rows.Range3
import PyProof.MeetsStr
import KE.KDictLaws
import PyProof.Rows.CallKwBuiltin
import PyProof.DictItems
import KE.KPairComp
import PyProof.AttrMissHeap
import KE.KDictOf
import KE.KItemsList
import PyProof.Rows.SetFrom
import KE.KTryMore
import PyProof.StrBlockG
import PyProof.StrWalks
import PyProof.Rows.SortStr
import PyProof.Rows.SortKeyStr
import KE.KIntText
import PyProof.Rows.StrItems
import KE.KUnpackStar
import PyProof.ZipIter
import PyProof.Rows.StrLawsPart
import PyProof.StrLawsNeg
import PyProof.Rows.StrFirst
import PySem.Challenge.RW_duskround_k54_books_texts_refused
set_option linter.all false
set_option genSizeOf false
set_option genInjectivity false
namespace EN
end EN
abbrev eA:=@List
abbrev eC:=@PySem.Value
abbrev eY:=@PySem.Shared
abbrev gk:=@Option
abbrev iB:=@PySem.Addr
abbrev jv:=@PySem.W.Frag
abbrev pF:=@PySem.Program
def af:=@List.length_map
def aq:=@PySem.wpAny_bind
def ar:=@PySem.Heap.get?_push_of_some
def au:=@List.mem_cons
def av:=@List.map_cons
def ax:=@List.length_cons
def ay:=@decide_eq_false
def az:=@Nat.le_trans
def aA:=@Nat.le_refl
def aB:=@eq_true
def aC:=@if_neg
def aD:=@List.getElem?_map
def aE:=@List.length_append
def aF:=@if_pos
def aG:=@List.mem_map
def aH:=@decide_eq_true
def aI:=@PySem.Heap.lt_size
def aJ:=@List.mem_cons_of_mem
def aK:=@List.mem_append
def aM:=@List.size_toArray
def aO:=@PySem.F.plainAttrs_str
def aP:=@Nat.lt_of_lt_of_le
def aS:=@PySem.Heap.get?_push_size
def aT:=@List.getElem?_eq_getElem
def aV:=@PySem.wpAny_pure
def aX:=@List.map_append
def aY:=@Bool.not_false
def aZ:=@List.mem_singleton
def a7:=@List.mem_of_getElem?
def ba:=@List.map_map
def bb:=@List.getElem?_append_left
def bc:=@Bool.not_true
def be:=@Nat.ne_of_lt
def bf:=@PySem.wpAny_mono
def bg:=@List.getElem?_append_right
def bi:=@List.mem_append_right
def bj:=@PySem.F.plainAttrs_list
def bn:=@List.append_assoc
def bq:=@List.mem_cons_self
def br:=@Bool.false_ne_true
def bu:=@List.getElem?_eq_some_iff
def bz:=@List.length_take
def bB:=@List.cons.inj
def bF:=@Option.some.inj
def bJ:=@PySem.W.mg_none_of
def bL:=@List.take_append_drop
def bQ:=@of_decide_eq_true
def bS:=@List.count_append
def bT:=@List.pairwise_cons
def bU:=@Bool.false_eq_true
def bW:=@PySem.StrLaws.join_split
def b0:=@Int.eq_ofNat_of_zero_le
def cc:=@PySem.wpAny_holding
def cf:=@PySem.StrLaws.glued_eq_join
def cn:=@PySem.F.slot_str_split
def cr:=@List.take_length
def cw:=@List.getElem_mem
def cx:=@Bool.and_eq_true
def cy:=@List.take_add_one
def cA:=@List.append_nil
def cC:=@PySem.F.slot_str_join
def cD:=@List.not_mem_nil
def cE:=@Ne.symm
def cG:=@PySem.PassesOwn.never
def cH:=@Nat.lt_irrefl
def cL:=@PySem.F.type_str_join
def cM:=@PySem.wpAny_truthy_bool
def cP:=@PySem.sizeLine_eq
def cS:=@PySem.W.kia_one
def cT:=@List.find?_cons
def cV:=@PySem.F.type_list_append
def cW:=@PySem.F.slot_list_append
def cZ:=@PySem.W.hideAll_get
def c7:=@List.filterMap_cons
def c_:=@decide_eq_true_eq
def db:=@List.flatten_cons
def de:=@List.getElem?_replicate
def df:=@PySem.Heap.get?_update_self
def du:=@PySem.F.type_str_split
def dv:=@List.take_of_length_le
def dw:=@List.map_nil
def dy:=@List.length_drop
def dD:=@PySem.Heap.get?_update_other
def dE:=@Bool.or_eq_true
def dJ:=@List.all_eq_true
def dP:=@PySem.Txt.slice_le
def dS:=@PySem.Obj.data_mapFields
def dZ:=@PySem.F.excBase_ValueError
def d0:=@PySem.mem_of_lookup
def d3:=@List.map_congr_left
def d8:=@Option.map_some
def d9:=@List.nodup_cons
def d_:=@List.length_set
def eh:=@Bool.eq_iff_iff
def eu:=@if_false
inductive cU {T0 T1:Type}(P:T0 ->T1 ->Prop):Prop | mk (x0:T0) (x1:T1) (h:P x0 x1):cU P
inductive gh {T0 T1 T2:Type}(P:T0 ->T1 ->T2 ->Prop):Prop | mk (x0:T0) (x1:T1) (x2:T2) (h:P x0 x1 x2):gh P
inductive jD {T0 T1 T2 T3:Type}(P:T0 ->T1 ->T2 ->T3 ->Prop):Prop | mk (x0:T0) (x1:T1) (x2:T2) (x3:T3) (h:P x0 x1 x2 x3):jD P
inductive qu {T0 T1 T2 T3 T4:Type}(P:T0 ->T1 ->T2 ->T3 ->T4 ->Prop):Prop | mk (x0:T0) (x1:T1) (x2:T2) (x3:T3) (x4:T4) (h:P x0 x1 x2 x3 x4):qu P
inductive Yz {T0 T1 T2 T3 T4 T5:Type}(P:T0 ->T1 ->T2 ->T3 ->T4 ->T5 ->Prop):Prop | mk (x0:T0) (x1:T1) (x2:T2) (x3:T3) (x4:T4) (x5:T5) (h:P x0 x1 x2 x3 x4 x5):Yz P
inductive XE7 {T0 T1 T2 T3 T4 T5 T6:Type}(P:T0 ->T1 ->T2 ->T3 ->T4 ->T5 ->T6 ->Prop):Prop | mk (x0:T0) (x1:T1) (x2:T2) (x3:T3) (x4:T4) (x5:T5) (x6:T6) (h:P x0 x1 x2 x3 x4 x5 x6):XE7 P
inductive XE8 {T0 T1 T2 T3 T4 T5 T6 T7:Type}(P:T0 ->T1 ->T2 ->T3 ->T4 ->T5 ->T6 ->T7 ->Prop):Prop | mk (x0:T0) (x1:T1) (x2:T2) (x3:T3) (x4:T4) (x5:T5) (x6:T6) (x7:T7) (h:P x0 x1 x2 x3 x4 x5 x6 x7):XE8 P
inductive dh (P0 P1 P2:Prop):Prop | mk (Wi:P0) (Wh:P1) (R8:P2):dh P0 P1 P2
inductive fE (P0 P1 P2 P3:Prop):Prop | mk (Wi:P0) (Wh:P1) (R8:P2) (Yn:P3):fE P0 P1 P2 P3
inductive gX (P0 P1 P2 P3 P4:Prop):Prop | mk (Wi:P0) (Wh:P1) (R8:P2) (Yn:P3) (hP4:P4):gX P0 P1 P2 P3 P4
inductive oR (P0 P1 P2 P3 P4 P5:Prop):Prop | mk (Wi:P0) (Wh:P1) (R8:P2) (Yn:P3) (hP4:P4) (hP5:P5):oR P0 P1 P2 P3 P4 P5
inductive GI (P0 P1 P2 P3 P4 P5 P6:Prop):Prop | mk (Wi:P0) (Wh:P1) (R8:P2) (Yn:P3) (hP4:P4) (hP5:P5) (hP6:P6):GI P0 P1 P2 P3 P4 P5 P6
inductive KQ (P0 P1 P2 P3 P4 P5 P6 P7:Prop):Prop | mk (Wi:P0) (Wh:P1) (R8:P2) (Yn:P3) (hP4:P4) (hP5:P5) (hP6:P6) (hP7:P7):KQ P0 P1 P2 P3 P4 P5 P6 P7
set_option Elab.async false
set_option maxRecDepth 100000
set_option genSizeOf false
set_option genInjectivity false
local macro_rules | `(∅) => `(by lia)
local macro_rules | `(⇑$x) => `(by simpa using $x)
set_option compiler.extract_closed false
noncomputable section
local macro_rules|`(⋯)=>`(by decide)
local macro_rules|`(tactic|symm)=>`(tactic|constructor)
local macro_rules|`(tactic|exact $e)=>`(tactic|refine $e)
local macro_rules|`(tactic|show $e)=>`(tactic|refine $e)
local macro_rules|`(def $i $s:optDeclSig:=by $v)=>do let d:=Lean.mkNode ``Lean.Parser.Command.declSig #[s.raw[0],s.raw[1][0]];`(theorem $i $(⟨d⟩):declSig:=by $v)|`(def $i $s:optDeclSig $v:declVal)=>`(noncomputable def $i $s:optDeclSig $v:declVal)|`(abbrev $i $s:optDeclSig $v:declVal)=>`(noncomputable abbrev $i $s:optDeclSig $v:declVal)
local macro_rules|`(tactic|let $p:term$[:$t]?:=$e)=>do let r:=p.raw.rewriteBottomUp (λs=>let k:=s.getKind;if s.isIdent then Lean.mkNode `Lean.Parser.Tactic.rcasesPat.one #[s] else if k==`Lean.Parser.Term.hole then Lean.mkNode `Lean.Parser.Tactic.rcasesPat.ignore s.getArgs else if k==`Lean.Parser.Term.anonymousCtor then Lean.mkNode `Lean.Parser.Tactic.rcasesPat.tuple (s.getArgs.modify 1 λa=>.node .none `null (a.getArgs.map λq=>if q.isAtom then q else Lean.mkNode `Lean.Parser.Tactic.rcasesPatLo #[Lean.mkNode `Lean.Parser.Tactic.rcasesPatMed #[Lean.mkNullNode #[q]],Lean.mkNullNode])) else s);`(tactic|obtain $(⟨Lean.mkNode `Lean.Parser.Tactic.rcasesPatMed #[Lean.mkNullNode #[r]]⟩):rcasesPatMed$[:$t]?:=$e)
local macro_rules|`(tactic|simp![$x,*]$[$l]?)=>`(tactic|simp only[$x,*]$[$l]?)
local macro_rules|`(#[$x,$y])=>`(⟨$x,$y⟩)|`(#[$x,$y,$z,*])=>`(⟨$x,$y,$z,*⟩)
local macro_rules (kind:=Lean.Parser.Command.mutual)|s=>do
 let c:=s[1].getArgs
 if !c[0]!.isOfKind `Lean.Parser.Command.check then Lean.Macro.throwUnsupported
 let p:=c[0]![1][1]
 let go(m:Std.HashMap String Lean.Syntax)(x:Lean.Syntax):=x.rewriteBottomUp λy=>match y with|.ident _ r n l=>let z:=.ident .none r n l;(match n with|.str .anonymous n=>(m.get? n).getD z|_=>z)|.atom _ v=>.atom .none v|.node _ k a=>.node .none k a|_=>y
 let mut m:Std.HashMap String Lean.Syntax:={}
 let z:="ÀÁÂÃÄÅÆÇÈÉÊËÌÍÎÏÐÑÒÓÔÕÖØÙÚÛÜÝÞßàáâãäåæçèéêëìíîïðñòóôõöøùúûüýþÿĀāĂăĄąĆćĈĉĊċČčĎďĐđĒēĔĕĖėĘęĚěĜĝĞğĠġĢģĤĥĦħĨĩĪīĬĭĮįİıĲĳĴĵĶķĸĹĺĻļĽľĿŀŁłŃńŅņŇňŉŊŋŌōŎŏŐőŒœŔŕŖŗŘřŚśŜŝŞşŠšŢţŤťŦŧŨũŪūŬŭŮůŰűŲųŴŵŶŷŸŹźŻżŽžſγδεζηθιμνξοπςτυχψωΑΒΔΕΖΗΘΙΚΛΜΝΞΟΡΤΥΦΧΨΩϊϋόύώϏϐϑϒϓϔϕϖϗϘϙϚϛϜϝϞϟϠϡϢϣϤϥϦϧϨϩϪϫϬϭϮϯϰϱϲϳϴϵ϶ϷϸϹϺϻ".toList.map toString
 let mut w:="abcdefghijklmnopqrstuvwxyzABCDEFGHIJKLMNOPQRSTUVWXYZ".toList.flatMap λa=>z.map λb=>toString a++b
 let mut k:=""
 for x in #[p[0]]++p[2].getSepArgs do
  if x.isIdent then k:=x.getId.toString
  else if k=="" then
   m:=m.insert w.head! (go m x);w:=w.tail!
  else
   m:=m.insert k (go m x);k:=""
 let mut o:Array Lean.Syntax:=#[]
 for x in c[1:] do
  if x.isOfKind `Lean.Parser.Command.universe then
   let i:Lean.Ident:=⟨x[1][0]⟩
   o:=o.push (← if i.getId==`e then `(end) else `(end $i))
  else o:=o.push (go m x)
 return Lean.mkNullNode o
mutual
#check (À,eA V,Á,aI e,Â,1000,Ã,aF e,Ä,aC e,Å,gk W,Æ,eA W,Ç,wi p,È,P4 p,É,.bl b,Ê,eA eC,Ë,gk eC,eA dB,Ì,eA α,z.2.1,z.2.2,bH hb,b≠e,Í,eA iB,Î,gk iB,Ï,X.K=K,Ð,(i+1),Ñ,⇑hb,Ò,.bl _,"str",aq ?_,aF hk,aC hk,Ó,(k+1),x::xs,aF h1,aC h1,bF h1,p.1=k,aC hx,Ô,eA Dt,aT hj,⇑hl,(j+1),Õ,q x M,b≠d,l[i]?,(M x),q.1=x,(n+1),"law",(n,a),"now",Ö,fg hg,eM ?_,aH h1,Ø,m::ms,Ù,n::ms,Ú,(R,T),jw hn,Û,val i,"one",Ü,eZ ?_,aR h2,aB hz,Ý,aN hu,ay h1,.inl k,.inr x,.inl i,Þ,.int i,.str x,ß,.ref a,xs[i]?,à,some x,á,some u,â,some v,ã,List V,ä,some o,å,aF rfl,æ,"list",ç,(·.1),(cH _),.lst _,b∉ex,è,eA Env,é,some c,b∉ch,(Á),ê,eA Str,ë,some a,.inl q,Q v H',Sem eC,Sem α,ì,Gl X x,X.mg x,í,c=true,.inl h,î,b=true,(·.2),(pS i),vs= [],ar _ e,ï,(aA _),2 ^ 62,2 ^ 64,hc.2.1,hc.2.2,ð,.int _,ñ,.str _,.str y,ò,.ref p,2 ^ 63,dx≠x,ó,.ref C,Be K C,ar _ q,"dict",ô,some b,eV k A,q _ hf,õ,some y,.ref t,ö,.ref b,ø,gk Int,ù,aC ∅,xs= [],some j,aF ∅,.str z,ú,#[_,e],.int b,.int a,.str a,.str b,(CF x),.ref l,some k,.ref _,kv.1=k,some q,.dK [],û,eA Int,some n,ü,eA Nat,.ref D,ý,.tup l,.lst l,some d,q_ d e,.tup _,C4 K C,List W,.v .fb,bg ∅,(x::l),(wE e),x=wi i,þ,(wr p),[wr b],keep M,some l,wi q.2,(M1 p),(M2 p),.inr h,p<Â,(a:iB),.ref d,(a:Rd),(kF a),(up e),x=ws y,(ws y),ÿ,α ->W,(wr a),(eW a),(bE a),K.In h,.int n,aF ⋯,m9 i j,(d:iB),xU f l,"past","held",oz r t,"team",Ev n l,(yd R),Ā,(R:Rm),ā,(T:Tm),NL p R,dj R n,dj T n,(wr u),dj T c,.bad r,Rm×Tm,Ă,"crew",YB R T,di R n,e0::ls,x=bE r,10 ^ k,(bE r),(bR z),ox p x,some r,dj R m,(R,T0),(jd p),bK row,ws row,r0::rs,(ml l),rC k x,gS row,bI c x,fH c l,(bK x),ă,"name",Ą,"self","text",ą,"book",Ć,(pv 0),ć,(pv 1),Ĉ,(bw _),ĉ,(pv 2),Ċ,(pv 3),ċ,(b8 T),Č,(pv 4),č,(pv 6),jP _ _,(m8 T),Ď,(pv 5),gL _ 1,(R,T'),jo s F,ď,(pv 7),(pv 8),"tuple",(n:Nat),.dK kvs,"range",k b u q,some o',aJ _ hb,Q () s',.inl hk,Đ,eA Expr,eA Stmt,đ,I.tok _,.bool b,(É),Ē,(e::es),ē,(n:Int),Int ->V,(g i j),(0:Int),Ĕ,vals1 r,ĕ,au.mp h,(aÉ),(k:Int),qt r fs,a::b::r,I.Aa hH,#[e,?_],Ė,.lst [],(xf ry),(fS st),(dO st),ė,(aU st),Str×α,a_ H H1,Ę,a_ H H',.ref ea,K.In hh,(aV ?_),Sm M M1,ę,Sm M M',h.at e1,wb true,q wn M',r.at ex,(i_ hv),(l++l'),(k:Nat),Sm M1 M,(aN hp),hq p hp,sa z hz,aZ.mp h,sM p ps,l≠ [],Ě,(p:Int),(cE kN),a.2.map,eA Bool,(cw hi),α ->Dt,#[h3,k],10 ^ 60,(i:Int),iB ->TS,m9 c zm,"teams",(n:Str),(T':Tm),iB ->WS,(x:Str),(bq ..),aK.mp z,aK.mp w,.ref Cz,l++ [m],(R0,[]),yY R ns,([],[]),r0=o_ p,x::y::l,(wF T'),[aÞ],"words","place",(b_ ao),ě,(fY hr),(cY ah),m9 c E_,(aN hv),hz z Cq,(cw hj),l.take i,l.drop j,l.drop i,Ĝ,cF xs us,ĝ,RelV x u,Ğ,RelV v u,ğ,H b=none,Ġ,Array eC,ġ,h.get? a,Ģ,aS _ rfl,cF xs bN,(dN P w),ģ,(.ref f),(.ref x),h.get? b,Ĥ,.inl rfl,H a=none,WY (H x),(.own x),k b ob q,(XM h H),List Str,List Env,b∉X.ex,b∉X.fs,(â),X.pn++ag,some p.2,id I.loc,ĥ,.inr rfl,⇑I.len,cF vs us,Ħ,t σ H Q,t D σ H,ħ,RelV x v,Ĩ,RelV y u,(Þ),ĩ,#[_,rfl],(aå),x= .bl c,.bl true,Ī,(ß),r.inj r',(añ),(I.qA _),(some e),X.prog=P,J.go i H,s.toks+1,#[H,I,q],ī,(ó),Sem Bool,(.inl e),Be X.K C,Ĭ,[ß],λ_=>rfl,(aþ),ĭ,(ò),Į,gr outer,(vs++v8),#[us,[]],(us++ds),į,eV k X.A,cF v8 ds,P.zip vs,bg ⇑hi,bb ⇑hi,(aă),(some i),xs≠ [],İ,H p=none,λz=> ?_,(ač),RelV y v,lI kvs k,#[h1,h2],au.mp hx,jl.val k,ı,(aĒ),#[t,rfl],λ_ h=>h,au.mp hy,(aĔ),(aõ),(ý),va d<=50,a_ H1 H2,λo=> ?_,λx=> ?_,Ĳ,(.ref e),B.get? b,ĳ,(fQ P w),M b=none,Ĵ,M p=none,ĵ,gP K M H,(à),w ρ M q,Ķ,IE K t a,IT K t a,ķ,IE K u b,IA K u b,ĸ,IA K t a,Ĺ,(x=wr a),(y=wi i),ĺ,m a _ hl,Ļ,gg.of hv,(jF K p),p vs M q,m a _ ha,IM K r w,(aû),(x=wr p),(y=uM k),iy kvs k,IE K s c,IG K g w,I i ρ M,I i ys M,Sm M0 M',DR M x d,ļ,(by rfl),Dr M d l,Ľ,Int×Int,W ->Prop,look l x,h.1 z hz,B7 hp hs,au.mp hz,vO m x v,ľ,look m x,look m n,(d l:iB),16000000,f8 p a.2,(sY K p),Ŀ,(Ex K e),Str ->TE,Str ->WE,Sm M1 M',vals1 rv,(x=ws i),(y=ws j),wr x::xs,qV l c k,.error x,(x=ws z),(.dK us),m d _ hd,(.inr n),fV l n a,aG.mp hx,l.map ws,"rounds","undone",M r=none,fV R n a,aK.mp hc,ŀ,M u=none,.found c,"round ",E8 p R T,(aņ),(eO T c),gV p R T,aK.mp hx,(.int p),(x=ws a),(some 1),gg.of jO,aG.mp hc,(10:Nat),10 ^ 500,iJ p r.2,(fh _ _),Ł,au.mp hq,aG.mp hq,l.map bR,dP x _ _,dz z.1.2,aK.mp hz,(.str s),(hJ h).2,ł,lP p R T,fV R n r,Bd R T l,aK.mp qx,r ::rows,r0::rows,(main g),mZ _ _ _,bW x sep,gu val i,(· ==k),gu val n,x ::y::l,(eO T n),aK.mp hr,aG.mp hr,L.take i,L.drop i,"sorted",Ń,(top 67),[ă],ń,[Ą],[aŚ],"_law_k",λ_=> ?_,λh=> ?_,(nq rfl),["sign"],dR am vG,(kh rfl),dR am hu,hB.sm s2,(fM rfl),(SE K A),(o:Å),#[l1,l2],L.map ws,(x=wi e),.cons _ t,.cons r t,Ņ,KV kvs vs,h'.get? b,ņ,(.tup xs),h'.get? a,List Addr,H' b=none,K.In base,eA (gk V),Ň,(by simp),ň,eY ->Prop,ŉ,Hp ->Prop,Ŋ,PE X a ta,PE X b tb,PT X a tA,.bl false,(.lst xs),ŋ,PE X e te,PE X o to,(.ref it),Ō,I.list hq,rv.get hx,PE X l tl,x= Þ,Int ->Int,k=(i !=0),ō,(aţ),some none,jU f v fs,tq I.c9 e,(đ),λ_=>none,PE X o ta,(.dT kvs),Ŏ,some true,A.units+1,PA X es t,H1 p=none,gO CX X E,(.type T),(.lst ys),mI x=true,(.tup ys),xK X id r,ŏ,(Ė),p_ I.c9 e,u_ I.c9 e,PE X o td,PE X i ty,(aJ _ hy),(.ref Da),I.list yK,I.list hs,iB ->Prop,gZ (k ()),ih () c h,h0.get? b,ff.mem hb,Ő,(aŻ),ő,Mp ->Prop,M' p=none,(.lst vs),b ρ M1 q,IT K tc c,Œ,M1 p=none,IS K t w',#[rfl,rx],m2 p _ e2,m1 p _ hp,D.nx ρ M,a_.refl _,xs.take i,œ,Sm.refl M,dB ->Prop,Ŕ,à::r,#[l,h2,k],aC (cE e),(aπ),(· < ·),ŕ,Dr M' d l,NB d M M',(l.map f),·.length,ss.map ws,(g,y)::fs,M1 x=none,#[[v],[]],List Stmt,(vs++ []),(· <128),pa.map wr,Fs s M M',f a u h n,Ŗ,bG n=true,M oH=none,gA a 8 24,hS.k z hz,(.ref D'),(o5.HQ i),M la=none,K5 K p p',λhm=> ?_,(aJ _ hm),zs.map Px,zs.map Bo,(some cu),h2.get? b,h.tm z hz,bG c=true,Bd R T0 l,(row:Str),Nat ->Str,(· ==k'),h.rr z hz,h.tt z hz,bI 61 row,"setting","pattern",ŗ,gY K mg A,0+aΔ,ls.map ws,(o9 hw z),ms.map ws,ms.take i,rs.map ws,rs.take i,gV p R T',bI 10 r=0,(.int i t),#[_,rfl,r],Ř,eA (κ×V),H a=ä,H b=á,(bN:Ê),ř,(Ĥ),Ś,lN P w H h,(λ_ q=>q),λ_ _ q=>q,gr X.outer,some .cell,ś,some .free,gr X.stack,I.pin p hp,λ_ _ x=>x,tb σ H1 Q,K.lookup a,pure false,I.tuple hq,I.ok.hd hc,.Name x iM,J.stop i H,.fields vs,#[rfl,rfl],Int ->Prop,false=true,Ŝ,some false,"__init__",(fP K C f),#[o,h1,h2],ß::us,K.lookup f,vy.new _ _,ŝ,⟨#[c]⟩,r.length+1,#[_,e,rfl],nC kvs k v,Ş,eA (dB×V),oS H a y o,.bool true,K w.params,y.2= .free,(iQ x c e),(hg cl fp),(hc cl fp),(he cl fp),I.tuple hs,I.tuple yK,j<l.length,λ_ _ h=>h,ş,λ_ _ z=>z,H' ea=none,M a=ä,(um M p o),Š,WR K H x v,WR K H d v,eA (κ×W),MR K H a o,š,eA (dB×W),Ţ,gP K M' H',WR K H y u,(r1.ts t2),(wb false),(kY.of bX),Option Int,#[v,?_,rv],xs= [wi i],(m.new hp),q (wb b) M,l.length=n,II K ti it,(ys++ [y]),(l.map .v),λ_ _=>rfl,(l.map dC),ţ,#[_,rfl,h],jk p l x s,(bð),a.2.length,ko X.K x C,aυ bR,a.1.natAbs,z.1.natAbs,z.2.natAbs,I.gU x c h,M1 dx=none,(b₀::k_),k _ _ _ hE,I8.kJ I.ok,(e₀::es),(h₀::hs),(· ++ ·),Ť,(by omega),EK I.c9 hd,"settings",(h.2 z hz),z.1.length,z.2.length,(l:ê),(bė),(.lst [x]),k b o hc q,(um M u o),(.found n),lP p R' T',gE (iP hg),aF trivial,some Ú,x.length+1,(":" :Str),aŖ= [],#[a,b,rfl],RD p R T x,ns.Perm ks,"_law_end","_law_one","_law_row",(aa ao ah),(cJ a9 iN),ť,(aa a9 ah),aR Le.symm,aR Ra.symm,aR S3.symm,Ŧ,(by right),Sm.refl M',L[i.toNat],L[j.toNat],VA a h1 h2,Array UInt8,Value.ref a,eA (κ×eC),Heap ->Prop,o.dict=none,h.Ns1 dx mA,fs.lookup f,(upd H a o),(upd H x o),ŧ,some .local,Ũ,Str ->Ë,X.fn x=true,ũ,X.calm=true,λp hp=> ?_,(neL b o e),λb hb=> ?_,λm hm=> ?_,i<σ.length,#[u',r',?_],D.nx σ' H',D.bk σ' H',D.ct σ' H',(SP X ag D),að=none,#[H1,I1,q1],gg K H a xs,kY K H a xs,I.mx a o hk,#[σ,H,I,h],(UA tc t u),(v= ß),(be aë),tn i s.heap,(model P w),Ū,(x= ß),⟨xs,hq⟩,⟨m0,w0⟩,again I7 n7,eC ->aî,L8 x y=true,(x= .str i),(y= .str j),gg K H p xs,kY K H p xs,.str (i++j),cF [x,y] us,K.In s.heap,ū,eA (Str×V),(g==k)=true,(qT f y fs),"__class__",I.c9 a _ ea,sp vs H Q E,(ps.zip us),UM vs H Q E,r.append hd,#[I1.mx,?_],λy hy=> ?_,i<vs.length,#[_,ho,rfl],#[_,RI,rfl],AQ xs lo hi,(y= ö),(i+n).toNat,j<xs.length,i<xs.length,(y= Þ),(x= ać),I.c9 p _ hk,XI K T x H1,Hw I1 r1 ty,n<=sizeLine,(x= ač),lI (p::r) k,.cons ?_ ih,(ks.map kV),KT H kvs xs,#[h1,h2,h3],λx hx=> ?_,(!o.isSome),eA (dB×eC),Params ->jv,Option Addr,gN.lookup x,cl.lookup x,(v7 b hb).2,(pyNext it),(.ok .next),W i m ys H',tn 0 s.heap,again I8 q8,nn I3 f3 Ic,kY K H a vs,gQ K H l vs,Rep K H d v,#[v,rfl,h1],kz d e=true,α ->Sem β,H₀ b=none,kt b o e hb,⟨nc,hc⟩,(I.zW e hb),⟨o,e,c⟩,Value.ref C,.v aϪ,.v Ī,aR (dR e h),(um M' p o),Ŭ,cO K H l vs,WR K H' x v,ŭ,KR K H l vs,(upd H a u),jM K H D' D,(t.trans s),Ů,(a_.refl H),t1.trans t2,⟨hl,h1⟩,gg K H p ys,kY K H p ys,(ns.map wi),r x [] M1 q,hl.ty m1 r1,Bool ->Prop,a ρ M D.rt,(λ_=>True),ts.trans ty,i=xs.length,t3.trans t4,l[i.toNat]?,(ns:û),Æ ->Prop,(bž),1<=sizeLine,3<=sizeLine,4<=sizeLine,(bT.mp h.2),(q.2+s) % p,ů,λz hz=> ?_,Sum.inl q.1,m++ [(x,v)],Ű,some (wr d),(g,aπ),.inl (Kt a),bs.map V.bl,i<bs.length,(bs.map wb),cls= ó,(e::e'::es),kz d d=true,(dq a).take,some aİ,(bF h).symm,ű,eA (Str×W),ks.lookup f,Up.trans LR,eA (iB×TS),E0 cls d H',LQ.trans LO,kk ea nV XJ,ih (hf rfl),some (j,tj),some (i,ti),.v (ać),(ns.map ws),l++ [aÙ],l.map V.str,1<=n.length,some (wr r),some (wr t),Ų,some (Ç),λc hc=> ?_,.bad .Taken,.enlist c n,6<=l.length,W7 p R T pa,"settings ",ko X.K x D',PRS X st tb,o.env.ts t1,(Addr ->WS),s ea E ρ M,(x= aĊ),x.2= .local,(fe b hb).2,gg K H b ys,⟨h1,h2⟩,signs_num m,⟨#[61]⟩,⟨#[32]⟩,λq hq=> ?_,q aŁ M',#[b,rfl,cb],ko X.K z Cz,gk (ań),bG z.1=true,glued sep l,tX hg hc hm,(b la u:iB),(ms:ê),(h.rg z hz),q (wr b) M',.type "set",l.getD i "",r.length<=k,s.length<=2,R.length<=6,T.length<=2,(L.set i y),L.getD i "",#[_,rfl,?_],sE r t M M',ų,"_law_draw","_law_many","_law_most","_law_word",Ŵ,"_law_text","_law_name","_law_book",(.ref A.kU),(.ref A.i7),(.ref A.dX),(.ref A.kj),(.ref A.ij),ŵ,(.ref A.c8),(.ref A.tF),(.ref A.ki),(.ref A.ny),λ_=>XY _ _,"_law_sums",(œ),(4\aώ),Ŷ,λu hu=> ?_,gA z.2 8 24,some (ws x),some (ws f),λn hn=> ?_,λv hv=> ?_,s1.trans sm,(g.2 z' gI),λz=>wi z.1,λt ht=> ?_,(az nE ⋯),"_law_rows","_law_crew",some (wr w),(hS.r y hy),iY hO.as gC,sE b la M M,some (wr b),some aŁ,(bϚ),some aŞ,(s.free hu),(bB this).1,(b_ ĉ),(a+1).toNat,(a+2).toNat,rc n ms rfl,.lst [kF a],alike Lq hR,ds.nb D4 b4,ds.nb D5 b5,ds.nb D6 b6,some (ws c),ns[e.toNat],some (ws m),(Sy all mj),decide (a=b),u=Value.none,Ê ->Prop,RelV p.2 q.2,List (dB×V),ŷ,.type æ,.ins C dx fs,bH (dU q hn),(upd H x o'),Ÿ,eA (iB×Obj),Option Value,env.kindOf x,I.cell x c e,(I.KC x c e),(I.gU x c e),λx c e=> ?_,(bϦ),(by simp[z]),(bu.mp hi).1,λy c e=> ?_,.inl #[k,?_],I.cell y c e,Ź,λ_ _=>False,eval e X.env,eval a X.env,#[v,H,I,r,h],op≠ .NotIn,absurd rfl h,ź,(bϭ),Ż,eval o X.env,km X ag H' b,xs.length<=i,(Ux r ta tb),decide (x=y),(toString i),model prog w,eA (Str×eC),(g==k)=false,K2 X.K C m g,.type aĀ,"isinstance",K2 X.K C m f,eV Ó X.A,(start N vs),False.elim q,s.TypeIs v T,some i.toNat,-ē <=i,xs= [ò],ob.dict=none,PlainAttrs T,(λx=> !x.1),l.length - 1,l.eraseIdx i,valueAt vs k,(nC kvs k y),(upd H a ob),List Keyword,ns.length<=n,(cÂ),(true==true),ns.map V.int,eV k callerA,False.elim h,λb o e=> ?_,absurd rfl z,ż,eA (aŹ),eA (Str×iB),(λj=>N[j]?),(newList []),again I10 q9,l.getD j .fb,ih _ (c _) h,λ_=>trivial,(env::outer),b∉Į,B.StaysIn h',up b _ e1 Gg,E cls none H,"ValueError",(e₀::rest),(.Name x np),List (dB×W),KR K H fs ks,.fz o ks kvs,E7 K H ρ σ,Ž,(o.mv t1 m1),⟨b,e,h1⟩,⟨c,e,h1⟩,(oO l lo hi),(m.fresh hp),cO K H xs vs,λi x e=> ?_,some (.dK l),ž,l.map ç,(a l ρ M q),List.range n,i<=xs.length,k3 v H2 j9 y,ys.length<=i,mE _ aμ,nG l=some ds,#[q,rfl,rfl],decide (i=j),#[b,d,a,c,e],#[a,b,c,d,e],ſ,m.map ç,aF Ň,(xs= [wr d]),ms.map V.int,N.length - 2,(bs:aχ),q (ws out) M,l.take Ð,aC Ň,ss.map V.str,toString z.1,toString z.2,toString a.1,(xs= [kF a]),(YE d o kvs),(bF hk).symm,n*z.cps.size,(λ_ _=> ?_),i<z.cps.size,n.length<=12,"begin_here",Pg C M a R T,γ,sE b la M M',δ,R.map ç,z.2.2.length,(xs= [ws n]),(xs= aĠ),gA a 200 200,T.map ç,.bad .NoCrew,Nm c /\ Nm n,decide (k=s),NN X rest al,(ys= [ws b]),(xs= [ws x]),(I1.zW e hb),bH (dU q lw),bH (dU r lw),(.tup [x,y]),⟨u,v,h3⟩,"0123456789",x.length - 1,toString r.1,(l.map .str),(.ret .none),ms.length<=6,(f s r).bind,some (R',T'),T0++ [(c,l)],(h.get ha).1,row.length+2,gu val Ð,rC (2*k+2) y,m.length<=12,z.2.2.map bR,(Yb n ms hw),h.fs a o e n,L.set i L[j],c=10 \/ c=61,R.length<=63,T.length<=63,[Ą,"p"],["p",aŚ],"_law_pairs","_law_stand","_law_reach","_law_thing",(o1 o2:Å),"_law_place",ε,(by trivial),ζ,(cá),(.dK (Ah m)),η,(aw (bp gj)),aB T.Page.cl,θ,aB T.Book.cl,#[M,Ý,k],(s2.free Gh),jm (kq a hg),["told","p"],aB (m_ rV.2),"_law_words",aR (dR h hw),some (ws w0),aJ _ (a7 qx),(some (a+1)),"_law_crews",some (wr nl),some (wr cl),#[y,rfl,rfl],(bF uU).symm,(s1.free iQ),Value.int i t,Value.str x t,ι,u=cĖ,List (Str×V),.type aš,a<h.objs.size,aÀ×iB×eC,some (.own a),fs.map ç,X.H₀ b=none,some aϣ,s.heap.get? b,(X1 b o e hx),s.heap.get? a,V ->ŉ,(.Name x pos),að=á,absurd rfl h2,cM #[H1,I1,q],gg X.K H a xs,kY X.K H a xs,λf s1 q=> ?_,λp hp z=> ?_,J.SQ i H x H',(by simp;lia),((0:Nat):Int),-(aö) <=j,Int ->aŭ,dN X.prog X.w,μ,(.type aÅ),some ģ,"__setattr__",ν,Nat.zero_le _,PE X value tv,ξ,(.type "int"),Value.str y t,False.elim hq,Nat.le_succ _,False.elim G6,some ī,cX N ps scope,Array (Ë),(.builtin id),(kY K H b ys),.tup (xs++ys),(getItem o i),#[z,H,I,ya,q],s.heap.get? p,gg X.K H p ys,kY X.K H p ys,.int z.length,#[o,e,ex.2.1],(b::r).length,"list.append",(r.append r2),bN.eraseIdx k,vs.map ç,eA (aÀ×V),(bÏ).j7,h _ bŢ,(oS H2 a y o),IntsAre vs ns,l.most=aē,Str×NameKind,(σ[j]?).join,(eval qy env),Ic.ok.CD b hb,l[j]? =aĖ,gQ X.K H l vs,vs.getD j .fb,Rep X.K H d x,Rep X.K H e y,(Rep K H d x),(Rep K H e y),∀o,gZ (k o),∀a,gZ (f a),o.cls= ó,"__getattr__",KR K H kvs ks,(L8 a b=true),(cγ),#[c,r1.eq,?_],ο,some (aĕ),jC l i=á,vY l.length i,(h3 xs M q h),XG M x=some t,k= !l.isEmpty,λv H2 y=> ?_,(t1.trans ts),I Ð ys M3,(o3.mv t4 m4),(hd ys M' hI),xs.take Ð,eA (Ľ),(.v aϘ),π,(cŸ),(.v (.str i)),(.v (.int j)),(.v (.str j)),BL a b D ρ M,(by simp[hz]),look (q::r) x,#[q,hq, ⇑e],aF (tH.mpr h),r.filterMap _,q (aγ) M,Mod K mg h₀,(dq a).length,#[_,rfl,h3,k],h x Ň,(by simp[hy]),(bR z).length,some (.own b),KR K H kvs vs,W.mg_of X G a,r.append .nil,ς,ay Ť,z.cps.size<=i,(by simp[hg]),(oq z).map ws,StrsAre vs ks,(ts.trans t2),λz=>Ev n z.2,Pg C M' a R T,n.length<=600,T.length<=900,τ,aĿ=ë,a.length<=600,c.length<=600,n.length<=100,.bad .NoRound,υ,ał=aĢ,some (.lst x),(h.r.ok z hz),(bE a).length,c.length<=100,R.length<=100,T.length<=100,ns.map (di R),cs.map (eO T),(cŞ),hS.t.key z hz,Txt.split a b,Value.str a t,(.v (aĊ)),[.v (aċ)],eC ->Sem Unit,bÛ=none,held.1 _ _ hB,(by simp[xM]),some (.lst r),x.length<=500,(dz x).length,(bE r).length,(fC x).length,LP M M' ap zs,s.length<=500,(aN hv).trans,(z.1.2,aÂ),(.enlist c m),(T++ [(c,l)]),r.length<=490,(by simp[hm]),(.dK (yd R')),fU L+y.length,vs.length<=63,#[n,t,rfl,e4],(by simp[hx]),"_law_script",[ų],χ,"_law_p_here","StreetError",ψ,(Ć∩ao),(Ċ∪ao),(ć∪ao),ω,aL Ť,Α,aH Ť,aB T.n_Book_p,Β,(hr.mono ⋯),some ı,(aÚ,wr pg),T'.map ç,aB (az Nc hz),(s2.trans s3),aR (dR h hMw),CB hS.t.nd hz,(s5.trans s6),hS.t.mem z hz,(ć∩ao),ms.drop Ð,((1:Nat):Int),rs.take Ð,rs.drop Ð,T'.length<=63,gM (j:=0) rfl,(Ċ∩ao),(by rw[MY e]),((3:Nat):Int),(yd R).length,(ĉ∪ao),(hR.ok z2 JT),(ď∩ao),((4:Nat):Int),y.length<=121,(Sum.inl a:dB),(Sum.inr a:dB),(dN prog w).is,u=Value.bool b,u=Value.type n,Δ,aæ =à,eL P w H h a o,some ņ,h.objs.size<=a,some (.nF o u),eL P w H h a u,bootBuiltins x,X.env.kindOf x,X.env::X.outer,AllBare s.gens,I.ok.mH.mem hb,Array GenState,(λb u e=> ?_),Ε,eC ->ň,Hp ->VK ->Prop,Ζ,St ->ŉ,Η,(EP X ag σ Q),(TP X ag σ Q),(AP X ag σ Q),α ->ň,(eval b X.env),⟨H1,I1,q1⟩,some bŗ,assign e X.env,λx c e z=> ?_,It ->ŉ,(tn i s'.heap),k= !xs.isEmpty,Θ,some ō,Ι,(dė),fs.length<Â,Κ,(.type "bool"),Λ,(ŷ),.type "object",A.handled=none,(.ins C dx []),λr s' hq=> ?_,Μ,PA X Ē t,vs[i]? =â,b∈([]:Í),vY xs.length i,jC xs i=â,xs[j]? =â,dD _ _ (cE hb),xs.all mI=true,(dĤ),.int ys.length,Slot T name id,(Obj.mapSeq f),(vs= [ö]),some (.lst zs),DecidableEq κ,kvs.map ç,some (.ref fa),s₁.gens= #[],#[Ĭ,[]],(dı),λ_ _ _=>False,yL s₁.heap H,λy hy hf=> ?_,names.lookup x,Ν,(Ź),wpAny_noted ?_,aV #[rfl,h₃],some bū,J.SQ i H' x H2,(qp own fr σ),⟨m',hm,w9⟩,I3.cell x a ha,vs[j]? =â,(aÉ).length,(y::ys).length,Rep.vL I h1 r1,Rep.vX I h2 r2,Rep.vX I h1 r1,Rep.vL I h2 r2,ks[j]? =aĎ,vs[2]? =â,tQ[2]? =â,(λ_ _ _ z=>z),(λl=>trivial),b∉bϦ,(c9.kept fl.1),Ξ,#[hh,g,d,t,os],Looks.at LT ?_,Mp ->WK ->Prop,Ο,dt ->ő,WR K H p.2 q.2,KR.ts aĞ r,Ρ,Ok K ρ M σ H,q (.v (g i)) M,q (wb (!c)) M1,(.lst aη),(rr.append G2),#[[],bX, .nil],Τ,(nH own fr ρ),#[rfl,by simp],#[p,h1,l,h2,k],#[p,h1,l,h2,h],#[p,l,h1,h2,h],Pt ->bŝ,(xs= [ač]),bN[i]? =â,(aϓ).map,(l.length:Int),(c+sep.length),Nat.log2_lt h0,bH (ME I.free),(λ_ _ _ h=>h),vs[i]? =ađ,eA (bŝ),X.jx Ő,some Ő,(h vs H Q E z),(xs= [aĩ]),(ns.map V.str),(aĸ,wr la),R.length<=Â,pa.length<=900,(l.map Dt.str),(XP X ag σ E),(vs= [aċ]),(Txt.find a b),(Q (aĳ) H),assign t X.env,k _ v (ne q) r,ys[i]? =õ,C9 st p.isList,(some (a:Int)),(some (b:Int)),min a x.length,min b x.length,(a.length:Int),ns[j]? =aē,(some (u:Int)),h0.get? e=none,#[_,_,rfl,rfl],x.length<=4000,decide (z.1=m),Bd R T (l++ms),g_ p Ú row,jd p Ú row,k+row.length+1,(T++ [(c,[])]),(bı).any,.str (Û) t,strKind prog w,toString aÁ,(L.eraseIdx i),b<h'.objs.size,(l.map (di R)),(l.map (eO T)),some ŏ,"farthest_end",[ą,"row"],Υ,(aa ĉ ah),"_law_setting",(aa Č ah),Φ,(aa ć ah),(aa Ċ ah),Χ,(aa Ć ah),(n.length:Int),big Ť,zs.length<=502,λz=>ws aŋ,(hS.r.ok y hy),λ_ _ h _ _=>h,NB.trans b1 b2,(aa ď ah),hP.sm.trans s3,λz=>dC (Bo z),(Nm.app as as),"_law_members",(aa Ď ah),(wF T').length,"_law_letters",(aa č ah),(D4.vP Ld nul),Paired.length r,ġ=ä,fs.length<=Â,⟨_,_,_,e,_⟩,Ψ,aϙ=ä,(yL h H).get? b,x≠ "__name__",X.N[i]? =à,Ω,Inv X ag σ H s,(I.ok.bs b o e),(I.ok.FS b o e),λb o e hx=> ?_,(aK.mp hp).elim,AllBare s'.gens,(exec st X.env),ϊ,hf it Ň,λh' Du sb=> ?_,λb o e=>aõ,(hi - lo).toNat,PI X tg iter wi,(binaryOp .Add),(compareOp .Eq),(compareOp .In),(dϭ),congrArg some e,"type.__call__",ϋ,(dϕ),az I.ok.KJ I.sz,F.len _ _ _ _ h,.str ŝ,.seq bN.toArray,(by rw[aM];lia),(.lst (xs++zs)),h1.symm.trans e,atKey (q::qs) k,bŦ<cLine,#[ob,h1,h2.2.1],(pre_splitW Na),Array DictEntry,(by rw[q];simp),Value.bool true,(cÃ).In,cX N ps ė,cť.2.2,S.free _ hm rfl,Nat ->ň,C7 own.length g,xS i n ys H4 w4,(.cons ry .nil),λo=>ih o (h o),h'.TupAt t args,#[o',st _ _ e'],"BaseException",(σ.set i none),Fin ->ň,.inl (Ļ),[x, .v (.ty T)],m=xs.length - i,#[_,l,rfl,h3,k],(ps.length:Int),bs.getD i false,(ρ.set i none),⟨y,e,hz,h1⟩,Str.ofString "",(I.c9 b _ e).jo,kvs[i]? =some p,(by simp;omega),(fQ X.prog X.w),some (.int n t),List (Addr×TS),λ_ _ z=>z.elim,λcls d H' z=>z,(n:Int).toNat=n,some (.str z t),(aĺ).lookup,(aņ).length,matched O hk ?_,(x.length<=640),ce.frame=some L,up b hb _ e1 Gg,(I.c9 b u q).jo,k _ v (ne hc) r,cϣ.2.2,C9 st p'.isList,(sG l r).length,(eħ),absurd e' (h _),(xu _ _ rfl hd),1<=z.2 /\ z.2<p,(h2 a' aΜ),(Prod.mk.inj e),97<=c /\ c<=122,"proto.unchain",T++ [(c,l++ms)],row.length<=490,Txt.split x sep,#[[],u,by simp],(123*2 ^ i - 2),(ks.length<=63),(λb o hb=> ?_),(x.length<=690),[Ą,"page"],[Ą,ă],ό,[Ą,Ă],[eĸ],"_law_far_here",(cR (K:=K) rfl),(gz (K:=K) rfl),ύ,(λ_ _ _ _=>eT),ώ,aB T.n_Book_now,(m7 (K:=K) rfl),.ins A.ck qz [],(IZ (K:=K) rfl),gF T' n a=false,ke λr g z=> ?_,[ą,"rows"],g_ p aŞ row,ws n::bϗ,(oq (fC x)).map,(by show hr.S0),(ms.length:Int),(aN hr).free ht,(DR.list rf am),ns.take z.toNat,(λq=>nomatch q),(W.instObj C dx),bŎ=ä,k b u (hb b n) q,List (Addr×Obj),b≠X.env.locals,YA X.env.scope x,au.mp (I.xW b z),Ϗ,Unit ->ň,Bool ->ŉ,À ->ŉ,model X.prog X.w,#[σ',H',I.i9,q],{D with nx:=u D},eC ->cķ,Int ->bϲ,(binaryOp .Mult),(.builtin "abs"),W.lookIn name od,beq_iff_eq.mpr h,Inv X ag σ H s',fs.lookup m=none,V ->Value ->Prop,ϐ,(λz=>nomatch z),pure cŅ,Binds K fd ps [],(.cons rfl .nil),(vs++ws).toArray,λb ob q=>aÿ,EP X ag σ Q w s,typeIs_str s z t,·.setIfInBounds,(.builtin "len"),(aų).length,Rd H a ō,Rd H a bť,s₁.heap.get? b,k==NameKind.free,X.env.kindOf y.1,Inv X ag σ H s3,A.units+60<cLine,⟨o,vs,e,d,q⟩,k a o vs _ e d q,env.frame=some L,base.get? t=none,W.of_hideAll _ q,(.ext (gf ea C)),hh.get? a=ä,ϑ,Bool ->ő,Æ ->ő,a_ H cŽ,q (.v aŮ) M,bb dϩ,(.lst (l++ [y])),.dK (nC ks k v1),λv H' hi y=> ?_,hk i ys M' hi hI,Å ->ő,#[_,_,rfl,rfl,h],(aπ).length,(cΖ:dB),x∈ſ,xn (m:=m) (x:=x),Moved.eq_with hm,kE C M' H' he m',beq_iff_eq.mp hk,typeIs_str _ _ _,i.natAbs<aΒ,ϒ,Str.ofString " ",Str.ofString "=",I.base.lT b xs h,I.base.nB b ps h,(kvs.map aò),L2.fI.ts (bO Gj),L2.fI.ts (bO JU),.Pass #[0,0,0,0],eA ExceptHandler,(λf s8 h8=> ?_),(z.length<=Â),#[_,_,rfl,rfl,k],(kvs:Ş),(kvs:š),(bĎ,wr lu),ϓ,(pa un he:Í),(T.length<=Â),Str.ofString ":",λn=>ws bĕ,PySem.intText? x,Str.ofString "-",(48<=c /\ c<=57),c∉x.cps.toList,hn i (vt.mpr hi),c∉p.cps.toList,Str.ofString "0",(by rw[hc];simp),.lst cϐ,c∉dŴ,c∉q.cps.toList,(SM p R T k row),dI f s l=some s',(fÇ),λi=>c϶,(l.length<=Â),(cö<=12),(iz _).length_eq,.lst (ps.map dC),.tup [wr r,wr t],um M u ŏ,"farthest_place",[ą,aϋ],"_law_told_here",(aw (bp Ċ)),nx _ _ _ _ _ ∅,∀x,oU 2 x=True,(λ_ _=>trivial),aB T.n_Book_past,aB T.n_Book_held,fu p pg la lu lh,(fÔ),.lst (cs.map ws),.lst (bϗ),(F1 a o h n1 n2),(bB (bB gC).2).1,.lst (bϙ),(aw (bp ć)),"_law_sign_here",az (bĤ) hl,az (dP s _ _) G5,(NB.trans b3 b4),.lst (Bh.map ws),.lst (Ti.map ws),ns.drop z2.toNat,(b5 v3 j2).trans,(l.take j).drop i,List (List dB×V),o.data= .seq bN n,sc.names.lookup x,s.heap.IsCell c v,Loc X.env.scope x,ϔ,{s with heap:=h'},Inv X ag σ H' s',isTrue e X.env nK,starEach es X.env,wpAny M A t Q E s,λc H1=>Q (!c) H1,(cF xs bN.toList),wpAny_execs_nil q,Nat ->cĘ,(eval iter X.env),(sb.2 b hb).trans,(λb u q=>aÿ),.Attribute o f iM,Inv X ag σ H1 s1,standAt eK.atName,(λb u e=>aõ),(hb s us I.mx hl),starEach [] X.env,I.c9.fresh ï,Str ->gk NameKind,((p,w)::bÃ),jC z.cps.toList i,s.heap.update p f,SeqAt.EqAt.same _,.ref h'.objs.size,(λ_ _ q=>aÿ),valueAt (q::qs) k,X.A.units+1<cLine,.Subscript o i iM,(assign jb env v),λ_ _ h'=>h'.elim,Inv X ag σ H3 s3,Heap.size_push ..,T.obj 0 _ st b hb,T.obj _ _ Ql b hb,Nat.ne_of_gt z.lt,bŦ+n<cLine,vx s.heap s'.heap,PySem.frameOf env,.cons ⟨e,r⟩ t,(um M p (aĕ)),H a=some (.dK xs),M a=ο,q (wi l.length) M,λy=>decide (y=k),(bé).isSome,#[#[p,l,h1,h2],k],.inr (by simp[h]),M a=some (.exc C),evalEach es X.env,(ws dĖ),(.lst (l.map eW)),(q (ws (i++j)) M),(fġ),(q (ws aı) M),eϘ eW,.cons ⟨_,r⟩ _,Nat.min_eq_left h,(I6.jx Ő),n=1 \/ z.length=0,q (wb (aĵ)) M,fu p now la lu lh,some (.dK aĽ),some (.dK (wF T)),(pa.length<=Â),(xs= [wr b,ws n]),(by rw[a8];omega),fw (δ),fw (dŴ),ϕ,Str.ofString "\n",um M' ea (.exc C),h ea (m.fresh nV),(λc v hc r=> ?_),Nat.toDigits 10 m,(by rw[bx];omega),(xs= [Ç,ws x]),(fC x).cps.toList,n.natAbs<bğ,(xu _ _ rfl hc.1),(bE r).cps.toList,(bR z).cps.toList,(bĥ).map wi,(dz aÂ).map wi,(bĥ).length,(dz aÂ).length,(by rw[JZ];omega),Txt.split row " ",gA r 200 200=true,n∉R0.map ç,(R0++ [aÙ],[]),c∉T0.map ç,(xs= [wr b,wr u]),((aœ).map ws),(bı).length,(bĳ).length,(gu val j).length,gu val items.size,absurd e bġ,(.inr (ĥ)),(xs= [wr d,ws x]),"_law_names_here",(kH Ć ao gD),(by rw[af];omega),(bV eJ ĉ ao),aB T.n_Page_teams,(("p" :Str),Ç),((Ý).free vG),[aό,"above"],λn=>ws (eO T' n),.lst (z.2.map ws),fu p now u1 lu lh,fu p now u1 u2 lh,fu p now u1 u2 u3,(aw (bp aώ)),λc=>wb (aϏ),kq y (Lx.free hy),(.lst (E.map wi)),(.lst (bŊ)),um M1 v ŏ,(b5 w SR.1).trans,eA (dϗ),tupleKind aϗ,ϖ,k _ _ ř e,k a _ ř e,H c=eŝ,Str ->dā,env.cells.lookup x,⟨o,es,ep,ho,r⟩,(λ_ z=>nomatch z),lN X.prog X.w H h',hl j y v' e1 e2 e3,Inv X ag σ' H' s',ϗ,(fť),("__debug__" :Str),H a=eŮ,(by rw[z];show hb),(pyNext bř),(PIE X ag σ tg R),o.data= bϰ,I1.c9.fresh ï,V ->eŨ,Ϙ,(dA I q Ň),(compareOp .NotEq),(BC r r' ta tb tc),y.length<=sizeLine,(by simp![aM];lia),i.natAbs.log2<1920,(W.plainGet_of hg),Result ->ň,W.makesIn K C=true,s.heap.objs.size+1,cě=â,Nat.lt_succ_self _,(fů),(.type "NoneType"),H a=Θ,H a=some bť,absurd z Ň,(.ref x::aϻ),Binds X.K fd ps ds,(call ģ us),⟨vs,H1,I1,r,q⟩,kO I1 ea c hm l ?_,(by rw[aM] <;>lia),H p=eŮ,xs.any λy=>qY y x,(compareOp .NotIn),#[Ò,H,I,rfl,q],H l=eŮ,λh' Yx hs=>h _ ?_,h _ _ bŢ ?_,(bÏ).getD rd,(ns.map WData.int),eA (eÑ),b<s.heap.objs.size,ys.length<sizeLine,zs.length<sizeLine,{s' with heap:=h'},Nat.ne_of_gt I3.lt,([]:Ê).toArray,bŦ+50<cLine,X.A.units+60<cLine,ϙ,(by decide+kernel),"__getattribute__",W ->eΩ,vs.length=l.length,λj x u e1 e2=> ?_,Ϛ,(L2.fI.ts (bO hp)),Ok K ρ' M' σ' H',k b M1 H1 h1 t1 m1,k _ M1 H1 h1 t1 m1,h1 p (m1.fresh hp),ø ->ő,(h p dŌ),(.lst (l.set j z)),(dő).map,(jJ lo n).length=n,M p=eΑ,#[l,h3,l',h4,h5,k],iy (Ah m) (.inl x),(by rw[cP];decide),l<s.heap.objs.size,l.getLast? =à,λa=>eþ,(dš).map,l.length<=sizeLine,(fΚ),(dŦ:Str),I.base.kP b o' u h,Nat.min_eq_right h,(show g=g' from e),List ExceptHandler,q (wb (! aĵ)) M,dų=false,ϛ,(ϒ),(Txt.endswith a b),[e, .Starred t sp],λh7 Ka Zt _k=> ?_,f.cps.toList≠ [],(fώ),(fΜ),aG.mpr #[z,hz,rfl],x.length - i.toNat,(iB×Str)×iB×Str,(fϘ),aG.mpr #[c,hc,rfl],∀m∈l,bG m=true,(args_list_sort _),(aa ao cČ),aB (nI Ť),n.length<=sizeLine,aB T.n_Page_rounds,aB T.n_Book_undone,(aa jg (aa jg ah)),x.length<=sizeLine,λc=>wb (! aϏ),(.lst (bϕ)),(fϰ),[ws Ă,ws z.1],aB (ω),ft R T' cþ,(ws w0::bϕ),(fϴ),∀r∈aœ,bK r,[f϶],(aa a9 ť),(bΦ).map dC,(bϗ).length,(.tup (bϗ)),(um M1 r ı),Ϝ,xs.length<=sizeLine,o.data= .dict es ep,Mod X.K X.mg X.base,s.heap.objs.size<=a,lN X.prog X.w H' h',(σ.set i aϣ),ϝ,⟨x,H1,I1,r1,q1⟩,⟨y,H2,I2,r2,q2⟩,(bN.size<=sizeLine),assignEach es X.env,(some (bϮ)),(Inv X ag σ H' s2),λb hb=>(hf b hb).1,[s1.heap.objs.size],b=s1.heap.objs.size,CT s.heap x dx C mA,ns.length<=sizeLine,Ϟ,some (dþ),vs.length=ps.length,us.length=ps.length,(.Attribute o m eK),(gÚ),ys.length<=sizeLine,#[Ò,H,I,rfl,?_],(upd H l bū),(cÀ).length,λz=>e (h1.trans z),(atKey xs k).isSome,kvs.length<sizeLine,h w' _ bŢ ya,vs.length<=sizeLine,World ->cĘ,h.Ns mainGlobals mg,wj K x qual st f fd,qp own.length fr σ,relabel scope X.env,oP (I.ok.cellsOf S),vs.length=ks.length,sc.names.lookup y.1,s.heap.UpToSlots h',starEach rest X.env,.str cł tk,(ρ.set i bÝ),(cγ).trans,ϟ,(gò),λ_ _ _ _ h=>h.elim,(l.length<sizeLine),M3 p=Θ,ok i M' H' ts m' kp,M=um M1 p bū,(show p≠0 by lia),λq=>decide (aÕ),Mp ->WK ->WX ->Prop,⟨C,M',ec,he,m'⟩,#[_,_,rfl,rfl,h3,k],upd H d (.nF o v) c,λh=>#[by omega,e1],upd H d ō c,W.clsIn K C=some cd,(some dń),(setFlight ev none),#[_,_,cï,q],(ß::bΔ),(Txt.slice z lo hi),q (ws ŝ) M,(q (wi z.length) M),λz=>decide (z.1=n),Ϡ,(b la lu lh now:iB),List (Addr×ań),ϡ,Str.ofString Ă,q (ws cú) M,eA (iB× (aΕ)),eA (iB× (aΚ)),(Txt.partition a b),(cO.cons WR.v .nil),items.toList.take 1,items.toList.drop 1,[s3.heap.objs.size],x.cps.toList.drop a,bĠ ->x≠bE r,ox p (glued " " ms),(List.not_lt.mp h1),Ϣ,(ϕ),pR.mp cϳ.1,x.cps.toList.take a,x.cps.toList.drop b,(by rw[d_];show hj),(.builtin bĺ),(by rw[hl];show Pf),I.kept (t':=tk) hkp,[aό,bϒ],#[ŝ,?_,?_],(show bK x from ha),ϣ,#[ω,?_],(by rw[gC];show hr),#[aL Ŧ,?_],fN ŝ (1+w),λr hr=>(h2 r hr).1,∃t,u=dϒ,o.cls= dϕ,kvs.length<=sizeLine,∃o,fæ,#[#[],by rw[q];simp],bH (hm b _ q λz=>z),X.env.cells.lookup x,X.base.get? b=ä,Ϥ,dϜ=ä,λb o e n hb hx=> ?_,dϜ=á,(ha ag s σ H _ I h),(op==CmpOp.In)=false,(h ag s σ H _ I hw),(he ag s σ H _ I h),(.Subscript o i pos),(ho ag s σ H _ I h),(∃xs,gg K H1 a xs),⟨vs,H1,I1,r1,q1⟩,(hi ag s σ H _ I h),λi j=> .int aŮ,⟨z',H4,I4,r4,q4⟩,kvs.length=vs.length,(gŗ),W.hasDictIn K C=true,some (dϮ),W.plainOver K C=true,ϥ,(gś),(.Attribute e f pos),(hv ag s σ H _ I h),(false,dč),(upd H1 dx aϜ),(∀v,(x,v)∉binds),scope.names.lookup y,⟨cls,dd,data,sl⟩,HT.ue xs.length 0 lo,(z.length<=sizeLine),HT.ue bN.length 0 lo,(gŭ),(xs.length<sizeLine),(λv _=>v= aϭ),dY X own fr N' scope,∃m,m<n /\ I m s₃,(by rw[z];show cH _),wpAny_newObj_type ?_,⟨o,vs,b,e,d,q,c⟩,(if _ then _ else _),u.slot b o e n hb hx,"ValueError.__new__",(M b=some (.lst l')),vs.isEmpty=l.isEmpty,.cons bδ .nil,(ſ).Nodup,List.range bs.length,λi=>fĞ,X.A.in1.handled=none,out.length<=sizeLine,(f (out++y) ρ M1 q),(q (.tup aη) M),bH (ME (cë)),ZA.getD t.1.toNat [],(noteFrame ev X.env),{s' with heap:=h₅},(O'.keeps I5.bk).obj,(H d=Θ),(M d=Θ),(ž).Nodup,decide (cϓ),(.ins C dx (aĺ)),(δ).Nodup,gA z.2 200 200=false,aL gċ,(by rw[a8,a8];omega),(dŴ).Nodup,ip (i:=p) Ť,(Txt.startswith a b),(a.length<=sizeLine),Nat.le_add_right _ _,(f.length<=sizeLine),((f.length:Int) !=0),dv (by rw[dy];omega),qY (aĊ) bħ,qY (aċ) bħ,Ϧ,Str.ofString "round",tN a Ť q hq,(iz _).nodup_iff.mpr,dI (g_ p) aΦ rs,(strKind_is _ _ _ _),PySem.strKind prog w,(dÀ).length,(l.map f).eraseIdx i,x.cps.toList.count c,dτ /\ Lz m,#[by omega,by omega],#[none,none,rfl,rfl],#[M,œ,ke hg],(by rw[ft,aC S_,hg]),x.length+2<=sizeLine,(zs.map dÜ),m_ (i:=p) Ť,fœ=none,(∀r∈l,bϜ),((č∩ao)∪ao),(a==sysModules)=false,∃u,h'.get? e=á,Value ->Shared ->Prop,σ[i]? =dϛ,az I.ok.KJ I.ok.above,I.base.there b o e hx,λi x v e1 e2 e3=> ?_,λz=>(G' _ z).2.1 rfl,I.mod.glob.keeps I.bk,(.UnaryOp .Not a pos),(Ϝ),λ_ _ z=>False.elim z,∀b∈fp,km X ag H b,(∀b∈fp,bő),#[_,Ģ,rfl,rfl],.ref s.heap.objs.size,ϧ,À ->eŨ,(intBits_le_64 h1 h2),jE X (compareOp op) r,if i<0 then -i else i,eC×Ê ->ň,λw hw=>h w (aJ _ hw),⟨aeL,Yw,data2,Fv⟩,ys= [] ->Q Ī H,seqIndex? i xs.length,(bN.toArray.size:Int),(by simp![aM] <;>lia),λkv=>decide (aĐ),(gϸ),tupleKind_room_in1 hu,∃q,bŏ=ađ,d.params.defaults= [],scope.kind= .function,s3.heap.get? b=ä,b≠s3.heap.objs.size,λ_ s' hq=>aV (aV hq),s3.heap.objs.size≠a,gQ.inj I l _ vs hr lL,Rep.inj I _ _ _ Th Nh,bN.length=its'.length,s'= ϔ,(leaving _ Ő),s1.heap.get? b=ä,Æ ->eΩ,ρ[i]? =some bÝ,(r1.ts (t2.trans t3)),(h p (o.hp.fresh hp)),(M2 p=Θ),#[bθ,m,d,hd,r],(ts.trans t3).trans t,∀M,aι ->aġ,#[p,h1,k,h3,kvs,h2,h],#[p,kvs,k,h1,h2,h3,h],(bö).map ç,aC (λe=>h (tH.mp e)),(by rw[aD,aT hi];rfl),List.mem_range.mpr hi,#[C,M0,rfl,h,m.sub s],∀x∈ss,x.length<=c,W.codeIn K cdv q=true,#[o,dx,fs,e1,e2,e3,h],p xs M q Ź,(bĊ).map ç,decide (dŭ),M r=gć,M t=gĈ,(cå<=1000000),(aŀ=none ->e X M),Str.ofString bē,⟨σ',H1,s0,I1,fl⟩,((b.length==0)=false),s.heap.IsList l items,aq (wpAny_standAt ?_),(false,eval l2 X.env),(by rw[h];simp;omega),decide (aÁ<=z.1.1),((min a len:Nat):Int),Txt.find x ŝ,m9 ŝ zm=true,codeAny_builtin n6 ?_,(by rw[<- e];show hl),some (fV s.1 n r,s.2),λ_ h=>(by simp at h),aC (by rw[hf];decide),fĭ<=4000,some (R,dν),Bz B C M b la p R T k,r.length<=121 /\ bK r,[Ą,ă,aÞ],(dı).length,hN _ _ eϹ,(aa eļ ah),Ϩ,#[_,inferInstance,?_],(Ý).trans aϐ,(aa (Ć∪ao) ah),λnl ns nE np Z1=> ?_,λa o h _ _=>s1 a o h,(1\(bV ei ć a9)),f.cps.toList[i.toNat],dì=a.toNat+1,(by rw[bD,c1,c2];rfl),(aa eŎ ah),∃t,u=Value.bytes b t,∃t,u=Value.float b t,List.range h.objs.size,base.Ns mainGlobals mg,X.stack=eţ,λj y v' e1 e2 e3=> ?_,holding [v] (truthy v),hb ag s1 σ H1 Q I1 q1,Inv (X.qA E) ag σ H s,∀v,o.data≠ .cell v,∀b∈fp,dĒ,jE X (compareOp Q3) r',W.isFn K ģ=true,(bŠ).map ç,(keywordEach [] X.env),some (.nF o bŗ),starEach Ē X.env,.ref s1.heap.objs.size,λb z=>absurd z (Jh b),scope.names.lookup y.1,(.Slice lo hi none p2),.ref s3.heap.objs.size,(ež).trans,(Q (eδ) H),(.Attribute o name eK),W.kitOne K t bŪ,∃o',bÛ=aŦ,h.FunFrames base outer,st b o (kb b o e n hb),(T.hasType dZ.hasBase),Inv (X.jx e) ag σ H s,bindName X.env n .none,(∀u,RelV c u ->u=cu),Nat ->fξ,o.env.ts eë,(cς).trans t5,sJ (jC l i) λu=>q u M,Ws xs keep g b D ρ M1,ns.Pairwise (· <= ·),kI I.ok.mod O.ns O.exc,λa=>(dq a).map aİ,(∀y∈l,y.length<=c),gO fĥ X E,um M1 x eŷ,W.nsIn K mainGlobals x,q (.tup cη) M,bK (Txt.slice x lo hi),List.mem_flatten.mp hc,ns.Perm (δ),(hb ag s σ H D _ I h),(a.length+2<=sizeLine),(false,eů),λb hb=>ež,AllDigits f.cps.toList,b0 (Int.le_trans h h2),(.lst ((dz s).map wi)),⇑(List.find?_some f),l++Ø=(aΡ)++ms,some gġ,(by rw[<- e2];show hx),dI (g_ p) aΦ rows,dI aŐ aΦ rows,∃t,v= fÆ,some (.lst (bČ)),(λz=>hn dĈ),w0=ϡ,M' r=gć,[Ą,Ă,aĻ],[Ą,Ă,ă],eQ (bľ) bľ,ϩ,eQ (bĿ) bĿ,(λ_ _ _ _ _=>trivial),(iL Ć ć rfl),(dF (K:=K) rfl Ċ),(dF (K:=K) rfl Č),aυ fÖ,λcl cs iQ cp csr=> ?_,(T'++ [(n,bϘ)]),(by rw[aE];simp;omega),(b_ gį),.lst (fŔ),(aa ć cČ),∃o',bŎ=aŦ,z.sameBut hs (KC y c e),(op==CmpOp.NotIn)=false,Ϫ,(hŲ),(bi _ (bi _ (hZ hb e))),{s with toks:=aϴ},⟨z,H3,I3,r3,k,e,q3⟩,s.heap.push W.emptyDict,H a=Ϟ,(.ins C dx (jU f y fs)),be (gŝ),(.builtin dĜ),CE outer P w H s Q u s',q _ gϱ,(if a then 1 else 0)==b,a==(if b then 1 else 0),H s.heap.objs.size=none,(atKey xs k).map aò,gg K H a eπ,List.replicate own none,#[by simp,λi u e=> ?_],λh' a b=>#[h',rfl,a,b],(by rw[I.ok.frames,j8]),(false,eval e₀ X.env),wpAny_loadPart_at hx ?_,(.type fĖ),(ő) ->ő,#[vs,e.trans e1,r.ts t],a ρ M λx M1=>r x M1 q,(o.mv eã m2),iF cdv A outer s H E hr,#[#[?_,dŎ],m],(bι).filterMap f,q (wb (dŘ)) M,az h gπ,l.length*eϚ,#[v,_,_,cï,r,q],aF (beq_self_eq_true _),(aü - 1:Int) / Â,kY K H a eπ,(oq n).all λc=>aΖ,(by rw[a8,a8,a8];omega),q wn (um M a ŏ),q (wi eϫ) M,(Nat.add_left_cancel z),∃r,x.cps.toList=45::r,(λz:Str=>z.cps.toList),some (.lst (bΥ)),some gΥ,EH R c eİ ms,Str.ofString cô,#[t1,z,by rw[h1,h3,bn]],w0=Ϧ,sV (L:=L) (i:=i) (y:=y),(bĸ++y::bĹ),(Nat.lt_succ_of_le hsz),congrArg List.length hk,some (fϢ),M' t=some (.dK aΩ),λr M1 r0 r1 D1 b1=> ?_,λr M3 r0 r1 D3 b3=> ?_,(iL Ć aώ rfl),(.ins A.ck qz (aĺ)),λC h=>#[M,œ,h],some gϑ,[aÞ,"end",bϓ],ns.map fϏ,some gϒ,.lst gϓ,some (fϣ),some (fϱ),bad M2 (Jf (aĦ)) F1,some gϗ,⟨ZK,ZI,e1,e2,e3,e4⟩,λi M2 i0 i1 D2 b2=> ?_,(bĸ).filterMap jq,congrArg List.length hz,(oq n).map λc=>aΖ,(by rw[bD,bD,c1,c2,bn]),(by rw[aE,bx,bx];omega),(by rw[bD,bD,c1,c4,bn]),(λp' R2 T2 Lq hR=> ?_),λf M5 f0 f1 D5 b5=> ?_,eŗ=Sum.inl b,e=x \/ H e=some aϜ,s.heap.Ns X.env.locals m,(I.base.free b o e n hx),Heap.SameBut a s.heap h',(hb ag s1 σ H1 _ I1 q1),behindInMarks op b=false,(hi ag s1 σ H1 _ I1 q1),(λs2 I2=>#[_,H1,I2,q1]),(ha pos ag s σ H _ I h),(hc ag s3 σ H3 _ I3 q3),∃u,us= [u] /\ ĝ,W.plainGet K C name=true,W.findIn K ī name,(show False from r).elim,W.codeIn K cdv qual=true,λb o e=>(e0.bs b o e).1,show(1:Int) >0 by decide,(by rw[l];show bÏ),s.TypeIs Ī aĀ,(ho ag s1 σ H1 _ I1 q1),([]:dĭ).length,mg d.name=eν,W.keepIn K ģ=true,(λy hy=>h1 y bų),env.kindOf n==bϥ,pure (ForInStep.yield r),(∀b∈fp,km X ag H3 b),SeqAt.EqAt.of_refs Pc ?_,hr.items rv (j:=j) ⇑g1,lL.items zi (j:=j) ⇑g2,jr X.K X.mg x ps st f fd,λc o h=>b c o (a c o h),H a=some (.ext (gf a C)),(hË t3),q (wb (! dù)) M,a ρ M λc M1=>q (!c) M1,q ((bé).getD z) M3,#[_,_,rfl,rfl,rfl, ⇑h],q (wb (! dŘ)) M,if aÕ then q.2 else 0,p=2 \/ p=3 \/ p=5 \/ p=7,(.tup [.int r.1,ym r.2]),(gg K H l (cΚ)),Builtin.Str.glued sep ss,ss.length*eϚ,∀ {b},ğ ->aÒ,I.base.free b u h1 h2 h3,(hË ts),∀z∈R,cö<=100,(fġ).length,Str.ofString cϛ,(zs.zip (zs.drop 1)).map,∀c∈n.cps.toList,CY c,A.handled=eϡ,aC (by simp at h1;omega),(cϯ).cps.toList,(.lst gĤ),bW x Ϣ,(.lst ((aŖ).map ws)),(.inl (rfl:bĞ=10)),(.inr (rfl:(61:Nat)=61)),(bV oE ψ ao),[((bč :Str),wr r)],∀C,e C M ->WL.up e C M,az (bį) Ť,(bh fG Ċ ao Ĉ),fá=T'.length,#[_,h,by omega,by omega],(bh fG Ď ao Ĉ),L.set i.toNat cē,(List.mem_of_mem_take h),(List.mem_of_mem_drop h),#[z.1,ht _ _ aÁ,aÂ],gŅ=é,X.s₀.heap.get? b=ä,be (aP aë I.ok.above),I.base.slot b o e n hb hx,List.getElem?_set_self Yh,PE X dϠ (LX i),PE X dϠ (tC v),(.Compare a [op] [b] pos),hb wh ag s1 σ H1 Q I1 q1,es.toList.any (·.refKey),beq_eq_false_iff_ne.mpr h,H1 s1.heap.objs.size=none,(us++ds).length=ps.length,IsTup s.heap b ws.toArray,ϫ,V ->ϧ,(by rw[hk];show#[_,I',q]),(λf vs=>PySem.call f vs),λ_ h=>absurd h Ň,fr.filterMap dķ,pure (ForInStep.yield ok),(letOwnedTupleGo jb it v),Heap.SameBut C s'.heap h',assign (bϮ) X.env,I.base.there b o e (Jh b),#[o1,cZ _ e1 cŵ],k _ M1 _ H1 h1 t1 m1 WR.v,a ρ M λxs M1=>r xs M1 q,a ρ M λ_ M1=>D.nx ρ M1,∃M0,bî /\ q wn M0,.tup [.int q.1, .int q.2],bN.toArray.size=bs.length,a.cps.toList=b.cps.toList,(fΜ).length,upd H1 dx aϜ x=none,codeAny_handlers_suite ?_,starEach cð X.env,Str.ofString (toString p),(fώ).length,(ϒ).length,ns.map (fϏ),List (Addr× (Addr ->TS)),List.mem_singleton_self _,Ϭ,Str.ofString (toString n),Txt.slice x bě none,Str.ofString dγ,Str.ofString (toString m),List.mem_append_left _ hc,Txt.slice x none bě,(List.mem_of_mem_take hc),∀q∈l,fϚ,q (wi (kvs.length:Nat)) M,Str.ofString "settings 2",Str.ofString "settings 3",Str.ofString "settings 5",Str.ofString "settings 7",tI M0 M d l nl r t ns R T,["things",ă,"thing"],[Ą,bč,aΗ],[ų,dÃ],[ų,Ŵ],eQ (bľ) dÐ,(oq n).map λc=> ! aΖ,aB (nI gĮ),(bP eI Ć aύ cI),(gϏ)=True,(oq f).map λc=> ! aϏ,#[x,v,rfl,hv,by omega,?_],(pI Bm (hx.symm.trans z)),.lst hŞ,(bP gm ć aύ cI),um M v (fϱ),(.lst gϖ),(some (eϵ+2)),.lst (gϛ),[dÆ,"_law_good"],{s with heap:=h',toks:=t'},(eval dϠ X.env),{s with heap:=h',toks:=tk},(by rw[e];show True.intro),.ins C s.heap.objs.size [],(H1 a=Ϟ),(by rw[hj];simpa using ew),(sliceBounds lo hi none n),#[#[o,e,ex.1],λa e2=> ?_],(eK.endLine==dM.line)=true,H b=some (.tup (k.map kV)),upd H a (.dK (cÀ)),#[dd.typeIs,λb q=> ?_,hd],env.scope.kind== .function,hw _ x H6 _ (step x H6 y6),aq (wpAny_standAt (aÆ)),λ_ s'=>SP X ag D .next s',A.frames=some dĽ,X.env.kindOf n=ŧ,qX (M:=dė) hx hc,q þ (um M p ı),⟨p,kvs,ky,e1,e2,e3,h2⟩,(λM'=>M' p=ο),(iż),List.mem_iff_getElem.mp hx,λz hz=>hl z eö,(Nat.repr n).toList.length,H d=some (.nF o ō),bH (ne z fś),bH (ne r fś),zk X.K m qual ps st C f fd,⟨ad,dx,fs,ex,hp,hl,h1⟩,(C'=C /\ fů),(z.cps.all bΕ=true),ϭ,(gĆ).lookup,iθ=0,(ϕ).length,j' I8 λs9 I9=>#[_,_,I9,q],λb o q n _ hc=>cü,(x.cps.all bΕ=true),Txt.partition x ŝ,Str.join ŝ (b::r),glued ϛ _,λz=>32::gĘ,aq (wpAny_field hu d q ?_),(noteFrame Ĳ X.env),ań ->Str ->cϭ,iW ϛ n ms,(gĨ).length,List.getElem?_eq_none ⇑h,(by unfold P4 at hp;omega),gN.toList.length=ks.length,vo (List.drop_sublist _ _),[aŚ,"figures","found"],(aa ao gΩ),(aů <2147483647)=True,(aa ć fÑ),decide (1<=fÓ),(dc (K:=K) rfl Ć rfl),#[pg,Kl,u,t,rfl,am,rfl,?_],λc hc=>vF c (by simp[hc]),λoK=>#[M,œ,ke no],#[hń,?_],(aa ĉ fÒ),um M1 v (fϱ),(aa Ć fÒ),(aa Ċ fÑ),(Nm.app (Nm.app as vF) as),#[n,rfl,#[_V,by omega],?_],um M2 v gϗ,um M nl gΥ,tI M M5 d l nl r t ns R T',(l.take k).drop j++l.drop k,#[_,Ģ,rfl,_,rfl,rfl],Ϯ,hą=é,(I.base.keep b o e n hb hx),λe=>hj (uD hN e1 (e▸hi)),(.BoolOp .Or (b::rest) pos),.builtin "object.__class__",(λb z=>gŢ),(Ũ) ->cĘ,fr.filterMap (λj=>X.N[j]?),(dg X N' scope cl fp s3 H3),Nat.lt_succ_of_lt (Sb b hb),(UX I h0 hn hu h1 h2 r1 r2),∀b∈Į,cŲ,{s' with heap:=h5,toks:=tk},q (wb gõ) M2,(um M4 p (.lst cß)),i_ (u:= .lst (LN++ [u])) oJ,(eï).filterMap f,l.Pairwise (λa b=>a.1<b.1),if aÕ then(q.1,v) else q,m.find? hÒ,if y=x then v else look m y,((out++y).length<=sizeLine),dš=aϓ++ [a],M b=some (.lst (bχ)),λ⟨i,a,b,c⟩=>#[i,a,b,c],iϟ=1,λv M2=>v=wn /\ q (wr x) M2,(X.A.mark (eϡ)),l.find? hâ,(l.any hâ),if z.1=n then(z.1,a) else z,¬y.cps.toList<x.cps.toList,if a.1<0 then -a.1 else a.1,iϤ=1,ϯ,iϥ=1,m.put (L2.fI.ts (bO nV)) bX,q (wb gΙ) M,(ot b (nr b o e z)).trans e,λb o q hc=>#[o,cü],(Ϭ),List.mem_iff_getElem?.mp hm,hn j Ť (vt.mpr hj),Str.ofString (dŤ),Nat.min_eq_right Ť,Str.ofString (dε),(List.append_inj' e2 rfl).2,Str.ofString (dť),zs.map (λz=>eĮ),Txt.slice bo none bΧ,Txt.slice bo bΧ none,W.hideAll h₆ dć,∀r:Rd,hí,l.find? λz=>eϻ,fÁ=dμ,fÂ=dμ,sZ (az (wJ hg) hl) ha.1 rfl,ϡ ::Ù,glued ϛ ms,glued Ϣ _,(eÊ)[j]? =aĎ,sortedHeap_at (out:=out) ho,(h p ns dŌ h1 h2),bI 61 Ϣ=0,(.ins A.bA dx [("p",Ç)]),(cJ a9 (cJ (l8 ć) iN)),Wo Ŧ nE Ŧ,Str.ofString (toString v)=x,(hŝ)=True,(zs.drop 1).map dÜ,um M1 nl gΥ,um M4 cl gϒ,um M2 v5 gϗ,(aN (o:= Ė) h0).trans,(um M en gļ),(List.map ws ms).length+1+1,[wi p4, .tup [wr r2,wr t2]],∀f,lM (cě) (mA f),gÅ=bϥ,List.getElem?_set_ne (cE hj),hf v u s2 x y H2 I2 r1 r2 q2,(.BoolOp .And (b::rest) pos),W.instObj C s.heap.objs.size,PySem.W.isFn K ģ=true,(show ι from rx),C5 P w K mg base A outer s H,vs.any hŽ,(show u=Value.ref b from ry),closureFor scope env=pure cl,∀b∈fp,gų,(iē++c),Nat ->Nat ->fŤ,eC ->iB ->gř,u.slot b o e (hF b hb) hb hx,(upd H' ea fμ),#[by simp[h.1],λj y e=> ?_],q þ (um M1 p bŗ),k _ M _ H h Ů m r',(cε \/ cζ),k _ M _ H h Ů m ?_,b ρ M1 λxs M2=>r x xs M2 q,(I 0 [] (um M1 p ŏ)),decide (kv.1=(Sum.inl x:dB)),(dH hČ ?_),W.kitOne K ī bÓ,(fġ).cps.toList,iB ->iB ->ű ->Prop,"abcdefghijklmnopqrstuvwxyz",aB (by change 5<Â;decide),λz=>ϒ ++bR z,(hê).length,(∀vs,o.data≠ bϰ),aq (wpAny_field he hd h1 ?_),StrLaws.split_free x 10 r hr,(ϡ).length,(eμ)[j]? =aĎ,(hm z.2 λm hm=>(h4 m hm).2),[χ,dΚ],decide (fÓ <=12),(show xK _ _ (lq K) from iq),aN (o:= fϱ) hv,key (bĿ) λn ms h=> ?_,(show eN _ _ (Ij K) from vp),[dÅ,"_law_figures"],fŕ λc=>aϏ,(by rw[bD,bD,bD,c1,c3];simp),gϜ=ms.length,(hý).length,(tI M M' d l nl r t ns R T'),List.mem_or_eq_of_mem_set hr,(show ġ=some _ from x),X.env.frame=some X.env.locals,λz=>(G' c z).2.2.1 x c e rfl,ϰ,(x==gŋ)=false,⇑(congrArg Array.toList d1),lastMarks [op,Q3] [b,c]=false,(i.length+j.length<=sizeLine),(upd H p (.lst (xs.set j v))),gϵ<=sizeLine,(HJ wi own.length fr g tc te),Un (Į) [] H₀ H' h0 h,W.hideAll s.heap dć,#[b,r1.eq,gγ],(t1.trans Ϛ),(l.any hŽ),a ρ M λx M1=>g x ρ M1 D.nx,(M a=some (.lst cΜ)),((aϓ).filter pr).map eW,("-" :String).toList.length=1,(ϒ).cps.toList,(by rw[<- jl.length];show hz),q (wb hň) M,#[o,vs,(ot b hb).trans e,d,q],∀ {b u},bϠ ->b∉fp,Txt.find w gΞ,(∀n∈ns,Nm n /\ Ŗ),.Constant (.str tx) k₁ p₁,(z==gŋ)=false,(by rw[<- e];show cŝ),(glued sep []).cps.toList= [],#[by omega,bį,by omega],(glued Ϣ l),(gČ).length<=6,(gč).length<=2,(hì).count c,ih λx hx=>hl x eķ,#[aL hŅ,?_],[dΜ,fÐ],(yg (K:=K) rfl (Ć∪ao)),(2+cø<=sizeLine)=True,ms.take Ð=bϘ++ [m],(dο<=sizeLine)=True,decide (eŉ=1)=true,fU (aœ)=r0.length+1+fU rs,(bP eI ć cI dë),Txt.find s gΞ,decide (dϪ=0)=true,(eő<sizeLine)=True,(List.mem_of_mem_eraseIdx hr),λoK=>absurd R7 (oK _ _ _ Lp),k b o (λz=>hc dĈ) e,#[_,V0,hϯ],Hp ->(fţ) ->Prop,backTo pos (gÊ),(.BoolOp .Or (a::b::rest) pos),(.Compare a [op,Q3] [b,c] pos),#[ñ,H,đ,ĩ,q],PySem.W.keepIn K ģ=true,(if g=f then á else mA g),rB K H Ī Λ,rB K H Ī (dě),backTo pos (gÙ),Value.ref ϥ,(PySem.F.args_tuple_add_2 _ _),backTo dM (starEach [e] X.env),N'.length=own.length+fr.length,(J.stop i H' /\ Q ĭ H'),(bN.length==its'.length)=false,λj u e=> ⇑(hv aÑ u ⇑e),dľ ->bÛ=ä,Un (Į) [] H₀ H' h0 h',(λz=>absurd z (by simp[hex])),Æ ->iĚ,ϱ,k _ M _ H h Ů m WR.v,(hË t3).trans,(l.length+l'.length<=sizeLine),q (wb (! gõ)) M2,L2.fI.ts (bO (o:= Ė) hp),#[_,_,l,l',rfl,rfl,h3,h4,h5,k],∀b,P b ->hold R (ρ b) (M b),#[o,e1,C,dx,fs,e2,#[rfl,e3],h],(List.replicate n z.cps).foldl,(q (ws hß) M),(gČ).map (di R),(gč).map (eO T),(hΩ).length,(PySem.F.args_str_split_2 _ _),Txt.split x ϛ,97+((Bg+7*aű) % 26).toNat,iJ p a.2 /\ gΘ,#[by simp[fU],by simp,by simp],List.append_eq_append_iff.mp e,ϡ ::z.1::z.2,(Nat.pow_le_pow_right ⋯ ⋯),(n.length<=row.length /\ bK n),.inr (.inl ϙ),λout Bh a1 a2 a3=>dÁ,(dΒ /\ dΔ),(∀p R T,È ->¬cć),.lst (ił),(aN iQ (o:= fϰ)),decide ((eĪ:Int)=0),decide (eŉ=0)=false,aB (.inl hř),(fá<sizeLine)=True,PySem.Within mA (dϙ),λv s1 ϝ=> ?_,(.BoolOp .And (a::b::rest) pos),Inv X ag σ H ϔ,λv s1 ⟨y,H1,I1,r1,q1⟩=> ?_,y9 X.prog X.w X.K tg J fp it tn,#[H,đ,by rw[uP r];show q],W.findIn K ī f=bş,λu s1 ϝ=> ?_,(xs.length+ys.length<=sizeLine),(λw hw=>mf rx fx r fs w ⇑hw),(xs.length+zs.length<=sizeLine),bN.toArray.size+yH.toArray.size,(kvs.any hŽ),(PySem.F.args_dict_get_3 _ _ _),iF cdv A outer s H vs Q E hr gC,∀y∈scope.names,y.2≠ .cell,scope.names.lookup x=ś,λtk=>#[É,H,I.tok tk,rfl,q],Heap.FlyingW base l e cls a0 h',a x ρ M λρ' M'=>b r ρ' M' q,el ρ2 M3 λy M4=>N (õ) M4,(a++b).length=a.length+b.length,SN X.K X.mg x qual ps st C f fd,(TL.hasType ϙ),W.kitOne X.K ī bΜ,W.hideAll B hë,Txt.slice x none eϲ,Txt.slice x eϱ none,ϲ,Txt.split x Ϣ,iW ϛ a (Ù),Txt.split r0 ϛ,fU (r::rows)=bϺ+fU rows,List.append_eq_append_iff.mp h2,um M u iυ,(eμ=ks.map Sum.inl),(eμ=ks.map Sum.inr),[Ű,some (wi n),o1,o2],(.lst [wr l,wi i',wi c',wi s']),(bt (i:=3) nd rfl ε),(bt (i:=4) nd rfl ε),(bt (i:=5) nd rfl ε),(bt (i:=2) nd rfl ε),fs3 Ŧ nE Ŧ iQ,um M u iς,.lst [ws (ϡ)],(bt (i:=6) nd rfl ε),(bt (i:=7) nd rfl ε),um (um M r ı) t ı,.lst ((fŚ).map ws),(M' v3=iŃ),Txt.split s Ϣ,(letOwnedTupleGo tg bř u),holding [ov] (getMethod ov m pl),λr s'=>r=w /\ EP X ag σ Q r s',(eÂ \/ eÃ),backTo dM (starEach [e,f] X.env),(.call (.ref fa) eο),s3.toks+([]:dĘ).length,exec_Assign_Name_used _ _ _ _ RA,some (iϕ),"BaseException.__getattribute__",q (wi (hŵ)) M,q þ (um M p eώ),(.lst (iĠ)),xB xs keep own fr g c el ρ M1 q,(m.any hÒ)=true,(wpAny_pyIter_list ht.isList ?_),k' x M0 v H' hq ts (m'.sub s) r',jž= [],(.lst (gĀ++ [y])),(λM'=>M' d=some (dŇ)),∀o u,X.H₀ d≠eş,{s with heap:=h',toks:=aϴ},[.int 2, .int 3, .int 5, .int 7],(Txt.slice aŊ bÇ none),Nm.app (y7 _) ϙ,jt Ň 32 _ ge cϩ,ϳ,Txt.split row ϛ,(λk'=>fÅ bώ),(λk'=>(gu val j).any bώ),glued Ϣ (y::l),y.1.natAbs<Â /\ y.2.natAbs<10,(fÈ:Str)++cĄ,#[Gd n Ň,_E n Ň],#[aL iĩ,?_],#[iX iĩ,?_],(ił).length,(ns.take i).map fϏ,.ins A.bA dx (gĶ),.ins A.bA dx (gķ),.ins A.bA dx (gĸ),um gϞ t ı,.lst ((gÀ).map ws),(gÀ).take z3.toNat,(∀m∈ms,hŘ),decide (iœ),Inv X ag gϣ H s',(x==("__classdict__" :Str))=false,St ->Hp ->(Ζ) ->Prop,(λb o hb e=>gÑ e),I1.Gp ï (gő),(λv H2=>v= .fb /\ Q aϘ H2),Nat.le_of_lt (x.above y c (d0 h)),∃zs m',m'<m /\ W Ð m' zs H4,I6.pinned (tV fr6) (T.obj _ _ Ql),Heap.MadeExcOf s.heap h' e cls vs,Option.isSome_iff_exists.mp k.cls,dt ->Mp ->(Ο) ->Prop,(q (jJ 0 j.toNat) cξ M1),m4 p _ (hk Ð ys M4 j9 h4).2.1,λx M'=> ∃M0,bî /\ q x M0,iD (λz hz=>by have:=sb z hz;lia),iD (λz hz=>by have:=aξ;lia),(.FormattedValue e (-1) none pos),((dš).filter pr).map eW,(iſ).length,λy=>sep.cps.toList++y.cps.toList,(m1.new Gj).put LR eϐ,wpAny_landsW Aq λh₅ CC LO=> ?_,(.lst ((eĞ).map .str)),Heap.HeldW B l ea cls a0 L s.heap,List.drop_eq_nil_of_le Ť,show gĞ =_ from hw,q _ Bh (I'.c9.fresh ï) a2 a3,decide ((6:Int) <=eϙ),(cs.take i).map gĴ,show gĞ =_ from gC,(by rw[c1,List.drop_length];simp),List.length_eraseIdx_le L i.toNat,aϙ=á ->bŎ=á,#[(hs.2 p.1 ne).trans e,n,ne,nf,d],∀xs,cī ->Δ,(show hÿ from r),(show ∃t,u=dϓ from r),(backTo pos (starEach args X.env)),(.Call (.Name x p) Ē [] pos),jϷ::us,backToKw dM hϸ,(upd H s.heap.objs.size ŏ),a_ H1 jų,λcdv A outer s H vs Q E hr h=> ?_,(o.mv iŵ m3),(t1.trans (hΒ)),(show ∃t,v=dϱ from r),#[hg, ñ,H,đ,ĩ,q],(Str.ofString dĖ).length,#[a1,by rw[bH (ME a2)];show a2,a3],(q (eĉ) cξ M1),λx y=>jĶ,∀z∈T, ∀n∈z.2,eĒ,{ce with scope:=relabel scope env},(upd H s.heap.objs.size ņ),(gđ).map Char.toNat,congrArg iĮ h,Txt.slice aŊ bÇ (aą),(some (.Constant .none k₂ p₂)),(M u=some (.lst ((Ù).map ws))),(Fa B C SE M b la p R T k row q e),aŖ= [Ϧ,n,x],tI M0 cý d l nl r t ns R T,HT.ue hϞ 0 none,(jÃ).any id,(dQ aO cn du iC ć ť),Txt.endswith e0 gΝ,(um M u (.lst (ws e0::bϕ))),.lst (jŚ),aB (by rw[af];show fÔ),hN _ _ #[_,rfl,?_,?_,λa o h=> ?_],(um M v jÉ),(dQ aO cn du iC Ć ť),decide ((6:Int) < fŗ),V ->V ->V ->Hp ->(ŉ) ->Prop,#[o,e,λv z=>by rw[d] at z;cases z],ϴ,absurd (show bϳ from hs) br,absurd (show bϳ from fx) br,PG jğ tg g,Heap.FlyingW base outer e cls a0 h',#[[ß, hÉ],[]],#[d,d,hx,hy,hs,hd,by rw[ka];show h],jŽ=ô,q (ws (iſ)) M,iγ <=sizeLine,(iι).length=9,wpAny_execs_nil (gÎ),Array.getElem?_setIfInBounds_ne ⋯,Txt.startswith x (fϑ),kR m 45 (by rw[<- e',h];show bq ..),((dz s.1).headD 0,(dz s.2).headD 0),glued Ϣ (aΨ),(seqObj æ gN.toList.toArray 0),ŕ ->bς ->q aĮ M',λr hr=>qF ha r hû,some {cls:= .none,data:= .fields ps},some (W.methodObj ģ (.ref y)),#[.int aŮ,H,đ,ĩ,q],V ->ø ->ø ->eŨ,(∃m,W 0 m [] (upd H1 p ŏ)),SG jğ qw tc,PE jğ qy te,s3.heap.objs.size=gś,mroIn K C (eŵ)=Ŏ,∀ρ M,I xs.length ρ M ->bη,k' _ M0 _ H' hq ts (o.hp.sub s) WR.v,("-" ++Nat.repr aÖ).toList.length,M4 p=some (.lst (gĀ)),(I.c9 b u h).jo eϝ ow tu,fQ X.prog X.w X.stack H1 s1 E0 ev s',∀z∈R,CU z.2 /\ dŰ<=401,(Array.getElem?_eq_some_iff.mp h3).1,fQ X.prog X.w X.stack H1 s1 E0 ev s9,#[Ka.1,Ka.2.1,Ka.2.2.1.2.2,Ka.2.2.2],PR jğ qy te,∀x∈ss, ∃c,x=ŝ /\ CY c,wpAny _ _ hī _ _ _,(jň).get? e,bI 10 bĵ=0 /\ bI 61 bĵ=0,.lst [.tup [Ç, fϣ]],ϵ,λcdv A' outer s H E e hr hF hP=> ?_,(um M s jŕ),[aό,bϒ,fϥ],decide (jŘ),(iϥ==0)=false,aυ jε,EZ (hV (P:=P) (w:=w) (base:=base) T),EZ (lv (P:=P) (w:=w) (base:=base) T),decide ((ml ms:Int)=fŗ),(Ea Te hb0 c0 Ť Ť),wpAny M A (storeName X.env x u) Q E s,.inr #[k,c,e,iĂ],I1.kept (t':=s1.toks) fó,(backToKw pos hϸ),wpAny_Call_Name_kw (pH I hg hm ?_ ni),(.Call gϰ [] [] pos),λj=>q_ (dĺ) (m.getD j .fb),q þ (um M p (.lst dŋ)),λz M5 u H5 ⟨h5,h6⟩ t5 m5 r5=> ?_,∀c d H',Ex K e c d H' ->E c none H',λb o q n _ hc=>#[o.slots,cü],kÓ=aŇ,∃a,aŎ=ë /\ bΚ=false,show Txt.split bĕ " " =_ from h,show Txt.split bĖ " " =_ from h,[cĊ,dÄ,dΙ],λu ns hu h3 h4=>jm (k u ns hu h3 h4),(gy T.iw (hU T) Β Ć),λa o h n1 n2=>F a o (s1 a o h) n1 n2,(jñ==0)=false,(jω).all id,#[d,l,rfl,D2,λs M3 hs vF D3 b4=> ?_],[bĽ,fâ,ų],(b∈X.ex \/ X.s₀.heap.objs.size<=b),(I7.pin (b,o) iĄ),(ho ag s2 σ H2 x y v u _ I2 r1 r2 q2),(.builtin "getset_descriptor.__get__"),(Un (Į) [] H H' s.heap s'.heap),(λh' c' kp e=>j' bN r' hz h' c' kp e),(λkv=>if aĐ then(kv.1,v) else kv),codeAny_loop rfl I (λn s hI=> ?_) n h,#[0,[],_,Ic,UK,λb hb=>(Ap b hb).1,w0],(I9.pin (b,o) iĄ),wpAny M A (leaving env Ĳ) Q E s,(jΤ).get? b,R (.ok (.ret ī)) Ξ,(D.nx ρ (um M3 p (.dK (qJ kvs k z)))),(.lst (iĠ++ [y])),(.lst (jϊ)),(gΑ++ ":")::cç,h1 x dx (m1.fresh hx) (m1.fresh Gj) kN,W.mroIn K C (eŵ)=Ŏ,cO.cons cÔ (by rw[cA];show r2),((gĆ).length<Â)=True,Bk B C M b la lu lh p now pa un he R T,(Ϭ).cps.toList,cé<aŉ /\ cê<aŉ,(Txt.slice x bÇ (aą)).length,Builtin.Str.glued gþ ss,(z.2.1.natAbs<Â /\ dŰ<=3),bI 10 bĕ=0 /\ bI 61 bĕ <=3,(by rintro vs M q e ⟨x,rfl,_⟩;rfl),(by unfold oq;rw[af,bx];show az Nc hz),Txt.slice x none (some eϵ),decide (m<jķ),(bŊ).set i.toNat (ws cē),∃sl,bŎ=some {o with slots:=sl},Ϥ ->fŝ,hĈ ->bŎ=á,(dH (ha ag s σ H Q I h) λc s1 e=> ?_),∀name,fŬ=some (mA name),λus s1 gŦ=>cň,envOfC qual scope s.heap.objs.size f cd,Code.quiet_builtin _ ϙ,(∀ys M,I xs.length ys M ->q þ M),(l.map λq=> iϜ),#[y,r1.eq,hz,iϘ],(eϘ gυ).sum,∀ea,vI (eϠ) cí ts,occurrences a b 0 a.length (a.length+1),W.kitOne K ī bΜ=Ŏ,Bk B C M' b la lu lh p now [] [] [] R T,[aÞ,fÎ,fϥ],[χ,dΘ,cċ],(fq (aa ao jĄ)),(iU ě ć Ć ζ),#[by first | decide | decide+kernel,?_],di R z.1= bē ++z.1++ " " ++bE y.2,Builtin.Str.glued ϛ ms,(λ_ _ _ _=>(gq IY Ć a9 ļ)),Inv X ag σ H jÍ,Inv X ag σ H jÏ,y.size<=sizeLine /\ k=((y.size:Int) !=0),cÄ ->(cl.lookup y.1).isSome=true,∀vs M q,bã ->gϮ,Ok K Τ M' eΔ H2,#[(iÐ).Tk own fr,my],m.map (λq=>jĩ),#[Ò,H,I.kept (t':=s'.toks) hk,rfl,q],xB (l.map fW) keep own fr g c el ρ M1 q,cé<aΒ /\ cê<aΒ,(post_val_or_str #[az (dP z _ _) hz,j']),϶,(lÛ),(kā).get? b,(Ϭ).length<=4300,(jŀ).cps.toList,(jł).cps.toList,(jń).cps.toList,∀y:Str,qY bæ bħ=true↔s=y,q y (um M a (.lst (l.eraseIdx i.toNat))),bm.contains ię=true,(ϲ).length,.lst [ws "bad",aγ,aγ,wb false],[χ,dÇ,dΘ],(aa (gp jŖ) ah),(by rintro vs M q e ⟨p,x,rfl,_⟩;rfl),λy hy=>#[um M y (.lst [wi v]),lU Lx,?_],(bP eI ć iþ cI),show iy aĽ (.inr m)=_ from f9 kF R m,∀b u,kŧ,ta σ H λx H1=>tb σ H1 λy H2=>R x y H2,(show s.heap.IsTuple a bN.toArray from p),some (some (jě)),compEnvC scope cl s3.heap.objs.size X.env,Heap.FlyingW base outer e cls bÆ h',wpAny M A (setFlight Ĳ none) Q E s,a ρ M λx M1=>b ρ M1 λy M2=>r x y M2 q,nsIn K mainGlobals x=some (dϵ),W.excIn K C Tn hĭ =true,(cϛ ++iϣ),(λz=>absurd iĬ ⋯),Txt.slice x eϱ eϲ,PySem.NumText.AllDigits gĔ,(λk'=>(gĨ).any bώ),aq (m:=checkCount bĺ 1 1 _) aŽ,(by unfold oq;rw[af, <- str_len];show hz),(aw (dk hF rfl ļ T.eG ť)),(dF (K:=K) rfl jÇ),∀x c,Ϯ ->c≠b,(hs.2 b (iΟ)).trans,(spliced (jϮ)),∀x,foldedSetIterable iter X.env x=pure x,(.Call gϰ Ē [] pos),(backTo dM (gÊ)).any ç,(.ListComp qy [#[jb,iter,qw,0]] scope pos),(.ListComp qy [#[tg,iter,qw,0]] scope pos),Heap.HeldW base dĽ e cls a0 L h',findIn K ī eà =bş,cB P w K mg base gR Ó f fd ps bâ,∀i ρ M,dŒ ->bì ->aġ,#[z,rfl,hz,ϱ],decide ((if z.1<0 then -z.1 else z.1) <=r),jζ - (2 - 1 - 1),z7 c o hc.1 aù aú.2.1 aú.2.2 q,45::(Nat.toDigits 10 (m+1)).map Char.toNat,codeAny_builtin F.entry_set_update_loop ?_,Ϸ,(aQ T.dL ċ hr (aa Ć cČ)),decide ((jķ) <=e),Txt.slice x jÊ none,[dΜ,fÐ,dΙ],((fô:Nat):Int) - dϪ,some (some (.builtin "object.__setattr__")),(upd hĜ x eŷ),λv hv=>(d9.mp nd).1 (List.of_mem_zip hv).1,wpAny_Call_Name_kw (uI I hg hm hv ?_ hn ni),(if([]:dĭ).isEmpty then 0 else 1),{cls:= ŷ,data:= .seq vs.toArray},λx c e=>fč.2.1 x c cÅ,λb o e=>RE.extBut b o cı bÔ,mroIn K C ię=Ŏ,(.builtin kģ),(D.nx ρ (um M2 p (.ins C dx (iA f y fs)))),iÛ=some (dϵ),k _ _ _ _ hq iζ m' r',∀p,Ĵ ->q þ (um M p ō),(fC jĽ).cps.toList,uV ϙ Ň cϩ,h'.push kΥ,dz (lä),um jş ap ŏ,gŕ /\ k=((y.length:Int) !=0),∃kvs,H p=Θ /\ k= !kvs.isEmpty,(.Call iÆ Ē [] dM),(kvs.find? hŽ).map aò,∀s3 H3,kΔ,dH h5 λ_ s6 ⟨x,H6,I6,r6,y6,Ql,fr6⟩=> ?_,∀b xs,Rd H b ņ ->Rd H' b ņ,gZ.bind' (t:=load _) (λo=>trivial) bÙ,(backTo dM (hÈ)).any ç,cO.mk (by simp[h.length]) gž,a ρ M λx M1=>r ρ M1 λxs M2=>q aŰ M2,#[λz hz=>h.1 z eö,cΔ.2],∀vs M q e,p vs M q e ->gϮ,(.lst (jϊ++ [y])),(a++b).cps.toList=a.cps.toList++b.cps.toList,W.findIn K ī eà =bş,(.Call gϰ cð [] dM),Cp bę kİ,aq (wpAny_newList ?_ (by rw[hl];show ku Pf)),(gΑ++cĄ)::cç,lĔ<=14,oO (fŔ) bě none=bϗ,(show jE _ _ (BO K) from uv fŖ),(λx=> ∃e:Int,dh bŋ (0<=e) (e<=202)),(gt (ĉ∩Č) (kH ĉ Ċ gD)),{cls:= ŷ,data:= .seq bN.toArray n},(by rw[I.ok.glob];show hū),∀vs H Q E,cń ->gϮ,cB X.prog X.w X.K X.mg X.base CX k f fd ps sp,cellsFrom ϥ scope.names [],absurd (show eź from z) Ň,t {nx:=λ_ H'=>Q .fb H',rt:=Q} dğ H,∀s3 H3,kύ,cB X.prog X.w X.K X.mg X.base gR k f fd ps sp,(kř<=sizeLine),W.mroIn K C ię=Ŏ,kÍ cò #[],#[i,j,rfl,rfl,ϱ],#[a,b,rfl,rfl,ϱ],λn ms=>qD (row:=row) (a:=w0) (n:=n) (ms:=ms),[ų,χ,gĬ],ϸ,#[rfl,rfl,rfl,by right,rfl,by right,by right],["p",aŚ,"end","lamps",bϓ,"places"],#[r,_,n,_,rfl,h2,by rw[xT];omega,Ŷ],oO (ws r0::bϙ) bě none=bϙ,(oy (yk ě eŎ eļ)),∀x:Str,fê ->mb x=eš,∀b u,lé,λi h h' st k=>st.at λo e=>k it Ň o e,∀l,H l=none ->Q bÊ (upd H l bŭ),(kvs.map λkv=>if aĐ then(kv.1,y) else kv),cÄ -> ∃c,env.cells.lookup y.1=é,T.keep 0 _ _ st λb hb o e=>old b o (Zu b o e),Heap.FlyingW base dĽ e cls a0 s.heap,Value.builtin kģ,PyProof.Rows.lands_againW CC λh₆ Sd P'=> ?_,γ ->bΙ ->M pg=none ->aδ,ns.Pairwise kź,∀b u,bź=á ->hĈ,∀n∈gČ,hϙ,Around.under_plainId F.plain_set_update_loop _,(dc (K:=K) rfl jĈ rfl),qm (c:=61) (L:=L) (i:=i.toNat) (y:=cē),(eϘ iÖ).flatten,(jł).cps.toList.length,(jŀ).cps.toList.length,(Str.ofString (dŦ)++fώ),(∀y∈aÂ,kķ),dϞ=some (seqObj æ vs.toArray n),#[b,la,v,p,k,R,T',n,ms,row,rfl,ng,hw,Yr,hO,res],∃w0 ls,ϲ=w0::ls,(b_ Ϸ),(.lst (læ)),∀b xs,H b=eŝ ->H' b=eŝ,eval kϯ X.env,(lí).kindOf,PE X kŭ (UF r t),{cls:= ŷ,data:= .seq its'.toArray n'},show bN.toArray.any aČ=bN.any aČ by simp,(∀l,H l=none ->Q bÊ gϴ),lĴ=false,∀ (s:eY) (u:eC),BindsTo s fd #[[u],[]] [(x,u)],.inr #[k2 j9,by rw[rv.length];lia,eê],cB P w K mg base ĳ Ó f fd ps bü,fN ⟨#[kÔ]⟩ (1+w),∃w0 ls,ϳ=w0::ls,ns.Pairwise (kź),(hΥ /\ hΦ),[gı,eĿ,eϥ],∀b u,aÄ ->kŧ,∀b o u,H b=eş ->H' b=eş,I1.laid (t':=s1.toks) gÖ ï ?_,Ϲ,(jϮ).any ç=false,∀ (w:World) (h:Heap),YP w h ->fċ h,aq (bf h₁ (λ_ s₀ _y=> ?_) gæ),aq (bf _y (λ_ s₂ h₂=> ?_) gæ),Inv X ag σ kŰ s3,∀b o,hζ ->h₁.get? b=ä,Kk I 50 A.in1 _ _ _ _ _ _ ?_ ?_ q1 q4 ⇑q2 ⇑q5,λρ M σ H q Q o h k=>k _ M H h Ů o.hp,λa b c d h t o=>#[a,b,h,hΒ,o],FormattedValue_plain jż,cO.cons WR.v (by rw[cA];show r1.ts (cΧ)),(lô).isEmpty,Cw.2 j v (by rw[<- Array.getElem?_toList];show e),(aW i6 ļ T.xI Boot.«abs» Υ),(aW i5 ļ T.e_ Boot.«len» Χ),(cQ rq ļ T.E5 Boot.«int» Χ),(cQ kg ļ T.A0 Boot.«str» Χ),(jK (bh fG ĉ a9 Ĉ) (io (qK Ċ))).pt,(aW i5 ļ T.e_ Boot.«len» Φ),some lű,(Builtin.Str.occurrences j i 0 j.length 1).isEmpty,eval (.Call (.Attribute e m eK) args [] pos) X.env,A.deeper (lí),∀cl fp s3 H3,kΔ,λenv he b hb=>List.mem_filterMap.mpr #[env,he,hb],(∀z∈ps, -tE<=z.1 /\ z.1<=tE /\ 0<z.2 /\ z.2<p),(ss.map kŚ).flatten,hΩ ++n++ϒ ++bE a,(gΑ++fώ)::cç,#[sl,lİ e1],#[o',lİ e1],attributeBase e f X.env (dč)=dč,A.under (.builtin fü #[ó::us,kw]),dW CX P w K mg base N qual scope f cd A outer s H E,attributeBase o m X.env (Ż)=Ż,∀b o,Ϥ ->hζ,∀cl fp s3 H3,kύ,∀cl fp s3 H3,kώ,∀b o,Ϥ ->s'.heap.get? b=ä,#[a,ns,rfl,Ļ,ϱ],(gχ iÖ).flatten,a ρ M (λx M1=>D.nx hÊ M1) (e ρ),iμ λz=>hϐ,(eX (eB (aQ T.Eg (uz T) hr (aa eĻ ah)))),eO T' z.1=Builtin.Str.glued " " (Ă ::z.1::z.2),(by rintro i ρ M' _ ⟨o1,rfl,h1,h2,h3⟩;show h2),(hs.2 b (be (aP aë (I.ok.Tl x c hfn hc)))).trans,(dH hĉ λc s1 eŭ=> ?_),(dH (hc ag s σ H _ I h) λd s1 eŭ=> ?_),W.findIn K ī bϴ =hė,cS W.kitx_list I.mx #[_,h1,rfl] e ϐ h,aq (bf h₂ (λZR s₃ h₃=> ?_) gæ),∀z∈zs,gě=1 /\ gĜ=1,iι ++iϣ,#[by rw[e,ax];omega,by rw[ax];omega,by rw[ax];omega],um M1 v (fϱ) v=iņ,aB (nI (by have:eő=R.length:=af _;omega)),cĞ \/ X.env.scope.names.lookup x=ŧ,(λ_ s'=>cU λσ' H'=>gŊ /\ Q σ' H'),cS W.kitx_dict I.mx #[o,h1,h2.1] e ϐ h,eval lĳ X.env,(HT.ue xs.length xs.length hi - hĠ),typeOf dϸ=pure (.type "method_descriptor"),cU λa vs=>dh cİ (cŬ) (Ŭ),(yN (M:=fť) I5.mx O.k Pe O5 Ao hk).here,.cons ĩ (.cons ĩ (.cons ĩ .nil)),(lΗ:Int),(dW CX P w K mg base N qual scope f cdv A outer s H E),#[eδ,H,đ,#[aϴ,by rw[aM,eD]],q],attributeBase o name X.env (Ż)=Ż,∀b∈fp,km X ag kŰ b,codeAny_compStart_list loop (T.self _ 0 _ _ _ UK loop),Txt.split kı cϨ,(∀r∈ϲ,eı),(aa lΔ ah),um M1 nl gΥ nl=iİ,aB (nI (by have:iΖ:=af _;omega)),dH hĉ kç,dH (hl ag s σ H _ I h) kç,vs.map some++List.replicate (N.length - vs.length) none,(∀x c,cŤ=é ->iΝ),∀x c,cŤ=é ->Ϯ,absurd rfl (SeqAt.ne_of_list_tuple (s:=s) hl.isList ht),some (some lŎ),a ρ M λo M1=>b ρ M1 λi M2=>s o i x M2 λM3=>q ρ M3,(none::Ű::List.replicate (dŞ) none),a.2.all λz=>lļ,∀b o,b∉fp ->lè,[ų,χ,dÄ,fŊ],[aÞ,fÎ,fϥ,"end",bϓ],(jW hP T.rE (py T) Β Ć Φ),Txt.slice s none (some (jϦ)),wpAny _ X.A (assign (bϮ) X.env bŴ) _ _ s',∀env∈X.stack, ∀b,env.frame=ô ->b∈bϦ,((∃a,xs= [wr a] /\ gò) \/ xs= [ý]),upd H s.heap.objs.size kŝ,#[_,_,df _ e (Obj.isFreed_of_fields (dS d _)),dS d _,?_],(λag σ H1 s1 ev s2 I z=>oC ag σ H1 s1 ev s2 I (fm z)),some (yY R (gČ),yY T (gč)),decide (Ϧ =ϡ)=false,decide (ϡ =Ϧ)=false,(dH hČ kç),Ϻ,dW ĳ P w K mg base N qual scope f cd A outer s H E,(jŀ,jń),(by change(gĳ:ê).Nodup;decide+kernel),ws (mÎ),Txt.slice s (some (jϦ+1)) none,(dH hđ λv s1 h1=>dH h1 λVN s2 h2=> ?_),(W.fnOf name qual params body scope dV kV jL pm an cdv ct),(ků).all (λx=>x.1.isSome),#[LN,_, ∅,rfl,j9,_,_,h4,ts.trans (cς),m4,HY,oJ],#[ea,cls,a0,B,H',r1,r2,r3,r4,r5,r6,r7,r8,r9,nc,hE _ _ _ r],cB X.prog X.w X.K X.mg X.base fĥ k f fd ps sp,y.cps.toList=hñ++(s++hò),j' _ _ _ (Int.emod_nonneg _ ∅) (Int.emod_lt_of_pos _ n0),um kο v gϑ,um (um M u jÉ) v gϑ,decide ((gě:Int)*(gĜ:Int)=1),dH iŘ λu s2 gϤ=> ?_,(dW gR P w K mg base N qual ė f cdv A outer s H E).Jd,∀y∈scope.names,lă,(dg X N' scope cl fp s3 kŰ),hÇ ->vx s.heap h' ->Q () ϔ,(λ_ _ ⟨⟨h',q,a,b⟩,k⟩=>by subst q;show hQ h' a b k),λb M2 v H2 h2 t2 m2 r2=>k b M2 v H2 h2 eã m2 r2,∀p,Œ ->q þ (um M1 p (.lst (xs.filterMap f))),ns.Perm l /\ lψ,∀x∈aυ (jε),x.length<=124,(by change(hø:ê).Nodup;decide+kernel),(.lst [ws lΙ]),um kυ v2 gϑ,Inv X ag σ H' {s with heap:=h',gens:=g',drawn:=d',toks:=t'},wpAny ϗ X.A (f bϝ (.int j u)) Q E s,(dH hĎ λv s1 ⟨x,H1,I1,r1,ty,q1⟩=> ?_),eV k (A.deeper (envOfC qual ė s.heap.objs.size f cdv)),dH (hc s3 _ _ s7 σ7 H7 _ I7 q7) λok s8 ⟨H8,I8,q8⟩=> ?_,(decide (a.length<b.length) || decide (strKind a<strKind b)),(mÃ).any id,(bh fG Ϸ ao Ĉ),(bP eI ć iþ iþ),p.1=q.1 /\ H q.2.1=some (.tup (p.1.map kV)) /\ RelV p.2 q.2.2,gÅ=ŧ \/ jţ,wpAny ϗ X.A jÎ Q E s,(ić).push (jŧ),λp hp=>absurd (show p∈([]:Ÿ) from hp) Ň,typeLookup bŪ "__getitem__" =pure (some dϸ),λz M3 v3 H3 h3 t3 m3 r3=>k z M3 v3 H3 h3 (t1.trans t3) m3 r3,a ρ M λx M1=>lo ρ M1 λl M2=>hi ρ M2 λu M3=>r x l u M3 q,λy M4 v4 H4 h4 t4 m4 r4=>k y M4 v4 H4 h4 (t1.trans t4) m4 r4,(W.fnOf x x aŷ aŸ ė .none kV jL pm an cdv ct),(W.fnOf m q aŷ aŸ ė .none kV jL pm an cdv ct),(.ExceptHandler hÛ none cí mD::rest),gv I os bare fl c9 nV un kb kt CC (cϊ) (tk:=s'.toks),∀ {n:Int},(32:Nat)∉lÜ,((lΗ+2:Nat):Int),(mÎ).length,(by rintro vs M q e ⟨b,la,u,p,k,R,T',n,ms,row,rfl,_⟩;rfl),ϻ,hϺ=hě::gÊ,wpAny Ι A (binaryOp .Add bÆ (ö)) Q E s,W.WalkO q rP XP YP l.row.toRowW d [] iϏ,λb o e n hb=>cZ _ (I.base.keep b o e n hb (Jh b)) cŵ,(dW ĳ P w K mg base N qual ė f cdv A outer s H E),(um (um M' v iæ) w (.lst ((dz t).map wi))),(aW fŋ ļ T.e_ Boot.«len» Φ),(aW fŋ ļ T.e_ Boot.«len» fÒ),(aW fŋ ļ T.e_ Boot.«len» Υ),(aW fŋ ļ T.e_ Boot.«len» fà),(aW fŋ ļ T.e_ Boot.«len» fÛ),∀b ps,H b=some (.LW ps) -> ∃more,H' b=some (.LW (ps++more)),(dH iŜ λus s1 hĐ=> ?_),λb hb=>#[by rw[bH (be (Sb b hb))];show(v7 b hb).1,cť],di R z.1=hΩ ++z.1++ϒ ++bE z.2,.lst (iμ λz=>wb (hϐ)),um M u iς u=some iς,Txt.slice x (some (eϵ+1)) jÊ,dh (xs= [Þ]) hĕ (Q (.str dĖ) H),ys≠ [] -> ∀p,İ ->Q ĭ (upd H p (dϺ)),s.heap.get? l=lϨ,(W.fnOf x qual aŷ aŸ ė .none kV jL pm an cdv ct),#[m,hn.sameBut sb kN,λh' RF=>#[_,H',rl I3 rfl I6 Ic.free RF,q]],∀b o,bź=ä ->dľ -> iÈ,(kÏ++kÐ),Ϧ ::n::lÕ,P (.done dη) {s with heap:=sortedHeap s.heap a vs out},s₁.heap.get? a=some lŊ,#[r'.eq,k _ _ _ _ hq (t1.trans ((cΧ).trans ts)) m' WR.v],(Ϻ).stack,[gı,eĿ,eϥ,fό],(aW bņ ļ T.jj Boot.«sorted» (aa eŒ ah)),λxs H Q=> ∃i,xs= [Þ] /\ Q (.int (hŵ)) H,(Ϻ).ex= [],propext #[jį,jį],∀b o,Ϥ ->jη ->b≠T,PyProof.Rows.split_weight x Ϣ ϙ,dh (6<=row.length) (R'.length<=R.length+1) (T'.length<=T.length+1),eO T z.1=glued ϛ (kÙ),if ið then jŎ else [],[ų,χ,cĉ,dÄ,fŊ],(fR ļ T.lQ.choose_spec (show RelV (.int 6) _ from ĩ)),(.lst [mă]),∀y∈scope.names,y.2= .local ->iÁ=ŧ,ih n (Nat.lt_succ_self n) A.in1 _ _ _ _ _ _ ?_ ?_ q1 q4 ⇑q2 ⇑q5,(∀x M' v H',q x M' ->Ę ->Ţ ->cż ->aí),#[d,e,h3,h4,h1.rep m r1,h2.rep m r2,ϱ],(∀p,Ĵ ->q þ (um M p (.lst ((eĞ).map ws)))),wpAny Ι A (Builtin.«list.sort» eο) P E s,{s with heap:=lŕ,toks:=tk},(fR ļ T.lR.choose_spec (show RelV (.int 12) _ from ĩ)),(.Assign [bϮ] lĶ HN),SeqAt.RcAt.lists_lengths (A:=A) (s:=s) ht.isList rW.isList aÐ ∅,∀b o,Ϥ ->dľ -> iÈ,∀ {o H s ev s'},fQ P w o H s Ŀ ev s' ->fQ P w o H s E ev s',bI c (glued sep (aΨ))=aŗ+(bI c sep+bI c (glued sep (y::l))),[χ,dΗ,dÑ,dΜ,fÐ],(fR ļ T.oj.choose_spec (show RelV (.int 200) _ from ĩ)),(dH iŜ lì),wpAny_excMatches_sub_self hC O5 Ao kÿ hq,(by rintro vs M q e ⟨b,la,lu,lh,now,p,pa,un,he,R,T',n,rfl,_⟩;rfl),(by change(jϞ:ê).Nodup;decide+kernel),I.turned (t':=s.toks) kŉ f0 f1 f3 f4 f5,∀b o,bź=ä ->cŲ ->kÂ,(W.fnOf bϴ q aŷ aŸ ė .none kV jL pm an cdv ct),wpAny_looks_onW iĖ lw (j8▸fl) λh₄ Aq LQ=> ?_,r.2.map λz=>mā,({cls:= cϵ,dict:=none,data:= .set #[] 0 (.fresh 0 0 Bi)}:Obj),(aw (bp (dQ aO cC cL jς a9 Φ))),(aw (bp (dQ aO cC cL jς a9 Υ))),zs.map λz=>mď,(lį) /\ ∀p∈aϤ,p.1≠b,∀b o,Ϥ ->ğ ->kÂ,Str.ofString (toString a)++fΜ ++Str.ofString (toString b),iϫ++fΜ ++Ϭ,(mÍ) /\ bΦ=r.2,(oy (qM ě ć lΔ)),vI mđ aŸ t,j' s3 _ I3 Ap _ _ H4 s5 s5.toks (by rw[Qj];show gŝ) I5 q,dH (hg s3 _ _ s6 _ H6 x u _ I6' r6 UI) λ_ s7 ⟨σ7,H7,I7,wk,q7⟩=> ?_,starEach dŃ X.env=iė::hÈ,findIn K ī cł =lğ,λz M3 v3 H3 h3 t3 m3 r3=>k z M3 v3 H3 h3 iŵ m3 r3,gv I os bare fl c9 nV un kb kt Sd ((cϊ).trans P') (tk:=s'.toks),hŀ && hΤ && iĨ,λns:ê=>mĘ,sortedHeap_old (be j9) (by rw[Heap.size_push];show Nat.lt_succ_of_lt j9),(bV ei jϥ (aQ T.Cm (wW T) hr Χ)),(I.c9 b ob e).jo (λc w' hc q=>(hs.2 c ?_).trans q) bϢ bϣ,show jU f v ((k,x)::r)=(if k=f then(k,v)::r else(k,x)::jU f v r) from rfl,eV k (A.deeper (PyProof.Rows.envOfC qual ė s.heap.objs.size f cdv)),λp hp=>k _ _ _ _ gη Ϛ (m.pC hp rr) WR.v,.fields (List.toArray [aă, .none, aŻ, .none, cÂ, .none]),um M w mŠ,Txt.split (lł) ϛ,xL mĺ Ŀ,Builtin.Str.tooLong (ss.toArray.foldl (· + bυ+sep.length) 0)=false,W.findIn K ī cł =lğ,#[fĴ.1,cϣ.1,fĴ.2.1,fĴ.2.2],lΖ++(cΡ j).map aİ,{s with heap:=mĩ},λxs H Q=> ∃z,dh (xs= [ać]) hġ (Q (eÄ) H),some (excClassObj nm q C N bs bm hdct sn sub ab col dd k0 k1 k2 k3 k5 newId),(cg kč (cg kĎ fB)),(by change(kϢ:ê).Nodup;decide+kernel),(cg (bt (i:=1) nd rfl ε) (cg kĐ fB)),(aa (iV ļ T.mW Boot.«list» (show RelV (.ty æ) _ from rfl)) ah),∀nK,isTrue a X.env nK=(do let v <- nK;standAt a.pos;hϰ),(newFunctionEnv scope X.env.globals cl [] X.env.qual none .none (some X.env)),λy M4=>M4 p=eΑ /\ I Ð cß jĥ,λρ2 M2=>c ρ2 M2 λb M3=>j6 b (kü) (N none M3),(if x<0 then(x+hŻ).toNat else min x.toNat bN.toArray.size),(if ms= [] then [] else [Ϧ,n,jŏ]),λh' eb=>#[rfl,I.turned (t':=s.toks) (λb o hb e=>eb b o hb e) f0 f1 f3 f4 f5],(Su ha hb I h λv u s2 x y H2 I2 rx ry q=>ho ag s2 σ H2 x y v u Q I2 rx ry q),W.findIn K ī dϯ =lŅ,fE fϠ (Lz z.1) (cø<=8) (∀m∈z.2,hŘ),(aa (iV ļ T.jB Boot.«tuple» (show RelV (.ty aš) _ from rfl)) ah),(aN hu (o:= .dK (xU kF (bĐ)))).trans (aN vG (o:= .ins A.ck Kl (oz u t))),aq (wpAny_standAt (aq (bf (xS n s hI) (λr s₁ h₁=> ?_) gæ))),wpAny_newFunctionEnv S.uE (by intro y hy;simp at hy) (λh₁ RJ RE=> ?_) S.kind,λb o e=>hm.heap b o (λhI=>absurd aë (by rw[aZ.mp hI];show cH _)) bÔ,lΖ++(cΡ aÑ).map aİ,if Ŗ /\ n∉dŴ /\ Bd R T ms then some (R,fV T n ms) else none,PS X (.Raise (some (.Call dń dŃ [] dM)) none pos) (BB C E t),#[p,lI ks ky,r2.eq,by rw[pM r1];show oS.k hk,k _ M2 _ H2 h2 eã m2 ?_],(bh fG mĽ ao Ĉ),(j==NameKind.free && jÛ && iŬ)=true,I.laid (t':=s.toks) gÖ ï #[ν,[],0, .nil,Ģ],b D (λρ' C M'=> ∀ea,M' ea=none ->wy K al C ea D ρ' (gĎ)) ρ M,propext #[λ⟨_,_,h1,h2,k⟩=>by cases h1;cases h2;show k,λk=>fΩ],(dF (K:=K) rfl (aW bņ ļ T.jj Boot.«sorted» hϠ)),(∀i ys M,dŒ ->bí ->aġ /\ gν /\ dŔ),(λag σ H1 s1 h' ea cls us I mk z=>uY ag σ H1 s1 h' ea cls us I mk (hE _ _ _ z)),gĔ≠ [] /\ ((fC x).cps.toList.head? =some 48 ->x=fϖ),s.heap.push mŹ,(by change(lŃ:ê).Nodup;decide+kernel),gO ĳ mĺ Ŀ,(qV (st:=st) l c k).binds λkV jL pm an cdv ct us e=>(b kV jL pm an cdv ct).to us e,r=Rf.BadName \/ r= .Taken \/ r= .NoCrew \/ r= .NoRound \/ r= .TooMany \/ r= .TooFar,Calls.call_function_entry kind_sorted plain_sorted entry_sorted (args_sorted1 _) ?_,{cls:= .type aŤ,data:= .fields (List.toArray [.int lo t, .int hi u, .int 1 v])},(λm' hm=>by let⟨o',Yt,Yu,JX,r'⟩:=hm;rw[ho] at JX;cases JX;show#[_,Yt,Yu,hL,r']),(λx s₄ h₄=>aq (bf h₄ (λ_ s₅ h₅=>aV (aV #[rfl,h₅])) gæ)),(.lst (mΙ)),∀o ks,q fΟ kĭ (um M1 d (dŇ)),wpAny ϗ A (excMatches Ő bΜ) Q E hĻ,if gğ \/ n∈δ \/ T≠ [] then none else some (bĩ,T),(λ_ _ _ _=>(gq rO (aW i6 ļ T.xI Boot.«abs» Χ) ĉ Ĉ)),#[u,aυ λz=>lļ,rfl,by rw[am,ba];rfl,?_],hold _ _ (mΒ),gĠ ->hϙ ->f aΤ bĕ=ié,(lú∪Ϸ),(ak iĽ (ak iĽ (aw iĽ))),Classical.byContradiction λz=>hd λc hc=>Classical.byContradiction λhn=>z #[c,hc,hn],w x M q ->mţ ->r v H Q,aC (by rw[tw];intro z;rw[List.nodup_append] at h2;show h2.2.2 m (bQ z) m Ň rfl),lϐ ->q aŁ (um M u gΥ),(aa (dQ aO cC cL jς a9 (aa jÇ ah)) ah),∀ {M1:Mp},až -> ∀u,M1 u=none -> ∃M0,Sm M0 (um M1 u ŏ) /\ q aŁ M0,lτ ==Value.builtin "object.__getattribute__",ib.imp ρ M1 σ H1 _ _ Ž h1 λb M2 H2 h2 t2 m2=>k b M2 H2 h2 eã m2,W.hideAll s3.heap (gr mœ),(mΔ).filterMap jq,(aw (bp (iU ě lΔ ć ζ))),hā /\ hţ /\ ∃vs,Ņ /\ h.DictOf aϗ a vs,Ρ ->bÞ ->(∀b M' H',q b M' ->Ę ->Ţ ->Q b H') ->Ħ,(.lst (mΙ++ [z])),wpAny_handleBy_cons (codeAny_handlers_test (pE I5 hg O'.bound ?_ ni)) (by intro q;cases q),it ρ M λxs keep M1=>Pr xs keep own fr g c el e ρ M1 λx M2=>D.nx hÊ M2,(λ_ _ _ _=>(bt (i:=0) (by change(bŁ:ê).Nodup;decide+kernel) rfl ε)),(dH (h pos ag s σ H _ I hq) λus s1 ⟨xs,H1,I1,r,z,q⟩=>#[by rw[<- r.length];show z,?_]),callWith pos f first (j϶) kϭ,(dH iŜ λus s1 hĐ=>hc ag s1 σ H1 vs us Q I1 r1 q1),(xs.drop (hĠ)).take mÖ,(.lst (mă::ił)),(iO (n:=2) rfl mΝ),um M' t (.lst (zs.map λz=>wb (mď))),findIn K ī gŻ =mí,(q (.tup [ws hç.1,ws hç.2.1,ws hç.2.2]) M),({s with heap:=s.heap.push {cls:= ŷ,dict:=none,data:= .seq gŸ}}:eY),λ_ s'=> ∃h',hο /\ kú /\ hÇ,(mϠ).objs.size,{s3 with heap:=s3.heap.push {cls:= .type "slice",data:= .fields (List.toArray [vl,vu, .none])}},codeAny Ι A (.compLoop lĵ 0 it gN env) R s,w x ρ M q ->(∀ρ' M' σ' H',q ρ' M' ->Ę ->gſ ->Q σ' H') ->t v σ H Q,W.findIn K ī gŻ =mí,(.tup [.str hç.1, .str hç.2.1, .str hç.2.2]),dh (7*rows.length<=fU rows) (R'.length<=R.length+rows.length) (T'.length<=T.length+rows.length),[χ,Ŵ,"_law_at",cĉ,dΗ,dÅ,"_law_cut",cĊ],s.heap.push mϦ,callWith pos f first (backTo pos (hϺ)) kϭ,swapsWith lĶ gϧ HN.line X.env=pure true,wpAny_assign_Name (qE I5 hN hx hl (show RelV bŴ bŴ from rfl) (λs6 I6 O3=> ?_) hf),λy M2=>c ρ M2 λz M3=>cU λkvs k=>dh (hÎ) bè (iŸ),(λx=>match x with | .v (aĳ)=>if bø=0 then none else some (dC (n,bø)) | _=>none),(X.env.scope.kind== .class || (X.env.scope.kind== .module && X.env.locals !=X.env.globals))=false,λx y H Q=>cU λi j=>fE cĹ cĺ jΜ (Q (cĽ) H),#[ad,dx,ks,r1.eq,e,uL r hl,ib.imp ρ M1 σ H1 _ _ Ž h1 λxs M2 vs H2 h2 t2 m2 r2=> ?_],(mϻ).get? b,show glued " " (lΙ::cç)=bE a from(eE a).symm,{s with heap:=mϠ},(λr s'=>r= .ok (.ret dį) /\ OldK s₁.heap s'.heap /\ s'.os=s₁.os /\ fð),ib.imp ρ M1 σ H1 _ _ Ž h1 mĖ,(Txt.slice x dϋ (some (a+2))).cps.toList++(Txt.slice x (ë) dϋ).cps.toList,(ρ= [Ű,Ų,dύ,cϔ,cϕ,o5,dô,dá,o8]),∀h',kú ->mĔ,∀a b:Int,1<=b ->b<p ->x≠mſ,W.methodCall_KW (pl:=pl) (dH hČ λu s1 ⟨x,H1,I1,rx,a,dx,fs,ex,ea,l,q⟩=> ?_) ht,(λ_ _ _ _=>(bt (i:=0) (by change(gϙ:ê).Nodup;decide+kernel) rfl ε)),s.heap.get? p.1=aϥ /\ H p.1=none /\ p.1≠X.env.locals /\ p.1∉X.fs /\ ∀v,p.2.data≠ .cell v,#[hć,hć,I.base.free,fî,I.base.lT,I.base.kP,I.base.nB],∀ea,cÍ ->kű ->E2 (aΟ) none jų,(aQ T.dL ċ hr (aa Ć (aa mľ ah))),g (fW a) Τ M mΧ,(decide ((jķ) <=m) && mð),hā /\ hţ /\∃xs,cŜ /\ h.DictOfH (gŁ) a xs,(lŕ).get? h'.objs.size=some kΥ,eU (λz=>wb (lļ)) fϯ fϫ ?_ Ŷ,(aQ T.with_thing (nQ T) hr (aa lΔ (aa ć Υ))),b D (λ_ C M'=>lõ /\ ∀ea,M' ea=none ->e Cz (gĎ)) ρ M,(nÜ).objs.size,(jņ++lώ++jŇ),(aw (bp (aW bņ ļ T.jj Boot.«sorted» mä))),if kó=true then kvs.map lË else kvs++ [(k,v)],Q (.int aŮ s.toks) ią ->mĞ,h2.get? e=some {cls:= ó,data:= mΑ},#[t,h1,h2.imp _ M _ H _ _ iğ eç #[?_,?_,hÌ,hÌ]],propext #[λ⟨_,_,h1,h2,h3,h4,k⟩=>by cases h1;cases h2;show#[h3,h4,k],λ⟨h3,h4,k⟩=>#[_,_,rfl,rfl,h3,h4,k]],Ak (t:=kĠ) S I3 iQ sP Ap (λb hb=>by rw[Qj];show jĠ) RJ old,{nx:=λσ H=>D.nx fė H,rt:=D.rt,bk:=λσ H=>D.bk fė H,ct:=λσ H=>D.ct fė H},(if true=true then ! lũ else lũ),∀v u s2 x y H2,Inv X ag σ H2 s2 ->ħ ->Ĩ ->R x y H2 ->wpAny ϗ X.A (f v u) Q X.xe s2,#[oe,vs,T,_,_,(ot ea (cE R6)).trans he,hc,hd,h1,O6,R6,df _ hT (Obj.isFreed_of_fields (dS J5 _)),dS J5 _,by simp[Wl]],Txt.slice bo none eϷ++lώ++Txt.slice bo eϷ none,∀ {H':Hp},hŰ -> ∀b∈fp,km mē [] H' b,wj.ZU F S (λvs H Q E ⟨xs,M,q,e,r,m,h,_⟩=>by rw[r.length];show len xs M q e h) kŲ,Calls.Name_function_global I.ok.kind hg (Calls.loadGlobal_global lŲ hm h) hd,#[LN,oJ,by rw[HY.length];lia,_, ∅,rfl,j9,_,_,h6,(ts.trans Qi).trans t6,m5.putL oJ (HY.snoc r5),(HY.snoc r5).ts t6,bX],#[by first | decide | decide+kernel | show ω | show Wp Ŧ hl | show Wo Ŧ hl Ŧ,?_],{s with heap:=nÜ,toks:=tk},(mÎ)::mŎ,kL (ss:=kÙ) (c:=100) (by rw[am];rfl) (yc hS.m nE hg) (by rw[ax,ax,l1];show iX Ť) ?_,[ų,dÃ,fâ,"_law_body","_law_cut","_law_start",gĬ,bĽ,f϶],[Ű,Ų,dύ,cϔ,cϕ,dö,dô,dá,some (wi (0+(j:Int)))],∃C,cΝ /\ ∀ea,cÍ ->kű ->Dn X.K al C D σ jų,a ρ M λxs M1=>cU λ(p:iB) cù=>fE (xs= [wr p]) (M1 p=iî) fϟ (q (wi aŔ) M1),dH hđ λiv s1 ⟨y,H1,I1,ry,q1⟩=>dH iŧ λu s2 ⟨x,H2,I2,rx,a,ov,ex,g,q2⟩=> ?_,#[m',hm,i+1,Pz,H9,(I9.lS).weak ?_ wk.2,T.keep _ _ _ Ql λb hb o e=>lÎ.1,cġ,w9],λy H5=> ∃zs,H5 p=eθ /\ gŵ /\ ∃m',m'<m /\ W Ð m' (zs++ [y]) (upd H5 p (.lst (zs++ [y]))),r0=iϱ \/ r0=iϲ \/ r0=iϳ \/ r0=iϴ,∀z∈R,fE fϠ (Lz z.1) là lΚ,(gt kν (yi rfl (cg kĐ (cg kč fB)))),(jK (bh fG eŇ a9 Ĉ) (io (bh pq mļ ao Ĉ))).pt,#[ok.mod,ok.kind,ok.glob,ok.blt,ok.above,ok.inj,ok.has,ok.Tl,ok.hd,ok.frames,ok.Qk,ok.exf,ok.bs,ok.KJ,ok.FS,ok.CD,ok.mH,ok.G_],(um (um (um (um kϡ r ı) t ı) pg (fŎ)) pg iľ),(λx s₄=>wpAny Ι A (call (.builtin eÇ) [gN,x]) (λ_ s₅=> ∃m,m<n /\ I m s₅) Ν s₄),lĩ /\ mϟ,#[hn b hb,?_,?_, .inl hb,lŋ,mĪ],ig.imp x v _ M' _ H2 _ _ oc r (hs i x ys M' hx hI) λρ3 M3 σ3 H3 h3 t3 o3=>ic.imp ρ3 M3 σ3 H3 _ _ o3 h3 λb M4 H4 h4 t4 m4=> ?_,I.laid gÖ ï #[by change cΑ;decide,_, mÛ,bϹ],(forIn qw true λc r=>if r=true then do let ok <- isTrue c env (eval c env);iϒ else iŭ),(dH iŘ λu s2 gϤ=>dH lÇ λd s3 iĆ=> ?_),wpAny _ A ((compTurn lĵ 0 it gN env).onRaise (λx=>do noteFrame x env;theTreesLotGoes x)) _ _ s,∀b,b≠T ->(s.heap.update T (Obj.mapFields (fŸ 3 ((some L:Î).elim Value.none λf=>rawInt f)))).get? b=dϜ,((hp.update e (Obj.mapFields λx=>x.setIfInBounds 3 Value.none)).update e (Obj.mapFields λx=>x.setIfInBounds 4 (fĊ))).get?,["enumerate","zip","dict_itemiterator","dict_reverseitemiterator","odict_iterator","itertools.zip_longest","itertools.pairwise"].contains n,(names.map λ(n,k)=>if(fž && jÛ && iŬ) then(n,NameKind.cell) else(n,k)).lookup x,w' {nx:=λ_ M'=> iϛ,rt:=kŔ} (mé) M,∀b∈ch,lÅ /\ fŠ /\ mŽ,∀j (g1:j<bN.toArray.size) (g2:j<its'.toArray.size),SeqAt.EqAt A.in1 s bN.toArray[j] its'.toArray[j] ((kϰ) j),jD λp l p' r=>fE (xs= [wr p,wr p']) (M1 p=ο) (M1 p'=eĦ) (q (sG l r) (λM'=>M' p=ο /\ M' p'=eĦ) M1),aq (W.kdu_collect (A:=X.A.in1) (W.kdl_dict (knd:=dϭ) (kvs:=vs) (ep:=ep) lo) hh Lw jύ λh' tk gN hkp Cw=> ?_),um M w mŠ w=some mŠ,Str.ofString " !\"#$&'()*+,-./0123456789:;<=>?@" ++Str.ofString "ABCDEFGHIJKLMNOPQRSTUVWXYZ[\\]^_`" ++Str.ofString "abcdefghijklmnopqrstuvwxyz{|}~\n",(eX (eB (aW fŌ ļ T.dG Boot.«isinstance» (aa ć mώ)))),dH (T.done mē rfl rfl rfl mF i [] s4 _ H4 Ν I4 (tV Wr) UJ stop) λr s5 ⟨hr,I5⟩=> ?_,dH (T.item mē rfl rfl rfl mF i [] s4 _ H4 Ν I4 (tV Wr) UJ go) λr s5 ⟨u,hr,h5⟩=> ?_,[.ExceptHandler hÛ none [.Raise (some (.Call (.Name z zp) [jϓ] [] dM)) kδ Qu] mD],(nı).length,codeAny cĳ callerA kğ nè s₁,∀h6,Heap.HeldW B l ea cls a0 L h6 ->(∀b o,Ϥ ->jη ->h6.get? b=ä) ->vx s.heap h6 ->E Ő {s with heap:=h6},codeAny ϗ X.A (.compStart lĶ 0 bř gN {cenv with scope:=hÃ}) (RR gN cenv.locals) s₄,λa o ea=>(I.c9 a o ea).jo (λb u hb q=>cZ _ q λhm=>by have:=I.o0 b hm;obtain rfl | hb:=hb;rw[ea] at this;cases this;rw[hb] at this;cases this) bϢ bϣ,(λn s'=>gh λi ys H'=>fE (Inv mē [] (hÂ) H' s') eŲ hŰ (W i n ys H')),wpAny _ X.A (do let _ <- comprehension lĶ scope X.env _ dĸ false gÐ (kĢ)) _ _ s,wpAny ϗ X.A (dĎ) (λv s₁=>wpAny ϗ X.A eŬ (λu s₂=>wpAny ϗ X.A (f v u) Q X.xe s₂) X.xe s₁) X.xe s,(k _ #[λb o e=>(ot b λq=>by rw[q,O6] at e;cases e).trans (st b o e),hn,fr.of_keeps λb o e z=>#[o,jĻ,rfl],?_] (λb o e z=>jĻ) ?_),#[b,la,lu,lh,now,pg,p,pa,un,he,R,T',_,T',rfl,bŅ,#[Kl,u,t,am,by rw[aR Vv];show am,s2 _ _ h3],hl,λM' oH B' F Gh=>jm (kq RV M' oH pg B' (F.sm s2) dΡ gĲ)],#[I.ok,I.os,I.bare,#[I.base.keep,I.base.slot,λb u h1 h2 h3=> ?_,I.base.there,λb xs h=> ?_,λb o' u h=> ?_,λb ps h=> ?_],I.loc,I.cell,?_,λx c h=> ?_,cğ,λb u h=> ?_,I.len],(nà)=(λy M2=>c ρ M2 λz M3=> ∃k,y=uM k /\ ∃kvs,hÎ /\ iŸ),#[λi m vs H'=>fě /\ dŒ /\ cU λys M'=>gX (I i ys M') (a_ H1 H') (Ţ) (cO K H' ys vs) (H' p=some bŽ),#[_,rfl,ν,[],_,h0,tp,m1.pC hp cO.nil,cO.nil,bX],?_],(dY.of (sc:=_) (N:= nÛ) (own:= jϞ) (fr:= []) (N':= jϞ)),#[s.heap.objs.size,_,_,_,bN.toArray.size,_,_,hĳ,rfl,(Walks.list hh s.heap.objs.size l (be j9) bN.toArray).toS,#[hű,ht.isList.push _],λi v s' Q' E' e hq=> ?_,λs' hm=> ?_],wpAny ϗ X.A hĺ (λ_ s₂=>wpAny ϗ X.A hÜ (λ_ s₃=>wpAny ϗ X.A (handleBy ev X.env hs) cĨ X.xe s₃) X.xe s₂) X.xe s',∀ (ag:Ÿ) (s:eY) (σ:St) (H:Hp) (x:V) (xs:À) (v:eC) (us:Ê) (Q:VK),Ω ->ħ ->Ĝ ->r x xs H Q ->wpAny ϗ X.A (call dϸ (v::us)) Η X.xe s,dH (fK _ s9 σ7 H9 Ϫ [yv] Ϫ [y] (λv H'=>H'=upd H9 s.heap.objs.size (.lst (zs++ [yv]))) I9 rfl fĒ #[_,zs,yv,rfl,rfl,_Q,_B,rfl]) λv UV ⟨_,H10,I10,_,Yv⟩=> ?_,((backTo dM (hϺ)).all dħ && mć && decide ((e::es).length+([]:eA Keyword).length+(if([]:eA Keyword).isEmpty then 0 else 1) <30))=true,(λ_ _ _ _=>(iO (n:=2) rfl (cg (bt (i:=0) mĚ rfl ε) (cg (bt (i:=1) mĚ rfl ε) fB)))),∃I:Nat ->Ο,fE (I 0 ρ M1) (lĺ) (∀i x ρ M,Δ ->bì ->g x ρ M λρ2 M2=>b {D with nx:=I Ð,ct:=I Ð,bk:=D.nx} ρ2 M2) (kϑ),(λ_ _ _ _=>(iO (n:=2) rfl (cg (bt (i:=0) mų rfl ε) (cg (bt (i:=1) mų rfl ε) fB)))),∀ (s3:eY) (H3:Hp),gç ->iŮ -> ∀ (D:iB) (σ':St) (H':Hp) (s':eY) (t:Nat),D<s3.heap.objs.size ->Inv jğ [] σ' H' s' ->Q bÓ H' ->RR bÓ s3.heap.objs.size cŧ s',∃ t,vI mĺ aŸ t /\ ∃w',bγ /\∀vs M q,p vs M q e ->nī,codeAny ϗ X.A (.compLoop lĶ 0 bř Ϫ (lĠ)) (RR Ϫ s3.heap.objs.size) {s3 with heap:=h₁,toks:=kĠ},∀ {H9:Hp} {s9:eY} {Pz:À},Inv mē ([]++qL fp s6.heap) σ7 H9 s9 ->(∃m',m'<n /\ W Ð m' Pz H9) ->∃m,m<n /\ gh λi ys H'=>fE (Inv mē [] (hÂ) H' s9) (tn i s9.heap) hŰ (cŨ),Ϝ /\ ∀p,Œ -> ∃I:iÏ,fE jź mϝ (∀i x ys M,Δ ->bí ->g x Τ M λρ2 M2=>c ρ2 M2 λb M3=>if î then el ρ2 M3 mΦ else eì) lï)
namespace TS
open PySem PyProof.Rows
def afb (l:eA Keyed)(i j k:Nat)(hij:i<=j)(hjk:j<=k)(hk:k<=l.length):l=aϓ++(gÂ++(jĖ)):=by
 have e1:jĖ=aϔ:=by rw[List.drop_take];have:=bL (k - j) (aϔ);rw[List.drop_drop,show j+(k - j)=k by lia] at this;show this
 have e2:gÂ++aϔ=aϕ:=by rw[List.drop_take];have:=bL (j - i) (aϕ);rw[List.drop_drop,show i+(j - i)=j by lia] at this;show this
 rw[e1,e2,bL]
universe TS
namespace L2
open PySem PySem.Spec PyProof.Rows
abbrev dB:=Sum Int Str
def rT:dB ->eC ->Bool
 | aâ,v=>Value.isInt k v
 | aã,v=>Value.isStrOf x v
def _o (w:World):dB ->Int
 | aâ=>hashInt k
 | aã=>hashStr w x
theorem d7: ∀ {k:dB} {v:eC},rT k v=true ->(cU λi t=>k=Sum.inl i /\ v=dϒ) \/ (cU λx t=>k=Sum.inr x /\ v=dϓ)
 | aä,v,h=>by let⟨t,e⟩:=Value.isInt_shape (k:=i) (v:=v) h;show .inl #[i,t,rfl,e]
 | aã,v,h=>by let⟨t,e⟩:=Value.isStrOf_shape (x:=x) (v:=v) h;show .inr #[x,t,rfl,e]
def F9 (i:Int)(t:Tok):rT (aä) bϝ=true:=by simp[rT,Value.isInt]
def F8 (x:Str)(t:Tok):rT (aã) (.str x t)=true:=by simp[rT,Value.isStrOf]
def Rp (a b:Int):kŅ=(a==b):=by by_cases e:a=b;subst e;simp;have h:¬iœ:=λq=>e (Sum.inl.inj q);rw[ay h];show(beq_eq_false_iff_ne.mpr e).symm
def Rl (a b:Str):decide (eŘ=Sum.inr b)=dù:=by by_cases e:a=b;subst e;simp;have h:¬eŘ=Sum.inr b:=λq=>e (Sum.inr.inj q);rw[ay h,ay e]
theorem Ro (a:Int)(b:Str):decide (eŗ=Sum.inr b)=false:=ay fś
theorem Rn (a:Str)(b:Int):decide (eŘ=Sum.inl b)=false:=ay fś
def dN (prog:pF)(w:World):PySem.KeyKind prog w dB where
 is:=rT
 hash:=_o w
 inj :=λv a b ha hb=>by
  rcases d7 ha with⟨i,t,rfl,rfl⟩ | ⟨x,t,rfl,rfl⟩
  rcases d7 hb with⟨j,u,rfl,e⟩ | ⟨y,u,rfl,e⟩
  injection e with e1 _;rw[e1];show nomatch e
  rcases d7 hb with⟨j,u,rfl,e⟩ | ⟨y,u,rfl,e⟩
  show nomatch e
  injection e with e1 _;rw[e1]
 byValue:=λk v h=>by rcases d7 h with⟨i,t,rfl,rfl⟩ | ⟨x,t,rfl,rfl⟩ <;>rfl
 pyHash:=λhv h=>by
  rcases d7 hv with⟨i,t,rfl,rfl⟩ | ⟨x,t,rfl,rfl⟩
  show wpAny_pyHash_int h;show wpAny_pyHash_str h
 eqBool:=λhu hv h=>by
  rcases d7 hu with⟨i,t,rfl,rfl⟩ | ⟨x,t,rfl,rfl⟩
  rcases d7 hv with⟨j,u,rfl,rfl⟩ | ⟨y,u,rfl,rfl⟩
  rw[Rp] at h;show wpAny_eqBool_int h;rw[Ro] at h;show SeqAt.EqAt.int_str i t y u _ _ _ _ h;rcases d7 hv with⟨j,u,rfl,rfl⟩ | ⟨y,u,rfl,rfl⟩
  rw[Rn] at h;show SeqAt.EqAt.str_int x t j u _ _ _ _ h;rw[Rl] at h;show wpAny_eqBool_str h
 «strs» :=λk x t v h=>by
  rcases d7 h with⟨i,u,rfl,e⟩ | ⟨y,u,rfl,e⟩
  show nomatch e
  injection e with e1 _;subst e1;cases v<;>rfl
theorem z9 (prog:pF)(w:World)(i:Int)(t:Tok):eř (aä) bϝ=true:=F9 i t
theorem z8 (prog:pF)(w:World)(x:Str)(t:Tok):eř (aã) (.str x t)=true:=F8 x t
set_option genInjectivity true in
inductive V where
  | fb | bl (b:Bool) | int (i:Int) | str (x:Str) | CP (b:cĕ) | Nn (b:UInt64) | ref (a:Addr) | ty (n:String)
 deriving DecidableEq
def RelV:V ->eC ->Prop
 | .fb,u=>dú
 | É,u=>eŚ
 | Þ,u=> hÿ
 | aå,u=> ∃t,u=dϓ
 | .CP b,u=> hϪ
 | .Nn b,u=> hϫ
 | ß,u=>ι
 | .ty n,u=>eś
abbrev cF:À ->dû:=Paired RelV
theorem cF.length {xs:À}{us:Ê}(r:Ĝ):xs.length=us.length:=få
theorem cF.get: ∀ {xs:À} {us:Ê} {i:Nat} {x:V},Ĝ ->Δ -> ∃u,us[i]? =á /\ ĝ
 | _,_,_,_, .nil,e=>by simp at e
 | _,_,0,_, .cons r _,e=>by simp at e;subst e;show bϞ
 | _,_,i+1,x, bŌ,e=>by let⟨u,h1,h2⟩:=cF.get (i:=i) (x:=x) t ⇑e;show#[u, ⇑h1,h2]
theorem cF.set {x:V}{u:eC}(r:ĝ): ∀ {xs:À} {us:Ê} (i:Nat),Ĝ ->cF (xs.set i x) (us.set i u)
 | _,_,_, .nil=> .nil
 | _,_,0, bŌ=> bō
 | _,_,i+1, .cons q t=> .cons q (cF.set r i t)
theorem cF.append: ∀ {xs ys:À} {us ws:Ê},Ĝ ->cF ys ws ->cF (xs++ys) (us++ws)
 | _,_,_,_, .nil,s=>s
 | _,_,_,_, bō,s=> .cons r (cF.append t s)
theorem cF.take: ∀ {xs:À} {us:Ê} (n:Nat),Ĝ ->cF (xs.take n) (us.take n)
 | _,_,0,_=> .nil
 | _,_,_+1, .nil=> .nil
 | _,_,n+1, bō=> .cons r (cF.take n t)
theorem cF.drop: ∀ {xs:À} {us:Ê} (n:Nat),Ĝ ->cF (xs.drop n) (us.drop n)
 | _,_,0,r=>r
 | _,_,_+1, .nil=> .nil
 | _,_,n+1, bŌ=>cF.drop n t
def lM:gk V ->Ë ->Prop
 | â,á=>Ğ
 | none,none=>True
 | _,_=>False
def KV {κ:Type}:Ř ->cė ->Prop:=Paired λ(p:κ×V) (q:κ×eC)=>p.1=q.1 /\ dü
def kV:dB ->V
 | aä=> Þ
 | aã=> aå
set_option genInjectivity true in
inductive HO where
 /-- a list -/
 | lst (xs:ã)
 /-- a tuple (never changes) -/
 | tup (xs:ã)
 /-- a dict Tu keys are ints and texts;one Tu keys are tuples of ints and texts (S1 empty one is both) -/
 | dK (kvs:dý) | dT (kvs:gÃ)
 /-- a set of ints:bN members,bN size -/
 | set (S:Int ->Bool) (n:Nat)
 /-- an instance of S1 class at C,bN dict at dx,bN attributes -/
 | ins (C dx:Addr) (fs:dϔ)
 /-- S1 dict of S1 instance at x -/
 | own (x:Addr)
 /-- S1 dict of an exception -/
 | xd (fs:dϔ)
 /-- a bound method,f of x -/
 | met (f x:Addr)
 /-- a range object lo,lo+1, .. below hi -/
 | XU (lo hi:Int)
 /-- a thing aft is known to S1 object (S1 ZE;a dict while a loop walks it):read,never written while it is so -/
 | nF (o:Obj) (u:HO)
 /-- a code Vu table -/
 | LW (ps:Array Value)
 /-- any IX thing,by Tv is true of bN one object (a def of afd own:afH a S n:=HO.ext λh=> ..) -/
 | ext (φ:cĘ)
abbrev Hp:=iB ->gk HO
def upd (H:Hp)(a:iB)(o:HO):Hp:=λb=>if b=a then ä else H b
def bX {H:Hp}{a:iB}{o:HO}:upd H a o a=ä:=by unfold upd;rw[å]
def bH {H:Hp}{a b:iB}{o:HO}(h:b≠a):upd H a o b=H b:=by unfold upd;rw[aC h]
def Vy {H:Hp}{a b:iB}{o u:HO}(h:bϟ)(h':bϠ)(d:o≠u):a≠b:=by intro e;subst e;rw[h] at h';show d (bF h')
def dU {H:Hp}{a b:iB}{o:HO}(h:bϟ)(h':ğ):a≠b:=by intro e;subst e;rw[h] at h';cases h'
def vy (h:Heap)(a:iB)(bN:Ġ):Prop:= ∃o,fæ /\ hĀ /\ ∃n,gÄ /\ cę
theorem vy.t {h:Heap}{a:iB}{bN:Ġ}(x:vy h a bN):IsTup h a bN:=let ⟨o,e,c,n,d,_⟩:=x;#[o,e,c,n,d]
theorem vy.lt {h:Heap}{a:iB}{bN:Ġ}(x:vy h a bN):dϖ:=let ⟨_,e,_⟩:=x;Á
theorem vy.new (h:Heap)(bN:Ġ):vy (h.push {cls:= dϕ,data:= .seq bN}) h.objs.size bN:=jė
section
variable (P:pF)(w:World)
def eL (H:Hp)(h:Heap)(a:iB):HO ->Prop
 | .lst xs=>Ϝ /\ cU λ bϡ aŢ=>aϖ /\ ġ=lϨ
 | .tup xs=>Ϝ /\ ∃bN:Ê,aϖ /\ vy h a bN.toArray
 | aţ=>nÂ
 | .dT kvs=>hā /\ hţ /\ ∃xs:gŀ,Paired (λ(p:aÀ×V) (q:dϗ)=>mĦ) kvs xs /\∃o es ep,fæ /\ o.ExactDict /\ gϟ /\ es.toList=xs.map (entryOfKey (gŁ)) /\ (xs.map ç).Nodup
 | .set S n=>h.SetOf (intKind P w) a S n
 | dþ=>H dx=dϘ /\ fç /\ dx≠a /\ ġ=some fŜ /\∃mA,cĚ /\ (jŢ) /\ kæ
 | .own _=> hĂ
 | .xd fs=> ∃mA,h.Ns1 a mA /\ jŢ
 | .XU lo hi=>gh λt u v=>ġ=some mϦ
 | .nF o u=>fæ /\ eL H h a u
 | .LW ps=>ġ=kΨ
 | .met f x=>ġ=some (W.methodObj ģ aϘ)
 | .ext φ=>φ h /\ (hĂ) /\ ∀h1 h2:Heap,φ h1 ->(∀o,h1.get? a=ä ->h2.get? a=ä) ->φ h2
def lN (H:Hp)(h:Heap):Prop:= ∀a o,bϟ ->eŜ
universe e
section
variable {P:pF}{w:World}{H H':Hp}{h h':Heap}{a:iB}{o:HO}
def eL.lt (x:eŜ):dϖ:=by
 cases o with
 | lst xs=>let⟨_,_,_,_,e⟩:=x;show Á
 | tup xs=>let⟨_,_,_,p⟩:=x;show p.lt
 | dK kvs=>let⟨_,_,_,_,o,_,_,e,_⟩:=x;show Á
 | dT kvs=>let⟨_,_,_,_,o,_,_,e,_⟩:=x;show Á
 | set S n=>let⟨o,_,_,_,e,_⟩:=x;show Á
 | ins C dx fs=>let⟨_,_,_,e,_⟩:=x;show Á
 | own y=>let⟨_,e⟩:=x;show Á
 | xd fs=>let⟨_,fè,_⟩:=x;show Á
 | XU lo hi=>let⟨_,_,_,e⟩:=x;show Á
 | nF ob u=>let⟨e,_⟩:=x;show Á
 | LW ps=>show aI jΗ
 | met f y=>show aI jΗ
 | ext φ=>let⟨_,⟨_,e⟩,_⟩:=x;show Á
theorem Paired.Rc {α β:Type}{F G:α ->β ->Prop}: ∀ {l₁:Ì} {l₂:eA β},Paired F l₁ l₂ ->(∀a b,F a b ->G a b) ->Paired G l₁ l₂
 | _,_, .nil,_=> .nil
 | _,_, bō,f=> .cons (f _ _ r) (Paired.Rc t f)
def eL.jo (x:eŜ)(k: ∀b u,(b=a \/ H b=dϘ) ->kŧ) (ho: ∀b,H b=dϘ ->H' b=dϘ) (ht: lΡ):eL P w H' h' a o:=by
 induction o with
 | lst xs=>let⟨z,bN,n,r,e⟩:=x;show#[z,bN,n,r,ϖ]
 | tup xs=>let⟨z,bN,r,ob,e,c⟩:=x;show#[z,bN,r,ob,ϖ,c]
 | dK kvs=>let⟨z,y,vs,r,ob,es,ep,e,c⟩:=x;show#[z,y,vs,r,ob,es,ep,ϖ,c]
 | dT kvs=>let⟨z,y,xs,r,ob,es,ep,e,c⟩:=x;show#[z,y,xs,Paired.Rc r λp q z=>iΜ,ob,es,ep,ϖ,c]
 | set S n=>let⟨ob,es,ep,t,e,c⟩:=x;show#[ob,es,ep,t,ϖ,c]
 | ins C dx fs=>let⟨d,z,ne,e,mA,⟨od,es,ep,e2,c⟩,r⟩:=x;show#[ho _ d,z,ne,ϖ,mA,#[od,es,ep,k _ _ (.inr d) e2,c],r]
 | own y=>let⟨ob,e⟩:=x;show#[ob,ϖ]
 | xd fs=>let⟨mA,⟨od,es,ep,e,c⟩,r⟩:=x;show#[mA,#[od,es,ep,ϖ,c],r]
 | XU lo hi=>let⟨t,u,v,e⟩:=x;show#[t,u,v,ϖ]
 | nF ob u ih=>let⟨e,q⟩:=x;show#[ϖ,ih q]
 | LW ps=>have e:ġ=kΨ:=x;change bŏ=kΨ;show gł
 | met f y=>have e:ġ=kΩ:=x;change bŏ=kΩ;show gł
 | ext φ=>let⟨p,⟨o,e⟩,st⟩:=x;show#[st _ _ p λo q=>k _ _ ř q,#[o,ϖ],st]
theorem lN.lt (x:Ś)(e:bϟ):dϖ:=(x a o e).lt
def lN.fresh (x:Ś)(e:eŞ):aϚ:=by
 cases q:H a with
 | none=>rfl
 | some u=>show absurd (aP (x.lt q) e) aç
theorem lN.kept (x:Ś)(k: lĜ):lN P w H h':=λa o e=>(x a o e).jo (λb u _ q=>ať) bϢ bϣ
theorem lN.laid (x:Ś)(k: lĜ)(hp:eŞ)(new:eL P w cĜ h' a o):lN P w cĜ h':=λb u e=>by have hn:=x.fresh hp;by_cases hb:b=a;subst hb;rw[bX] at e;cases e;show new;rw[aÃ] at e;show(x b u e).jo (λc v _ q=>k c v q) (λc q=>by rw[dÿ];show q) λc xs q=>by rw[dÿ];show q
universe e
def Rd (H:Hp)(a:iB)(u:HO):Prop:=H a=á \/ ∃o,H a=eş
def Rd.ok {P:pF}{w:World}{H:Hp}{h:Heap}{a:iB}{u:HO}(r:Rd H a u)(x:Ś):eŠ:=by obtain r | ⟨o,r⟩:=r;show x a u r;let⟨_,q⟩:=x a _ r;show q
def WY:gk HO ->Prop
 | some (aè)=>True
 | some (.dK _)=>True
 | some (.dT _)=>True
 | some (.set _ _)=>True
 | some (.ins _ _ _)=>True
 | some (.ext _)=>True
 | _=>False
section
variable {P:pF}{w:World}{H:Hp}{h h':Heap}{x e:iB}{o':HO}
theorem lN.write (ok:Ś)(mu:aϛ)(he:iŔ)(k: lϓ)(Tb: hŤ) (new:eL P w dĀ h' x o'):lN P w dĀ h':=λb u q=>by
 have Vw: ∀c y,H c=some (.own y) ->c≠x:=λc y r z=>by subst z;rw[r] at mu;show mu
 have ZZ: ∀c xs,gŃ ->c≠x:=λc xs r z=>by subst z;rw[r] at mu;show mu
 by_cases hb:b=x;subst hb;rw[bX] at q;cases q;show new;rw [aÃ] at q;by_cases Ng:b=e;have q':H b=some aϜ:=by obtain z | z:=he;show absurd (Ng.trans z) hb;rw[Ng];show z
 rw[q] at q';cases q';let⟨v,hv⟩:=Tb;show#[v,by rw[Ng];show hv];exact(ok b u q).jo (λc v hc r=>k c v ?_ r) (λc r=>by rw[bH (Vw c b r)];show r) λc xs r=>by rw[bH (ZZ c xs r)];show r
 obtain rfl | hc:=hc;show Ng;rintro rfl;obtain z | z:=he;show Vw c b hc z;rw[hc] at z;cases z;show hb rfl
universe e
structure Un (fs ex:bŐ)(H H':Hp)(h h':Heap):Prop where
 keep: ∀b o,Ψ ->ğ ->b∉fs ->aé ->fŝ
 slot: ∀b o,Ψ ->ğ ->b∈fs ->aé -> lç
 free: ∀b o,Ψ ->ğ ->aé ->bő
 there: ∀b o,Ψ ->aé -> iā
 lT: lΡ
 kP: lϔ
 nB: mŁ
section
variable {fs fs' ex ex':Í}{H H1 H2:Hp}{h h1 h2 h':Heap}{a x e:iB}{o:HO}
def Un.any (u:Un fs ex H H1 h h1){b:iB}{ob:Obj}(q:aϙ=some ob)(n:ğ)(hx:aé): ∃sl,h1.get? b=some {ob with slots:=sl}:=by by_cases hb:b∈fs;show u.slot b ob q n hb hx;show#[ob.slots,u.keep b ob q n hb hx]
theorem Un.kept (k: lĜ):Un fs ex H H h h':=#[λb ob q _ _ _=>aϝ,λb ob q _ _ _=>#[ob.slots,aϝ],λ_ _ _ n _=>n,λb ob q _=>#[ob,aϝ],bϣ,λ_ _ _ q=>q,λ_ ps q=>hă]
theorem Un.refl:Un fs ex H H h h:=Un.kept bϣ
theorem Un.laid (k: lĜ)(hp:eŞ)(hn:aϚ):Un fs ex H cĜ h h' where
 keep:=λb u q _ _ _=>ať
 slot:=λb u q _ _ _=>#[u.slots,ať]
 free:=λb u q n _=>by rw[bH (be (aP (aI q) hp))];show n
 there:=λb u q _=>#[u,ať]
 lT:=λb xs q=>by rw[dÿ];show q
 kP:=λb u xs q=>by rw[dÿ];show q
 nB:=λb ps q=>#[#[],by rw[dÿ,q];simp]
def Un.write (mu:aϛ)(he:iŔ)(k: lϓ)(Tb: hŤ):Un fs ex H cĝ h h':=by
 have hx: ∀b,ğ ->b≠x:=λb n z=>by subst z;rw[n] at mu;show mu
 have hb: ∀b,ğ ->aÄ:=λb n z=>by subst z;obtain r | r:=he;show hx b n r;rw[n] at r;cases r
 have hm: ∀b u,bϠ ->¬WY (á) ->b≠x:=λb u q nm z=>by subst z;rw[q] at mu;show nm mu
 exact#[λb u q n _ _=>fŞ,λb u q n _ _=>#[u.slots,fŞ],λb u q n _=>by rw[bH (hx b n)];show n,λb u q _=> ?_,λb xs q=>by rw[hĄ];show q,λb u xs q=>by rw[hĄ];show q,λb ps q=>#[#[],by rw[hĄ,q];simp]];by_cases Ng:b=e;subst Ng;show Tb;show#[u,k b u Ng q]
universe e
def XM (h:Heap)(H:Hp):Í:=(hϬ).filter λa=>(H a).isSome
def yL (h:Heap)(H:Hp):Heap:=W.hideAll h aϞ
theorem Gi (h:Heap)(H:Hp):(yL h H).objs.size=h.objs.size:=W.hideAll_size _ _
theorem J3 {h:Heap}{H:Hp}{b:iB}{o:Obj}(e:Ψ)(n:ğ):fé=ä:=cZ _ e λhm=>by have q:(H b).isSome=true:=(List.mem_filter.mp hm).2;rw[n] at q;simp at q
def My {h:Heap}{H:Hp}{b:iB}{o:Obj}(e:fé=ä):Ψ /\ ğ:=by
 have e':Ψ:=W.of_hideAll aϞ e;exact#[e',?_];cases q:H b with
 | none=>rfl
 | some x=>have hm:b∈XM h H:=List.mem_filter.mpr #[List.mem_range.mpr (aI e'),by simp[q]];have z:fé=none:=W.hideAll_none aϞ hm;rw[z] at e;cases e
def NI (g h:Heap)(L:iB):Ÿ:=(hϬ).filterMap λa=>if a=L \/ (g.get? a).isSome=true then none else(ġ).map λo=>(a,o)
def rest (g h:Heap)(L d:iB):Ÿ:=(NI g h L).filter λp=>decide (p.1≠d)
structure Mod (K:PySem.W.Frag)(mg:gń)(base:Heap):Prop where
 OX:bŒ
 glob:hϭ
 blt: ∃mb,base.Ns builtinsNs mb /\ lθ
 nolimit:base.NoLimit
structure Cx where
 prog:Program
 w:World
 K:PySem.W.Frag
 mg:gń
 base:Heap
 A:Around
 N:aϟ
 s₀:Shared
 H₀:Hp
 env:Env
 outer:aϠ
 stack:aϠ
 ex:bŐ
 fn:Str ->Bool
 calm:Bool
 pn:fş
 xe:hť
def gr (l:è):Í:=l.filterMap (·.frame)
abbrev Cx.fs (X:Cx):Í:=bϤ
def YA (sc:Scope)(x:Str):Prop:=gÅ=ŧ \/ jţ \/ gÅ=ś
def Loc (sc:Scope)(x:Str):Prop:=mħ
def Look (env:Env)(h:Heap)(m:Ũ)(x:Str)(u:eC):Prop:=(dĂ=ŧ /\ m x=á) \/ ((dĂ=bϥ \/ dĂ=ś) /\ ∃c,iΝ /\ h.IsCell c (á))
structure Cx.Ok (X:Cx):Prop where
 mod:gϠ
 kind:X.env.scope.kind= .function
 glob:X.env.globals=mainGlobals
 blt:X.env.builtins=builtinsNs
 above:X.s₀.heap.objs.size<=X.env.locals
 inj: ∀x y c,Ϯ ->X.env.cells.lookup y=é ->x=y
 has: ∀x,(eŢ=bϥ \/ eŢ=ś) -> ∃c,Ϯ
 Tl: ∀x c,cĞ ->Ϯ ->X.s₀.heap.objs.size<=c
 hd:ũ ->X.A.handled=none
 frames:X.A.frames=some X.stack
 Qk:X.stack=X.outer \/ (hϮ /\ jΘ)
 exf: ∀b∈X.ex,fŠ /\ lį
 bs: ∀b o,hĆ ->iΞ /\ dϚ
 KJ:X.base.objs.size<=X.s₀.heap.objs.size
 FS: ∀b o,hĆ ->aϡ
 CD: ∀b∈X.ex,aϢ
 mH:X.s₀.heap.FunFrames X.base X.outer
 G_: ∀b∈X.fs,dϚ
structure Inv (X:Cx)(ag:fş)(σ:List (Option V))(H:Hp)(s:Shared):Prop where
 ok:X.Ok
 os:s.os=X.s₀.os
 bare:eŤ
 base:Un X.fs X.ex X.H₀ H X.s₀.heap s.heap
 loc: ∃m,iŕ /\ ∀ (i:Nat) (x:Str) (v:V),fë ->hŦ ->fš -> ∃u,Ğ /\ Look X.env s.heap m x u
 cell: ∀x c,Ϯ -> ∃v,gÆ
 free:H X.env.locals=none
 gU: ∀x c,Ϯ ->H c=none
 pin: ∀p∈aϤ,nð
 c9:lN X.prog X.w H s.heap
 len:σ.length=X.N.length
section
variable {X:Cx}{ag:Ÿ}{σ:bœ}{H H':Hp}{s:eY}{h':Heap}
theorem Cx.Ok.Z4 (ok:X.Ok){b:iB}{o:Obj}(e:hĆ):aϢ:=λhb=>by have:=(ok.mH.mem hb).1;rw[e] at this;cases this
theorem Inv.bs (I:Ω): ∀b o,hĆ ->Ϥ /\ ğ:=λb o e=>#[I.base.keep b o fì.1 fì.2 (I.ok.Z4 e) fí,I.base.free b o fì.1 fì.2 fí]
theorem Inv.bk (I:Ω): ∀b o,hĆ ->Ϥ:=λb o e=>(I.bs b o e).1
theorem Inv.mod (I:Ω):gϠ:=I.ok.mod
theorem Inv.mx (I:Ω):X.K.In s.heap:=I.ok.mod.OX.keeps I.bk
theorem Inv.fr (I:Ω): ∃m,Fr X.base X.env.locals s.heap m:=
 let ⟨m,hn,_⟩:=I.loc
 #[m,hn,I.bk,hŧ]
theorem Inv.lt (I:Ω):X.env.locals<s.heap.objs.size:=let ⟨_,hn,_⟩:=I.loc;hn.lt
theorem Inv.sz (I:Ω):X.s₀.heap.objs.size<=s.heap.objs.size:=az I.ok.above (Nat.le_of_lt I.lt)
theorem Inv.Z3 (I:Ω){a:iB}(h:gϡ):a∉X.fs:=λhb=>by let⟨_,o,ho,_⟩:=eť;show absurd (aP (aI ho) (az I.sz h)) aç
theorem Inv.KC (I:Ω): ∀x c,Ϯ ->c≠X.env.locals:=λx c e z=>by let⟨v,o,ho,hd⟩:=dă;let⟨m,⟨o',es,ep,JX,Cu,_⟩,_⟩:=I.loc;rw[z,JX] at ho;cases ho;rw[Cu] at hd;cases hd
def Inv.mH (I:Ω):s.heap.FunFrames X.base X.outer:=by
 have all: ∀ (l:è),(∀b∈gr l,b∈X.fs) ->X.s₀.heap.FunFrames X.base l ->s.heap.FunFrames X.base l:=by
  intro l;induction l with
  | nil=>intro _ _;trivial
  | cons env r ih=>intro hs hl;let⟨hk,⟨L,o,hf,hn,ho,hd⟩,hr⟩:=hl;have hL:L∈X.fs:=hs L (by unfold gr;rw[c7,hf];show bq);let⟨sl,e⟩:=I.base.slot L o ho (I.ok.G_ L hL) hL λz=>I.ok.CD L z hL;show#[hk,#[L,_,hf,hn,e,hd],ih (λb hb=>hs b (by unfold gr;rw[c7,hf];show aŧ)) hr]
 show all X.outer (λ_ hb=>hb) I.ok.mH
def Inv.stack (I:Ω):s.heap.FunFrames X.base X.stack:=by obtain e | ⟨e,hf⟩:=I.ok.Qk;rw[e];show I.mH;rw[e];let⟨m,hn,_⟩:=I.loc;exact .cons (by rw[I.ok.kind];decide) hf hn ?_ I.mH;show Heap.get?_none_of_le (hŧ)
theorem Inv.xW (I:Ω): ∀b∈bϦ,b∈X.env.locals::X.fs:=λb hb=>by obtain e | ⟨e,hf⟩:=I.ok.Qk;rw[e] at hb;show aŧ;rw[e] at hb;unfold gr at hb;rw[c7,hf] at hb;show hb
theorem Inv.o0 (I:Ω): ∀b∈bϦ,ğ:=λb hb=>by obtain e | hb:=au.mp (I.xW b hb);rw[e];show I.free;let⟨_,o,ho,_⟩:=eť;show I.base.free b o ho (I.ok.G_ b hb) λz=>I.ok.CD b z hb
def Inv.step {g':eŦ}{t':Nat}{d':Drawn}{ch:Í}(I:Ω) (G': nĬ) (keep: ∀b o,fŠ ->aϢ ->aê ->Ϥ ->ğ ->fŝ) (slot: ∀b o,fŠ ->b∈X.fs ->aê ->Ϥ ->ğ -> lç) (free: ∀b o,aê ->Ϥ ->ğ ->bő) (there: ∀b o,aê ->Ϥ -> iā) (lT: lΡ) (kP: lϔ) (nB: mŁ) (ns: ∀m,iŕ ->h'.Ns X.env.locals m) (c9:gϢ) (hg:AllBare g'): mĝ:=by
 have neL: ∀b o,iΞ ->fŠ:=λb o e=>iΟ;have X1: ∀b o,iΞ ->aϡ ->aê:=λb o e hx hb=>by obtain z | z:=(G' b hb).1;show hx z;show absurd (aP aë z) aç
 have cellK: ∀x c,Ϯ -> ∀v,gÆ ->h'.IsCell c v:=λx c e v ⟨o,ho,hd⟩=>by have Vz:c∉ch:=jΙ;by_cases hc:c∈X.fs;let⟨sl,q⟩:=slot c o dĄ hc Vz ho dą;show#[_,q,hd];show#[o,keep c o dĄ hc Vz ho dą,hd]
 exact#[I.ok,I.os,hg,#[hć,hć,λb o e n hx=> ?_,fî,λb xs e=>lT b xs (I.base.lT b xs e),λb o xs e=>kP b o xs (I.base.kP b o xs e),λb ps e=> ?_],?_,dĆ,?_,dĆ,cğ,c9,I.len];show keep b o cĠ hb dϝ jĘ iŖ;let⟨sl,e1⟩:=iΡ;let⟨ZD,e2⟩:=slot b _ cĠ hb dϝ e1 iŖ;show#[ZD,e2];let⟨o',e1⟩:=hŨ;show free b o' dϝ e1 iŖ;let⟨o',e1⟩:=hŨ;show there b o' dϝ e1;let⟨m1,e1⟩:=I.base.nB b ps e;let⟨m2,e2⟩:=nB b _ e1;show#[m1++m2,by rw[e2,Array.append_assoc]];let⟨m,hn,hl⟩:=I.loc;exact#[m,ns m hn,hũ];let⟨u,r,l⟩:=hl i x v e1 e2 e3;exact#[u,r,?_];obtain l | ⟨k,c,e,z⟩:=l;show .inl l;show .inr #[k,c,e,cellK x c e _ z];let⟨v,z⟩:=dă;show#[v,cellK x c e v z];let⟨m,⟨o,_,_,ho,_⟩,_⟩:=I.loc;show free _ o (hŪ) ho I.free;let⟨v,o,ho,hd⟩:=dă;show free c o (jΙ) ho dą;let⟨e,n,ne,nf,d⟩:=bϧ;have Vz:p.1∉ch:=λz=>(G' p.1 z).2.2.2 p hp rfl;show#[keep p.1 p.2 ne nf Vz e n,free p.1 p.2 Vz e n,ne,nf,d]
def Inv.un {t':Nat}(I:Ω)(u:Un X.fs [] H H' s.heap h')(c9:gϢ):Inv X ag σ H' jÍ:=by let⟨m,gņ,_⟩:=aϦ;let⟨sl,hL⟩:=u.any ho I.free Ň;show I.step (g':=s.gens) (d':=s.drawn) (ch:= []) gŇ (λb o _ hb _ e n=>u.keep b o e n hb Ň) (λb o _ hb _ e n=>u.slot b o e n hb Ň) (λb o _ e n=>u.free b o e n Ň) (λb o _ e=>u.there b o e Ň) u.lT u.kP u.nB mϧ c9 I.bare
def Inv.call {g':eŦ}{t':Nat}{d':Drawn}{ch:Í}(I:Ω)(u:Un dć ch H H' s.heap h')(c9:gϢ)(hg:AllBare g') (G': nĬ): mĝ:=by let⟨m,gņ,_⟩:=aϦ;let⟨sl,hL⟩:=u.any ho I.free hŪ;show I.step (ch:=ch) G' (λb o hL hb hc e n=>u.keep b o e n (λz=>(fŢ).elim hL hb) hc) (λb o _ _ hc e n=>u.any e n hc) (λb o hc e n=>u.free b o e n hc) (λb o hc e=>u.there b o e hc) u.lT u.kP u.nB mϧ c9 hg
def Inv.turned {t':Nat}{it:iB}(I:Ω)(k: ∀b o,b≠it ->lè)(hn:H it=none)(hL:it≠X.env.locals) (h1:it∈X.ex \/ X.s₀.heap.objs.size<=it) (h2: ∀x c,Ϯ ->c≠it) (h3: ∀p∈aϤ,p.1≠it):lĀ:=by
 have nit: ∀b u,bϠ ->b≠it:=λb u e z=>by rw[z,hn] at e;cases e
 exact I.step (g':=s.gens) (d':=s.drawn) (ch:= [it]) (cġ) (λb o _ _ hc e _=>jϫ) (λb o _ _ hc e _=>#[o.slots,jϫ]) (λ_ _ _ _ n=>n) (λb o hc e=>#[o,jϫ]) (λ_ _ e=>e) (λ_ _ _ e=>e) (λb ps e=>#[#[],by rw[e];simp]) (cĢ) eŧ I.bare;have e:b=it:=by simpa using hb
 subst e;show#[h1,hL,h2,h3];let⟨o,es,ep,ho,r⟩:=hm;show#[o,es,ep,k _ o (cE hL) ho,r];exact(I.c9 b u e).jo (λc v hc q=>k c v ?_ q) bϢ bϣ;obtain z | z:=hc;rw[z];show nit b u e;show nit c _ z
theorem Inv.tok (I:Ω)(t:Nat):Inv X ag σ H {s with toks:=t}:=I.un (h':=s.heap) (t':=t) Un.refl I.c9
theorem Inv.kept {t':Nat}(I:Ω)(k: lι):lĀ:=I.un (Un.kept k) (I.c9.kept k)
theorem Inv.laid {a:iB}{o:HO}{t':Nat}(I:Ω)(k: lι)(hp:gϡ)(new:eL X.prog X.w cĜ h' a o): Inv X ag σ cĜ jÍ:=I.un (Un.laid k hp (I.c9.fresh hp)) (I.c9.laid k hp new)
theorem Inv.write {x e:iB}{o:HO}{t':Nat}(I:Ω)(mu:aϛ)(he:iŔ)(k: ∀b u,aÄ ->lé)(Tb: hŤ) (new:eL X.prog X.w cĝ h' x o):Inv X ag σ cĝ jÍ:=I.un (Un.write mu he k Tb) (I.c9.write mu he k Tb new)
theorem Inv.weak {σ':bœ}(I:Ω)(hl:σ'.length=σ.length)(w: ∀ (i:Nat) v,σ'[i]? =dϛ ->hŦ):Inv X ag σ' H s:=#[I.ok,I.os,I.bare,I.base,let ⟨m,hn,J0⟩:=I.loc;#[m,hn,λi x v e1 e2 e3=>J0 i x v e1 (w i v e2) e3],I.cell,I.free,I.gU,I.pin,I.c9,hl.trans I.len]
theorem Inv.DQ {jV:Ÿ}(I:Ω)(h: ∀p∈jV,nð):Inv X jV σ H s:=#[I.ok,I.os,I.bare,I.base,I.loc,I.cell,I.free,I.gU,λp hp=>fï (λz=>I.pin p (List.mem_append_left _ z)) (h p),I.c9,I.len]
def uD {N:ê}(hN:N.Nodup){i j:Nat}{x:Str}(a:N[i]? =à)(b:N[j]? =à):i=j:=by let⟨h1,e1⟩:=bu.mp a;let⟨h2,e2⟩:=bu.mp b;show(List.getElem_inj hN).mp (e1.trans e2.symm)
def qE {M:Model}{A:Around}{E:Ε}{i:Nat}{x:Str}{v:V}{u:eC}{Q:Ϗ}(I:Ω)(hN:X.N.Nodup)(hi:fë)(hx:gÇ)(r:Ğ) (h: ∀s',kņ ->(∃a,Heap.SameBut a s.heap s'.heap /\ (a=X.env.locals \/ hą=ë)) ->aŨ) (hf:mÒ:=by first | show Ĥ | show ĥ | assumption):kϪ:=by
 let⟨m,hn,hl⟩:=aϦ;have RT:nâ:=by rw[I.ok.kind];rfl
 have Yh:cģ:=by rw[I.len];show dĉ
 have KC:=I.KC;have tracked: ∀ {a:iB} {h':Heap},(∃o,dϞ=ä /\ aϚ) ->iŗ ->gň:=λ{a h'} ha hs b ob e=>by let⟨_,_,O9⟩:=ha;exact mυ;rintro rfl;obtain rfl | hc:=hc;rw[O9] at e;cases e;rw[O9] at hc;cases hc
 obtain hk | hk:=hx;exact wpAny_storeName_local hk hn (λh' V0 hs=> ?_) RT;let⟨oL,_,_,hoL,_⟩:=id hn;exact h _ #[I.ok,I.os,I.bare,nñ,jϬ,dĊ,I.free,I.gU,cğ,tracked #[oL,hoL,I.free] hs, aϧ] #[_,hs, Ĥ];show lİ jĘ;let⟨sl,e1⟩:=iΡ;show lϲ;let⟨o',e1⟩:=hŨ;show lϳ;by_cases hj:j=i;subst hj;rw[hi] at e1;cases e1;rw[iΤ] at e2;cases e2;show#[u,r, .inl #[hk,by simp]];rw[jŤ] at e2;let⟨u',r',q⟩:=gŉ;exact cĤ;rcases q with⟨k,e⟩ | ⟨k,c,e,z⟩
 exact dċ;have:y≠x:=ję;simp[this,e];show kϫ;let⟨w',z⟩:=dČ;show#[w',iĂ];let⟨e,n,ne,nf,d⟩:=bϧ;show kŨ;have hfn:cĞ:=by obtain z | z:=hf;show z;rw[z] at hk;cases hk
 let⟨c,hc⟩:=I.ok.has x (aũ);let⟨w',z⟩:=I.cell x c hc;exact wpAny_storeName_cell I.ok.kind hk hc z (λh' Wd hs=> ?_);let⟨oc,hoc,_T⟩:=id z;exact h ϔ #[I.ok,I.os,I.bare,nñ,#[m,hn.sameBut hs (cE (KC x c hc)),hϯ],λy c' e=> ?_,I.free,I.gU,cğ,tracked #[oc,hoc,I.gU x c hc] hs, aϧ] #[c,hs, .inr hc];show mÇ jĘ;let⟨sl,e1⟩:=iΡ;show#[sl,mÇ e1];let⟨o',e1⟩:=hŨ;show#[o',mÇ e1];by_cases hj:j=i;subst hj;rw[hi] at e1;cases e1;rw[iΤ] at e2;cases e2;show#[u,r, .inr #[aũ,c,hc,Wd]];rw[jŤ] at e2;let⟨u',r',q⟩:=gŉ;exact cĤ;obtain q | ⟨k,c',e,z'⟩:=q;show aì;exact .inr #[k,c',e,z'.sameBut hs ?_];rintro rfl;show hj (uD hN e1 (I.ok.inj _ _ _ e hc▸hi));by_cases Wb:c'=c;subst Wb;show#[_,Wd];let⟨w2,z2⟩:=I.cell y c' e;show#[w2,z2.sameBut hs Wb];let⟨e,n,ne,nf,d⟩:=bϧ;exact#[(hs.2 p.1 ?_).trans e,n,ne,nf,d];intro q;rw[q,hoc] at e;have q':oc=p.2:=bF e;show d w' (by rw[<- q'];show _T)
theorem oZ {M:Model}{A:Around}{E:Ε}{i:Nat}{x:Str}{v:V}{u:eC}{Q:Ϗ}(I:Ω)(hN:X.N.Nodup)(hi:fë)(hx:gÇ)(r:Ğ) (h: ∀s',kņ ->aŨ) (hf:mÒ:=by first | show Ĥ | show ĥ | assumption):kϪ:=qE I hN hi hx r (λs' I' _=>h s' I') hf
def Inv.E1 {s':eY}{ch:Í}(I:Ω)(ho:s'.os=s.os)(u:Un dć ch H H' s.heap s'.heap)(c9:lN X.prog X.w H' s'.heap)(hg:fð) (G': nĬ):gÈ:=by let⟨h',g',d',t',o'⟩:=s';have e:o'=s.os:=ho;subst e;show I.call (g':=g') (t':=t') (d':=d') u c9 hg G'
universe e
abbrev XK:=eC ->Î ->ŉ
abbrev St:=bœ
abbrev VK:=dϟ
abbrev TE:=St ->eŨ
abbrev TT:=St ->jϭ
abbrev TA:=St ->Hp ->(fŤ) ->Prop
structure kZ where
 nx:Ζ
 rt:VK
 bk:Ζ:=Ź
 ct:Ζ:=Ź
abbrev TS:=kZ ->Ζ
def EP (X:Cx)(ag:Ÿ)(σ:St)(Q:VK)(u:eC)(s':eY):Prop:=cU λv H'=>dh (gÈ) (Ğ) (aí)
def TP (X:Cx)(ag:Ÿ)(σ:St)(Q:fţ)(b:Bool)(s':eY):Prop:= ∃H',gÈ /\ Q b H'
def AP (X:Cx)(ag:Ÿ)(σ:St)(Q:fŤ)(us:Ê)(s':eY):Prop:=cU λvs H'=>dh (gÈ) (aϨ) (Q vs H')
def SP (X:Cx)(ag:Ÿ)(D:kZ)(f:Flow)(s':eY):Prop:=
 match f with
 | .next=>cU λσ' H'=>gŊ /\ cĥ
 | .brk=>cU λσ' H'=>gŊ /\ cĦ
 | .cont=>cU λσ' H'=>gŊ /\ cħ
 | .ret u=>gh λv σ' H'=>dh (gŊ) (Ğ) (D.rt v H')
def PE (X:Cx)(e:Expr)(t:TE):Prop:=∀ (ag:Ÿ) (s:eY) (σ:St) (H:Hp) (Q:VK),Ω ->Ħ ->wpAny ϗ X.A (dč) Η X.xe s
def PT (X:Cx)(e:Expr)(t:TT):Prop:=∀ (ag:Ÿ) (s:eY) (σ:St) (H:Hp) (Q:fţ),Ω ->Ħ ->wpAny ϗ X.A (isTrue e X.env (dč)) eũ X.xe s
def PW (X:Cx)(e:Expr)(t:TT):Prop:=∀ (nK:aî) (ag:Ÿ) (s:eY) (σ:St) (H:Hp) (Q:fţ),Ω ->Ħ ->wpAny ϗ X.A (gÉ) eũ X.xe s
theorem PW.pt {X:Cx}{e:Expr}{t:TT}(h:PW X e t):PT X e t:=h _
def PA (X:Cx)(es:Đ)(t:TA):Prop:=∀ (pos:Pos) (ag:Ÿ) (s:eY) (σ:St) (H:Hp) (Q:fŤ),Ω ->Ħ ->wpAny ϗ X.A lı eŪ X.xe s
def PS (X:Cx)(st:Stmt)(t:TS):Prop:=∀ (ag:Ÿ) (s:eY) (σ:St) (H:Hp) (D:kZ),Ω ->aϩ ->wpAny ϗ X.A fñ cĨ X.xe s
def vI (X:Cx)(st:aŪ)(t:TS):Prop:=∀ (ag:Ÿ) (s:eY) (σ:St) (H:Hp) (D:kZ),Ω ->aϩ ->wpAny ϗ X.A (execs st X.env) cĨ X.xe s
theorem dH {α:Type}{t:aï}{Q Q':eū}{M:Model}{A:Around}{E:Ε}{s:eY}(h:gË)(hQ: ∀a s,Q a s ->Q' a s):wpAny M A t Q' E s:=bf h hQ bϨ
section
variable {X:Cx}
def bin {a b:Expr}{ta tb:TE}(ha:Ŋ)(hb:bŔ){ag:Ÿ}{s:eY}{σ:St}{H:Hp}{R:V ->dϟ}(I:Ω)(h:lĝ) {α:Type} {Q:eū} {f:eC ->eC ->aï} (hf: nć): nĽ:=by exact mç;exact mĐ;show jť
def LX (i:Nat):TE:=λσ H Q=> ∃v,hŦ /\ Q v H
def tC (v:V):TE:=λ_ H Q=>Q v H
def QH {i:Nat}{x:Str}{pos:Pos}(hN:fë)(hv:fš)(hd:ϰ:=by decide)(Ey:kŇ:=by decide):iΥ:=by
 intro ag s σ H Q I h;let⟨v,e,h⟩:=h;let⟨m,hn,hl⟩:=I.loc;let⟨u,r,l⟩:=hl i x v hN e hv;have j':EP X ag σ Q u s:=dď
 rcases l with⟨hk,hm⟩ | ⟨hk,c,hc,Pa⟩
 show wpAny_Name (wpAny_loadName_local I.ok.kind hk hn hm j') hd;obtain hk | hk:=hk;show wpAny_Name (wpAny_loadName_cell I.ok.kind hk hc Pa j') hd;show wpAny_Name (wpAny_loadName_free I.ok.kind hk hc Pa j' Ey) hd
theorem ao {i j pos}:PE X (.Constant aϪ j pos) (tC aϪ):=λ_ _ _ H _ I h=>wpAny_Constant_int #[Þ,H,đ,ĩ,h]
theorem gj {b j pos}:PE X (.Constant (aū) j pos) (tC aŬ):=λ_ _ _ H _ I h=>Constant_bool #[É,H,I,rfl,h]
theorem a9 {x j pos}:PE X (.Constant aϫ j pos) (tC aϫ):=λ_ _ _ H _ I h=>Calls.Constant_str #[aå,H,đ,ĩ,h]
def Gl (X:Cx)(x:Str):Prop:=eŢ=some .globalImplicit
theorem pH {E:Ε}{ag:Ÿ}{s:eY}{σ:St}{H:Hp}{x:Str}{u:eC}{pos:Pos}{Q:Ε}(I:Ω)(hg:ì)(hm:dϡ)(h:Q u s) (hd:ϰ:=by decide):mĨ:=nČ
def uI {E:Ε}{ag:Ÿ}{s:eY}{σ:St}{H:Hp}{x:Str}{u:eC}{pos:Pos}{Q:Ε}(I:Ω)(hg:ì)(hm:cĩ)(hv:eš=á)(h:Q u s) (hn:fê :=by decide) (hd:ϰ:=by decide):mĨ:=by let⟨mb,h1,h2⟩:=I.mod.blt;show Calls.Name_function_global I.ok.kind hg (Calls.loadGlobal_builtin lŲ hm (by rw[I.ok.blt];show h1.keeps I.bk) ((h2 x hn).trans hv) h) hd
theorem fR {x:Str}{v:V}{u:eC}{pos:Pos}(hg:ì)(hm:dϡ)(r:Ğ)(hd:ϰ:=by decide):iΦ:=λ_ _ _ H _ I h=>pH I hg hm dď hd
theorem iV {x:Str}{v:V}{u:eC}{pos:Pos}(hg:ì)(hm:cĩ)(hv:eš=á)(r:Ğ)(hn:fê :=by decide)(hd:ϰ:=by decide):iΦ:=λ_ _ _ H _ I h=>uI I hg hm hv dď hn hd
variable {a b:Expr}{ta tb:TE}{pos:Pos}
def PC (X:Cx)(op:CmpOp)(a b:Expr)(t:TE):Prop:=∀ (ag:Ÿ) (s:eY) (σ:St) (H:Hp) (Q:VK),Ω ->Ħ ->wpAny ϗ X.A (dĎ) (λv s₁=>wpAny ϗ X.A eŬ (λu s₂=>wpAny ϗ X.A (compareOp op v u) Η X.xe s₂) X.xe s₁) X.xe s
def Jg (b:Expr){op:CmpOp}(h:op≠ .In)(h2:dĐ):iř:=by
 have e1:hĊ:=by cases op<;>first | rfl | show dđ
 have e2:iă:=by cases op<;>first | rfl | show dϢ
 cases b<;>simp[behindInMarks,e1,e2]
def tB (t:TE):TT:=λσ H Q=>t σ H λx H1=> ∃c,aϬ /\ Q c H1
def oy {op:CmpOp}{t:TE}(h:PC X op a b t)(h1:iř:=by first | show Jg _ ⋯ ⋯ | rfl):PT X iΧ (tB t):=by intro ag s σ H Q I hw;exact wpAny_isTrue_Compare1 (dH hċ λv s1 h1=>dH h1 λu s2 h2=>dH h2 λc s3 ϝ=> ?_) h1;let⟨d,rfl,q⟩:=q1;cases r1;show dϣ
def eB {e:Expr}{t:TE}(h:PE X e t)(he: ∀nK,gÉ=(do let v <- nK;standAt e.pos;hϰ):=by intro _;rfl):PT X e (tB t):=by intro ag s σ H Q I hw;exact isTrue_plain (dH hċ kç) (he _);let⟨d,rfl,q⟩:=q1;cases r1;show dϣ
variable {tA XQ:TT}{rest:Đ}
def UH (t u:TT):TT:=λσ H Q=>t σ H λc H1=>if í then u σ H1 Q else Q false H1
def tOr (t u:TT):TT:=λσ H Q=>t σ H λc H1=>if í then Q true H1 else u σ H1 Q
def Uy (t:TT):TT:=λσ H Q=>t σ H gÌ
def io (ha:bŕ):PW X (.BoolOp .And [a] pos) tA:=by
 intro wh ag s σ H Q I h;exact isTrue_and lê;cases c with
 | true=>show isTrue_and_nil e
 | false=>show e
def fo (ha:bŕ):PW X (.BoolOp .Or [a] pos) tA:=by
 intro wh ag s σ H Q I h;exact isTrue_or lê;cases c with
 | false=>show isTrue_or_nil e
 | true=>show e
def jK (ha:bŕ)(hb:PW X jŦ XQ):PW X kè (UH tA XQ):=by
 intro wh ag s σ H Q I h;exact isTrue_and mÈ;cases c with
 | true=>show iΨ
 | false=>show cĪ
def fF (ha:bŕ)(hb:PW X jĚ XQ):PW X jϯ (tOr tA XQ):=by
 intro wh ag s σ H Q I h;exact isTrue_or mÈ;cases c with
 | true=>show cĪ
 | false=>show iΨ
def eX (ha:bŕ):PT X hŬ (Uy tA):=by intro ag s σ H Q I h;show isTrue_not (ha ag s σ H (gÌ) I h)
def Ov (ta tb:TE):TE:=λσ H Q=>ta σ H λx H1=> ∃c,aϬ /\ if í then bϩ else Q (bŖ) H1
def Uw (ta tb:TE):TE:=λσ H Q=>ta σ H λx H1=> ∃c,aϬ /\ if í then Q (aϭ) H1 else bϩ
def Op (ta:TE):TE:=λσ H Q=>ta σ H λx H1=> ∃c,aϬ /\ Q (.bl (!c)) H1
theorem ur {op}{t:TE}(h:PE X a t):PE X (.BoolOp op [a] pos) t:=λag s σ H Q I hw=>BoolOp_one (h ag s σ H Q I hw)
def yj (ha:Ŋ)(hb:PE X jŦ tb):PE X kè (Ov ta tb):=by
 intro ag s σ H Q I h;exact BoolOp_and (mç);let⟨c,rfl,q1⟩:=q1;cases r1;exact cM ?_;cases c with
 | true=>show hϱ
 | false=>show#[bŖ,H1,I1,rfl,q1]
def Vb (ha:Ŋ)(hb:PE X jĚ tb):PE X jϯ (Uw ta tb):=by
 intro ag s σ H Q I h;exact BoolOp_or (mç);let⟨c,rfl,q1⟩:=q1;cases r1;exact cM ?_;cases c with
 | false=>show hϱ
 | true=>show#[aϭ,H1,I1,rfl,q1]
def Is (ha:Ŋ):PE X hŬ (Op ta):=by intro ag s σ H Q I h;exact UnaryOp_ (mç);let⟨c,rfl,q1⟩:=q1;cases r1;show not_of (cM #[.bl (!c),H1,I1,rfl,q1])
def tIf (t:TT)(ta tb:TE):TE:=λσ H Q=>t σ H λc H1=>if í then ta σ H1 Q else bϩ
def Iv {c:Expr}(hc:PT X c tA)(ha:Ŋ)(hb:bŔ):PE X (.IfExp c a b pos) (tIf tA ta tb):=by
 intro ag s σ H Q I h;exact wpAny_IfExp mÉ;cases d with
 | true=>show ha ag s1 σ H1 Q I1 q1
 | false=>show hϱ
universe e
def gg (K:jv)(H:Hp)(a:iB)(xs:À):Prop:=Rd H a bŗ \/gh λ(o:Obj) (bN:Ġ) aŢ=>oR (bϪ=ä) (o.cls= ŷ) (cę) (gÄ) gϥ gÍ
def kY (K:jv)(H:Hp)(a:iB)(xs:À):Prop:=Rd H a ņ \/gh λ(o:Obj) (bN:Ġ) aŢ=>oR (bϪ=ä) (hĀ) (cę) (gÄ) gϥ gÍ
def aeS:eC ->gk V
 | .none=>some .fb
 | aū=>some aŬ
 | .int i _=>some aϪ
 | .str x _=>some aϫ
 | .bytes b _=>some (.CP b)
 | .float b _=>some (.Nn b)
 | ß=>some Ī
 | .type n=>some (.ty n)
 | _=>none
def RelV.abs {x:V}{u:eC}(r:ĝ):aeS u=à:=by
 cases x with
 | fb=>cases r;rfl
 | bl _=>cases r;rfl
 | int _=>let⟨t,rfl⟩:=r;rfl
 | str _=>let⟨t,rfl⟩:=r;rfl
 | CP _=>let⟨t,rfl⟩:=r;rfl
 | Nn _=>let⟨t,rfl⟩:=r;rfl
 | ref _=>cases r;rfl
 | ty _=>cases r;rfl
theorem RelV.inj {x y:V}{u:eC}(r:ĝ)(q:Ĩ):x=y:=bF (r.abs.symm.trans q.abs)
theorem cF.inj: ∀ {xs ys:À} {us:Ê},Ĝ ->cF ys us ->xs=ys
 | _,_,_, .nil, .nil=>rfl
 | _,_,_, bō, .cons r' t'=>by rw[aϮ,cF.inj t t']
section
variable {X:Cx}{ag:Ÿ}{σ:St}{H:Hp}{s:eY}{a:iB}{xs ys:À}
theorem gg.of {K:jv}(h:gŌ):cī:= .inl aϯ
theorem kY.of {K:jv}(h:H a=eŝ):cĬ:= .inl aϯ
def Inv.list (I:Ω)(h:dϤ): ∃bN:Ê,dh (aϖ) (PlainL s.heap a bN.toArray) hŭ:=by obtain h | ⟨o,bN,n,hk,hc,hd,hs,hz,r⟩:=h;let⟨z,bN,n,r,e⟩:=h.ok I.c9;show#[bN,r,#[_,n,e,rfl,rfl,rfl],z];exact#[bN.toList,r,#[o,n,cĭ,hc,hd, ⇑hs],?_];have e:=r.length;simp![Array.length_toList] at e;lia
def Inv.tuple (I:Ω)(h:dϥ): ∃bN:Ê,dh (aϖ) (IsTup s.heap a bN.toArray) hŭ:=by obtain h | ⟨o,bN,n,hk,hc,_,hs,hz,r⟩:=h;let⟨z,bN,r,p⟩:=h.ok I.c9;show#[bN,r,p.t,z];exact#[bN.toList,r,#[o,cĭ,hc,n, ⇑hs],?_];have e:=r.length;simp![Array.length_toList] at e;lia
def Inv.list_inj (I:Ω)(h:dϤ)(h':gg X.K H a ys):xs=ys:=by let⟨bN,r,⟨o,n,e,_,_,d⟩,_⟩:=I.list h;let⟨its',r',⟨o',n',e',_,_,d'⟩,_⟩:=I.list h';rw[e] at e';cases e';rw[d] at d';injection d' with d1 _;have:bN=its':= jΚ;subst this;show aϮ
def Inv.wD (I:Ω)(h:dϥ)(h':kY X.K H a ys):xs=ys:=by let⟨bN,r,⟨o,e,_,n,d⟩,_⟩:=I.tuple h;let⟨its',r',⟨o',e',_,n',d'⟩,_⟩:=I.tuple h';rw[e] at e';cases e';rw[d] at d';injection d' with d1 _;have:bN=its':= jΚ;subst this;show aϮ
universe e
abbrev Cx.qA (X:Cx)(E:Ε):Cx:= {X with xe:=E}
abbrev Cx.Jd (X:Cx):Cx:=X.qA Ź
theorem Cx.Ok.qA {X:Cx}(ok:X.Ok)(E:Ε):(X.qA E).Ok:=nĝ
theorem Cx.Ok.i9 {X:Cx}{E:Ε}(ok:(X.qA E).Ok):X.Ok:=nĝ
section
variable {X:Cx}{ag:Ÿ}{σ:St}{H:Hp}{s:eY}{E:Ε}
theorem Inv.qA (I:Ω)(E:Ε):hϲ:=#[I.ok.qA E,I.os,I.bare,I.base,I.loc,I.cell,I.free,I.gU,I.pin,I.c9,I.len]
theorem Inv.i9 (I:hϲ):Ω:=#[I.ok.i9,I.os,I.bare,I.base,I.loc,I.cell,I.free,I.gU,I.pin,I.c9,I.len]
def SP.i9 {D:kZ}{f:Flow}{s':eY}(h:SP (X.qA E) ag D f s'):SP X ag D f s':=by
 cases f with
 | next=>let⟨σ',H',I,q⟩:=h;show fŦ
 | brk=>let⟨σ',H',I,q⟩:=h;show fŦ
 | cont=>let⟨σ',H',I,q⟩:=h;show fŦ
 | ret u=>let⟨v,σ',H',I,r,q⟩:=h;show#[v,σ',H',I.i9,r,q]
theorem vI.Jd {st:aŪ}{t:TS}(h:vI X.Jd st t):vI X st t:=λag s σ H D I hw=>bf (h ag s σ H D aϰ hw) (λ_ _ q=>q.i9) hŮ
universe e
section
variable {X:Cx}{st:Stmt}{rest:aŪ}{t u:TS}{e:Expr}{te:TE}{pos:Pos}
def Oq:TS:=λD σ H=>D.nx σ H
def Qg (t u:TS):TS:=λD σ H=>t fŧ σ H
theorem bv:vI X [] Oq:=λ_ _ σ H _ I h=>wpAny_execs_nil cĮ
def ak (h1:PS X st t)(h2:vI X rest u):vI X (st::rest) (Qg t u):=by
 intro ag s σ H D I h;exact wpAny_execs_cons (dH (h1 ag s σ H fŧ I h) dϦ);cases f with
 | next=>let⟨σ',H',I',q⟩:=q;show h2 ag s1 σ' H' D I' q
 | ret v=>show q
 | brk=>show q
 | cont=>show q
def aw (h1:PS X st t):vI X [st] t:=by
 intro ag s σ H D I h;exact wpAny_execs_cons (dH (h1 ag s σ H D I h) dϦ);cases f with
 | next=>show gÎ
 | ret v=>show q
 | brk=>show q
 | cont=>show q
def Inv.quiet {ag:Ÿ}{σ:St}{H:Hp}{s:eY}(I:Ω):interactive X.env=false:=by simp[interactive,I.ok.kind]
def Ot (te:TE):TS:=λD σ H=>te σ H λ_ H1=>D.nx σ H1
def cN (he:ŋ)(hs:swapsWith e none pos.line X.env=bϫ:=by rfl):PS X (.Expr e pos) (Ot te):=by intro ag s σ H D I h;show wpAny_Expr_any (dH hČ λv s1 ϝ=>#[σ,H1,I1,q1]) I.quiet hs
def Uv (te:TE):TS:=λD σ H=>te σ H D.rt
def bp (he:ŋ):PS X (.Return aϱ pos) (Uv te):=by intro ag s σ H D I h;show wpAny_Return_some (dH hČ λv s1 ϝ=>#[x,σ,H1,I1,r1,q1])
def UA (c:TT)(t u:TS):TS:=λD σ H=>c σ H λb H1=>if î then t D σ H1 else u D σ H1
def cq {c:Expr}{a b:aŪ}{tc:TT}(hc:PT X c tc)(ha:vI X a t)(hb:vI X b u):PS X (.If c a b pos) cį:=by
 intro ag s σ H D I h;exact wpAny_If mÉ;cases d with
 | true=>show ha ag s1 σ H1 D I1 q1
 | false=>show hb ag s1 σ H1 D I1 q1
universe e
abbrev TG:=V ->kň
abbrev GK:=À ->kň
def PG (X:Cx)(jb:Expr)(t:TG):Prop:=∀ (ag:Ÿ) (s:eY) (σ:St) (H:Hp) (v:V) (u:eC) (Q:Ζ),Ω ->Ğ ->t v σ H Q ->wpAny ϗ X.A (assign jb X.env u) mÓ X.xe s
def WU (X:Cx)(ts:Đ)(t:GK):Prop:=∀ (ag:Ÿ) (s:eY) (σ:St) (H:Hp) (vs:À) (us:Ê) (Q:Ζ),Ω ->aϨ ->t vs σ H Q ->wpAny ϗ X.A (assignInOrder ((assignEach ts X.env).map aò) us) mÓ X.xe s
abbrev KW:=kω
def WJ (X:Cx)(t:KW):Prop:=∀ (ag:Ÿ) (s:eY) (σ:St) (H:Hp) (o i v:V) (ov iv u:eC) (Q:ŉ),Ω ->RelV o ov ->RelV i iv ->Ğ ->t o i v H Q ->wpAny ϗ X.A (setItem ov iv u) (λ_ s'=> ∃H',gÈ /\ Q H') X.xe s
section
variable {X:Cx}{pos:Pos}
def pS (i:Nat):TG:=λv σ H Q=>Q gϣ H
def bt {i:Nat}{x:Str}(hN:X.N.Nodup)(hi:fë)(hx:gÇ)(hf:mÒ:=by first | show Ĥ | show ĥ | assumption):PG X dϠ aó:=by intro ag s σ H v u Q I r h;show wpAny_assign_Name (oZ I hN hi hx r (λs' I'=>#[_,H,I',h]) hf)
def Sa:GK:=λvs σ H Q=>aô /\ Q σ H
def EA (t:TG)(u:GK):GK:=λvs σ H Q=>cU λv r=>vs=v::r /\ t v σ H λσ' H'=>u r σ' H' Q
def fB:WU X [] Sa:=by intro ag s σ H vs us Q I r h;let⟨e,h⟩:=h;subst e;cases r;show assignInOrder_nil cĮ
def cg {e:Expr}{es:Đ}{t:TG}{u:GK}(h1:PG X e t)(h2:WU X es u) (hs:(assignEach Ē X.env).map aò=eů::(gϦ).map aò:=by rfl):WU X Ē (EA t u):=by
 intro ag s σ H vs us Q I r h;let⟨v,vr,e1,h⟩:=h;subst e1;cases r with
 | cons r rr=>rw[hs];exact assignInOrder_cons (dH (h1 ag s σ H _ _ _ I r h) λ_ s1 ⟨σ1,H1,I1,q1⟩=> ?_);show h2 ag s1 σ1 H1 _ _ Q I1 rr q1
def R_ (K:jv)(n:Nat)(t:GK):TG:=λv σ H Q=>cU λa xs=>fE cİ (cĬ) (xs.length=n) (t xs σ H Q)
def iO {es:Đ}{k:Nat}{t:GK}{n:Nat}(hc:ũ)(h:WU X es t) (hn:(gϦ).length=n:=by rfl) (j8:(gϦ).findIdx? ç=none:=by rfl):PG X (.Tuple es k pos) (R_ X.K n t):=by intro ag s σ H v u Q I r hw;let⟨a,xs,e1,hq,hl,hw⟩:=hw;subst e1;cases r;let⟨bN,rv,ht,hz⟩:=bϬ;exact assign_Tuple_tuple ź ht (by simp[hn, <- hl,rv.length]) j8 λh' hx=> ?_;have I1:ké:=I.kept (t':=s.toks) λb o e=>hx b o cı e;show h ag _ σ H xs _ Q I1 ⇑rv hw
def Wn (to ti:TE)(t:KW):TG:=λv σ H Q=>to σ H λo H1=>ti σ H1 λi H2=>t o i v H2 λH3=>Q σ H3
theorem kH {o i:Expr}{to ti:TE}{t:KW}(ho:bŘ)(hi:PE X i ti)(hs:WJ X t) (ha: ∀v,assign hč X.env v=(do
  let ov <- holding [v] (Ż)
  let iv <- holding [v,ov] (eval i X.env)
  standAt pos
  holding [v,ov,iv] (setItem ov iv v)
  release [v,ov,iv] []):=by intro _;rfl):PG X hč (Wn to ti t):=by
 intro ag s σ H v u Q I r h
 rw[ha]
 exact aq (cc (dH hĎ λov s1 ϝ=> ?_))
 exact aq (cc (dH iŚ λiv s2 gϤ=> ?_))
 exact aq (wpAny_standAt (aq (cc (dH (hs ag s2 σ H2 x y v ov iv u _ I2 r1 r2 r q2) λ_ s3 ⟨H3,I3,q3⟩=> ?_))))
 show wpAny_release #[σ,H3,I3,q3]
def HK (te:TE)(g:TG):TS:=λD σ H=>te σ H λx H1=>g x σ H1 D.nx
def gt {tg e:Expr}{te:TE}{g:TG}(he:ŋ)(hg:PG X tg g)(hs:swapsWithSole [tg] e pos.line X.env=bϫ:=by rfl)(hw:swappedStores [tg] e X.env=pure none:=by rfl) (h1:(assignEach [tg] X.env).map aò= [assign tg X.env]:=by rfl):PS X (.Assign [tg] e pos) (HK te g):=by intro ag s σ H D I h;exact wpAny_Assign_stores mĀ hs hw;rw[h1];show dH (hg ag s1 σ H1 x v _ I1 r1 q1) λ_ s2 q=>q
def QF {i:Nat}{x:Str}{e:Expr}{te:TE}{iM:Pos}(hN:X.N.Nodup)(hi:fë)(hx:gÇ)(he:ŋ)(hs:swapsWith e gϧ pos.line X.env=bϫ:=by rfl)(hf:mÒ:=by first | show Ĥ | show ĥ | assumption): PS X (.Assign [bϮ] e pos) (HK te aó):=by intro ag s σ H D I h;exact wpAny_Assign_Name (dH hČ kê) hs;show oZ I1 hN hi hx r1 iś hf
universe e
structure It where
 go:Nat ->ŉ
 SQ:Nat ->Hp ->dϟ
 stop:Nat ->ŉ
def km (X:Cx)(ag:Ÿ)(H:Hp)(b:iB):Prop:=ğ /\ fŠ /\ aϢ /\ lÅ /\ mŽ
def Inv.Gp {X:Cx}{ag:Ÿ}{σ:St}{H H':Hp}{s:eY}{b:iB}(I:Ω)(hb:s.heap.objs.size<=b)(hn:bő):dĒ:=by exact#[hn,Nat.ne_of_gt (aP I.lt hb),I.Z3 hb, .inr (az I.sz hb),eŰ,dϧ];let⟨v,q⟩:=dă;show absurd (aP q.lt gō) aç;show absurd (aP (aI (bϧ).1) gō) aç
structure y9 (P:Program)(w:World)(K:PySem.W.Frag)(tg:Expr)(J:It)(fp:bŐ)(it:Addr)(tn:gÏ):Prop where
 mem:it∈fp
 obj: ∀i h,tn i h -> ∀b∈fp, ∃o,Ψ /\ hϳ
 keep: ∀i h h',tn i h ->(∀b∈fp, ∀o,Ψ ->fŝ) ->tn i h'
 item: ∀ (X:Cx),aϲ ->X.w=w ->Ï ->ũ -> ∀ (i:Nat) (ag:fş) (s:Shared) (σ:St) (H:Hp) (E:hť),Ω ->(hů) ->cĲ ->aϳ ->wpAny cĳ X.A gŎ (λr s1=> ∃u,r=á /\wpAny cĳ X.A kĚ (λ_ s2=>cU λx H'=>gX gϨ (ĝ) (dϨ) (tn Ð s2.heap) hŰ) E s1) E s
 done: ∀ (X:Cx),aϲ ->X.w=w ->Ï ->ũ -> ∀ (i:Nat) (ag:fş) (s:Shared) (σ:St) (H:Hp) (E:hť),Ω ->(hů) ->cĲ ->bϯ ->wpAny cĳ X.A gŎ (λr s1=>r=none /\ Inv X ag σ H s1) E s
 self: ∀ (A:Around) (i:Nat) (s:Shared) (Q:hť) (E:hť),cĲ ->Q bř s ->wpAny cĳ A (pyIter bř) Q E s
abbrev TI:=St ->Hp ->(eű) ->Prop
def PIE (X:Cx)(ag:Ÿ)(σ:St)(tg:Expr)(R:eű)(VN:eC)(s2:eY):Prop:=qu λ(it:iB) (fp:Í) (tn:gÏ) (J:It) (H':Hp)=>oR (VN= .ref it) gϨ (kë) (tn 0 s2.heap) (hϴ) (R J H')
def PI (X:Cx)(tg iter:Expr)(wi:TI):Prop:=∀ (ag:Ÿ) (s:eY) (σ:St) (H:Hp) (R:eű),Ω ->wi σ H R ->wpAny ϗ X.A gÐ (λv s1=>wpAny ϗ X.A (pyIter v) gŏ X.xe s1) X.xe s
def Au {M:Model}{A:Around}{E:Ε}{s:eY}{tg:Expr}{it:iB}{u:eC}{o:Obj}{n:String}{vs:Ġ}{Q:Ϗ}(ho:s.heap.get? it=ä)(hc:o.cls= .type n)(hd:gŐ) (hn: nĩ=false) (hQ:Q () s):wpAny M A kĚ Q E s:=by
 unfold letOwnedTupleGo;cases tg <;>first
 | show aV hQ
 | (cases u<;>first
  | show aV hQ
  | (exact aq (wpAny_load ho ?_)
     rw[hc,hd]
     change wpAny M A (if(nĩ && vs[0]? ==some (rawInt _))=true then _ else _) Q E s
     rw[aC (by intro h;rw[hn,Bool.false_and] at h;cases h)]
     show aV hQ))
def Itl (K:jv)(a:iB):It:=#[λi H=>cU λxs x=>cī /\ Δ,λi H x H'=>H'=H /\ kũ,λi H=> ∃xs,cī /\ dē]
def Itt (K:jv)(a:iB):It:=#[λi H=>cU λxs x=>cĬ /\ Δ,λi H x H'=>H'=H /\ ∀xs,cĬ ->Δ,λi H=> ∃xs,cĬ /\ dē]
def YD (lo:Int)(n:Nat):It:=#[λi _=>i<n,λi H x H'=>H'=H /\ x= .int (lo+i),λi _=>n<=i]
def Fl {P:pF}{w:World}{K:jv}{tg:Expr}(a it:iB):y9 P w K tg (Itl K a) [it] it (λi h=>h.IsListIter it a i) where
 mem:=by simp
 obj:=λi h st b hb=>by have e:b=it:= Ñ;subst e;let⟨o,e,c,d⟩:=st;show kΑ
 keep:=lμ
 item:=by intro X hP hw hK hc i ag s σ H E I hf st hg;subst hP hw hK;let⟨xs,x,hq,hx⟩:=hg;let⟨bN,rv,p,hz⟩:=Ō;let⟨u,hu,ru⟩:=bŚ;let⟨f0,f1,f2,f3,f4,f5⟩:=ϊ;exact wpAny_pyNext_list_item st p.isList (x:=u) ⇑hu fò;have I1:ké:=mŴ;let⟨o,e,c,d⟩:=id Du;show#[u,rfl,Au (s:= ϔ) e c d ⋯ #[x,H,I1,ru,#[rfl,λys hy=>by rw[I.list_inj hy hq];show hx],Du,gϩ]]
 done:=by intro X hP hw hK hc i ag s σ H E I hf st hg;subst hP hw hK;let⟨xs,hq,hx⟩:=hg;let⟨bN,rv,p,hz⟩:=Ō;let⟨f0,f1,f2,f3,f4,f5⟩:=ϊ;have hl:=rv.length;show wpAny_pyNext_list_end ź st p.isList dϩ mϊ
 self:=λ_ _ _ _ _ st h=>wpAny_pyIter_listiter st h
def Bx {P:pF}{w:World}{K:jv}{tg:Expr}(a it:iB):y9 P w K tg (Itt K a) [it] it (λi h=>h.IsTupleIter it a i) where
 mem:=by simp
 obj:=λi h st b hb=>by have e:b=it:= Ñ;subst e;let⟨o,e,c,d⟩:=st;show kΑ
 keep:=lμ
 item:=by intro X hP hw hK hc i ag s σ H E I hf st hg;subst hP hw hK;let⟨xs,x,hq,hx⟩:=hg;let⟨bN,rv,p,hz⟩:=bϬ;let⟨u,hu,ru⟩:=bŚ;let⟨f0,f1,f2,f3,f4,f5⟩:=ϊ;exact wpAny_pyNext_tuple_item st lĞ (x:=u) ⇑hu fò;have I1:ké:=mŴ;let⟨o,e,c,d⟩:=id Du;show#[u,rfl,Au (s:= ϔ) e c d ⋯ #[x,H,I1,ru,#[rfl,λys hy=>by rw[I.wD hy hq];show hx],Du,gϩ]]
 done:=by intro X hP hw hK hc i ag s σ H E I hf st hg;subst hP hw hK;let⟨xs,hq,hx⟩:=hg;let⟨bN,rv,p,hz⟩:=bϬ;let⟨f0,f1,f2,f3,f4,f5⟩:=ϊ;have hl:=rv.length;show wpAny_pyNext_tuple_end ź st lĞ dϩ mϊ
 self:=λ_ _ _ _ _ st h=>wpAny_pyIter_tupleiter st h
def By {P:pF}{w:World}{K:jv}{tg:Expr}(it:iB)(lo:Int)(n:Nat):y9 P w K tg (YD lo n) [it] it (λi h=>IsRangeIter h it (lo+(i:Nat)*1) (ē - (i:Nat)) 1) where
 mem:=by simp
 obj :=λi h st b hb=>by have e:b=it:= Ñ;subst e;show#[_,st,λv z=>by have z':Data.fields _=Data.cell v:=z;cases z']
 keep:=λi h h' st k=>k it Ň _ st
 item:=by intro X hP hw hK hc i ag s σ H E I hf st hg;subst hP hw hK;let⟨f0,f1,f2,f3,f4,f5⟩:=ϊ;have W:=Walks.range (prog:=X.prog) (w:=X.w) ź it lo 1 n;exact W.item i s _ _ hg st λv h' tk hv Du kk=> ?_;let⟨t,rfl⟩:=hv;have I1:lā:=I.turned (λb o hb e=>kk b o Ñ e) f0 f1 f3 f4 f5;exact#[_,rfl,Au (s:= jÏ) (n:= "range_iterator") Du rfl rfl ⋯ #[.int (lo+i),H,I1,#[t,?_],bϱ,Du,gϩ]];rw[Int.mul_one]
 done:=by intro X hP hw hK hc i ag s σ H E I hf st hg;subst hP hw hK;let⟨f0,f1,f2,f3,f4,f5⟩:=ϊ;show wpAny_pyNext_range_end ź st (by have:n<=i:=hg;lia) mϊ
 self:=λ_ _ _ _ _ st h=>wpAny_pyIter_rangeiter st h
section
variable {X:Cx}{tg:Expr}
def JS (K:jv)(tl:TE):TI:=λσ H R=>tl σ H λx H1=> ∃a,dh Ū hď (R (Itl K a) H1)
def Ru (K:jv)(tl:TE):TI:=λσ H R=>tl σ H λx H1=> ∃a,dh Ū (∃xs,kY K H1 a xs) (R (Itt K a) H1)
def Mg {l:Expr}{tl:TE}(hl:bś):PI X tg l (JS X.K tl):=by intro ag s σ H R I h;exact mè;let⟨a,e,cĴ,q⟩:=q1;subst e;cases r1;let⟨bN,rv,p,hz⟩:=I1.list hq;exact wpAny_pyIter_list p.isList ?_;exact#[s1.heap.objs.size,gϪ,_,_,H1,rfl,kϬ,Fl a _,hű,cġ,q];have e:gϫ:= Ñ;subst e;show kŊ
def Ir {l:Expr}{tl:TE}(hl:bś):PI X tg l (Ru X.K tl):=by intro ag s σ H R I h;exact mè;let⟨a,e,cĴ,q⟩:=q1;subst e;cases r1;let⟨bN,rv,p,hz⟩:=I1.tuple hq;exact wpAny_pyIter_tuple (show s1.heap.IsTuple a bN.toArray from p) ?_;exact#[s1.heap.objs.size,gϪ,_,_,H1,rfl,kϬ,Bx a _,hű,cġ,q];have e:gϫ:= Ñ;subst e;show kŊ
def Ih {ag:Ÿ}{σ:St}{H:Hp}{s:eY}{R:eű}{E:Ε}{lo hi:Int}{t u v:Tok}{tk:Nat}(I:Ω)(h1: -(aö) <=lo)(h2:lo<aö)(h3: -(aö) <=hi)(h4:hi<aö) (q:R (YD lo fô) H):wpAny ϗ X.A (pyIter Ϫ) gŏ E nď:=by
 exact wpAny_pyIter_range (IsRange.new ..) (small_one h1 h2 h3 h4) ?_;have I1:Inv X ag σ H nď:=I.kept fó;exact#[nü,[nü],_,_,H,rfl,I1.kept (t':=tk) fó,By _ lo fô,?_,cġ,q];have e1:lo+dϪ*1=lo:=by simp
 have e2:lń=Builtin.Range.rangeSize lo hi 1:=by rw[rangeSize_one];split<;>lia
 change IsRangeIter _ _ (lo+dϪ*1) (lń) 1;rw[e1,e2];show Ģ;have e:b=nü:=by simpa using hb
 subst e;show kŊ
def OZ (ta:TA):TI:=λσ H R=>ta σ H λvs H1=> ∃j:Int,fE (vs= [.int j]) (dϫ) (j<aö) (R (YD 0 j.toNat) H1)
def i3 {a:Expr}{ta:TA}{p pos:Pos}(hg:Gl X aŤ)(hm:X.mg aŤ =none)(ha:PA X [a] ta)(hs:starEach [a] X.env= [(false,dĎ)]:=by rfl):PI X tg (.Call (.Name aŤ p) [a] [] pos) (OZ ta):=by
 intro ag s σ H R I h;exact Call_ (uI I hg hm boot_range (PyProof.Rows.callWith_type1 mł hs rfl));let⟨j,e,q1,q2,q⟩:=q1;subst e;cases r1 with
 | cons r rr=>cases rr;let⟨t,rfl⟩:=r;show call_range_1 (Ih I1 ∅ ∅ q1 q2 ⇑q)
def UD (wi:TI)(g:TG)(tb:TS):TS:=λD σ H=>wi σ H λJ H1=> ∃W:Nat ->Nat ->Ζ,(∃m,W 0 m σ H1) /\ ∀i m σ H,W i m σ H ->(bϯ /\ D.nx σ H) \/ (aϳ /\ ∃N:Ζ,(∀σ' H',N σ' H' -> ∃m',m'<m /\ W Ð m' σ' H') /\ ∀x H',dϨ ->g x σ H' λσ2 H2=>tb {D with nx:=N,ct:=N,bk:=D.nx} σ2 H2)
def qL (fp:Í)(h:Heap):Ÿ:=fp.filterMap λb=>(aϙ).map λo=>(b,o)
theorem hZ {fp:Í}{h:Heap}{b:iB}{o:Obj}(hb:b∈fp)(e:Ψ):(b,o)∈qL fp h:=List.mem_filterMap.mpr #[b,hb,by rw[e];rfl]
def FP {fp:Í}{h:Heap}{p:iB×Obj}(hp:p∈qL fp h):p.1∈fp /\ h.get? p.1=aϥ:=by
 let⟨b,hb,e⟩:=List.mem_filterMap.mp hp;cases q:aϙ with
 | none=>rw[q] at e;cases e
 | some o=>rw[q] at e;have e':(b,o)=p:=bF e;subst e';show#[hb,q]
theorem Inv.pinned {ag:Ÿ}{σ:St}{H:Hp}{s:eY}{fp:Í}(I:Ω)(hf: hů)(ho: ∀b∈fp, ∃o,Ϥ /\ hϳ):Inv X (ag++qL fp s.heap) σ H s:=I.DQ λp hp=>fï (λz=>I.pin p (bi _ z)) λz=>by let⟨hb,e⟩:=FP z;let⟨f0,f1,f2,_⟩:=hf p.1 hb;let⟨o,e',d⟩:=ho p.1 hb;rw[e] at e';cases e';show#[e,f0,f1,f2,d]
theorem Inv.lS {ag pl:Ÿ}{σ:St}{H:Hp}{s:eY}(I:Inv X (ag++pl) σ H s):Ω:=I.DQ λp hp=>I.pin p (bi _ (List.mem_append_left _ hp))
def fX {iter:Expr}{body:aŪ}{wi:TI}{g:TG}{tb:TS}{pos:Pos}(hp:PassesOwn ϗ X.A X.env X.xe)(hc:ũ)(hi:fõ)(hg:PG X tg g)(hb:vI X body tb) (hs: lĲ:=by intro _;rfl):PS X (.For tg iter body [] pos) (UD wi g tb):=by
 intro ag s σ H D I h;exact wpAny_For mą hs;let⟨it,fp,tn,J,H2,e,I2,T,Qm,f2,W,cĵ,xS⟩:=h2;subst e;have tV: ∀ {H':Hp},hŰ -> hϴ:=λhn b hb=>#[hn b hb,(f2 b hb).2]
 exact codeAny_forLoop_any (λn s'=>gh λi σ' H'=>fE (gŊ) eŲ hŰ (W i n σ' H')) ?_ m0 #[0,σ,H2,I2,Qm,λb hb=>(f2 b hb).1,w0];rintro n s3 ⟨i,σ3,H3,I3,st3,fr3,w3⟩;rcases xS i n σ3 H3 w3 with⟨stop,qn⟩ | ⟨go,N,hN,step⟩
 .exact wpAny_passesOwn hp (dH (T.done X rfl rfl rfl hc i ag s3 σ3 H3 X.xe I3 (tV fr3) st3 stop) λr s4 ⟨hr,I4⟩=> ?_);subst hr;show wpAny_execs_nil #[σ3,H3,I4,qn]
 .exact wpAny_passesOwn hp (dH (T.item X rfl rfl rfl hc i ag s3 σ3 H3 X.xe I3 (tV fr3) st3 go) λr s4 ⟨u,hr,h4⟩=> ?_);subst hr;exact wpAny_passesOwn hp (dH h4 λ_ s5 ⟨x,H5,I5,r5,y5,ZC,fr5⟩=> ?_);have I5':=I5.pinned (tV fr5) (T.obj _ _ ZC);exact wpAny_passesOwn hp (dH (hg _ s5 σ3 H5 x u _ I5' r5 (step x H5 y5)) λ_ s6 ⟨σ6,H6,I6,q6⟩=> ?_);exact wpAny_passesOwn hp (dH (hb _ s6 σ6 H6 _ I6 q6) λf s7 q7=> ?_);have again: ∀ {σ7:St} {H7:Hp},Inv X (ag++qL fp s5.heap) σ7 H7 s7 ->N σ7 H7 -> ∃m,m<n /\ gh λi σ' H'=>fE (Inv X ag σ' H' s7) (tn i s7.heap) hŰ (W i m σ' H'):=λ{σ7 H7} I7 n7=>by let⟨m',hm,w7⟩:=hN σ7 H7 n7;exact#[m',hm,i+1,σ7,H7,I7.lS,T.keep _ _ _ ZC λb hb o e=>lÆ.1,cġ,w7];let⟨o,e,d⟩:=T.obj _ _ ZC b hb;show lÆ.2.1
  cases f with
  | next=>let⟨σ7,H7,I7,n7⟩:=q7;show cĶ
  | cont=>let⟨σ7,H7,I7,n7⟩:=q7;show cĶ
  | brk=>let⟨σ7,H7,I7,q7⟩:=q7;show#[σ7,H7,I7.lS,q7]
  | ret v=>let⟨x7,σ7,H7,I7,r7,q7⟩:=q7;show#[x7,σ7,H7,I7.lS,r7,q7]
universe e
abbrev R2:=V ->gŒ
def jE (X:Cx)(f:fŨ)(r:R2):Prop:=∀ (ag:Ÿ) (s:eY) (σ:St) (H:Hp) (x y:V) (v u:eC) (Q:VK),Ω ->ħ ->Ĩ ->r x y H Q ->wpAny ϗ X.A (f v u) Η X.xe s
def UnR (X:Cx)(f:cķ)(r:gŒ):Prop:=∀ (ag:Ÿ) (s:eY) (σ:St) (H:Hp) (x:V) (v:eC) (Q:VK),Ω ->ħ ->r x H Q ->wpAny ϗ X.A (f v) Η X.xe s
def eN (X:Cx)(f:eC)(r:ϧ):Prop:=∀ (ag:Ÿ) (s:eY) (σ:St) (H:Hp) (xs:À) (us:Ê) (Q:VK),Ω ->Ĝ ->r xs H Q ->wpAny ϗ X.A (call f us) Η X.xe s
def aeT (X:Cx)(r:V ->jϭ):Prop:=∀ (ag:Ÿ) (s:eY) (σ:St) (H:Hp) (x:V) (v:eC) (Q:fţ),Ω ->ħ ->r x H Q ->wpAny ϗ X.A (truthy v) eũ X.xe s
def Ux (r:R2)(ta tb:TE):TE:=λσ H Q=>ta σ H λx H1=>tb σ H1 λy H2=>r x y H2 Q
def tUn (r:gŒ)(ta:TE):TE:=λσ H Q=>ta σ H λx H1=>r x H1 Q
def rI (C:fũ)(g:dϬ):R2:=λx y H Q=>cU λi j=>fE (bŜ) (y= .int j) (C i j) (Q aŮ H)
def Ma (g:dϬ):R2:=λx y H Q=>cU λi j=>dh (bŜ) (y= .int j) (Q aŮ H)
def rU (g:aŭ):gŒ:=λx H Q=> ∃i,bŜ /\ Q (g i) H
section
variable {X:Cx}{a b c:Expr}{ta tb tc:TE}{pos:Pos}
def Su (ha:Ŋ)(hb:bŔ){ag:Ÿ}{s:eY}{σ:St}{H:Hp}{R:V ->dϟ}(I:Ω) (h:lĝ) {Q:Ε} {f:fŨ} (hf: nć): nĽ:=by exact mç;exact mĐ;show jť
def bV {op:Operator}{r:R2}(ho:jE X (binaryOp op) r)(ha:Ŋ)(hb:bŔ):PE X (.BinOp a op b pos) dĔ:=by intro ag s σ H Q I h;show wpAny_BinOp mϋ
def ON {op:UnaryOp}{r:gŒ}(ho:UnR X (unaryOp op) r)(ha:Ŋ):PE X (.UnaryOp op a pos) (tUn r ta):=by intro ag s σ H Q I h;show UnaryOp_ (dH hĉ λv s1 ϝ=>ho ag s1 σ H1 x v Q I1 r1 q1)
def XX {f:fŨ}{C:fũ}{g:Int ->bŝ} (rule: ∀ (i j:Int) (t u:Tok) (s:eY) (Q:Ε) (E:Ε),C i j ->nĀ): jE X f (rI C hĒ):=by intro ag s σ H x y v u Q I rx ry h;let⟨i,j,rfl,rfl,hc,q⟩:=h;let⟨t,rfl⟩:=rx;let⟨t',rfl⟩:=ry;show rule i j t t' s _ _ hc kϊ
def Vr {f:fŨ}{g:Int ->bŝ} (rule: ∀ (i j:Int) (t u:Tok) (s:eY) (Q:Ε) (E:Ε),nĀ): jE X f (Ma hĒ):=by intro ag s σ H x y v u Q I rx ry h;let⟨i,j,rfl,rfl,q⟩:=h;let⟨t,rfl⟩:=rx;let⟨t',rfl⟩:=ry;show rule i j t t' s _ _ kϊ
def Mu {f:fŨ}{g:Int ->Int ->Bool} (rule: ∀ (i j:Int) (t u:Tok) (s:eY) (Q:Ε) (E:Ε),Q (.bool aŮ) s ->mĞ): jE X f (Ma λi j=> .bl aŮ):=by intro ag s σ H x y v u Q I rx ry h;let⟨i,j,rfl,rfl,q⟩:=h;let⟨t,rfl⟩:=rx;let⟨t',rfl⟩:=ry;show rule i j t t' s _ _ #[.bl aŮ,H,I,rfl,q]
def Lc (i j:Int):Prop:=0<j /\ j<1073741824
def SO (i j:Int):Prop:=0<=j /\ j<=1000000 /\ i.natAbs<aø
def oU (i j:Int):Prop:=(-(aø) <i /\ i<aø) \/ (-(aø) <j /\ j<aø)
def oU.ok {i j:Int}(h:oU i j):IntMulOk i j:=by
 rcases h with⟨h1,h2⟩ | ⟨h1,h2⟩
 show .of_left hų;show .of_right hų
theorem eJ:jE X fö (Ma λi j=> .int (i+j)):=Vr λ_ _ _ _ _ _ _ q=>add_int q
theorem yn:jE X (binaryOp .Sub) (Ma λi j=> .int (i - j)):=Vr λ_ _ _ _ _ _ _ q=>sub_int q
theorem oE:jE X fŪ (rI oU λi j=> .int (i*j)):=XX λ_ _ _ _ _ _ _ hc q=>mul_int q hc.ok
theorem DZ:jE X (binaryOp .FloorDiv) (rI Lc λi j=> .int (i / j)):=XX λi j _ _ _ _ _ hc q=>by have h1:aů <j:=hc.1;have h2:j<1073741824:=hc.2;show floordiv_int ∅ (by rw[Int.fdiv_eq_ediv_of_nonneg i ∅];show q) (.inl (PyProof.noPylong_small ∅))
theorem oF:jE X (binaryOp .Mod) (rI (λ_ j=>0<j) λi j=> .int (i % j)):=XX λi j _ _ _ _ _ hc q=>by have h1:aů <j:=hc;show mod_int' ∅ (by rw[Int.fmod_eq_emod_of_nonneg i ∅];show q)
theorem Q1:jE X (binaryOp .Pow) (rI SO λi j=> .int (i ^ j.toNat)):=XX λ_ _ _ _ _ _ _ hc q=>pow_int_small hc.1 aù aú q
def unI {f:cķ}{g:bŝ} (rule: ∀ (i:Int) (t:Tok) (s:eY) (Q:Ε) (E:Ε),Q (.int (g i) s.toks) ią ->wpAny ϗ X.A (f bϝ) Q E s): UnR X f (rU λi=> .int (g i)):=by intro ag s σ H x v Q I rx h;let⟨i,rfl,q⟩:=h;let⟨t,rfl⟩:=rx;show rule i t s _ _ #[.int (g i),H,đ,ĩ,q]
theorem Hv:UnR X (unaryOp .USub) (rU λi=> .int (-i)):=unI λ_ _ _ _ _ q=>neg_int q
universe e
def L8:V ->V ->Bool
 | .fb, .fb=>true | .fb, ð=>true | ð, .fb=>true | .fb, Ò=>true | Ò, .fb=>true | .fb, ñ=>true | ñ, .fb=>true
 | ð, ð=>true | Ò, Ò=>true | ñ, ñ=>true | .CP _, .CP _=>true
 | ð, ñ=>true | ñ, ð=>true | Ò, ñ=>true | ñ, Ò=>true
 | _,_=>false
def rEq:R2:=λx y H Q=>cĸ /\ Q (.bl (dĕ)) H
def rNe:R2:=λx y H Q=>cĸ /\ Q (.bl (! dĕ)) H
def EQ {i j:Int}:decide (V.int i=V.int j)=(i==j):=by rw[eh];simp
def Ko {i j:Bool}:decide (V.bl i=V.bl j)=(i==j):=by rw[eh];simp
def EO {i j:Str}:decide (V.str i=V.str j)=(i==j):=by rw[eh];simp
def ER {i j:cĕ}:decide (V.CP i=V.CP j)=(i.toList==j.toList):=by rw[eh];cases i;cases j;simp
section
variable {X:Cx}{a b c:Expr}{ta tb tc:TE}{pos:Pos}
def dA {ag:Ÿ}{σ:St}{H:Hp}{s:eY}{Q:VK}{k k':Bool}(I:Ω)(q:Q (.bl k) H)(e:k=k'):EP X ag σ Q (.bool k') s:=by subst e;show#[.bl k,H,I,rfl,q]
def fG:jE X fø rEq:=by
 intro ag s σ H x y v u Q I rx ry h;let⟨hs,q⟩:=h;cases x with
 | fb=>
  cases rx;cases y with
  | fb=>cases ry;show PySem.EqNone.eq_none_none Ϙ
  | bl j=>cases ry;show PySem.EqNone.eq_none_bool Ϙ
  | int j=>let⟨t',rfl⟩:=ry;show PySem.EqNone.eq_none_int Ϙ
  | str j=>let⟨t',rfl⟩:=ry;show PySem.EqNone.eq_none_str Ϙ
  | _=>show ϴ
 | bl i=>
  cases rx;cases y with
  | fb=>cases ry;show PySem.EqNone.eq_bool_none Ϙ
  | bl j=>cases ry;show eq_bool (dA I q Ko)
  | str j=>let⟨t',rfl⟩:=ry;show PySem.EqMixed.eq_bool_str Ϙ
  | _=>show ϴ
 | int i=>
  let⟨t,rfl⟩:=rx;cases y with
  | fb=>cases ry;show PySem.EqNone.eq_int_none Ϙ
  | int j=>let⟨t',rfl⟩:=ry;show eq_int (dA I q EQ)
  | str j=>let⟨t',rfl⟩:=ry;show PySem.EqMixed.eq_int_str Ϙ
  | _=>show ϴ
 | str i=>
  let⟨t,rfl⟩:=rx;cases y with
  | fb=>cases ry;show PySem.EqNone.eq_str_none Ϙ
  | bl j=>cases ry;show PySem.EqMixed.eq_str_bool Ϙ
  | int j=>let⟨t',rfl⟩:=ry;show PySem.EqMixed.eq_str_int Ϙ
  | str j=>let⟨t',rfl⟩:=ry;show eq_str (dA I q EO)
  | _=>show ϴ
 | CP i=>
  let⟨t,rfl⟩:=rx;cases y with
  | CP j=>let⟨t',rfl⟩:=ry;show W.eq_bytes (dA I q ER)
  | _=>show ϴ
 | _=>cases y<;>show ϴ
def jX:jE X gœ rNe:=by
 intro ag s σ H x y v u Q I rx ry h;let⟨hs,q⟩:=h;cases x with
 | fb=>
  cases rx;cases y with
  | fb=>cases ry;show PySem.EqNone.ne_none_none Ϙ
  | bl j=>cases ry;show PySem.EqNone.ne_none_bool Ϙ
  | int j=>let⟨t',rfl⟩:=ry;show PySem.EqNone.ne_none_int Ϙ
  | str j=>let⟨t',rfl⟩:=ry;show PySem.EqNone.ne_none_str Ϙ
  | _=>show ϴ
 | bl i=>
  cases rx;cases y with
  | fb=>cases ry;show PySem.EqNone.ne_bool_none Ϙ
  | bl j=>cases ry;show ne_bool (dA I q (congrArg not Ko))
  | str j=>let⟨t',rfl⟩:=ry;show PySem.EqMixed.ne_bool_str Ϙ
  | _=>show ϴ
 | int i=>
  let⟨t,rfl⟩:=rx;cases y with
  | fb=>cases ry;show PySem.EqNone.ne_int_none Ϙ
  | int j=>let⟨t',rfl⟩:=ry;show ne_int (dA I q (congrArg not EQ))
  | str j=>let⟨t',rfl⟩:=ry;show PySem.EqMixed.ne_int_str Ϙ
  | _=>show ϴ
 | str i=>
  let⟨t,rfl⟩:=rx;cases y with
  | fb=>cases ry;show PySem.EqNone.ne_str_none Ϙ
  | bl j=>cases ry;show PySem.EqMixed.ne_str_bool Ϙ
  | int j=>let⟨t',rfl⟩:=ry;show PySem.EqMixed.ne_str_int Ϙ
  | str j=>let⟨t',rfl⟩:=ry;show ne_str (dA I q (congrArg not EO))
  | _=>show ϴ
 | CP i=>
  let⟨t,rfl⟩:=rx;cases y with
  | CP j=>let⟨t',rfl⟩:=ry;show W.ne_bytes (dA I q (congrArg not ER))
  | _=>show ϴ
 | _=>cases y<;>show ϴ
theorem wT:jE X (compareOp .Lt) (Ma λi j=> .bl (decide (i<j))):=Mu λ_ _ _ _ _ _ _ q=>lt_int q
theorem rO:jE X (compareOp .LtE) (Ma λi j=> .bl (decide (i<=j))):=Mu λ_ _ _ _ _ _ _ q=>le_int q
theorem pq:jE X (compareOp .Gt) (Ma λi j=> .bl (decide (j<i))):=Mu λ_ _ _ _ _ _ _ q=>gt_int q
theorem zR:jE X (compareOp .GtE) (Ma λi j=> .bl (decide (j<=i))):=Mu λ_ _ _ _ _ _ _ q=>ge_int q
def FM:jE X fù (λx y H Q=>cU λi j=>dh cĹ cĺ (Q (.bl (! lϩ)) H)):=by intro ag s σ H x y v u Q I rx ry h;let⟨i,j,rfl,rfl,q⟩:=h;let⟨t,rfl⟩:=rx;let⟨t',rfl⟩:=ry;show in_str (dA I q rfl)
def bw (b:Expr){op:CmpOp}(h:op≠ .In:=by decide)(h2:dĐ:=by decide):iř:=by
 have e1:hĊ:=by cases op<;>first | rfl | show dđ
 have e2:iă:=by cases op<;>first | rfl | show dϢ
 cases b<;>simp[behindInMarks,e1,e2]
def gq {op:CmpOp}{r:R2}(ho:hŴ)(ha:Ŋ)(hb:bŔ)(hm:iř):PE X iΧ dĔ:=by intro ag s σ H Q I h;show wpAny_Compare1 mϋ hm
def HG (t:TE):TT:=λσ H Q=>t σ H λx H'=> ∃k,x= .bl k /\ Q k H'
def bh {op:CmpOp}{r:R2}(ho:hŴ)(ha:Ŋ)(hb:bŔ)(hm:iř):PT X iΧ (HG dĔ):=by intro ag s σ H Q I h;exact wpAny_isTrue_Compare1 (dH hĉ λv s1 ϝ=>dH iŘ λu s2 gϤ=>dH lÇ λc s3 iĆ=> ?_) hm;subst e;cases r3;show cM #[H3,I3,q3]
def BC (r r':R2)(ta tb tc:TE):TE:=λσ H Q=>ta σ H λx H1=>tb σ H1 λy H2=>r x y H2 λz H3=> ∃k,z= .bl k /\(if k=true then tc σ H3 λw' H4=>r' y w' H4 Q else Q (bŖ) H3)
def Ix {op Q3:CmpOp}{r r':R2}(ho:hŴ)(JX:hϵ)(ha:Ŋ)(hb:bŔ)(hc:PE X c tc) (hm:jΛ:=by with_unfolding_all rfl):PE X jϰ gŔ:=by
 intro ag s σ H Q I h;exact Compare_chain (dH hĉ λv s1 ϝ=>chain_link nĥ) hm;subst e;cases r3;exact cM ?_;cases k with
 | false=>show ite_ff #[bŖ,H3,I3,rfl,q3]
 | true=>show ite_tt (chain_last (dH iŝ λw' s4 hē=>JX ag s4 σ H4 y z' u w' Q I4 r2 r4 q4))
def uq {op Q3:CmpOp}{r r':R2}(ho:hŴ)(JX:hϵ)(ha:Ŋ)(hb:bŔ)(hc:PE X c tc) (hm:jΛ:=by with_unfolding_all rfl):PT X jϰ (HG gŔ):=by
 intro ag s σ H Q I h;exact isTrue_chain (dH hĉ λv s1 ϝ=>test_link nĥ) hm;subst e;cases r3;exact cM ?_;cases k with
 | false=>let⟨k',e',q'⟩:=q3;cases e';show ite_ff #[H3,I3,q']
 | true=>exact ite_tt (test_last (dH iŝ λw' s4 hē=>dH (JX ag s4 σ H4 y z' u w' _ I4 r2 r4 q4) λd' s5 ⟨z2,H5,I5,r5,k2,e2,q5⟩=> ?_));subst e2;cases r5;show cM #[H5,I5,q5]
def NJ (K:jv)(x:V)(H:Hp)(k:Bool):Prop:=
 match x with
 | .fb=>k=false
 | É=>k=b
 | Þ=>bŞ
 | aû=>lŘ
 | .CP y=>lĂ
 | ò=>(∃xs,cĻ /\ eų) \/ (∃xs,cļ /\ eų) \/ lř
 | _=>False
def Co {κ:Type}{kvs:Ř}{vs:cė}(r:Ņ):(!vs.isEmpty)= !kvs.isEmpty:=by cases r<;>rfl
def uP {xs:À}{bN:Ê}(r:aϖ):(!bN.toArray.isEmpty)= !xs.isEmpty:=by cases r<;>simp
def oI:(sizeLine:Nat) <aü:=by rw[cP];decide
def Qd:aeT X (λx H Q=> ∃k,NJ X.K x H k /\ Q k H):=by
 intro ag s σ H x v Q I rx h;let⟨k,e,q⟩:=h;have hl:=oI;have hs:sizeLine=16777216:=cP;cases x with
 | fb=>cases rx;have e':k=false:=e;subst e';show truthy_none aϵ
 | bl b=>cases rx;have e':k=b:=e;subst e';show cM aϵ
 | int i=>let⟨t,rfl⟩:=rx;have e':bŞ:=e;subst e';show PySem.P.truthy_int aϵ
 | str y=>let⟨t,rfl⟩:=rx;let⟨hy,e'⟩:lŘ:=e;subst e';show PySem.P.truthy_str ∅ #[H,đ,q]
 | CP y=>let⟨t,rfl⟩:=rx;let⟨hy,e'⟩:lĂ:=e;subst e';show W.truthy_bytes ∅ #[H,đ,q]
 | ref p=>
  cases rx;have e':(∃xs,gg X.K H p xs /\ eų) \/ (∃xs,kY X.K H p xs /\ eų) \/ lř:=e;rcases e' with⟨xs,hx,e'⟩ | ⟨xs,hx,e'⟩ | ⟨kvs,hx,e'⟩
  subst e';let⟨bN,r,pl,hz⟩:=I.list hx;have eD:=r.length;show wpAny_truthy_list pl.isList gŖ kì;subst e';let⟨bN,r,pl,hz⟩:=I.tuple hx;have eD:=r.length;show truthy_tuple pl gŖ kì;subst e';let⟨hz,hS,vs,r,m⟩:hā /\ (p==sysModules)=false /\ ∃vs,Ņ /\ s.heap.DictOf fú p vs:=I.c9 p _ hx;have eD:hĔ:=få;show wpAny_truthy_dict hS m ∅ #[H,đ,by rw[Co r];show q]
 | _=>show(show False from e).elim
def Ip (ha:Ŋ)(he: mΤ): PT X a (λσ H Q=>ta σ H λx H'=> ∃k,NJ X.K x H' k /\ Q k H'):=by intro ag s σ H Q I h;show isTrue_plain (dH hĉ λv s1 ϝ=>Qd ag s1 σ H1 x v Q I1 r1 q1) (he _)
def BX:jE X fö (nã):=by intro ag s σ H x y v u Q I rx ry h;let⟨i,j,rfl,rfl,hz,q⟩:=h;let⟨t,rfl⟩:=rx;let⟨t',rfl⟩:=ry;show add_str (λt' tk=>#[cĽ,H,đ,ĩ,q]) hz
def vals1 {x:V}{us:Ê}(r:cF [x] us): iŞ:=by
 cases r with
 | cons r1 r2=>cases r2;show#[_,rfl,r1]
def vals2 {x y:V}{us:Ê}(r:cľ):cU λu w'=>dh (us= [u,w']) (ĝ) (RelV y w'):=by
 cases r with
 | cons r1 r2=>
  cases r2 with
  | cons r3 r4=>cases r4;show#[_,_,rfl,r1,r3]
def KI:eN X fū (mŖ):=by intro ag s σ H xs us Q I r h;let⟨i,rfl,q⟩:=h;let⟨u,rfl,t,rfl⟩:=Ĕ;show call_abs_int λu tk=>#[.int (hŵ),H,đ,ĩ,q]
def yT:eN X μ (λxs H Q=> ∃i,mň):=by intro ag s σ H xs us Q I r h;let⟨i,rfl,hz,q⟩:=h;let⟨u,rfl,t,rfl⟩:=Ĕ;show PySem.P.str_of_int hz jϱ
universe e
structure CT (h:Heap)(x dx C:Addr)(mA:gń):Prop where
 obj:h.get? x=some (PySem.W.instObj C dx)
 ns:cĚ
 ne:aý
def FY {h:Heap}{dx:iB}{mA:Ũ}(n:cĚ): ∃od,h.get? dx=some od /\ lë:=by
 let⟨o,es,ep,ho,hd,hk,_,hm⟩:=n;exact#[o,ho,λname=> ?_];have e:=hm name;unfold nsFind findBy at e;rw[<- Array.find?_toList] at e;unfold W.lookIn;rw[hd];dsimp only;split;rename_i y q;rw[q] at e;show fû;rename_i q;rw[q] at e;have a:iΩ=false:=by rw[List.any_eq_false];intro y hy;let⟨z,t,aaa⟩:=hk y (Array.mem_toList_iff.mp hy);simp[DictEntry.refKey,aaa]
 have a':¬iΩ=true:=by rw[a];show br
 rw[aC a'];show fû
theorem CT.look {h:Heap}{x dx C:iB}{mA:Ũ}(I:CT h x dx C mA): ∃od,W.InstAt h x fŜ C (some od) /\ lë:=
 let ⟨od,ho,hl⟩:=FY I.ns
 #[od,#[I.obj,rfl,rfl,ho],hl]
section
variable {prog:pF}{w:World}{A:Around}{E:Ε}{s:eY}{K:jv}{x dx C f:iB}{mA:Ũ}{name:Str}{v:eC}
def Nj {Kf:Bool}{Q:Ε}(X:cĿ)(I:gϬ)(hg:iş)(hh:hĖ) (ha:iŠ=bş) (hv:mA name=â) (jO:W.handedIn v=true) (h:Q v ią): wpAny Ι A (getAttr aϘ name Kf) Q E s:=by let⟨od,J,hl⟩:=I.look;show W.get_value X J gŘ.1 (W.findObj_own hh ha rfl (by rw[hl,hv])) jO h
def J7 {pl:a϶}{Q:hŶ}(X:cĿ)(I:gϬ)(hg:iş) (hf:iŠ=hė) (ht:h϶) (hv:mA name=none) (h:Q (.ref f,[.ref x]) s): wpAny Ι A (getMethod aϘ name pl) Q E s:=by let⟨od,J,hl⟩:=I.look;show W.method_fn X J gŘ.1 gŘ.2 hf (beq_iff_eq.mp ht) (by change(fŬ).map (·.isSome)=Ŝ;rw[hl,hv];rfl) h
def L6 {ns:ê}{Q:Ϗ}(X:cĿ)(I:gϬ) (hs:mό) (hp:hĘ) (ht:W.takerIn K C name=bş) (hh:hĖ) (hw:PySem.Within mA ns) (hsz:gϭ) (h: ∀h',CT h' x dx C (λy=>if y=name then â else mA y) ->Heap.SameBut dx s.heap h' ->Q () {s with heap:=h',toks:=s.toks+2}): wpAny Ι A (setAttr aϘ name v) Q E s:=by let⟨od,J,hl⟩:=I.look;exact W.set_plain X J hs (W.osa_open (s:= ią) (r:=none) X J hp ht λb=> ?_);let⟨cd,hc,Cu⟩:=W.any_some hh;have hx:s.heap.get? x=some #[ó,some dx, .plain, #[]]:=I.obj;exact aq (aV (aq (aq (wpAny_loadPart hx (aq (W.Looks.here (s:= ią) (W.looks_clsIn X hc) ?_))))));rw[Cu];exact aV (a:=some dx) (aq (aV (aÆ)));exact wpAny_nsSet1 (s:= ią) I.ns λh' v6 MZ=> ?_;let⟨oD,esD,epD,hoD,hdD,Nd⟩:=v6.count (PySem.Within.cons name v hw);exact aq (wpAny_lookBehind hoD (by rw[hdD];show pastItsLine_dict (az Nd (by rw[ax];lia))) ?_);show aV (h _ #[(MZ.2 _ (cE I.ne)).trans I.obj,v6,I.ne] MZ)
def Jm {R:gř}{vs:Ê}{kw:dĘ}(X:cĿ)(hm:gŚ) (hi:mÊ) (hf:W.typeIn K ģ=some (.type "function")) (h:codeAny Ι (A.under (.builtin fü #[ó::vs,kw])) (.call ģ #[.ref ϥ::vs,kw]) (W.InitBack ϥ R) mΚ): codeAny Ι A (.call ī #[vs,kw]) R s:=by let⟨hh,g,d,t,os⟩:=s;show W.make_core (W.makes_of X hm) (W.looks_findIn X hi) (λself=>W.bind_fn X self hf) ř h
universe e
def jU (f:Str)(v:V):ū ->ū
 | []=> [(f,v)]
 | (g,x)::r=>if g=f then(g,v)::r else(g,x)::jU f v r
theorem rQ (f g:Str)(v:V): ∀fs:ū,(bŠ).lookup g=if g=f then â else fs.lookup g
 | []=>by change List.lookup g [(f,v)]=_;by_cases h:g=f;have hb:(g==f)=true:=fŭ;simp![List.lookup,hb,aF h];have hb:(g==f)=false:=iϊ;simp![List.lookup,hb,aC h]
 | (k, x)::r=>by have ih:=rQ f g v r;rw[mχ];by_cases hk:k=f;rw[aÇ];by_cases h:g=k;have hb:cŀ:=fŭ;simp![List.lookup,hb,aF (h.trans hk)];have hb:dę:=iϊ;simp![List.lookup,hb,aC (λe:g=f=>h (e.trans hk.symm))];rw[aÈ];by_cases h:g=k;have hb:cŀ:=fŭ;simp![List.lookup,hb,aC (λe:g=f=>hk (h.symm.trans e))];have hb:dę:=iϊ;simp![List.lookup,hb];show ih
theorem qT (f:Str)(v:V): ∀fs:ū,f∈hϷ /\ ∀g,g∈dϙ ->g∈hϷ
 | []=>#[by simp[jU],λg h=>by simp at h]
 | (k, x)::r=>by let⟨i1,i2⟩:=qT f v r;rw[mχ];by_cases hk:k=f;rw[aÇ];subst hk;show#[by simp,λg h=> ⇑h];rw[aÈ];exact#[?_,λg h=> ?_];rw[av];show aJ _ i1;rw[av] at h ⊢;obtain e | e:=ĕ;show au.mpr aϷ;show aJ _ (i2 g e)
theorem rS (f:Str)(v:V): ∀fs:ū,(bŠ).length<=fs.length+1
 | []=>by simp[jU]
 | (k,x)::r=>by have ih:=rS f v r;rw[mχ];by_cases hk:k=f;rw[aÇ,ax,ax];lia;rw[aÈ,ax,ax];lia
def lM.some_of {v:V}{o:Ë}(r:lM aϣ o): ∃u,o=á /\ Ğ:=by
 cases o with
 | none=>show iš
 | some u=>show#[u,rfl,r]
def lM.none_of {o:Ë}(r:lM none o):o=none:=by
 cases o with
 | none=>rfl
 | some u=>show iš
def Gk {v:V}{u:eC}(r:Ğ):W.handedIn u=true:=by
 cases v with
 | fb=>cases (show dú from r);rfl
 | bl b=>cases (show eŚ from r);rfl
 | int i=>let⟨t,e⟩:=kŪ;cases e;rfl
 | str x=>let⟨t,e⟩:=kū;cases e;rfl
 | CP b=>let⟨t,e⟩:=(show hϪ from r);cases e;rfl
 | Nn b=>let⟨t,e⟩:=(show hϫ from r);cases e;rfl
 | ref a=>cases (show ι from r);rfl
 | ty n=>cases (show eś from r);rfl
section
variable {P:pF}{w:World}{H H':Hp}{h h':Heap}{a C dx:iB}{fs fs':ū}
def tq (c9:Ś)(e:iĈ): ∃mA,gX (CT h a dx C mA) (jŢ) (kæ) (fç) (H dx=dϘ):=by
 let⟨d,z,ne,ob,mA,n,r,q⟩:=(show eL P w H h a (dþ) from c9 a _ e)
 show#[mA,#[ob,n,ne],r,q,z,d]
universe e
structure Be (K:PySem.W.Frag)(C:Addr):Prop where
 pg:PySem.W.plainGet K C Str.empty=true
 hd:PySem.W.hasDictIn K C=true
 po:PySem.W.plainOver K C=true
 sa:PySem.W.findIn K ī dϯ =lŅ
theorem Be.get {K:jv}{C:iB}(c:aþ)(f:Str):W.plainGet K C f=true:=c.pg
def fP (K:jv)(C:iB)(f:Str):Prop:=kí
def fP.Ur {K:jv}{C:iB}{f:Str}(n:fP K C f):W.takerIn K C f=bş:=by unfold W.takerIn;rw[show kí from n];rfl
structure K2 (K:PySem.W.Frag)(C:Addr)(m:Str)(f:Addr):Prop where
 at_:PySem.W.findIn K ī m=hė
 fn:jŨ
 kp:jϲ
section
variable {X:Cx}{ag:Ÿ}{σ:St}{H:Hp}{s:eY}{a C dx:iB}{fs:ū}{f:Str}{v:V}{A:Around}{E:Ε}
def Cy {b:Bool}{Q:Ε}(I:Ω)(e:iĈ)(c:aϸ)(n:fP X.K C f)(l:gŜ) (h: ∀u s',fŮ ->Ğ ->Q u s'):wpAny ϗ A (getAttr Ī f b) Q E s:=by let⟨mA,O,r,_,_,_⟩:=bš;let⟨u,hu,ru⟩:=lM.some_of (v:=v) (o:=mA f) (by rw[<- l];show r f);show Nj I.mx O (c.get f) c.hd n hu (Gk ru) (h u _ bŢ ru)
def kO {m:Str}{g:iB}{pl:a϶}{Q:hŶ}(I:Ω)(e:iĈ)(c:aϸ)(k:dĚ)(l:fů) (h:Q (.ref g,Ĭ) s):wpAny ϗ A (getMethod Ī m pl) Q E s:=by let⟨mA,O,r,_,_,_⟩:=bš;have hn:mA m=none:=lM.none_of (by rw[<- l];show r m);show J7 I.mx O (c.get m) k.at_ k.fn hn h
def BH {y:V}{u:eC}{Q:Ϗ}(I:Ω)(e:iĈ)(c:aϸ)(n:fP X.K C f)(hl:eŴ)(ry:Ĩ) (h: ∀s',Inv X ag σ (upd H a iĉ) s' ->aŨ):wpAny ϗ A (setAttr Ī f u) Q E s:=by
 let⟨mA,O,r,wi,_,ho⟩:=bš;have hz:(dϙ).length<=sizeLine:=by rw[af,cP];lia
 exact L6 I.mx O c.sa c.po n.Ur c.hd wi hz λh' O' sb=>h _ ?_;have hd: ∃o,h'.get? dx=ä:=let ⟨o,_,_,e',_⟩:=O'.ns;#[o,e']
 exact I.write (x:=a) (e:=dx) jÐ (.inr ho) (λb q hb z=>gÑ z) hd ?_;exact#[by rw[bH O.ne];show ho,?_,O.ne,O'.obj,_,O'.ns,λg=> ?_,λg hg=> ?_];have:=rS f y fs;lia;change lM ((jU f y fs).lookup g) jϳ;rw[rQ];by_cases q:g=f;rw[aF q,aF q];show ry;rw[aC q,aC q];show r g;by_cases q:g=f;rw[q];show cŁ.1;exact cŁ.2 g (wi g λz=>hg ?_);change jϳ=none;rw[aC q];show z
def Inv.made (I:Ω):Inv X ag σ (upd (upd H s.heap.objs.size (.own ϥ)) ϥ (jÑ)) mΚ:=by
 have e1:(ić).get? s.heap.objs.size=some W.emptyDict:=aS s.heap rfl;have e2:(mĩ).get? ϥ=some (jŧ):=by have:=aS (ić) (o:=jŧ) rfl;rwa [Heap.size_push] at this
 have e3:(ić).Ns s.heap.objs.size (bţ):=#[W.emptyDict, #[],_,e1,rfl,(λe he=>absurd he Ň),aϹ]
 have I1:=I.laid (a:=s.heap.objs.size) (o:= .own ϥ) (h':=ić) (t':=s.toks) gÒ ï #[_,e1];exact I1.laid (a:=gś) (o:= jÑ) (t':=s.toks) gÒ (Nat.le_of_eq (Heap.size_push _ _)) ?_;have ne:s.heap.objs.size≠gś:=iĊ;exact#[by rw[bH ne,bX],ν,ne,e2,bţ,(Heap.Ns1.of_empty e3).at λo q=>aÿ,λ_=>True.intro,λy hy=>absurd rfl hy]
theorem NG {prog:pF}{w:World}{env:Env}{e:Expr}{f:Str}{pos:Pos}{s:eY}{Q:Ε}(hb:attributeBase e f env (eval e env)=eval e env) (h:wpAny Ι A (eval e env) (λo s₁=>wpAny Ι A (getAttr o f true) Q E s₁) E s):wpAny Ι A (eval hę env) Q E s:=Attribute_any_ h (by rw[arm_eval_Attribute,hb])
universe e
def Qh (K:jv)(ta:TE)(f:Str):TE:=λσ H Q=>ta σ H λx H1=>qu λa C dx fs v=>oR Ū jÒ aϺ bϵ (gŜ) (Q v H1)
def UT (K:jv)(ta tv:TE)(f:Str):TS:=λD σ H=>tv σ H λy H1=>ta σ H1 λx H2=>jD λa C dx fs=>oR Ū (H2 a=Ϟ) aϺ bϵ (eŴ) (D.nx σ (upd H2 a iĉ))
section
variable {X:Cx}{o e value:Expr}{f:Str}{pos iM Qf:Pos}{ta tv:TE}
def QI (he:PE X e ta)(hb:lϴ):PE X hę (Qh X.K ta f):=by intro ag s σ H Q I h;exact NG hb (dH hČ λu s1 ⟨x,H1,I1,rx,a,C,dx,fs,v,ex,ea,c,n,l,q⟩=> ?_);subst ex;obtain rfl:ι:=rx;show Cy I1 ea c n l λu' s2 I2 ru=>#[v,H1,I2,ru,q]
def iL (ha:bŤ)(hv:dϰ)(hs:swapsWith value (some (gÓ)) pos.line X.env=bϫ):PS X (.Assign [gÓ] value pos) (UT X.K ta tv f):=by intro ag s σ H D I h;exact plainObj_wpAny_Assign_Attribute (dH hĚ λu s1 ⟨y,H1,I1,ry,q⟩=>dH (ha ag s1 σ H1 _ I1 q) λov s2 ⟨x,H2,I2,rx,a,C,dx,fs,ex,ea,c,n,l,q2⟩=> ?_) hs;subst ex;obtain rfl:ov=cĖ:=rx;show BH I2 ea c n l ry λs3 I3=>#[σ,_,I3,q2]
theorem OQ {pl:a϶}{m:Str}{eK:Pos}{args:Đ}{ag:Ÿ}{s:eY}{σ:St}{H:Hp}{Q:Ε}{te:TE}(he:ŋ)(I:Ω) (h:te σ H λx H1=>qu λa C dx fs g=>oR Ū jÒ (aϸ) (dĚ) gŞ (∀s1,gÔ ->wpAny ϗ X.A (callWith pos (.ref g) Ĭ kŬ kϭ) Q X.xe s1)) (ht:lϪ=(do
   let ov <- dč
   gÕ
   let (f,first) <- kě
   callWith pos f first kŬ kϭ)):
  wpAny ϗ X.A (lϪ) Q X.xe s:=by
 exact W.methodCall_KW (pl:=pl) (dH hČ λu s1 ⟨x,H1,I1,rx,a,C,dx,fs,g,ex,ea,c,k,l,q⟩=> ?_) ht
 subst ex
 obtain rfl:ι:=rx
 show kO I1 ea c k l (q s1 I1)
universe e
section
variable {X:Cx}{ag:Ÿ}{σ:St}{H:Hp}{s:eY}{A:Around}{E:Ε}{Q:Ε}{c:eC}{b:Bool}
inductive rB (K:PySem.W.Frag)(H:Hp):fŰ where
 | fb:rB K H .fb gş
 | bl (x:Bool):rB K H (.bl x) Κ
 | int (i:Int):rB K H aϪ ξ
 | str (x:Str):rB K H aϫ μ
 | Nn (x:UInt64):rB K H (.Nn x) (.type "float")
 | lst {a:Addr} {xs:ã} (e:gŌ):jϴ
 | nF {a:Addr} {o:Obj} {xs:ã} (e:H a=hϹ):jϴ
 | tup {a:Addr} {xs:ã} (e:H a=eŝ):rB K H Ī ϋ
 | dK {a:Addr} {kvs:dý} (e:gŠ):jϵ
 | dT {a:Addr} {kvs:gÃ} (e:gš):jϵ
 | ins {a C dx:Addr} {fs:dϔ} (e:iĈ) (cl:aþ) (ha:PySem.W.findIn K ī cł =lğ) (hn:PySem.W.specialIn K (jě) "__get__" =some (some lÈ)) (htk:PySem.W.takesIn K (jě)=Ŏ) (hm:PySem.W.mroIn K C (eŵ)=Ŏ):rB K H Ī ī
def Ga {x:V}{u t:eC}(I:Ω)(rx:ĝ)(ty:rB X.K H x t)(e:W.kitOne X.K t c=ô)(h: ∀tk,Q (aū) {s with toks:=tk}): wpAny ϗ A (call iċ [u,c]) Q E s:=by
 cases ty with
 | fb=>cases (show dú from rx);show cS W.kitx_none I.mx True.intro e ϐ h
 | bl y=>cases (show u=Value.bool y from rx);show cS W.kitx_bool I.mx True.intro e ϐ h
 | int i=>let⟨t,q⟩:=(show hÿ from rx);cases q;show cS W.kitx_int I.mx True.intro e ϐ h
 | str y=>let⟨t,q⟩:=(show ∃t,u=dϱ from rx);cases q;show cS W.kitx_str I.mx True.intro e ϐ h
 | Nn y=>let⟨t,q⟩:=(show ∃t,u=Value.float y t from rx);cases q;show cS W.kitx_float I.mx True.intro e ϐ h
 | @lst a xs ea=>
  cases jũ;let⟨_,_,n,_,h1⟩:=(show eL X.prog X.w H s.heap a bŗ from cŃ)
  show mË
 | @nF a ob xs ea=>
  cases jũ;let⟨_,_,_,n,_,h1⟩:=(show eL X.prog X.w H s.heap a (.nF ob bŗ) from cŃ)
  show mË
 | @tup a xs ea=>
  cases jũ;let⟨_,_,_,p⟩:=(show eL X.prog X.w H s.heap a ņ from cŃ)
  let⟨o,h1,h2,_⟩:=p;show cS W.kitx_tuple I.mx b϶ e ϐ h
 | @dK a kvs ea=>
  cases jũ;let⟨_,_,vs,_,p⟩:=(show eL X.prog X.w H s.heap a ō from cŃ)
  let⟨o,es,ep,h1,h2,_⟩:=p;show mÔ
 | @dT a kvs ea=>
  cases jũ;let⟨_,_,xs,_,o,es,ep,h1,h2,_⟩:=(show eL X.prog X.w H s.heap a bť from cŃ)
  show mÔ
 | @ins a C dx fs ea cl ha hn htk hm=>cases jũ;let⟨mA,O,_⟩:=tq I.c9 ea;let⟨od,J,_⟩:=O.look;show cS (W.kitx_own (cl.get _) cl.hd ha hn htk hm) I.mx J e ϐ h
universe e
structure eV (k:Nat)(A:Around):Prop where
 hd:eŶ
 dp:A.depth+3*k+5<recursionLimit
 un:A.units+16*k+200<cLine
theorem eV.mono {j k:Nat}{A:Around}(r:aā)(h:j<=k):eV j A:=#[r.hd,by have:=r.dp;lia,by have:=r.un;lia]
theorem eV.deeper {k:Nat}{A:Around}(r:eV Ó A)(env:Env):eV k (A.deeper env):=#[r.hd,by have:=r.dp;change A.depth+1+3*k+5<_;lia,by have:=r.un;change A.units+3+16*k+200<_;lia]
def Ca {A:Around}{C:iB}{us:Ê}{kw:dĘ}:(lϵ).depth=A.depth+1:=by first | rfl | simp[Around.under,Code.weight,Code.isCreation,Code.isGuard,Code.isCaller,Code.frames,Code.isFrame,guardIds]
def B_ {A:Around}{C:iB}{us:Ê}{kw:dĘ}:(lϵ).units=bŦ:=by first | rfl | simp[Around.under,Code.cUnits,Code.frames,Code.isFrame]
theorem eV.make {k:Nat}{A:Around}(r:eV Ó A)(C:iB)(us:Ê)(kw:dĘ):eV k (lϵ):=#[r.hd,by have:=r.dp;rw[Ca];lia,by have:=r.un;rw[B_];lia]
def eV.depth {k:Nat}{A:Around}(r:aā):A.depth<recursionLimit:=by have:=r.dp;lia
def eV.units {k:Nat}{A:Around}(r:aā):A.units+64<cLine:=by have:=r.un;lia
def Fo:TA:=λ_ H Q=>Q [] H
def Dm (ta:TE)(tr:TA):TA:=λσ H Q=>ta σ H λx H1=>tr σ H1 λxs H2=>Q aŰ H2
section
variable {X:Cx}{e:Expr}{es:Đ}{te:TE}{t:TA}{pos:Pos}
theorem ah:PA X [] Fo:=λ_ _ _ _ H Q I h=>Calls.spliced_nil #[[],H,I, .nil,h]
def aa (ha:ŋ)(hr:bŧ)(hs:ϻ:=by rfl):PA X Ē (Dm te t):=by intro pos ag s σ H Q I h;rw[hs];change wpAny _ _ (spliced (hě::jϮ)) _ _ s;exact Calls.spliced_cons (dH hĉ kî);show dH (hr pos ag s1 σ H1 _ I1 q1) λus s2 ⟨xs,H2,I2,r2,q2⟩=>#[aÉ,H2,I2, .cons r1 r2,q2]
def Ut (t:TA):TE:=λσ H Q=>t σ H λxs H1=>Ϝ /\ ∀p,bŨ ->Q ĭ (upd H1 p ņ)
def Uz (t:TA):TE:=λσ H Q=>t σ H λxs H1=>Ϝ /\ ∀p,bŨ ->Q ĭ (upd H1 p bŗ)
def fq {x1}(h:bŧ):PE X (.Tuple es x1 pos) (Ut t):=by intro ag s σ H Q I hq;exact wpAny_Tuple_spliced nÈ;have hf:iϋ:=gő;exact#[hϻ,upd H1 s1.heap.objs.size ņ,lϕ,rfl,aĂ];show#[z,us,r,jė]
def cY (h:bŧ):PE X (.List es pos) (Uz t):=by intro ag s σ H Q I hq;exact wpAny_List_spliced nÈ;have hf:iϋ:=gő;exact#[hϻ,upd H1 s1.heap.objs.size bŗ,lϕ,rfl,aĂ];show#[z,us,0,r,Ģ]
universe e
abbrev Sp:=À ->Hp ->VK ->XK ->Prop
abbrev G1:=è ->Hp ->eY ->XK ->Ε
structure C5 (P:Program)(w:World)(K:PySem.W.Frag)(mg:gń)(base:Heap)(A:Around)(outer:aϠ)(s:Shared)(H:Hp):Prop where
 frames:A.frames=some outer
 mod:Mod K mg base
 bs: ∀b o,base.get? b=ä ->Ϥ /\ ğ
 KJ:base.objs.size<=s.heap.objs.size
 mH:s.heap.FunFrames base outer
 G_: ∀b∈Į,ğ
 c9:lN P w H s.heap
 bare:eŤ
def CE (outer:è)(P:pF)(w:World)(H:Hp)(s:eY)(Q:VK)(u:eC)(s':eY):Prop:=cU λv H'=>oR (s'.os=s.os) (fð) lÉ (lN P w H' s'.heap) (Ğ) (aí)
def CR (CX:G1)(outer:è)(P:pF)(w:World)(H:Hp)(s:eY)(Q:VK)(E:XK)(r:Result)(s':eY):Prop:=
 match r with
 | .ok (.ret u)=>iČ
 | .ok _=>False
 | .error e=>CX outer H s E e s'
structure cB (P:Program)(w:World)(K:PySem.W.Frag)(mg:gń)(base:Heap)(CX:G1)(k:Nat)(f:Addr)(fd:FuncData)(ps:aϟ)(sp:Sp):Prop where
 len: lų
 run: ∀ (A:Around) (outer:aϠ) (s:Shared) (H:Hp) (args:Args) (us:List Value) (vs:ã) (Q:VK) (E:XK),aā ->jŪ ->BindsTo s fd args cŅ ->aϨ ->cń ->codeAny cĳ A (.call ģ args) (CR CX outer P w H s Q E) s
theorem cB.imp {P:pF}{w:World}{K:jv}{mg:Ũ}{base:Heap}{CX:G1}{k:Nat}{f:iB}{fd:FuncData}{ps:ê}{sp UM:Sp}(F:cB P w K mg base CX k f fd ps sp) (h: ∀vs H Q E,cņ ->cń):cB P w K mg base CX k f fd ps UM:=#[λvs H Q E q=>F.len vs H Q E (h _ _ _ _ q),λA outer s H args us vs Q E hr he hb hv hs=>F.run A outer s H args us vs Q E hr he hb hv (h _ _ _ _ hs)]
theorem C5.make {P:pF}{w:World}{K:jv}{mg:Ũ}{base:Heap}{A:Around}{outer:è}{s:eY}{H:Hp}(e:jŪ)(C:iB)(us:Ê)(kw:dĘ): C5 P w K mg base (lϵ) outer s H:=#[by first | show e.frames | (simpa [Around.under,Code.envs,Code.isFrame,pushEnvs] using e.frames),e.mod,e.bs,e.KJ,e.mH,e.G_,e.c9,e.bare]
section
variable {X:Cx}{ag:Ÿ}{σ:St}{H:Hp}{s s':eY}
theorem Inv.Nx (I:Ω):C5 X.prog X.w X.K X.mg X.base X.A X.stack s H:=#[I.ok.frames,I.ok.mod,I.bs,fý,I.stack,I.o0,I.c9,I.bare]
def Inv.after {Q:VK}{u:eC}(I:Ω)(h:CE X.stack X.prog X.w H s Q u s'):EP X ag σ Q u s':=by let⟨v,H',os,bare,un,c9,r,q⟩:=h;let⟨hh,g,d,t,ZO⟩:=s';obtain rfl:ZO=s.os:=os;show#[v,H',I.call (h':=hh) (g':=g) (d':=d) (t':=t) (ch:= []) un c9 bare jĜ,r,q]
universe e
def wG (sp:Sp)(v8:À)(E:XK)(t:TA):TE:=λσ H Q=>t σ H λvs H1=>sp aϻ H1 Q E
def tU (C:iB)(m:Str)(sp:Sp)(v8:À)(E:XK)(ta:TE)(t:TA):TE:=λσ H Q=>ta σ H λx H1=>gh λa dx fs=>fE Ū jÒ gŞ (t σ H1 λvs H2=>sp (x::aϻ) H2 Q E)
def zx (C:iB)(sp:Sp)(v8:À)(E:XK)(t:TA):TE:=λσ H Q=>t σ H λvs H1=> ∀x dx,H1 x=none ->H1 dx=none ->aý ->sp gţ lņ kŋ E
def Binds (K:jv)(fd:FuncData)(ps:ê)(ds:Ê):Prop:=∀ (s:eY) (us:Ê),cĿ ->iό ->BindsTo s fd bÀ (ps.zip bÁ)
theorem Binds.all {K:jv}{fd:FuncData}{ps:ê}(h: ∀us:Ê,gϯ ->bindArgs fd bÀ=fű):fŲ:=λs us _ hl=>by rw[cA] at hl ⊢;show .of_eq (h us hl)
def gO (CX:G1)(X:Cx)(E:XK):Prop:= ∀ (ag:Ÿ) (σ:St) (H:Hp) (s:eY) (e:eC) (s':eY),Ω ->CX X.stack H s E e s' ->X.xe e s'
section
variable {X:Cx}{CX:G1}{k:Nat}{f C:iB}{fd:FuncData}{ps:ê}{sp:Sp}{v8:À}{ds:Ê}{E:XK}{x m:Str}{p pos eK:Pos}{e o:Expr}{es:Đ}{ta:TE}{t:TA}
def BN {ag:Ÿ}{σ:St}{H:Hp}{s:eY}{Q:VK}{us:Ê}{vs:À}(F:lŴ)(hr:į)(hb:gŤ)(hd:bÂ)(hx:bũ) (I:Ω) (r:aϨ) (h:sp aϻ H Q E):wpAny ϗ X.A gť Η X.xe s:=by
 have r2:cF aϻ bÁ:=cŇ;have hl:iό:=by rw[<- r2.length];show fþ
 exact wpAny_call (codeAny_mono (F.run X.A X.stack s H bÀ bÁ aϻ Q E hr I.Nx gØ r2 h) eŸ);cases r with
 | error e=>show hx ag σ H s e s' I hq
 | ok fl=>
  cases fl with
  | ret u=>show I.after hq
  | next=>show dϲ
  | brk=>show dϲ
  | cont=>show dϲ
def DU (F:lŴ)(hr:į)(hg:ì)(hm:að=dϮ)(hk:W.keepIn X.K ģ=true)(hb:gŤ)(hd:bÂ)(hx:bũ) (ha:Μ) (ni:ϰ:=by decide) (he:ϻ:=by rfl) (nh:Ϲ:=by rfl): PE X kŭ (wG sp v8 E t):=by intro ag s σ H Q I h;exact kϮ;exact W.callWith_K (h₀:=X.base) I.ok.mod.OX hk mŰ he nh;show BN F hr hb hd hx I1 r q
theorem DS {pl:a϶}(he:bŤ)(c:aϸ)(hm:dĝ)(F:lŴ)(hr:į)(hb:gŤ)(hd:bÂ)(hx:bũ)(ha:Μ) (j8:ϻ:=by rfl) (nh:Ϲ:=by rfl) (ht:mÕ=(do
   let ov <- Ż
   gÕ
   let (f,first) <- kě
   nÝ):=by rfl):
  PE X lĳ (tU C m sp v8 E ta t):=by
 intro ag s σ H Q I h
 exact nî
 subst ex
 obtain rfl:ι:=rx
 exact gŧ
 exact W.callWith_K (first:= Ĭ) (h₀:=X.base) I.ok.mod.OX hm.kp (dH (ha pos ag s1 σ H1 _ I1 q) λus s2 ⟨vs,H2,I2,r,q2⟩=>#[I2.mx,?_]) j8 nh
 show BN (us:= bϷ) (vs:= ß::vs) F hr hb hd hx I2 (.cons rfl r) q2
theorem Iu {pl:a϶}(he:bŤ)(c:aϸ)(hm:dĝ)(F:lŴ)(hr:į)(hb:gŤ)(hd:bÂ)(hx:bũ) (ht:lΤ=(do
   let ov <- Ż
   gÕ
   let (f,first) <- kě
   nÉ):=by rfl):
  PE X kϯ (tU C m sp v8 E ta Fo):=by
 intro ag s σ H Q I h
 exact nî
 subst ex
 obtain rfl:ι:=rx
 exact gŧ
 show W.callWith_K0 (first:= Ĭ) I1.mx hm.kp (BN (us:= Ĭ) (vs:= Ĭ) F hr hb hd hx I1 fų q)
structure Mk (K:PySem.W.Frag)(C f:Addr):Prop where
 makes:PySem.W.makesIn K C=true
 init:PySem.W.findIn K ī bϴ =hė
 fn:jŨ
 kp:PySem.W.keepIn K ī=true
def HX {ag:Ÿ}{σ:St}{H:Hp}{s:eY}{Q:VK}{us:Ê}{vs:À}(M:Mk X.K C f)(F:lŴ)(hr:dĞ)(hb:gŤ)(hd:bÂ) (hx:bũ) (I:Ω) (r:aϨ) (h: ∀x dx,H x=none ->H dx=none ->aý ->sp gţ (upd (upd H dx aϜ) x eŷ) kŋ E): wpAny ϗ X.A (call ī us) Η X.xe s:=by
 have hq:=h ϥ s.heap.objs.size (I.c9.fresh (dϳ)) gϱ (iĊ);have I2:=Inv.made (C:=C) I;have r2:cF (V.ref ϥ::aϻ) (jϷ::bÁ):= .cons rfl (cŇ);have hl:(kŮ++ds).length=ps.length:=by have e:=r2.length;rw[F.len _ _ _ _ hq] at e;show e.symm
 exact wpAny_call (Jm (f:=f) I.mx M.makes M.init (beq_iff_eq.mp M.fn) (codeAny_mono (F.run _ X.stack _ _ #[kŮ,[]] (jϷ::bÁ) _ _ E (hr.make C us []) (I2.Nx.make C us []) (hb _ (kŮ) I2.mx hl) r2 hq) λr s' G6=> ?_));cases r with
 | error e=>show hx ag σ _ _ e s' I2 G6
 | ok fl=>
  cases fl with
  | ret u=>let⟨v,H',I3,rv,ev,q3⟩:=I2.after G6;subst ev;show#[rv,#[V.ref ϥ,H',I3,rfl,q3]]
  | next=>show dϴ
  | brk=>show dϴ
  | cont=>show dϴ
def DT (M:Mk X.K C f)(F:lŴ)(hr:dĞ)(hg:ì)(hm:að=dϵ)(hb:gŤ)(hd:bÂ)(hx:bũ) (ha:Μ) (ni:ϰ:=by decide) (he:ϻ:=by rfl) (nh:Ϲ:=by rfl): PE X kŭ (zx C sp v8 E t):=by intro ag s σ H Q I h;exact kϮ;exact W.callWith_K (h₀:=X.base) I.ok.mod.OX M.kp mŰ he nh;show HX M F hr hb hd hx I1 r q
universe e
structure cX (N P:aϟ)(sc:Scope):Prop where
 kind:sc.kind= .function
 co:sc.isCoroutine=false
 gen:sc.isGenerator=false
 nd:N.Nodup
 pre:N.take P.length=P
 par: ∀x∈P,mħ
 Q9: ∀y∈sc.names,y.2≠ .free
theorem xE {kindOf:gÛ}{x:Str}: ∀ {binds:dĘ} {m:Ũ},hĝ ->bindL kindOf binds m x=m x
 | [],_,_=>rfl
 | (n,v)::r,m,h=>by
  unfold bindL;rw[xE hŷ];split;have:x≠n:=by rintro rfl;show h v bq
  simp[this];rfl
theorem xG {kindOf:gÛ}{x:Str}: ∀ {binds:dĘ} {m:Ũ},hĝ ->bindC kindOf binds m x=m x
 | [],_,_=>rfl
 | (n,v)::r,m,h=>by
  unfold bindC;rw[xG hŷ];split;rfl;have:x≠n:=by rintro rfl;show h v bq
  simp[this]
theorem xF {kindOf:gÛ}{x:Str}{v:eC}: ∀ {P:ê} {vs:Ê} {i:Nat} {m:Ũ},P.Nodup ->P[i]? =à ->eŹ ->kindOf x=ŧ ->bindL kindOf (bÃ) m x=â
 | [],_,_,_,_,h,_,_=>by simp at h
 | _::_,[],_,_,_,_,h,_=>by simp at h
 | p::P,w::vs,0,m,nd,h1,h2,hk=>by simp at h1 h2;subst h1;subst h2;change bindL kindOf gÜ m p=_;unfold bindL;rw[xE lŇ,aÇ];simp
 | p::P,w::vs,i+1,m,nd,h1,h2,hk=>by change bindL kindOf gÜ m x=_;unfold bindL;show xF (i:=i) (d9.mp nd).2 ⇑h1 ⇑h2 hk
theorem xH {kindOf:gÛ}{x:Str}{v:eC}: ∀ {P:ê} {vs:Ê} {i:Nat} {m:Ũ},P.Nodup ->P[i]? =à ->eŹ ->kindOf x≠ŧ ->bindC kindOf (bÃ) m x=â
 | [],_,_,_,_,h,_,_=>by simp at h
 | _::_,[],_,_,_,_,h,_=>by simp at h
 | p::P,w::vs,0,m,nd,h1,h2,hk=>by simp at h1 h2;subst h1;subst h2;change bindC kindOf gÜ m p=_;unfold bindC;rw[xG lŇ,aÈ];simp
 | p::P,w::vs,i+1,m,nd,h1,h2,hk=>by change bindC kindOf gÜ m x=_;unfold bindC;show xH (i:=i) (d9.mp nd).2 ⇑h1 ⇑h2 hk
def start (N:ê)(vs:À):St:=mé
def dW (CX:G1)(P:pF)(w:World)(K:jv)(mg:Ũ)(base:Heap)(N:ê)(qual:Str)(scope:Scope)(f:iB)(cd:eC)(A:Around)(outer:è)(s:eY)(H:Hp)(E:XK):Cx where
 prog:=P
 w:=w
 K:=K
 mg:=mg
 base:=base
 A:=lϫ
 N:=N
 s₀:=s
 H₀:=H
 env:=lí
 outer:=outer
 stack:=lí::outer
 ex:= []
 calm:=true
 fn:=λ_=>true
 pn:= []
 xe:=λe s'=>wpAny cĳ (lϫ) (leaving (lí) e) (λ_ UW=>CX outer H s E e UW) (λe' UW=>CX outer H s E e' UW) s'
def AS {sc:Scope}{n:Nat}{x:Str}(h:jţ): ∃c,(cellsFrom n sc.names []).lookup x=é:=by have q:=W.cellsFrom_some sc.names n [] aϯ;show Option.isSome_iff_exists.mp q
def Gb {CX:G1}{P:pF}{w:World}{K:jv}{mg:Ũ}{base:Heap}{N ps:ê}{qual:Str}{scope:Scope}{f:iB}{cd:eC}{A:Around}{outer:è}{s s1:eY}{H:Hp}{E:XK}{us:Ê}{vs:À} (S:d϶) (hd:eŶ) (e0:jŪ) (hl:gϮ) (r:aϨ) (x:InCallC s s.heap.objs.size (bindL lΥ cŅ bţ) (lŵ) (bindC lΥ cŅ bţ) s1): Inv (l϶) [] dğ H s1:=by
 have nh:ps.length<=N.length:=by have:=congrArg List.length S.pre;rw[bz] at this;lia
 let⟨h1,tk,rfl,hk⟩:=x.done;have Jh: ∀b:iB,b∉(l϶).ex:=λb z=>lŶ;exact#[#[e0.mod,S.kind,rfl,rfl,aA _,λy z c h1 h2=> ?_,cŉ,λy c _ h=> ?_,λ_=>hd,Around.frames_deeper e0.frames, .inr bϱ,iÀ,e0.bs,e0.KJ,λb _ _=>Jh b,iÀ,e0.mH,e0.G_],
  rfl,e0.bare,Un.kept hk,#[_,x.toInCall.ns,λi y v h1 h2 h3=> ?_],λy c h=>#[_,x.cell y c h],e0.c9.fresh ï,λy c h=> ?_,mĪ,e0.c9.kept hk,?_]
 show name_of_addr x.apart (d0 h1) (d0 h2);have hy:hĞ=bϥ \/ hĞ=ś:=hy;obtain hy | hy:=hy;show AS hy;show absurd rfl (S.Q9 _ (d0 hy));show kŌ;have hi:cŊ:=by unfold start at h2;by_cases hi:cŊ;show hi;rw[bÄ] at h2;rw[de] at h2;split at h2<;>cases h2
 have ha:eŹ:=by
  unfold start at h2;rw[bÅ,aD] at h2;cases e:vs[i]? with
  | none=>rw[e] at h2;cases h2
  | some a=>rw[e] at h2;cases h2;rfl
 let⟨u,hu,rv⟩:=r.get ha;have hp:ps[i]? =õ:=by rw[<- S.pre,List.getElem?_take_of_lt ∅];show h1
 have ndP:ps.Nodup:=by rw[<- S.pre];show S.nd.sublist (List.take_sublist _ _)
 exact#[u,rv,?_];obtain k | k:=S.par y (a7 hp);show .inl #[k,xF ndP hp hu k];let⟨c,e⟩:=AS (n:=gś) k;exact .inr #[aâ,c,e,?_];have q:=x.cell y c e;rw[xH ndP hp hu (by change hĞ≠_;rw[k];decide)] at q;show q;show e0.c9.fresh (kŌ);unfold start;change _=N.length;rw[aE,af,List.length_replicate];lia
def Pj {CX:G1}{P:pF}{w:World}{K:jv}{mg:Ũ}{base:Heap}{k:Nat}{f:iB}{name qual:Str}{params:Arguments}{body:aŪ}{scope:Scope}{dV kV jL pm cdv ct oc:eC}{an od:Î} {BV:dϷ} {N ps:ê} {sp:Sp} (lk:bϸ=some #[oc,od, .func mĆ,BV]) (Ey:iŢ) (S:d϶) (len: lų) (iF: ∀ (A:Around) (outer:è) (s:eY) (H:Hp) (vs:À) (Q:VK) (E:XK),eV k (A.deeper (envOfC qual scope s.heap.objs.size f cdv)) ->cń ->∃t,vI mÝ body t /\ lŷ): cB P w K mg base CX Ó f mĆ ps sp:=by
 exact#[len,λA outer s H args us vs Q E hr e0 hb r gC=> ?_];have hl:=len _ _ _ _ gC;have KX:cĿ:=e0.mod.OX.keeps iţ;have lim:s.heap.NoLimit:=e0.mod.nolimit.keeps iţ;have V4: ∀y∈ps.zip us,iÁ=ŧ \/ (iÁ=bϥ /\ ((lŵ).lookup y.1).isSome=true):=λ⟨n,v⟩ hy=>by obtain q | q:=S.par n (List.of_mem_zip hy).1;show aì;show .inr #[q,W.cellsFrom_some _ _ _ (aì)]
 exact codeAny_call_function hr.depth (KX _ _ lk) rfl S.co S.gen rfl (W.codeRec_of KX Ey) (hb _ _ _ _ ?_);exact wpAny_newFunctionEnv_cells S.kind V4 λenv he s1 x=> ?_;subst he;exact#[lim.keeps x.toInCall.keep,codeAny_func ?_];let⟨t,ht,hq⟩:=iF A outer s H vs Q E (hr.deeper _) gC;have I:Inv mÝ [] dğ H s1:=Gb S hr.hd e0 hl r x;exact bf (ht [] s1 dğ H _ I hq) (λfl s' hs=> ?_) λe s' hs=>hs;have j': ∀ {σ':St} {H':Hp} {v:V} {u:eC},Inv mÝ [] σ' H' s' ->Ğ ->aí ->iČ:=λ{σ' H' v u} J rv q=>#[v,H',J.os,J.bare,J.base,J.c9,rv,q]
 cases fl with
 | ret u=>let⟨v,σ',H',J,rv,q⟩:=hs;show j' J rv q
 | next=>let⟨σ',H',J,q⟩:=hs;show j' (v:=V.fb) (u:=Value.none) J rfl q
 | brk=>let⟨_,_,_,q⟩:=hs;show dĠ
 | cont=>let⟨_,_,_,q⟩:=hs;show dĠ
section
variable {X:Cx}{x:Str}{p pos:Pos}{e:Expr}{es:Đ}{t:TA}{id T:String}{r:ϧ}
def UF (r:ϧ)(t:TA):TE:=λσ H Q=>t σ H λvs H1=>r vs H1 Q
def aW (hc:eN X dϸ r)(hg:ì)(hm:cĩ)(hv:eš=some dϸ)(ha:Μ)(hn:fê :=by decide)(ni:ϰ:=by decide) (he:ϻ:=by rfl) (nh:Ϲ:=by rfl):lΦ:=by intro ag s σ H Q I h;exact lň;show PyProof.Rows.callWith_builtin1 nÊ he nh
def cQ (hc:eN X bŪ r)(hg:ì)(hm:cĩ)(hv:eš=some bŪ)(ha:Μ)(hn:fê :=by decide)(ni:ϰ:=by decide) (he:ϻ:=by rfl) (nh:Ϲ:=by rfl):lΦ:=by intro ag s σ H Q I h;exact lň;show PyProof.Rows.callWith_type1 nÊ he nh
universe e
universe L2
namespace HT
open PySem PyProof.Rows
section
variable {prog:pF}{w:World}{A:Around}{E:Ε}{s:eY}
def NF {t b:iB}{vs ws:Ê}{Q:Ε}(ht:IsTup s.heap t vs.toArray)(hb:iύ)(hv:vs≠ []) (h1:ws= [] ->Q bÆ s) (h2:ws≠ [] ->Q Ϫ {s with heap:=s.heap.push {cls:= dϕ,data:= .seq fŴ}}) (hsz:vs.length+ws.length<=sizeLine):mķ:=by
 let⟨hğ,ho,hc,n,hd⟩:=id ht;let⟨hŸ,RI,Nf,n2,hd2⟩:=id hb;simp only at hc hd Nf hd2;subst hc hd Nf hd2;have e:vs.toArray++ws.toArray=fŴ:=by simp
 by_cases hw:ws= []
 show concat_meets cŋ cŌ noFill_tuple_add seq_tuple_add PySem.F.slot_tuple_add PySem.F.entry_tuple_add jϸ (tuple_addW1 t b vs.toArray ws.toArray n n2 dd Yw sl Fv ⇑hv (by simp[hw])) #[ho,RI,h1 hw];exact concat_meets cŋ cŌ noFill_tuple_add seq_tuple_add PySem.F.slot_tuple_add PySem.F.entry_tuple_add jϸ (tuple_addW2 t b vs.toArray ws.toArray n n2 dd Yw sl Fv ⇑hv ⇑hw (by rw[aM,aM];show hsz)) #[ho,RI,?_];rw[e];show h2 hw
def ue (n d:Nat):ø ->Nat
 | none=>d
 | â=>if v<0 then(v+ē).toNat else min v.toNat n
theorem zI (n d:Nat):ue n d none=d:=rfl
def DE (n d k:Nat):ue n d (some aű)=min k n:=by change(if aű <0 then(aű+ē).toNat else min (k:Int).toNat n)=min k n;rw[ù,Int.toNat_natCast]
universe e
universe HT
namespace L2
open PySem PySem.Spec PyProof.Rows
abbrev TO:=St ->Hp ->(ø ->ŉ) ->Prop
def PO (X:Cx)(e:gk Expr)(t:TO):Prop:=∀ (ag:Ÿ) (s:eY) (σ:St) (H:Hp) (Q:ø ->ŉ),Ω ->Ħ ->wpAny ϗ X.A (evalPart e X.env) (λu s'=>cU λo H'=>dh (gÈ) (IsPart u o) (Q o H')) X.xe s
def Dk:TO:=λ_ H Q=>Q none H
def Oo (t:TE):TO:=λσ H Q=>t σ H λx H1=> ∃i,bŜ /\ Q bÇ H1
section
variable {X:Cx}{e:Expr}{te:TE}{lo hi:gk Expr}{tl th:TO}{pos p2:Pos}
def cI:PO X none Dk:=by intro ag s σ H Q I h;rw[evalPart_none];show aV #[none,H,I, .none,h]
def b_ (h:ŋ):PO X aϱ (Oo te):=by intro ag s σ H Q I hw;rw[evalPart_some];exact dH hċ kî;let⟨i,rfl,q⟩:=q1;let⟨t,rfl⟩:=r1;show#[some i,H1,I1, .int i t,q]
def SlR (X:Cx)(r:kϋ):Prop:=∀ (ag:Ÿ) (s:eY) (σ:St) (H:Hp) (x:V) (v vl vu:eC) (lo hi:ø) (sl:iB) (Q:VK),Ω ->ħ ->s.heap.IsSliceOf sl vl vu .none ->IsPart vl lo ->IsPart vu hi ->r x lo hi H Q ->cU λT id=>dh (mī) (dġ) (wpAny ϗ X.A (getItem v (.ref sl)) Η X.xe s)
def tSl (r:kϋ)(te:TE)(tl th:TO):TE:=λσ H Q=>te σ H λx H1=>tl σ H1 λl H2=>th σ H2 λu H3=>r x l u H3 Q
def bP {r:kϋ}(hr:SlR X r)(he:ŋ)(hl:PO X lo tl)(hu:PO X hi th):PE X (.Subscript e iÂ pos) (tSl r te tl th):=by intro ag s σ H Q I h;exact Subscript_ mĀ;exact wpAny_Slice (dH (hl ag s1 σ H1 _ I1 q1) λvl s2 ⟨l,H2,I2,pl,q2⟩=>dH (hu ag s2 σ H2 _ I2 q2) λvu s3 ⟨u,H3,I3,pu,q3⟩=> ?_);rw[evalPart_none];exact aV ?_;have I4:Inv X ag σ H3 nÔ:=I3.kept (t':=s3.toks) fŵ;let⟨T,id,hT,ht,hg⟩:=hr ag nÔ σ H3 x v vl vu l u s3.heap.objs.size Q I4 r1 (Heap.IsSliceOf.new ..) pl pu q3;change wpAny ϗ X.A (subscriptTail e iÂ v (iÃ)) Η X.xe nÔ;show tail_any (ops:= [iÃ,v]) ht hT hg (by with_unfolding_all rfl)
def AQ (xs:À)(lo hi:ø):À:=nË
def AO (xs:À)(lo hi:ø):(cō).length<=xs.length:=by unfold AQ;rw[bz,dy];lia
def U8 (K:jv):R2:=λx y H Q=>jD λa b xs ys=>KQ Ū cŎ (cĬ) dϹ (bÈ) kï (hŹ) (mŉ)
def cF.kK {xs:À}{us:Ê}(r:Ĝ):us= []↔aĄ:=by
 cases r with
 | nil=>simp
 | cons _ _=>simp
def Ms:jE X fö (U8 X.K):=by intro ag s σ H x y v u Q I rx ry h;let⟨a,b,xs,ys,rfl,rfl,ha,hb,hx,hz,q1,q2⟩:=h;cases rx;cases ry;let⟨bN,r1,p1,_⟩:=I.tuple ha;let⟨yH,r2,p2,_⟩:=I.tuple hb;exact HT.NF p1 p2 (λz=>hx (r1.kK.mp z)) (λz=>#[ß,H,I,rfl,q1 (r2.kK.mp z)]) (bÉ) (by rw[<- r1.length, <- r2.length];show hz);exact#[hŲ,_,I.laid (t':=s.toks) (o:= dϺ) (fŵ) ï ?_,rfl,q2 (λw=>z (r2.kK.mpr w)) _ gϱ];show#[by rw[aE];show hz,_,r1.append r2,bϹ]
universe e
def vY (n:Nat)(i:Int):gk Nat:=if 0<=i then(if i<n then dĢ else none) else if dģ then some cŏ else none
def jC {α:Type}(xs:Ì)(i:Int):gk α:=(eŻ).bind λj=>xs[j]?
def Eo {n:Nat}{i:Int}{j:Nat}(h:vY n i=aą): seqIndex? i n=aą /\ j<n /\ dģ /\ i<n:=by unfold vY at h;by_cases h0:0<=i;rw[aF h0] at h;by_cases h1:i<n;rw[aÊ] at h;have e:i.toNat=j:=bF h;show#[by rw[seqIndex_of h0 h1,e], ∅, ∅,h1];rw[aË] at h;cases h;rw[aC h0] at h;by_cases h1: dģ;rw[aÊ] at h;have e:cŏ=j:=bF h;show#[by rw[seqIndex_neg ∅ h1,e], ∅,h1, ∅];rw[aË] at h;cases h
def yZ {α:Type}{xs:Ì}{i:Int}{v:α}(h:eż): ∃j,gX (hź=aą) (eŽ) (cŐ) (-(xs.length:Int) <=i) (cő):=by
 unfold jC at h;cases e:eŻ with
 | none=>rw[e] at h;cases h
 | some j=>rw[e] at h;let⟨h1,h2,h3,h4⟩:=Eo e;show#[j,h1,h,h2,h3,h4]
def gM {α:Type}{xs:Ì}{j:Nat}{v:α}(h:eŽ):jC xs (j:Int)=â:=by
 have hj:cŐ:=(bu.mp h).1;have e:vY xs.length (j:Int)=aą:=by unfold vY;rw[aĆ,aĆ];simp
 unfold jC;rw[e];show h
def NM (b:Expr):Prop:= ∀o i,subscripted b false o i=operate [o,i] dϻ
def Tq (X:Cx)(r:R2):Prop:=∀ (value slice:Expr) (ag:Ÿ) (s:eY) (σ:St) (H:Hp) (x y:V) (v u:eC) (Q:VK),Ω ->ħ ->Ĩ ->r x y H Q ->subscripted slice false v u=operate [v,u] (getItem v u) ->wpAny ϗ X.A (subscriptTail value slice v u) Η X.xe s
def xK (X:Cx)(id:String)(r:ϫ):Prop:=nņ
section
variable {X:Cx}{a b:Expr}{ta tb:TE}{pos:Pos}
def uu {r:R2}(hr:Tq X r)(ha:Ŋ)(hb:bŔ)(hs:NM b):PE X (.Subscript a b pos) dĔ:=by intro ag s σ H Q I h;show Subscript_ (Su ha hb I h λv u s2 x y H2 I2 rx ry q=>hr a b ag s2 σ H2 x y v u Q I2 rx ry q (hs _ _))
def QC (K:jv):R2:=λx y H Q=>jD λp xs i v=>gX (x= ò) cŒ (cĻ) (eż) (Q v H)
def QB (K:jv):R2:=λx y H Q=>jD λp xs i v=>gX (x= ò) cŒ (cļ) (eż) (Q v H)
def U3:R2:=λx y H Q=>gh λz i c=>gX cœ cŒ hġ (gÝ=é) (Q (fÿ) H)
def MU:Tq X (QC X.K):=by
 intro value slice ag s σ H x y v u Q I rx ry h hs;let⟨p,xs,i,z,rfl,rfl,hq,he,q⟩:=h;cases rx;let⟨t,rfl⟩:=ry;let⟨bN,r,pl,hz⟩:=Ō;let⟨j,h1,h2,h3,h4,h5⟩:=yZ he;let⟨w,ew,ya⟩:=r.get h2;have hl:=r.length;have hn:=oI;have j':fŶ:=eÀ
 by_cases h0:0<=i;have hj:i.toNat=j:=by rw[seqIndex_of h0 h5] at h1;show aÌ
 show item_listR pl.isList h0 ∅ jÓ j' hs;have hj:(i+hŻ).toNat=j:=by rw[seqIndex_neg ∅ h4] at h1;rw[aM, <- hl];show aÌ
 show subscriptTail_builtinR (x:=w) pl.isList.typeIs slot_list_getitem.lookup (wpAny_getItem_list_neg (Q:=kĜ) pl.isList ∅ gŨ ∅ jÓ #[rfl,j']) hs
def Rq:Tq X (QB X.K):=by
 intro value slice ag s σ H x y v u Q I rx ry h hs;let⟨p,xs,i,z,rfl,rfl,hq,he,q⟩:=h;cases rx;let⟨t,rfl⟩:=ry;let⟨bN,r,pl,hz⟩:=bϬ;let⟨j,h1,h2,h3,h4,h5⟩:=yZ he;let⟨w,ew,ya⟩:=r.get h2;have hl:=r.length;have hn:=oI;have j':fŶ:=eÀ
 show subscriptTail_builtinR (x:=w) pl.typeIs slot_tuple_getitem.lookup (getItem_tuple (j:=j) (Q:=kĜ) pl ∅ ∅ (by rw[aM, <- hl];show h1) ⇑ew #[rfl,j']) hs
def uN:Tq X U3:=by
 intro value slice ag s σ H x y v u Q I rx ry h hs;let⟨z,i,c,rfl,rfl,hz,he,q⟩:=h;let⟨t,rfl⟩:=rx;let⟨t',rfl⟩:=ry;let⟨j,h1,h2,h3,h4,h5⟩:=yZ he;have hl:z.cps.toList.length=z.length:=by simp[Str.length]
 rw[hl] at h1 h4 h5;have hn:=oI;show tail_any (fŷ) slot_str_getitem.lookup (getItem_str (c:=c) (by have e1:decide (i< -(aü:Int))=false:=ay ∅;have e2:decide (i≥aü)=false:=ay ∅;rw[e1,e2,Bool.or_false]) (by rw[h1];simpa using h2) #[fÿ,H,đ,ĩ,q]) hs
def B9 (bN:Ê)(n j:Nat)(u:eC):Obj.mapSeq (fŸ j u) lű= {cls:= ŷ,data:= .seq (bN.set j u).toArray n}:=by simp[Obj.mapSeq]
def Inv.lst {ag:Ÿ}{σ:St}{H:Hp}{s:eY}{p:iB}{xs:À}(I:Ω)(h:gũ): cU λ bϡ aŢ=>dh (aϖ) (eÁ=lϨ) hŭ:=by let⟨z,bN,n,r,e⟩:=I.c9 p _ h;show#[bN,n,r,e,z]
def Inv.Rh {ag:Ÿ}{σ:St}{H:Hp}{s:eY}{p:iB}{xs ys:À}{bN its':Ê}{n n':Nat}{f:Obj ->Obj}(I:Ω)(h:gũ) (ho:eÁ=lϨ) (hf:f lű= lΧ) (r:cF ys its') (hz:gϲ) (t:Nat): Inv X ag σ (upd H p bū) {s with heap:=gÞ,toks:=t}:=by
 have e:(gÞ).get? p=some lΧ:=by rw[df f ho (by rw[hf] <;>rfl),hf]
 exact I.write (x:=p) (e:=p) (by rw[h];trivial) ř (λb u hb q=>iÄ q) ú ?_;show#[hz,its',n',r,e]
def OF:kω:=λo i v H Q=>jD λp xs k j=>gX (o= ò) (i= .int k) (gũ) (vY xs.length k=aą) (Q jΝ)
def gD:WJ X OF:=by
 intro ag s σ H o i v ov iv u Q I ro ri rv h;let⟨p,xs,k,j,rfl,rfl,hp,hj,q⟩:=h;cases ro;let⟨t,rfl⟩:=ri;let⟨bN,n,r,ho,hz⟩:=I.lst hp;let⟨h1,h2,h3,h4⟩:=Eo hj;have hl:=r.length;have hn:=oI;have I':Inv X ag σ jΝ {s with heap:=s.heap.update p (Obj.mapSeq (fŸ j u))}:=I.Rh hp ho (B9 bN n j u) (r.set rv j) (by rw[d_];show hz) s.toks;by_cases h0:0<=k;have hk:k.toNat=j:=by rw[seqIndex_of h0 h4] at h1;show aÌ
 show W.ki_setAt ho h0 ∅ (by rw[aM, <- hl];show h4) iώ;have hk:(k+hŻ).toNat=j:=by rw[seqIndex_neg ∅ h3] at h1;rw[aM, <- hl];show aÌ
 show W.ki_setBack ho ∅ (by rw[aM, <- hl];show h3) ∅ iώ
def xX (lo hi:ø)(n:Nat):jÔ.1=((HT.ue n 0 lo:Nat):Int) /\ jÔ.2.1=((HT.ue n n hi:Nat):Int) /\ jÔ.2.2=1:=by
 exact#[?_,?_,rfl];cases lo with
 | none=>simp[sliceBounds,HT.ue]
 | some i=>simp![sliceBounds,HT.ue,Option.getD_none,iŤ,if_true];by_cases h:i<0;simp![h,if_true] <;>lia;simp![h,eu] <;>lia
 cases hi with
 | none=>simp[sliceBounds,HT.ue]
 | some i=>simp![sliceBounds,HT.ue,Option.getD_none,iŤ,if_true];by_cases h:i<0;simp![h,if_true] <;>lia;simp![h,eu] <;>lia
def vN (bN:Ê)(lo hi:ø):slicePick bN.toArray lo hi none=((bN.drop (hĢ)).take (HT.ue bN.length bN.length hi - hĢ)).toArray:=by let⟨h1,h2,h3⟩:=xX lo hi bN.toArray.size;unfold slicePick;rw[h1,h2,h3];simp![sliceRange_one,pick_run,aM] <;>rfl
def U1 (K:jv):kϋ:=λx lo hi H Q=>cU λa xs=>dh Ū (cī) (∀p,İ ->Q ĭ (upd H p (.lst (cō))))
def gm:SlR X (U1 X.K):=by intro ag s σ H x v vl vu lo hi sl Q I rx hs pl pu h;let⟨a,xs,rfl,hx,q⟩:=h;cases rx;let⟨bN,r,ht,hz⟩:=I.list hx;have eD:=r.length;exact#[æ,_,slot_list_getitem.lookup,ht.isList.typeIs,?_];exact wpAny_getItem_list_slice ht.isList hs pl pu .none Ň ?_ gŨ;rw[vN, <- eD];exact#[hŲ,_,I.laid (t':=s.toks) (o:= .lst (cō)) (fŵ) ï ?_,rfl,ič];show#[az (AO xs lo hi) hz,_,0,(r.drop (hĠ)).take mÖ,Ģ]
def mI:V ->Bool
 | .fb=>true
 | Ò=>true
 | ð=>true
 | ñ=>true
 | _=>false
def qY:V ->V ->Bool
 | .fb, .fb=>true
 | .bl a, É=>a==b
 | .bl a, aĈ=>iĎ
 | aĉ, É=>iď
 | aĉ, aĈ=>a==b
 | aĊ, aċ=>a==b
 | _,_=>false
def Kj {A:Around}{s:eY}{y x:V}{u v:eC}(ry:Ĩ)(rx:ħ)(fy:mI y=true)(fx:bŬ):SeqAt.EqAt A s u v (qY y x):=by
 cases y with
 | fb=>
  cases ry;cases x with
  | fb=>cases rx;show gß
  | bl b=>cases rx;show SeqAt.EqAt.none_bool b
  | int b=>let⟨t,rfl⟩:=rx;show SeqAt.EqAt.none_int b t
  | str b=>let⟨t,rfl⟩:=rx;show SeqAt.EqAt.none_str b t
  | _=>show kΒ
 | bl a=>
  cases ry;cases x with
  | fb=>cases rx;show SeqAt.EqAt.bool_none a
  | bl b=>cases rx;show SeqAt.EqAt.bool_bool a b
  | int b=>let⟨t,rfl⟩:=rx;show SeqAt.EqAt.bool_int a b t
  | str b=>let⟨t,rfl⟩:=rx;show SeqAt.EqAt.bool_str a b t
  | _=>show kΒ
 | int a=>
  let⟨t',rfl⟩:=ry;cases x with
  | fb=>cases rx;show SeqAt.EqAt.int_none a t'
  | bl b=>cases rx;show SeqAt.EqAt.int_bool a t' b
  | int b=>let⟨t,rfl⟩:=rx;show SeqAt.EqAt.int_int a t' b t
  | str b=>let⟨t,rfl⟩:=rx;show SeqAt.EqAt.int_str a t' b t
  | _=>show kΒ
 | str a=>
  let⟨t',rfl⟩:=ry;cases x with
  | fb=>cases rx;show SeqAt.EqAt.str_none a t'
  | bl b=>cases rx;show SeqAt.EqAt.str_bool a t' b
  | int b=>let⟨t,rfl⟩:=rx;show SeqAt.EqAt.str_int a t' b t
  | str b=>let⟨t,rfl⟩:=rx;show SeqAt.EqAt.str_str a t' b t
  | _=>show kΒ
 | _=>show absurd (show bϳ from fy) br
def CF (x:V)(u:eC):Bool:=match u with
 | .none=>qY .fb x
 | aū=>qY aŬ x
 | .int i _=>qY aϪ x
 | .str z _=>qY (ać) x
 | _=>false
def Ki {x y:V}{u:eC}(r:Ĩ)(f:mI y=true):CF x u=qY y x:=by
 cases y with
 | fb=>cases r;rfl
 | bl b=>cases r;rfl
 | int i=>let⟨t,rfl⟩:=r;rfl
 | str z=>let⟨t,rfl⟩:=r;rfl
 | _=>show absurd (show bϳ from f) br
theorem qt {x:V}: ∀ {xs:À} {us:Ê},Ĝ ->eſ ->us.any aČ=gŪ
 | _,_, .nil,_=>rfl
 | y::xs,u::us, bō,f=>by rw[List.all_cons,cx] at f;rw[List.any_cons,List.any_cons,Ki r f.1,qt t f.2]
theorem mf {A:Around}{s:eY}{x:V}{v:eC}(rx:ħ)(fx:bŬ): ∀ {xs:À} {us:Ê},Ĝ ->eſ -> ∀u∈us,SeqAt.EqAt A s u v (CF x u)
 | _,_, .nil,_=>λu hu=>by cases hu
 | y::xs,u::us, bō,f=>λu' hu=>by rw[List.all_cons,cx] at f;obtain rfl | hu:=au.mp hu;rw[Ki r f.1];show Kj r rx f.1 fx;show mf rx fx t f.2 u' hu
def Cp (x:V)(xs:À):Bool:=gŪ
def U5 (K:jv)(neg:Bool):R2:=λx y H Q=>cU λp xs=>gX (y= ò) (cĻ \/ cļ) (bŬ) (eſ) (Q (.bl (if neg then !Cp x xs else Cp x xs)) H)
def FN:jE X fù (U5 X.K false):=by intro ag s σ H x y v u Q I rx ry h;let⟨p,xs,rfl,hq,fx,fs,q⟩:=h;cases ry;obtain hq | hq:=hq;let⟨bN,r,pl,hz⟩:=Ō;exact SeqAt.in_listAt aČ pl.isList kð gϳ;rw[lΨ,aŲ];show q;let⟨bN,r,pl,hz⟩:=bϬ;exact SeqAt.in_tupleAt aČ pl kð gϳ;rw[lΨ,aŲ];show q
def yp:jE X gū (U5 X.K true):=by intro ag s σ H x y v u Q I rx ry h;let⟨p,xs,rfl,hq,fx,fs,q⟩:=h;cases ry;obtain hq | hq:=hq;let⟨bN,r,pl,hz⟩:=Ō;exact SeqAt.notIn_listAt aČ pl.isList kð gϳ;rw[lΨ,aŲ];show q;let⟨bN,r,pl,hz⟩:=bϬ;exact SeqAt.notIn_tupleAt aČ pl kð gϳ;rw[lΨ,aŲ];show q
def yo:jE X gū (λx y H Q=>cU λi j=>dh cĹ cĺ (Q (.bl (!(! lϩ))) H)):=by intro ag s σ H x y v u Q I rx ry h;let⟨i,j,rfl,rfl,q⟩:=h;let⟨t,rfl⟩:=rx;let⟨t',rfl⟩:=ry;show notIn_str gŬ
def yW:eN X fŹ (λxs H Q=>cU λp ys=>dh eγ kĝ iÅ):=by intro ag s σ H xs us Q I r h;let⟨p,ys,rfl,hq,q⟩:=h;let⟨u,rfl,rx⟩:=Ĕ;cases rx;have hn:=oI;obtain hq | hq:=hq;let⟨bN,r',pl,hz⟩:=Ō;have eD:=r'.length;show Calls.call_len_list pl.isList hż mÞ;let⟨bN,r',pl,hz⟩:=bϬ;have eD:=r'.length;show len_tuple pl hż mÞ
def yV:eN X fŹ (mΛ):=by intro ag s σ H xs us Q I r h;let⟨z,rfl,hz,q⟩:=h;let⟨u,rfl,t,rfl⟩:=Ĕ;have hn:=oI;show len_str ∅ #[eÄ,H,đ,ĩ,q]
def yU:eN X Λ (λxs H Q=>cU λp ys=>dh eγ kĝ lΩ):=by
 intro ag s σ H xs us Q I r h;let⟨p,ys,rfl,hq,q⟩:=h;let⟨u,rfl,rx⟩:=Ĕ;cases rx;have j': ∀ (bN:Ê),cF ys bN ->gϲ -> ∀ (h':Heap) (c':Nat),(∀b o',dϜ=aŦ ->bŎ=aŦ) ->h'.get? s.heap.objs.size=some {cls:= ŷ,dict:=none,data:= .seq bN.toArray c',slots:= #[]} ->EP X ag σ Q Ϫ ϔ:=λbN r' hz h' c' kp e=>#[hŲ,_,I.laid (t':=s.toks) kp ï (show eL X.prog X.w _ h' _ bū from#[hz,bN,c',r',e]),rfl,ič]
 obtain hq | hq:=hq;let⟨bN,r',pl,hz⟩:=Ō;have eD:=r'.length;let⟨o,ho,hc,n,hd⟩:=pl.isList;show call_list_seq p ř ho hc hd lÊ hż;let⟨bN,r',pl,hz⟩:=bϬ;have eD:=r'.length;let⟨o,ho,hc,n,hd⟩:=pl;show call_list_seq p (ĥ) ho hc hd lÊ hż
def v_:eN X ϋ (λxs H Q=>cU λp ys=>dĤ /\ ((eÂ /\ lν) \/ (eÃ /\ Q ĭ H))):=by
 intro ag s σ H xs us Q I r h;let⟨p,ys,rfl,h⟩:=h;let⟨u,rfl,rx⟩:=Ĕ;cases rx;rcases h with⟨hq,q⟩ | ⟨hq,q⟩
 let⟨bN,r',pl,hz⟩:=Ō;have eD:=r'.length;exact call_tuple_list pl.isList (λh' kp=> ?_) hż;have I1:ké:=I.kept (t':=s.toks) kp;have I2:Inv X ag σ (upd H h'.objs.size bŭ) {s with heap:=h'.push {cls:= dϕ,data:= fĀ}}:=I1.laid (t':=s.toks) (fó) ï (show eL X.prog X.w _ _ _ bŭ from#[hz,bN,r',bϹ]);show#[gà,_,I2,rfl,q _ (gő)];let⟨bN,r',pl,hz⟩:=bϬ;show call_tuple_same pl #[ò,H,I,rfl,q]
def XI (K:jv)(T:String)(x:V)(H:Hp):Prop:=match x with
 | ñ=>T= aÅ
 | ð=>T= "int"
 | ò=>(T= æ /\ ∃xs,cĻ) \/ (T= aš /\ ∃o,dh (K.lookup p=ä) (hĀ) (cę)) \/(T= aĀ /\ ((∃kvs,H p=Θ) \/ ∃kvs,H p=some bť)) \/ (T= "set" /\ ∃S n,H p=some (.set S n))
 | _=>False
def Hw {ag:Ÿ}{σ:St}{H:Hp}{s:eY}{T:String}{x:V}{v:eC}(I:Ω)(r:ħ)(ty:XI X.K T x H): dġ /\ ∀a,v= ß -> ∃ob,dϞ=some ob /\ dĥ:=by
 cases x with
 | str z=>let⟨t,rfl⟩:=r;cases (show T= aÅ from ty);show#[fŷ,λ_ e=>nomatch e]
 | int i=>let⟨t,rfl⟩:=r;cases (show T= "int" from ty);show#[typeIs_int s i t,λ_ e=>nomatch e]
 | ref p =>
  cases r;rcases ty with⟨rfl,xs,hq⟩ | ⟨rfl,o,hk,hc,hd⟩ | ⟨rfl,hk⟩ | ⟨rfl,S,n,hk⟩
  let⟨bN,_,pl,_⟩:=Ō;exact#[pl.isList.typeIs,λa e=> ?_];cases e;let⟨o,n,e,c,hd,_⟩:=pl;show#[o,e,hd];exact#[#[o,I.mx p o hk,hc],λa e=> ?_];cases e;show#[o,I.mx _ o hk,hd];have z: ∃o,eÁ=ä /\ o.ExactDict:=by
   rcases hk with⟨kvs,hk⟩ | ⟨kvs,hk⟩
   let⟨_,_,_,_,o,_,_,e,ex,_⟩:=cŔ;show#[o,e,ex];let⟨_,_,_,_,o,_,_,e,ex,_⟩:=cŔ;show#[o,e,ex]
  let⟨o,e,ex⟩:=z;exact jÕ;cases e2;show eÅ;let⟨o,_,_,_,e,ex,_⟩:=cŔ;exact jÕ;cases e2;show eÅ
 | _=>show False.elim ty
def UG (K:jv)(T:String)(r:ϫ)(to:TE):TE:=λσ H Q=>to σ H λx H1=>cŕ /\ r x [] H1 Q
def XO (K:jv)(T:String)(r:ϫ)(to:TE)(t:TA):TE:=λσ H Q=>to σ H λx H1=>cŕ /\ t σ H1 λxs H2=>r x xs H2 Q
variable {o e:Expr}{es:Đ}{to:TE}{t:TA}{name:Str}{eK dM:Pos}{T id:String}{r:ϫ}
def Iy (pa:dĦ)(slot:eε)(VX:mØ)(hm:bŮ)(ho:bŘ) (mG:mß:=by rfl) (uT:jÖ:=by rfl):PE X (.Call iÆ [] [] dM) (UG X.K T r to):=by intro ag s σ H Q I h;exact wpAny_Call_method0_late mG uT mğ;let⟨h1,h2⟩:=cŖ;show#[T,id,pa,slot,VX,h1,h2,Calls.callWith_builtin rfl (PySem.evalArgs_none (hm ag s1 σ H1 x [] v [] Q I1 r1 .nil q1))]
def dQ (pa:dĦ)(slot:eε)(VX:mØ)(hm:bŮ)(ho:bŘ)(ha:Μ) (mG:mß:=by rfl) (RQ:nň:=by rfl) (uT:jÖ:=by rfl) (hs:ϻ:=by rfl) (Cs:lϊ:=by rfl): PE X lŚ (XO X.K T r to t):=by intro ag s σ H Q I h;exact wpAny_Call_method_late mG RQ uT rfl mğ;let⟨h1,h2⟩:=cŖ;exact#[T,id,pa,slot,VX,h1,h2,?_];have hA:=ha dM ag s1 σ H1 _ I1 q1;rw[hs] at hA ⊢;exact Calls.callWith_builtin (by change(false || lĴ)=false;rw[Cs] <;>rfl) (Calls.evalArgs_plain ?_);show dH hA λus s2 ⟨vs,H2,I2,r2,q2⟩=>hm ag s2 σ H2 x vs v us Q I2 r1 r2 q2
universe e
def WZ (X:Cx)(id:String)(r:ϫ):Prop:=nņ
def cF.one: ∀ {x:V} {us:Ê},cF [x] us -> iŞ :=by intro x us h;cases h with | cons r t=>cases t;show bϞ
def cF.two: ∀ {x y:V} {us:Ê},cľ ->cU λu v=>dh (us= [u,v]) (ĝ) (bË) :=by intro x y us h;cases h with | cons r t=>cases t with | cons q t=>cases t;show#[_,_,rfl,r,q]
theorem cF.zero: ∀ {us:Ê},cF [] us ->us= []
 | _, .nil=>rfl
theorem cF.eraseIdx: ∀ {xs:À} {us:Ê} (i:Nat),Ĝ ->cF (xs.eraseIdx i) (us.eraseIdx i)
 | _,_,_, .nil=> .nil
 | _,_,0, bŌ=>t
 | _,_,i+1, bō=> .cons r (cF.eraseIdx i t)
def Sg {α:Type}(l:Ì):l.eraseIdx (dĨ)=l.dropLast:=by
 induction l with
 | nil=>rfl
 | cons a r ih=>
  cases r with
  | nil=>rfl
  | cons b r=>
   have e:fź - 1=(eÆ - 1)+1:=by have h1:fź=r.length+2:=rfl;have h2:eÆ=bϺ:=rfl;lia
   rw[e,List.eraseIdx_cons_succ,ih];all_goals rfl
theorem w6 {α:Type}: ∀ (l:Ì) (i:Nat),(dĩ).length<=l.length
 | [],_=>aA _
 | _::_,0=>dϳ
 | _::r,i+1=>Nat.succ_le_succ (w6 r i)
section
variable {X:Cx}{ag:Ÿ}{σ:St}{H:Hp}{s:eY}{l b:iB}{xs ys zs:À}
def Inv.Jo {bN its':Ê}{n:Nat}{f:Ġ ->Ġ}{t':Nat}(I:Ω)(hH:gŭ) (e:mŊ) (hf:f bN.toArray=its'.toArray) (hv:cF ys its') (hz:gϲ): Inv X ag σ gϴ {s with heap:=s.heap.update l eζ,toks:=t'}:=by have q:=PySem.IsL.update e f;rw[hf] at q;exact I.write (x:=l) (e:=l) (by rw[hH];show trivial) ř (λb' u hb hu=>(dD s.heap eζ (cE hb)).trans hu) #[_,q] ?_;show#[hz,its',_,hv,q]
theorem Inv._d {bN:Ê}{t':Nat}(I:Ω)(hv:cF ys bN)(hz:gϲ): Inv X ag σ (upd H s.heap.objs.size bū) {s with heap:=s.heap.push {cls:= ŷ,data:= fĀ},toks:=t'}:=I.laid gá ï #[hz,bN,0,hv,Ģ]
theorem Inv.fresh (I:Ω):iĐ:=gÚ
def Inv.Aa (I:Ω)(hH:gŭ):Ϝ /\ cU λ bϡ aŢ=>dh (aϖ) (xs.length=bN.length) (mŊ):=by let⟨z,bN,n,r,e⟩:=I.c9 l _ hH;show#[z,bN,n,r,r.length,e]
def Je {n:Nat}(h:cŗ):Builtin.List.listTooLong n=false:=by unfold Builtin.List.listTooLong;show ay ∅
universe e
section
variable {X:Cx}
def DN:ϫ:=λx vs H Q=>gh λl xs y=>gX cŘ (vs= [y]) hģ hĤ (Q .fb (upd H l (.lst (xs++ [y]))))
def fK:WZ X eÇ DN:=by intro ag s σ H x vs v us Q I rx rv h;let⟨l,xs,y,rfl,rfl,hH,hz,q⟩:=h;cases rx;let⟨u,rfl,ru⟩:=rv.one;let⟨z,bN,n,r,hl,e⟩:=aŴ;exact call_meets F.slot_list_append bϻ F.entry_list_append (F.args_list_append_2 _ _) (PySem.list_append l bN.toArray n u fā) aŵ;exact#[.fb,_,I.Jo (its':=bN++ [u]) hH e Ň (r.append (.cons ru .nil)) ?_,rfl,q];rw[aE,List.length_singleton];lia
def DM:ϫ:=λx vs H Q=>jD λl b xs zs=>oR cŘ eη hģ (H b=eθ) kñ (Q .fb (upd H l fĂ))
def qQ:WZ X "list.extend" DM:=by
 intro ag s σ H x vs v us Q I rx rv h;let⟨l,b,xs,zs,rfl,rfl,hH,hB,hz,q⟩:=h;cases rx;let⟨u,rfl,ru⟩:=rv.one;cases ru;let⟨z,bN,n,r,hl,e⟩:=aŴ;let⟨z2,yH,n2,r2,Lu,e2⟩:=I.Aa hB;have hsz:kò<=sizeLine:=by rw[aM,aM];lia
 have V1:¬(!bN.toArray.isEmpty && Builtin.List.listTooLong (kò))=true:=by rw[Je hsz,Bool.and_false];show br
 exact call_meets F.slot_list_extend bϻ F.entry_list_extend (F.args_list_extend_2 _ _) (AutoSeq1.list_extend_list_list_0 l bN.toArray n b yH.toArray n2 V1 fā ∅) #[e,e2,?_];exact#[.fb,_,I.Jo (its':=bN++yH) hH e Ň eÈ ?_,rfl,q];rw[aE];lia
def afv:ϫ:=λx vs H Q=>gh λl xs y=>gX cŘ (aô) hģ (xs[xs.length - 1]? =õ) (Q y (upd H l (.lst xs.dropLast)))
def Ii:ϫ:=λx vs H Q=>qu λl xs i k y=>KQ cŘ (vs= [Þ]) hģ (-(aü) <=i) (i<aü) (hź=aĎ) (xs[k]? =õ) (Q y (upd H l (.lst (xs.eraseIdx k))))
def Jj:WZ X "list.pop" Ii:=by intro ag s σ H x vs v us Q I rx rv h;let⟨l,xs,i,k,y,rfl,rfl,hH,h1,h2,hk,hy,q⟩:=h;cases rx;let⟨u,rfl,ru⟩:=rv.one;let⟨t,rfl⟩:=ru;let⟨z,bN,n,r,hl,e⟩:=aŴ;let⟨w,hw,ya⟩:=r.get hy;exact call_meets F.slot_list_pop bϻ F.entry_list_pop (F.args_list_pop_2 _ _) (MeetsSeq.list_pop_at l bN.toArray n i t k w (fitsIndex_both h1 h2) (by rw[aM, <- hl];show hk) (by rw[<- Array.getElem?_toList];show hw) fā) aŵ;exact#[y,_,I.Jo (its':=eÉ) hH e ?_ (r.eraseIdx k) ?_,ya,q];change bN.toArray.eraseIdxIfInBounds k=(eÉ).toArray;rw[List.eraseIdxIfInBounds_toArray];have:=w6 xs k;lia
def Il:ϫ:=λx vs H Q=>cU λl xs=>fE cŘ (aô) hģ (Q .fb (upd H l ŏ))
def zZ:WZ X "list.clear" Il:=by intro ag s σ H x vs v us Q I rx rv h;let⟨l,xs,rfl,rfl,hH,q⟩:=h;cases rx;have hus:=rv.zero;subst hus;let⟨z,bN,n,r,hl,e⟩:=aŴ;exact call_meets F.slot_list_clear bϻ F.entry_list_clear (F.args_list_clear_1 _) (AutoSeq1.list_clear_list_0 l bN.toArray n fā) aŵ;show#[.fb,_,I.Jo (its':= []) (ys:= []) hH e rfl .nil (ν),rfl,q]
def U9:R2:=λx y H Q=>jD λl b xs zs=>oR cŘ cŎ hģ (H b=eθ) kñ (∀p,İ ->Q ĭ (upd H p fĂ))
def BW:jE X fö U9:=by
 intro ag s σ H x y v u Q I rx ry h;let⟨l,b,xs,zs,rfl,rfl,hH,hB,hz,q⟩:=h;cases rx;cases ry;let⟨z,bN,n,r,hl,e⟩:=aŴ;let⟨z2,yH,n2,r2,Lu,e2⟩:=I.Aa hB;exact PySem.P.add_list e e2 ?_ (by rw[aM,aM];lia);have ea:bN.toArray++yH.toArray=(bN++yH).toArray:=by simp
 rw[ea];show#[aď,_,I._d (t':=s.toks) eÈ (by rw[aE];lia),rfl,q _ I.fresh]
universe e
section
variable {κ:Type} [eι]
def lI (kvs:Ř)(k:κ):gk V:=lś
def nC (kvs:Ř)(k:κ)(v:V):Ř:=nÿ
def tR {p:κ×V}{r:Ř}{k:κ}(e:aÍ):cř=aϥ:=by simp[lI,cT,e]
def tS {p:κ×V}{r:Ř}{k:κ}(e:¬aÍ):cř=lI r k:=by simp[lI,cT,e]
theorem zv (k:κ): ∀kvs:Ř,kó=(bÌ).isSome
 | []=>rfl
 | p::r=>by rw[List.any_cons];by_cases e:aÍ;simp![tR e,aH e,Bool.true_or,Option.isSome_some];rw[tS e,ay e,Bool.false_or];show zv k r
def rR (kvs:Ř)(k:κ)(v:V):gϵ<=kvs.length+1:=by unfold nC;split;rw[af];lia;rw[aE,ax,List.length_nil];lia
def lM.j7 {o:gk V}{u:Ë}(r:lM o u):o.isSome=u.isSome:=by
 cases o with
 | none=>cases u with
  | none=>rfl
  | some _=>show iš
 | some _=>cases u with
  | none=>show iš
  | some _=>rfl
def lM.getD {o:gk V}{u:Ë}{d:V}{d':eC}(r:lM o u)(rd:RelV d d'):RelV (o.getD d) (u.getD d'):=by
 cases o with
 | none=>cases u with
  | none=>show rd
  | some _=>show iš
 | some _=>cases u with
  | none=>show iš
  | some _=>show r
def KV.val {kvs:Ř}{vs:cė}(r:Ņ)(k:κ):lM (bÌ) (dĪ):=by
 unfold KV at r;induction r with
 | nil=>show True.intro
 | @cons p q ps qs h t ih=>
  let⟨h1,h2⟩:=h;by_cases e:aÍ;have e':q.1=k:=fă;have b:gâ=some q.2:=by simp[valueAt,cT,e']
  rw[tR e,b];show h2;have e':¬q.1=k:=g϶;have b:gâ=valueAt qs k:=by simp[valueAt,cT,e']
  rw[tS e,b];show ih
def KV.any {kvs:Ř}{vs:cė}(r:Ņ)(k:κ):kó=jū:=by
 unfold KV at r;induction r with
 | nil=>rfl
 | cons h t ih=>rw[List.any_cons,List.any_cons,ih,h.1]
def KV.Qz {kvs:Ř}{vs:cė}(r:Ņ)(k:κ){y:V}{u:eC}(ry:Ĩ): KV lξ (vs.map λkv=>if aĐ then(kv.1,u) else kv):=by
 unfold KV at r ⊢;induction r with
 | nil=>show .nil
 | @cons p q ps qs h t ih=>rw[av,av];exact cŚ;let⟨h1,h2⟩:=h;by_cases e:aÍ;rw[Ã,aF (fă)];show#[h1,ry];rw[Ä,aC (g϶)];show bÍ
def KV.put {kvs:Ř}{vs:cė}(r:Ņ)(k:κ){y:V}{u:eC}(ry:Ĩ):KV dī (stored vs k u):=by unfold nC stored;rw[r.any k];by_cases e:(jū)=true;rw[Ã,Ã];show r.Qz k ry;rw[Ä,Ä];show Paired.snoc r #[rfl,ry]
def KV.keys {kvs:Ř}{vs:cė}(r:Ņ):eμ=eÊ:=by
 unfold KV at r;induction r with
 | nil=>rfl
 | cons h t ih=>rw[av,av,ih,h.1]
theorem KV.length {kvs:Ř}{vs:cė}(r:Ņ):hĔ:=få
universe e
def xf {P:pF}{w:World}{k:dB}{u:eC}(r:RelV (kV k) u):(dN P w).is k u=true:=by
 cases k with
 | inl i=>let⟨t,e⟩:=kŪ;subst e;show z9 P w i t
 | inr x=>let⟨t,e⟩:=kū;subst e;show z8 P w x t
theorem xg {P:pF}{w:World}: ∀ {ks:aÀ} {us:Ê},cF cś us ->ItemsAre aϗ ks us
 | [],_,r=>by rw[dw] at r;cases r;show .nil
 | k::ks,_,r=>by
  rw[av] at r;cases r with
  | cons h t=>show .cons (xf h) (xg t)
abbrev KT (H:Hp):eË ->gŀ ->Prop:=Paired λp q=>mĦ
def KT.val {H:Hp}{kvs:eË}{xs:gŀ}(r:cŜ)(k:aÀ):lM (bÌ) (iđ):=by
 induction r with
 | nil=>show True.intro
 | @cons p q ps qs h t ih=>
  let⟨h1,_,h2⟩:=h;by_cases e:aÍ;have e':q.1=k:=fă;have b:fĄ=some q.2:=by simp[atKey,cT,e']
  rw[tR e,b];show h2;have e':¬q.1=k:=g϶;have b:fĄ=atKey qs k:=by simp[atKey,cT,e']
  rw[tS e,b];show ih
def KT.Qz {H:Hp}{kvs:eË}{xs:gŀ}(r:cŜ)(k:aÀ){y:V}{u:eC}(ry:Ĩ): KT H lξ (xs.map (putAt k u)):=by
 induction r with
 | nil=>show .nil
 | @cons p q ps qs h t ih=>rw[av,av];exact cŚ;let⟨h1,h2,h3⟩:=h;unfold putAt;by_cases e:aÍ;rw[Ã,aF (fă)];show#[h1,h2,ry];rw[Ä,aC (g϶)];show cŝ
def KT.put {H:Hp}{kvs:eË}{xs:gŀ}(r:cŜ)(k:aÀ){b:iB}{y:V}{u:eC}(hb:jØ)(ry:Ĩ): KT H dī (storedH xs k b u):=by
 have e:kó=gϷ:=by rw[zv,(r.val k).j7,Option.isSome_map]
 unfold nC storedH;rw[e];by_cases q:gϷ=true;rw[aF q,aF q];show r.Qz k ry;rw[aC q,aC q];show Paired.snoc r #[rfl,hb,ry]
theorem KT.keeps {H H':Hp}{kvs:eË}{xs:gŀ}(r:cŜ)(ht: ∀b ys,H b=some bŭ ->H' b=some bŭ):KT H' kvs xs:=Paired.Rc r λ_ _ z=>iΜ
section
variable {P:pF}{w:World}{H:Hp}{h:Heap}{a:iB}
theorem OC {u:HO}(ok:Ś)(e:Rd H a u):eŠ:=e.ok ok
theorem p_ {kvs:Ş}(ok:Ś)(e:fŻ):nÂ:=
 show eL P w H h a ō from OC ok e
theorem EK {kvs:Ş}(ok:Ś)(e:gŠ):nÂ:=p_ ok aϷ
def iP {ks:aÀ}(ok:Ś)(e:H a=some (.tup cś)):(gŁ).is h ks a:=by
 let⟨_,bN,r,o,h1,h2,n,h3,_⟩:=(show eL P w H h a (.tup cś) from ok a _ e)
 show#[o,bN.toArray,n,h1,h2,h3, ⇑(xg r)]
def u_ {kvs:eË}(ok:Ś)(e:fż):nö:=by
 let⟨z,y,xs,r,o,es,ep,h1,h2,h3,h4,h5⟩:=(show eL P w H h a bť from OC ok e)
 exact#[z,y,xs,r,o,es,ep,h1,h2,h3,h4,cŞ,h5];have all: ∀ {l:eË} {m:gŀ},KT H l m -> ∀x∈m,(gŁ).is h x.1 x.2.1:=by
  intro l m q;induction q with
  | nil=>intro x hx;show nomatch hx
  | @cons p q ps qs hq t ih=>intro x hx;obtain e | hx:=bÎ;subst e;show iP ok (by rw[<- hq.1];show hq.2.1);show ih x hx
 show all r x hx
theorem Wu {kvs:eË}(ok:Ś)(e:gš):nö:=u_ ok aϷ
universe e
def oS (H:Hp)(a:iB)(y:V)(r:gk V):Prop:=(cU λkvs k=>dh (fŻ) (y=kV k) (r=bÌ)) \/ gh λkvs k b=>fE (fż) cŎ (jØ) (r=bÌ)
def Lb (H:Hp)(a:iB)(y v:V)(H':Hp):Prop:=(cU λkvs k=>fE (gŠ) (y=kV k) hž (H'=jÙ)) \/gh λkvs k b=>gX (gš) cŎ (jØ) hž (H'=upd H a (.dT (cÀ)))
theorem oS.k {H:Hp}{a:iB}{kvs:Ş}{k:dB}(e:gŠ):oS H a (kV k) (bÌ):= .inl #[kvs,k, .inl e,rfl,rfl]
theorem Lb.k {H:Hp}{a:iB}{kvs:Ş}{k:dB}{v:V}(e:gŠ)(hl:gϸ):Lb H a (kV k) v (jÙ):= .inl #[kvs,k,e,rfl,hl,rfl]
section
variable {X:Cx}{ag:Ÿ}{σ:St}{H:Hp}{s:eY}{a:iB}{y v:V}{u r:eC}{o:gk V}{A:Around}{E:Ε}
def Inv.big (I:Ω):sysModules<s.heap.objs.size:=by have h:mainGlobals<s.heap.objs.size:=(hū).lt;show Nat.lt_trans ⋯ h
def Gu {Q:Ε}(hu:fą)(I:Ω)(g:oS H a y aϣ)(ry:Ĩ)(h: ∀w' s',fŮ ->RelV v w' ->Q w' s'): wpAny ϗ A (getItem Ī u) Q E s:=by
 rcases g with⟨kvs,k,e,ey,l⟩ | ⟨kvs,k,b,e,ey,eb,l⟩
 subst ey;let⟨z,hd,vs,jl,dd⟩:=bů;let⟨w',hw,ya⟩:=lM.some_of (v:=v) (o:=dĪ) iť;show wpAny_getItem_of aŶ dd.mapOf hw (gϹ);subst ey;cases jŬ;let⟨z,hd,xs,jl,dd⟩:=bŰ;let⟨w',hw,ya⟩:=lM.some_of (v:=v) (o:=iđ) iť;let⟨p,hp,Lp⟩:=Option.map_eq_some_iff.mp hw;exact wpAny_getItem_heap (hſ) (iP I.c9 eb) dd hp ?_;rw[Lp];show gϹ
def aeI {Q:Ε}(hu:fą)(I:Ω)(g:cÁ)(ry:Ĩ)(h: ∀s',fŮ ->Q (.bool o.isSome) s'): wpAny ϗ A (compareOp .In u Ī) Q E s:=by
 rcases g with⟨kvs,k,e,ey,l⟩ | ⟨kvs,k,b,e,ey,eb,l⟩
 subst ey;let⟨z,hd,vs,jl,dd⟩:=bů;exact wpAny_in_of aŶ hd dd.mapOf ?_;rw[<- eÌ, <- l];show eÍ;subst ey;cases jŬ;let⟨z,hd,xs,jl,dd⟩:=bŰ;exact wpAny_in_heap (hſ) (iP I.c9 eb) hd dd ?_;have q:=eÌ;rw[Option.isSome_map] at q;rw[<- q, <- l];show eÍ
def NC {Q:Ε}(hu:fą)(I:Ω)(g:cÁ)(ry:Ĩ)(h: ∀s',fŮ ->Q (.bool cş) s'): wpAny ϗ A (compareOp .NotIn u Ī) Q E s:=by
 rcases g with⟨kvs,k,e,ey,l⟩ | ⟨kvs,k,b,e,ey,eb,l⟩
 subst ey;let⟨z,hd,vs,jl,dd⟩:=bů;exact wpAny_notIn_of aŶ hd dd.mapOf ?_;rw[<- eÌ, <- l];show eÍ;subst ey;cases jŬ;let⟨z,hd,xs,jl,dd⟩:=bŰ;exact wpAny_notIn_heap (hſ) (iP I.c9 eb) hd dd ?_;have q:=eÌ;rw[Option.isSome_map] at q;rw[<- q, <- l];show eÍ
theorem ES {h':Heap}{t':Nat}{ob:HO}(I:Ω)(mu:WY (H a))(hs:iŗ)(he: hγ)(new:eL X.prog X.w dĬ h' a ob): Inv X ag σ dĬ jÍ:=I.write (x:=a) (e:=a) mu ř (λb q hb z=>(hs.2 b hb).trans z) he new
theorem Sk {P:pF}{w:World}{H':Hp}{h':Heap}{kvs:Ş}{vs:cŠ}(z:hā)(hd:hţ)(jl:Ņ)(dd:h'.DictOf aϗ a vs): eL P w H' h' a ō:=#[z,hd,vs,jl,dd]
def Gs {H':Hp}{Q:Ϗ}(hu:fą)(I:Ω)(g:Lb H a y v H')(ry:Ĩ)(rv:RelV v r)(h: ∀s',gÈ ->aŨ): wpAny ϗ A (setItem Ī u r) Q E s:=by
 rcases g with⟨kvs,k,e,ey,l,eH⟩ | ⟨kvs,k,b,e,ey,eb,l,eH⟩
 subst ey eH;let⟨z,hd,vs,jl,dd⟩:=EK I.c9 e;have hz:gϺ:=by rw[<- jl.length];show z
 have hl:jΞ:=by have:=rR kvs k v;lia
 exact wpAny_setItem_pairs (hsz:=hz) aŶ dd gŮ;have he: hγ:=let ⟨q,_,_,hq,_⟩:=Yx;#[q,hq]
 show ES I jÐ hs he (Sk hl hd (jl.put k rv) Yx);subst ey eH;cases jŬ;let⟨z,hd,xs,jl,dd⟩:=Wu I.c9 e;have hz:Ϝ:=by rw[<- Paired.length jl];show z
 have hl:jΞ:=by have:=rR kvs k v;lia
 exact wpAny_setItem_heap (hsz:=hz) (hſ) (iP I.c9 eb) dd gŮ;let⟨q,es,ep,hq,h2,h3,h4,_,h5⟩:=Yx;exact ES I jÐ hs #[q,hq] #[hl,hd,_,(jl.put k eb rv).keeps λc ys ec=> ?_,q,es,ep,hq,h2,h3,h4,h5];rw[bH (Vy ec e ϐ)];show ec
universe e
section
variable {X:Cx}{ag:Ÿ}{σ:St}{H:Hp}{s:eY}{a:iB}{kvs:Ş}{k:dB}{u:eC}{A:Around}{E:Ε}
def Wv {Q:Ε}(I:Ω)(e:fŻ)(h: ∀t s',fŮ ->Q (.int kvs.length t) s'):wpAny ϗ A (call fŹ Ĭ) Q E s:=by let⟨z,hd,vs,jl,dd⟩:=bů;exact call_len_dict hd dd (by rw[<- jl.length];rw[cP] at z;lia) ?_;rw[<- jl.length];show h _ _ bŢ
universe e
def WV (i:Expr):Prop:= ∀ov iv,subscripted i false ov iv=operate [ov,iv] (getItem ov iv)
def LY {prog:pF}{w:World}{A:Around}{E:Ε}{s:eY}{env:Env}{value slice:Expr}{pos:Pos}{T id:String}{Q:Ε} (hl:mī) (hs:WV slice) (h:wpAny Ι A (eval value env) (λo s₁=>wpAny Ι A (eval slice env) (λi s₂=>s₂.TypeIs o T /\ wpAny Ι A dϻ Q E s₂) E s₁) E s): wpAny Ι A (eval (.Subscript value slice pos) env) Q E s:=by
 exact Subscript_ (bf h (λo s₁ h₁=>bf h₁ (λi s₂ h₂=> ?_) bϨ) bϨ);let⟨hT,h₂⟩:=h₂;unfold subscriptTail;exact aÆ;rw[getitemInPython_of_ne hT.not_modules];exact aq (wpAny_specialOf hT hl ?_);have j':wpAny Ι A (subscripted slice false o i) (λr s₃=>wpAny Ι A (letTemporaryGo value o r >>=λ_=>pure r) Q E s₃) E s₂:=by rw[hs o i];show wpAny_operating (bf h₂ (λr s₃ h₃=>aq (wpAny_letTemporaryGo (aV h₃))) bϨ)
 first
 | show aV (aq j')
 | show aq (aV (aq j'))
 | show aq j'
def AD {X:Cx}{ag:Ÿ}{σ:St}{H:Hp}{s:eY}{a:iB}{y:V}{o:gk V}(I:Ω)(g:cÁ):iŦ :=by
 rcases g with⟨kvs,k,e,_,_⟩ | ⟨kvs,k,b,e,_,_,_⟩
 let⟨_,_,vs,_,dd⟩:=bů;show dd.typeIs;let⟨_,_,xs,_,dd⟩:=bŰ;show dd.typeIs
def Ou (td ty:TE):TE:=λσ H Q=>td σ H λx H1=>ty σ H1 λy H2=>cU λa v=>dh Ū (oS H2 a y aϣ) (Q v H2)
def UE (ty td:TE):TE:=λσ H Q=>ty σ H λy H1=>td σ H1 λx H2=>cU λa o=>dh Ū eÎ (Q (.bl o.isSome) H2)
def Dl (ty td:TE):TE:=λσ H Q=>ty σ H λy H1=>td σ H1 λx H2=>cU λa o=>dh Ū eÎ (Q (.bl cş) H2)
def OB (td ty tv:TE):TS:=λD σ H=>tv σ H λv H1=>td σ H1 λx H2=>ty σ H2 λy H3=>cU λa H4=>dh Ū (Lb H3 a y v H4) (D.nx σ H4)
section
variable {X:Cx}{o i e value:Expr}{pos iM Qf:Pos}{td ty tv:TE}
def iU (hu:gã)(ho:bű)(hi:bŲ)(hs:WV i):PE X hč (Ou td ty):=by intro ag s σ H Q I h;exact LY PySem.F.slot_dict_getitem.lookup hs (dH hĎ λu s1 ⟨x,H1,I1,rx,q1⟩=>dH iŚ λiv s2 ⟨y,H2,I2,ry,a,v,ex,g,q2⟩=> ?_);subst ex;obtain rfl:ι:=rx;show#[AD I2 g,Gu hu I2 g ry λw' s3 I3 ya=>#[v,H2,I3,ya,q2]]
def yk (hu:gã)(hi:bŲ)(ho:bű):PC X .In i o (UE ty td):=by intro ag s σ H Q I h;exact nĖ;subst ex;obtain rfl:ι:=rx;show aeI hu I2 g ry λs3 I3=>#[.bl ov.isSome,H2,I3,rfl,q2]
def qM (hu:gã)(hi:bŲ)(ho:bű):PC X .NotIn i o (Dl ty td):=by intro ag s σ H Q I h;exact nĖ;subst ex;obtain rfl:ι:=rx;show NC hu I2 g ry λs3 I3=>#[.bl (!ov.isSome),H2,I3,rfl,q2]
def m6 (hu:gã)(ho:bű)(hi:bŲ)(hv:dϰ)(hs:swapsWith value (some (gä)) pos.line X.env=bϫ): PS X (.Assign [gä] value pos) (OB td ty tv):=by intro ag s σ H D I h;exact wpAny_Assign_Subscript (dH hĚ λr s1 ⟨v,H1,I1,rv,q1⟩=>dH iŧ λu s2 ⟨x,H2,I2,rx,q2⟩=>dH (hi ag s2 σ H2 _ I2 q2) λiv s3 ⟨y,H3,I3,ry,a,H4,ex,g,q3⟩=> ?_) hs;subst ex;obtain rfl:ι:=rx;show Gs hu I3 g ry rv λs4 I4=>#[σ,H4,I4,q3]
universe e
theorem Kn {P:pF}{w:World}{H:Hp}(h:Heap)(hb:sysModules<h.objs.size):eL P w H (h.push {cls:= dě,data:= .dict #[]}) h.objs.size ı:=#[ν,beq_eq_false_iff_ne.mpr (cE (be hb)),[], .nil,Heap.DictOf.new h]
def HH:TE:=λ_ H Q=> ∀p,İ ->Q ĭ (upd H p ı)
section
variable {X:Cx}{pos:Pos}
theorem jg:PE X (.Dict [] [] pos) HH:=λag s σ H Q I h=>wpAny_Dict_empty #[hŲ,_,I.laid (a:=s.heap.objs.size) (o:= aĒ) (t':=s.toks) gá ï (Kn s.heap I.big),rfl,h _ gϱ]
universe e
structure M1 (X:Cx)(o:Expr)(m:Str)(eK:Pos)(e:Expr)(dM:Pos):Prop where
 base:lϷ
 few:((jϹ).all dħ && mć && decide (([e]:List Expr).length+iŨ+lŉ <30))=true
 line:jÖ
 trees:jϹ= [hě]
structure M2 (X:Cx)(o:Expr)(m:Str)(eK:Pos)(e f:Expr)(dM:Pos):Prop where
 base:lϷ
 few:((kĞ).all dħ && mć && decide (([e,f]:List Expr).length+iŨ+lŉ <30))=true
 line:jÖ
 trees:kĞ= [hě,(false,eval f X.env)]
def IsD (H:Hp)(a:iB):Prop:=(∃kvs,fŻ) \/ ∃kvs,fż
def JN {X:Cx}{ag:Ÿ}{σ:St}{H:Hp}{s:eY}{a:iB}(I:Ω)(d:IsD H a): iŦ /\ (∀b,cĖ= ö -> ∃ob,dϜ=some ob /\ dĥ) /\ hţ:=by
 rcases d with⟨kvs,e⟩ | ⟨kvs,e⟩
 let⟨_,hd,vs,_,dd⟩:=bů;exact jÚ;cases q;let⟨ob,_,_,h1,h2,_⟩:=dd;show fĆ;let⟨_,hd,xs,_,dd⟩:=bŰ;exact jÚ;cases q;let⟨ob,_,_,h1,h2,_⟩:=dd;show fĆ
section
variable {X:Cx}{ag:Ÿ}{σ:St}{H:Hp}{s:eY}{a:iB}{y d:V}{u r:eC}{o:gk V}{A:Around}{E:Ε}
def Sl {Q:Ε}(hu:fą)(I:Ω)(g:cÁ)(ry:Ĩ)(rd:RelV d r)(h: ∀w' s',fŮ ->RelV (o.getD d) w' ->Q w' s'): wpAny ϗ A (call (.builtin "dict.get") [ß,u,r]) Q E s:=by
 rcases g with⟨kvs,k,e,ey,l⟩ | ⟨kvs,k,b,e,ey,eb,l⟩
 subst ey;let⟨z,hd,vs,jl,dd⟩:=bů;exact call_meetsIn PySem.F.slot_dict_get dd.typeIs PySem.F.entry_dict_get kô (meets_dict_get_default fú a aŶ hd r) #[_,dd.mapOf,gů];rw[l];show gŰ;subst ey;cases jŬ;let⟨z,hd,xs,jl,dd⟩:=bŰ;exact call_meetsIn PySem.F.slot_dict_get dd.typeIs PySem.F.entry_dict_get kô (meetsH_dict_get_default (tupleKind fú) a b hd r) #[hſ,k,xs,iP I.c9 eb,dd,gů];rw[l];show gŰ
universe e
def HI (td ty tx:TE):TE:=λσ H Q=>td σ H λx H1=> ∃a,dh Ū (IsD H1 a) (ty σ H1 λy H2=>tx σ H2 λz H3=> ∃o,oS H3 a y o /\ Q (o.getD z) H3)
section
variable {X:Cx}{o e f:Expr}{eK dM:Pos}{td ty tx:TE}
def Iw (hu:gã)(ho:bű)(he:PE X e ty)(hf:PE X f tx)(m:M2 X o "get" eK e f dM):PE X (.Call (.Attribute o "get" eK) [e,f] [] dM) (HI td ty tx):=by intro ag s σ H Q I h;exact wpAny_Call_method m.base m.few m.line PySem.F.plainAttrs_dict PySem.F.slot_dict_get PySem.F.type_dict_get (dH hĎ λu s1 ⟨x,H1,I1,rx,a,ex,d,q1⟩=> ?_);subst ex;obtain rfl:ι:=rx;let⟨t1,t2,_⟩:=JN I1 d;exact#[t1,t2,?_];rw[m.trees];exact Calls.callWith_builtin rfl (Calls.evalArgs_plain (Calls.spliced_cons (dH (he ag s1 σ H1 _ I1 q1) λiv s2 ⟨y,H2,I2,ry,q2⟩=>Calls.spliced_cons (dH (hf ag s2 σ H2 _ I2 q2) λfv s3 ⟨z,H3,I3,rz,ov,g,q3⟩=>Calls.spliced_nil ?_))));show Sl hu I3 g ry rz λw' s4 I4 ya=>#[_,H3,I4,ya,q3]
universe e
universe L2
namespace Att
open PySem PySem.W PySem.Calls PyProof.Rows
def sO {P:Params}{h:Heap}: ∀ (ns:û) (vs:Ê),WellAll P h vs gű ->eÏ:=by
 intro ns;induction ns with
 | nil=>intro vs w;rw[dw] at w;cases w;show .nil
 | cons n ns ih=>
  intro vs w;rw[av] at w;cases w with
  | cons a b=>cases a;show .cons _ _ (ih _ b)
def Fy {l:OpenLaw}{n:Nat}(hn:eÐ){P:Params}{h:Heap}{args:eA WData}{vals:Ê} (Na:l.row.toRowW.claim.pre args=true) (Gd:WellAll P h vals args): gh λa vs ns=>gX (vals= [cĖ]) (args= [WData.list gű]) (ġ=some lŊ) (eÏ) (dĮ):=by
 have MY:WShape.hasAll [] args [.list .int]=true:=fć.1;have hc:l.pre.holds [] {args:=args}=true:=fć.2;let⟨d,r,rfl,h1,h2⟩:=hasAllW_cons MY;obtain rfl:=hasAllW_nil h2;let⟨xs,rfl,h3⟩:=hasW_list h1;let⟨ns,rfl⟩:=items_int h3;have eD:dĮ:=by
  unfold OpenLaw.pre at hc;have h4:(WTm.not (.lt (.lit (.int ē)) (.len (.arg 0)))).holds [] {args:= [.list (ns.map .int)]}=true:=by have h4:=(holds_andW hc).1;rw[hn] at h4;show h4
  have h5:=condW_of h4 (w_not (w_lt w_lit (w_len_list (w_arg rfl))));rw[af] at h5;exact Nat.le_of_not_lt λq=> ?_;have q':ē < ((ns.length:Nat):Int):= ∅;first
  | (rw[aH q'] at h5;show absurd h5 ⋯)
  | (simp at h5;lia)
 cases Gd with
 | cons w1 w2=>
  cases w2;cases w1 with
  | list ho Gm=>show#[_,_,ns,rfl,rfl,ho,sO ns _ Gm,eD]
theorem FI (l:OpenLaw)(args:eA WData):l.row.toRowW.claim.post args dį args=true:=postW_of (r:=l.row.toRowW) (X:=dİ) (show WShape.has [] dį .bool=true by first | rfl | decide | simp[WShape.has,WShape.arms,WShape.armsAll]) (show(WTm.eq .res (.lit dį)).value [] {args:=args,res:=some dį,after:=args}=some (.bool dİ) from w_eq_bool (w_res rfl) w_lit) rfl
def A2 {l:OpenLaw}{n:Nat}{q:pF}{rP:ê}{XP:jĝ}{YP:gϻ}{d:DefRec} (hn:eÐ) (V_:hδ) (call: ∀ (w:World) (s₀ s₁:eY) (mg mb:Ũ) (fa:iB) (o:Obj) (pm cd jL:eC) (a:iB) (vs:Ê) (ns:û),Ground q rP [] XP w s₀ mg mb s₁.heap ->YP w s₁.heap ->s₁.heap.get? fa=ä ->o.data= .func (docDef d.name d.params d.body d.scope pm cd jL) ->s₁.heap.CodeRec cd d.name ->iũ ->mő ->eÏ ->dĮ ->eξ ->codeAny (model l.prog w) callerA kğ nè s₁): WalkO q rP XP YP l.row.toRowW d [] iϏ:=by intro w s₀ s₁ mg mb G Y fa o pm cd jL dV kV ho hd Ey hD _W hg args vals as Na afE Yd Gd hlo;obtain rfl:dV= .none:=Dflts.none hD V_;obtain rfl:kV= .none:=Dflts.noKw hD;let⟨a,vs,ns,rfl,rfl,RH,J2,eD⟩:=Fy hn Na Gd;exact enter_call (codeAny_mono (call w s₀ s₁ mg mb fa o pm cd jL a vs ns G Y ho (fd_plain hd) Ey _W RH J2 eD hg) eŸ);let⟨rfl,h2,h3,h4⟩:=hq;show#[.inl #[cÂ, cÂ,[],rfl,aϹ, cÂ,FI l _,λ_=>#[List.Pairwise.nil,λ_ hm=>(nomatch hm)]],h2,h3,h4]
universe Att
namespace L2
open PySem PySem.Spec PyProof.Rows
theorem qB: ∀ {vs:Ê} {ns:û},eÏ ->cF eπ vs
 | _,_, .nil=> .nil
 | _,_, .cons n t h=> .cons bÐ (qB h)
def SI (H:Hp):Prop:= ∀b,ğ \/ ∃o xs,H b=hϹ
def Jq {P:pF}{w:World}{K:jv}{mg mb:Ũ}{CX:G1}{k:Nat}{fa a:iB}{fd:FuncData}{x:Str}{sp:Sp}{s₁:eY}{vs:Ê}{ns:û} (KX:K.In s₁.heap) (Bl:s₁.heap.Ns mainGlobals mg) (hb:s₁.heap.Ns builtinsNs mb) (hbb: lθ) (_Y:s₁.heap.NoLimit) (hg:eξ) (ha:mő) (hi:eÏ) (hl:gϭ) (hr:dĲ) (F: ∀base:Heap,bŒ ->hϭ ->cB P w K mg base CX k fa fd [x] sp) (We: lϋ) (gC: ∀H:Hp,SI H ->iĒ ->sp Ĭ H hĥ eς) (hCX: ∀H e s',CX [] H s₁ (eς) e s' ->False): nķ:=by
 have rv:=qB hi;have _g:=hi.length;have core : ∀H:Hp,SI H ->iĒ ->lN P w H s₁.heap ->(∀b,H b≠none ->b=a) ->(H a≠none ->bϪ=none) ->nķ:=by
  intro H hO hS c9 hA hK;have E4: ∀ {b:iB} {o:Obj},fŽ=ä ->ğ ->(eτ).get? b=ä:=λe n=>J3 e n;have Jh: ∀ {b:iB} {o:Obj} {es:fĈ} {ep:Nat},fŽ=ä ->gϟ ->ğ:=λ{b o es ep} e d=>by
   cases q:H b with
   | none=>rfl
   | some u=>have e':b=a:=hA b fĉ;subst e';rw[ha] at e;cases e;have d':Data.seq vs.toArray _=Data.dict es ep:=d;cases d'
  have XZ: ∀ {b:iB} {m:Ũ},s₁.heap.Ns b m ->(eτ).Ns b m:=λ{b m} ⟨o,es,ep,e,d,r⟩=>#[o,es,ep,E4 e (Jh e d),d,r]
  have hKb:K.In (eτ):=λb o e=>E4 (KX b o e) (by
   cases q:H b with
   | none=>rfl
   | some u=>have e':b=a:=hA b fĉ;subst e';rw[hK fĉ] at e;cases e)
  have hM:Mod K mg (eτ):=#[hKb,XZ Bl,#[mb,XZ hb,hbb],let ⟨mc,h1,h2⟩:=_Y;#[mc,XZ h1,h2]]
  have e0:C5 P w K mg (eτ) callerA [] s₁ H:=#[rfl,hM,λb o e=>My e,Nat.le_of_eq (Gi _ _),trivial,λb hb=>absurd (show eź from hb) Ň,c9, .of_eq hg]
  exact codeAny_mono ((F _ hKb (XZ Bl)).run callerA [] s₁ H eο Ĭ Ĭ _ _ hr e0 (We s₁ Ī) fų (gC H hO hS)) λr s' h=> ?_;cases r with
  | error e=>show(hCX H e s' h).elim
  | ok fl =>
   cases fl with
   | next=>show dĳ
   | brk=>show dĳ
   | cont=>show dĳ
   | ret u=>
    let⟨v,H',os,bare,un,RG,r',q⟩:=h;have q':v= aϭ:=q;subst q';obtain rfl:u=fĊ:=r';exact#[rfl,OldK.of_keep dĴ,os,bare];cases q:H b with
    | none=>show un.keep b o e q (by intro z;show lŶ) Ň
    | some u=>obtain z | ⟨ob,xs,z⟩:=hO b;rw[q] at z;cases z;have z2:=un.kP b ob _ z;let⟨e1,_⟩:=c9 b _ z;let⟨e2,_⟩:=RG b _ z2;rw[e] at e1;cases e1;show e2
 cases hk:bϪ with
 | some o=>have e:=KX a o hk;rw[ha] at e;cases e;exact core (bţ) (λ_=> Ĥ) (.inr #[_,vs.toArray,_,hk,rfl,rfl,rfl,by rw[aM,_g];show hl, ⇑rv]) (λb u z=>by have z':(none:gk HO)=á:=z;cases z') (λb z=>dĵ) λz=>dĵ
 | none=>exact core (λb=>if b=a then some (.nF lŊ (.lst eπ)) else none) (λb=> ?_) (.inl (.inr #[lŊ,å])) (λb u z=> ?_) (λb z=> ?_) λ_=>hk;by_cases hb:b=a;show .inr #[_,_,aF hb];show .inl (aC hb);by_cases hb:b=a;have z':=(aF hb).symm.trans z;cases z';subst hb;show#[ha,by rw[af];show hl,vs,_,rv,ha];have z':=(aC hb).symm.trans z;cases z';by_cases hb:b=a;show hb;show absurd (aC hb) z
def LG {l:W.OpenLaw}{n k:Nat}{q:pF}{rP:ê}{XP:jĝ}{YP:gϻ}{d:DefRec}{K:cš}{CX:World ->G1}{sp:World ->Sp}{x:Str} (hn:eÐ) (v6:cŗ) (V_:hδ) (hr:dĲ) (hY: lϖ) (F : ∀ (w:World) (mg:Ũ) (fa:iB) (h:Heap),fċ h ->hÀ ->iũ ->∃ fd:FuncData,(lϋ) /\∀base:Heap,fċ base ->hϭ ->cB l.prog w (cÃ) mg base (CX w) k fa fd [x] (sp w)) (gC: ∀ (w:World) (H:Hp) (a:iB) (ns:û),dĮ ->SI H ->gg (cÃ) H a eπ ->sp w Ĭ H hĥ eς) (hCX: ∀ (w:World) (H:Hp) (s:eY) (e:eC) (s':eY),CX w [] H s (eς) e s' ->False): mĸ:=by exact Att.A2 hn V_ λw s₀ s₁ mg mb fa o pm cd jL a vs ns G Y ho hd Ey _W RH J2 eD hg=> ?_;have KX:=hY w _ Y;let⟨fd,hb,hF⟩:=F w mg fa _ KX G.T.g _W;show Jq KX G.T.g G.T.b G.T.builtins G.T.nolimit hg RH J2 (az eD v6) hr hF hb (λH hO hS=>gC w H a ns eD hO hS) λH e s'=>hCX w H s₁ e s'
nonrec def fS (s:Stmt):Arguments:=match s with
 | .FunctionDef _ a _ _ _ _ _ _ _ _=>a
 | _=> {posonlyargs:= [],args:= [],vararg:=none,kwonlyargs:= [],kw_defaults:= [],kwarg:=none,defaults:= []}
nonrec def dO (s:Stmt):aŪ:=match s with
 | .FunctionDef _ _ b _ _ _ _ _ _ _=>b
 | _=> []
nonrec def aU (s:Stmt):Scope:=match s with
 | .FunctionDef _ _ _ _ _ _ sc _ _ _=>sc
 | _=> {kind:= .function,names:= [],isGenerator:=false,isCoroutine:=false}
abbrev gR:G1:=λ_ _ _ _ _ _=>False
abbrev E0:XK:=eς
theorem DW {X:Cx}:gO gR X E0:=λ_ _ _ _ _ _ _ h=>h.elim
structure wj (K:PySem.W.Frag)(x qual:Str)(st:Stmt)(f:Addr)(fd:FuncData):Prop where
 ex:XE8 λ(oc:Value) (od:cŢ) (kV jL pm:Value) (an:cŢ) (cdv ct:Value)=> ∃ (BV:Array (dā)),dh (fd=PySem.W.fnOf x qual aŷ aŸ ė .none kV jL pm an cdv ct) (bϸ=some #[oc,od, .func fd,BV]) (PySem.W.codeIn K cdv qual=true)
 kp:jϲ
section
variable {P:pF}{w:World}{K:jv}{mg:Ũ}{base:Heap}
def wj.ok {x qual:Str}{st:Stmt}{f:iB}{fd:FuncData}{N ps:ê}{k:Nat}{sp:Sp}(F:hÁ)(S:fČ)(len: lų) (iF: ∀ (cdv:eC) (A:Around) (outer:è) (s:eY) (H:Hp) (vs:À) (Q:VK) (E:XK),mĠ ->cń ->∃t,mζ /\ lŷ):cB P w K mg base gR Ó f fd ps sp:=by let⟨oc,od,kV,jL,pm,an,cdv,ct,BV,rfl,lk,Ey⟩:=F.ex;exact Pj lk Ey S len λA outer s H vs Q E hr gC=> ?_;let⟨t,h,q⟩:=kõ;show#[t,h.Jd,q]
def wj.binds {x qual:Str}{st:Stmt}{f:iB}{fd:FuncData}{ps:ê}(F:hÁ) (h: ∀ (kV jL pm:eC) (an:Î) (cdv ct:eC) (us:Ê),gϯ ->bindArgs mŋ bÀ=fű):fŲ:=by let⟨oc,od,kV,jL,pm,an,cdv,ct,BV,rfl,lk,Ey⟩:=F.ex;show .all (h kV jL pm an cdv ct)
theorem qV {x qual:Str}{st:Stmt}{f:iB}{oc:eC}{od an:Î}{BV:dϷ}{kV jL pm cdv ct:eC}(l:bϸ=some #[oc,od, .func mŋ,BV]) (c:iŢ) (k:iŪ):wj K x qual st f mŋ:=#[#[oc,od,kV,jL,pm,an,cdv,ct,BV,rfl,l,c],k]
universe e
theorem fY {A:Around}{k:Nat}(hr:aā):fą:=Nat.lt_of_le_of_lt (Nat.add_le_add_left (by decide:1<=64) _) hr.units
section
variable {X:Cx}
theorem pv (i:Nat){x:Str}{pos:Pos}(hN:fë:=by rfl)(hv:fš:=by first | show Or.inl rfl | show Or.inr (Or.inl rfl) | show Or.inr (Or.inr rfl))(hd:ϰ:=by decide) (Ey:kŇ:=by decide):iΥ:=QH hN hv hd Ey
universe e
def fI (H H':Hp):Prop:= ∀b o,H b=ä ->H' b=ä
section
variable {κ:Type} [eι]
theorem D_: ∀ {l:eA κ} {k:κ},l.Nodup ->¬k∈l ->(l++ [k]).Nodup
 | [],k,_,_=>by simp
 | a::r,k,h,hk=>by let⟨h1,h2⟩:=d9.mp h;change(a::(r++ [k])).Nodup;exact d9.mpr #[λm=> ?_,D_ h2 λm=>hk (au.mpr (Or.inr m))];obtain q | q:=aK.mp m;show h1 q;show hk (au.mpr (Or.inl (aZ.mp q).symm))
universe e
def dn {α:Type}{x y:Str}{c:α}{l:ż}:((y,c)::l).lookup x=if x=y then é else l.lookup x:=by by_cases h:x=y;subst h;simp[List.lookup_cons];rw[aC h,List.lookup_cons];have:(x==y)=false:= ⇑h;rw[this]
theorem kT {env:Env}: ∀ (names:gŲ) (gN:dĶ),(∀y∈names,lο) ->(∀x c,cţ=é ->iΝ) ->∃cl,fE ((forIn names gN λx s=>if(x.snd==NameKind.free)=true then(do let c <- cellOf env x.fst;pure (ForInStep.yield ((x.fst,c)::s)):Sem _) else pure (ForInStep.yield s))=(pure cl:Sem (dĶ))) mê (∀x,(cţ).isSome=true ->(cŤ).isSome=true) (∀y∈names,lă)
 | [],gN,_,h2=>#[gN,rfl,h2,bÑ,iϐ]
 | (n, k)::r,gN,h1,h2=>by
  by_cases hk:k=NameKind.free;subst hk;let⟨c,hc⟩:=h1 (n, .free) bq rfl;have Nh: ∀x c',((n,c)::gN).lookup x=some c' ->gŅ=some c':=λx c' e=>by rw[dn] at e;by_cases hx:x=n;rw[aF hx] at e;cases e;rw[hx];show hc;rw[aÎ] at e;show h2 x c' e
  let⟨cl,e1,e2,e3,e4⟩:=kT r ((n,c)::gN) iū Nh;exact#[cl,?_,e2,λx hx=>e3 x ?_,eυ];rw[List.forIn_cons];have:cellOf env n=pure c:=by unfold cellOf;rw[hc]
  simp![beq_self_eq_true,if_true,this,pure_bind];show e1;rw[dn];by_cases Ln:x=n;rw[aF Ln];rfl;rw[aC Ln];show hx;obtain rfl | hy:=bÒ;exact e3 n ?_;rw[dn,å];rfl;show e4 y hy hf;let⟨cl,e1,e2,e3,e4⟩:=kT r gN iū h2;exact#[cl,?_,e2,e3,eυ];rw[List.forIn_cons];have:(fž)=false:= ⇑hk;simp![this,bU,eu,pure_bind];show e1;obtain rfl | hy:=bÒ;show absurd hf hk;show e4 y hy hf
def oP {scope:Scope}{env:Env}(h: ∀y∈scope.names,lο): ∃cl,dh (jŭ) mê (mĒ):=by let⟨cl,e1,e2,_,e4⟩:=kT scope.names [] h (λ_ _ e=>by simp at e);exact#[cl,?_,e2,e4];simp![closureFor];rw[e1,pure_bind]
theorem je {env:Env}: ∀ {names:gŲ} {x:Str} {k:NameKind},nĪ=aĎ ->eχ=aĎ \/ (k= .cell /\ eχ=ś)
 | [],_,_,h=>by simp at h
 | (n, j)::r,x,k,h=>by
  have ih:= @je env r x k;rw[av] at h;by_cases hc:mϘ;simp![hc,if_true] at h;rw[dn] at h;rw[dn];by_cases hx:x=n;rw[aF hx] at h ⊢;cases h;have hj:j=NameKind.free:=by rw[cx,cx] at hc;show eq_of_beq hc.1.1
  show .inr #[rfl,by rw[hj]];rw[aÎ] at h ⊢;show ih h;simp![hc,bU,eu] at h;rw[dn] at h;rw[dn];by_cases hx:x=n;rw[aF hx] at h ⊢;show añ;rw[aÎ] at h ⊢;show ih h
theorem iT {env:Env}: ∀ {names:gŲ} {x:Str},eχ=ś ->nĪ=bϥ \/nĪ=ś
 | [],_,h=>by simp at h
 | (n,j)::r,x,h=>by have ih:= @iT env r x;rw[av];rw[dn] at h;by_cases hc:mϘ;simp![hc,if_true];rw[dn];by_cases hx:x=n;rw[aF hx];show Ĥ;rw[aÎ] at h ⊢;show ih h;simp![hc,bU,eu];rw[dn];by_cases hx:x=n;rw[aF hx] at h ⊢;cases h;show ĥ;rw[aÎ] at h ⊢;show ih h
abbrev dg (X:Cx)(N':ê)(scope:Scope)(cl:dĶ)(fp:Í)(s3:eY)(H3:Hp):Cx:={X with N:=N',s₀:=s3,H₀:=H3,env:=lĠ,outer:=X.stack,stack:=X.stack,ex:=fp,fn:=λ_=>false,pn:= [],xe:=Ź}
def qp (own:Nat)(fr:ü)(σ:St):St:=iē++fr.map λj=>eÒ
structure dY (X:Cx)(own:aϟ)(fr:List Nat)(N':aϟ)(scope:Scope):Prop where
 kind:hε
 names:N'=own++jĞ
 len:jϺ
 nd:N'.Nodup
 uE: kö
 loc: mš
 Tk: ∀x∈jĞ,kø
 free: ∀y∈scope.names,cÄ ->fſ=bϥ \/ fſ=ś
theorem pU {N:ê}: ∀ {fr:ü} {k:Nat} {x:Str},(iϑ).length=fr.length ->(iϑ)[k]? =à -> ∃j,fr[k]? =aą /\ N[j]? =à
 | [],_,_,_,e=>by simp at e
 | j ::r,k,x,hl,e=>by
  cases hj:N[j]? with
  | none=>rw[c7,hj] at hl;have:=List.length_filterMap_le dķ r;simp![ax] at hl;lia
  | some y=>
   rw[c7,hj] at hl e;simp![ax,Nat.add_right_cancel_iff] at hl;cases k with
   | zero=>simp at e;show#[j,by simp,by rw[hj,e]]
   | succ k=>show pU (k:=k) hl ⇑e
section
variable {X:Cx}{ag:Ÿ}{σ:St}{H:Hp}{s s3:eY}
def Ak {own N':ê}{fr:ü}{scope:Scope}{cl:dĶ}{fp:Í}{h':Heap}{t:Nat}(S:hĦ)(I:Ω) (iQ: më) (sP: mĒ) (v7: hů) (hft: jŮ) (Bl:h'.Ns s.heap.objs.size (bţ)) (hk: ∀b o,lè): Inv (dg X N' scope cl fp s H) [] (hÂ) H {s with heap:=h',toks:=t}:=by
 have look: ∀x,(compEnvC scope cl s.heap.objs.size X.env).kindOf x=(hÃ).names.lookup x:=aϹ
 have Wq:(jĞ).length=fr.length:=by have:=S.len;rw[S.names,aE] at this;lia
 exact#[#[I.ok.mod,?_,I.ok.glob,I.ok.blt,aA _,λx y c e1 e2=>I.ok.inj x y c (iQ _ _ e1) (iQ _ _ e2),cŞ,(λx c z _=>nomatch z),I.ok.hd,I.ok.frames, Ĥ,λb hb=>#[?_,lŋ],I.bs,fý,λb o e hb=> ?_,λb hb hz=> ?_,I.stack,I.o0],
  rfl,I.bare,Un.kept hk,#[_,Bl,hũ],dĆ,gÚ,λx c e=>I.gU x c cÅ,mĪ,I.c9.kept hk,?_]
 change(hÃ).kind=_
 show S.kind
 have Ln:kø:=by obtain hx | hx:=hx;obtain q | ⟨_,q⟩:=je hx;show absurd rfl (S.uE _ (d0 q));show q;obtain q | ⟨q,_⟩:=je hx;show q;cases q
 show Option.isSome_iff_exists.mp (sP _ (d0 Ln) rfl)
 show be (hft b hb)
 obtain z | z:=fč.1
 show I.ok.FS b o e z
 show absurd (aP aë (az I.ok.KJ z)) aç
 obtain q | q:=au.mp (I.xW b hz)
 show cť.1 q
 show cť.2.1 q
 -- a _b value
 have e1:(own++jĞ)[i]? =à:=by rw[<- S.names];show e1
 unfold qp at e2
 by_cases hi:i<own.length
 rw[bÅ,de,aF hi] at e2
 cases e2
 rw [bÄ,List.length_replicate] at e2
 rw[bÄ] at e1
 let⟨j,ej,ex⟩:=pU Wq e1
 rw[aD,ej] at e2
 have e2:eÒ=â:= ⇑e2
 have e2':σ[j]? =dϛ:=by
  cases q:σ[j]? with
  | none=>rw[q] at e2;cases e2
  | some w=>rw[q] at e2;simp at e2;rw[e2]
 have hf:=S.Tk x (a7 e1)
 have hm:=d0 hf
 let⟨m,_,hl⟩:=I.loc
 have vis:fš:=by obtain q | q:=fĎ;show .inr (aì);show .inr (.inr q)
 let⟨u,r,l⟩:=hl j x v ex e2' vis
 exact#[u,r, .inr #[?_,?_]]
 show iT hf
 rcases l with⟨k,_⟩ | ⟨_,c,ec,z⟩
 obtain q | q:=fĎ
 rw[k] at q;cases q
 rw[k] at q;cases q
 let⟨c',ec'⟩:=Option.isSome_iff_exists.mp (sP _ hm rfl)
 have:=iQ _ _ ec'
 rw[ec] at this
 cases this
 show#[c,ec',z.keeps hk]
 let⟨v,z⟩:=I.cell x c cÅ
 show#[v,z.keeps hk]
 change(hÂ).length=N'.length
 unfold qp
 rw[aE,List.length_replicate,af,S.len]
universe e
def SG (X:Cx)(cs:Đ)(t:TT):Prop:=∀ (ag:Ÿ) (s:eY) (σ:St) (H:Hp) (Q:fţ),Ω ->Ħ ->wpAny ϗ X.A (forIn cs true λc r=>if r=true then do let ok <- isTrue c X.env (eval c X.env);iϒ else iŭ) eũ X.xe s
def Us:TT:=λ_ H Q=>Q true H
theorem eT {X:Cx}:SG X [] Us:=λag s σ H Q I h=>wpAny_tests_nil #[H,I,h]
theorem Mc {X:Cx}{c:Expr}{t:TT}(h:PT X c t):SG X [c] t:=λag s σ H Q I q=>wpAny_tests_one (h ag s σ H Q I q)
section
variable {prog:pF}{w:World}{A:Around}{R:gř}{s:eY}
theorem Gz {qy jb iter:Expr}{qw:Đ}{scope:Scope}{pos:Pos}{it gN:eC}{env:Env}(I:fď) (xS : ∀n s,I n s ->wpAny Ι A cŦ (λr s₁=>match r with
   | none=>R cŧ s₁
   | â=>wpAny Ι A iϓ (λ_ s₀=>wpAny Ι A gå (λ_ s₂=>
    wpAny Ι A nĤ (λok s₃=>if ok=true then wpAny Ι A eÓ nğ Ν s₃ else hħ) Ν s₂)
    Ν s₀) Ν s₁) Ν s)
  (n:Nat) (h:I n s):nÕ:=by
 exact lÌ
 change nĦ
 exact eψ
 rw[compTurn_list]
 exact mϐ
 cases r with
 | none=>show aV h₁
 | some v=>
  exact lϗ;exact lϘ;exact mÌ;cases ZR with
  | false=>show eω
  | true=>show aq (aq (bf h₃ mϨ gæ))
universe e
def Wk (σ0 σ2:St):Prop:=σ2.length=σ0.length /\ ∀ (i:Nat) v,σ0[i]? =dϛ ->σ2[i]? =dϛ
def C7 (own:Nat)(g:TG):Prop:= ∀ (c:St) (v:V) (H:Hp) (Q:Ζ),g v jů H Q ->g v jů H λσ2 H2=>Wk jů σ2 /\ Q σ2 H2
def fL:C7 1 (pS 0):=by
 intro c v H Q h;exact#[iĔ,h];cases i with
 | zero=>simp at e
 | succ i=>simpa using e
def iH {K:jv}:C7 2 (R_ K 2 (EA (pS 0) (EA (pS 1) Sa))):=by
 rintro c v H Q ⟨a,xs,e,hs,hl,x,r,rfl,y,r',rfl,rfl,h⟩;exact#[a,_,e,hs,hl,x,_,rfl,y,_,rfl,rfl,iĔ,h];match i with
 | 0=>simp at e
 | 1=>simp at e
 | i+2=>simpa using e
def Pp (J:It)(own:Nat)(fr:ü)(g:TG)(tc:TT)(te:TE)(σ:St)(p:iB)(H1:Hp)(Q:VK):Prop:=∃ W :jŰ,kό /\ ∀i m ys H',cŨ ->H' p=eΑ /\(jϻ \/ (J.go i H' /\ gŴ /\ ∀x H2,eΒ ->g x eΔ H2 λσ2 H3=>tc σ2 H3 λb H4=>if î then te σ2 H4 nĘ else kō))
def HJ (wi:TI)(own:Nat)(fr:ü)(g:TG)(tc:TT)(te:TE):TE:=λσ H Q=>wi σ H λJ H1=> ∀p,bŨ ->Pp J own fr g tc te σ p H1 Q
section
variable {X:Cx}{ag:Ÿ}{σ:St}{H:Hp}{s s3:eY}
theorem nn {N':ê}{scope:Scope}{cl:dĶ}{fp:Í}{jV:Ÿ}{σ':St}{H':Hp}{s':eY}(I3:fγ)(v7: hů) (Ic:Inv (dg X N' scope cl fp s3 H) jV σ' H' s'):gÈ:=I3.E1 (ch:=fp) Ic.os Ic.base Ic.c9 Ic.bare λb hb=>#[fč.1,cť.1,fč.2.1,fč.2.2]
def rl {C:iB}{σ':St}{H':Hp}{s':eY}{h':Heap}(I3:fγ)(hC:C=s3.heap.objs.size)(J:gŊ)(hn:H' C=none)(hs:iϔ):Inv X ag σ' H' gŶ:=by subst hC;exact J.turned (t':=s'.toks) (it:=s3.heap.objs.size) (λb o hb e=>hs.extBut b o hb e) hn (gŷ) (.inr I3.sz) (eŰ) dϧ;let⟨v,q⟩:=I3.cell x c e;show absurd q.lt hĨ;show absurd (aI (I3.pin p hp).1) hĨ
def vj {tg iter qy:Expr}{qw:Đ}{pos:Pos}{own N':ê}{fr:ü}{scope:Scope}{cl:dĶ}{fp:Í}{it:iB}{tn:gÏ}{J:It}{g:TG}{tc:TT}{te:TE}{Q:VK} {E:Ε} {RR:jű} (mF:ũ) (S:hĦ) (hg: lŜ) (hw:fĐ) (hc: lŸ) (he: ∀s3 H3,kώ) (iQ: më) (sP: mĒ) (I:Ω) (T:kë) (st:cũ) (v7: hů) (h: ∀p,İ ->Pp J own.length fr g tc te σ p H Q) (j': nŌ): wpAny ϗ X.A dĸ (λgN s₃=>wpAny ϗ X.A mΥ (λcenv s₄=>nĹ) E s₃) E s:=by
 exact hĩ;have hf:iĐ:=gÚ;let⟨W,cĵ,xS⟩:=h _ hf;generalize e3:nÑ=s3;have Qj:kϏ:=by rw[<- e3];show gè
 have Zu: lϸ:=λb o e=>by rw[<- e3];show aõ
 have I3:lϙ:=by rw[<- e3];show mϙ
 have Sb: jŮ:=λb hb=>by let⟨o,e,_⟩:=gé;show Á
 have Ap: mà:=mŃ
 exact mϑ;have old: lϚ:=lŌ;have Ic:=nĄ;have UK:tn 0 h₁:=lπ;have tV: nĊ:=λhn b hb=>by exact nġ;change hη;rw[Qj];show be (jĠ);show eÔ
 have loop:nŎ:=by
  exact Gz nĻ ?_ m0 lÍ;rintro n s4 ⟨i,ys,H4,I4,UJ,Wr,w4⟩;let⟨Cw,alt⟩:=fđ;rcases alt with⟨stop,q⟩ | ⟨go,hsz,step⟩
  .exact nĳ;subst hr;show mη
  exact nĴ;subst hr;exact lŝ;have I6':=kŎ;have UI:=jÜ;exact mθ;have again: nŏ:=λ{H9 s9 Pz} I9 eΕ=>by exact nė;show wk.1.symm;let⟨o,e,d⟩:=gê;show lÎ.2.1
  exact mġ;cases ok with
  | false=>simp![bU,eu] at q8 ⊢;let⟨zs,q8⟩:=q8;show cŪ
  | true=>simp![if_true] at q8 ⊢;exact dH (he s3 _ _ s8 σ7 H8 _ I8 q8) λy s9 ⟨yv,H9,I9,ry,zs,_Q,_B,q9⟩=> ?_;exact nŇ;subst Yv;show dĹ
 show má
universe e
section
variable {X:Cx}
theorem Cx.Ok.cellsOf {own N':ê}{fr:ü}{scope:Scope}(ok:X.Ok)(S:hĦ): ∀y∈scope.names,cÄ -> ∃c,X.env.cells.lookup y.1=é:=λy hy hf=>ok.has y.1 (S.free y hy hf)
def fc {tg iter qy:Expr}{qw:Đ}{pos:Pos}{own N':ê}{fr:ü}{scope:Scope}{wi:TI}{g:TG}{tc:TT}{te:TE}(mF:ũ)(S:hĦ)(hi:fõ) (hg: lϬ) (hw:fĐ) (hc: lϹ) (he: lϺ) (hs: lĲ:=by intro _;rfl):PE X lĶ jΟ:=by intro ag s σ H Q I h;let⟨cl,Ar,iQ,sP⟩:=hÄ;rw[eval_ListComp];exact wpAny_comprehension_free (use:=none) rfl hs Ar S.kind S.loc mą;let⟨it,fp,tn,J,H2,e,I2,T,Qm,f2,h2⟩:=h2;subst e;exact vj (RR:=λgN C=>compPost ϗ X.A X.xe none Η gN C) mF S cÆ hw cÇ cÈ iQ sP I2 T Qm f2 h2 ?_;intro s3 H3 I3 f3 D σ' H' s' t hD Ic q;let⟨m,hn,_⟩:=Ic.loc;exact#[m,hn,λh' O3=>#[aĔ,H',?_,rfl,q]];show rl I3 rfl (cū) Ic.free O3
def BS {i:Nat}{x:Str}{tg iter qy:Expr}{qw:Đ}{pos HN iM:Pos}{own N':ê}{fr:ü}{scope:Scope}{wi:TI}{g:TG}{tc:TT}{te:TE}(mF:ũ)(hN:X.N.Nodup)(hx:fë)(hl:gÇ)(S:hĦ)(hi:fõ) (hg: lϬ) (hw:fĐ) (hc: lϹ) (he: lϺ) (RA:nÞ) (hs: lĲ:=by intro _;rfl) (hf:mÒ:=by first | show Ĥ | show ĥ | assumption):PS X mũ (HK jΟ aó):=by
 intro ag s σ H D I h;let⟨cl,Ar,iQ,sP⟩:=hÄ;rw[kġ];exact jÝ;change nļ;exact aq (dH (wpAny_comprehension_free (use:=kĢ) (Q:=jÞ) rfl hs Ar S.kind S.loc mą) hθ);let⟨it,fp,tn,J,H2,e,I2,T,Qm,f2,h2⟩:=h2;subst e;exact vj (RR:=λgN C=>compPost ϗ X.A X.xe (kĢ) (jÞ) gN C) mF S cÆ hw cÇ cÈ iQ sP I2 T Qm f2 h2 ?_;intro s3 H3 I3 f3 Da σ' H' s' t hD Ic q;let⟨m,hn,_⟩:=Ic.loc;have I5:=cū;change mö;exact nß;let⟨a,sb,ha⟩:=O3;have kN:hι:=by obtain rfl | ha:=ha;show gŷ;let⟨v,z⟩:=eΖ;show gë
 exact mŌ
universe e
set_option genInjectivity true in
inductive Dt where
 | fb | bl (b:Bool) | int (i:Int) | str (x:Str) | tup (l:List Dt) | lst (l:List Dt)
mutual
def Rep (K:jv)(H:Hp):Dt ->V ->Prop
 | .fb,v=>v= .fb
 | É,v=>v= É
 | Þ,v=>v= Þ
 | aå,v=>v= aå
 | ý,v=>cU λa vs=>dh cİ (cŬ) (cŭ)
 | aĕ,v=>cU λa vs=>dh cİ (gg K H a vs) (cŭ)
def gQ (K:jv)(H:Hp):Ô ->À ->Prop
 | [],vs=>aô
 | d::r,vs=>cU λv t=>dh (vs=v::t) (cŮ) (gQ K H r t)
end
mutual
def q_:Dt ->Dt ->Bool
 | .fb, .fb=>true
 | .bl a, É=>a==b
 | .bl a, aĈ=>iĎ
 | aĉ, É=>iď
 | aĉ, aĈ=>a==b
 | aĊ, aċ=>a==b
 | .tup a, .tup b=>oM a b
 | .lst a, .lst b=>oM a b
 | _,_=>false
def oM:Ô ->Ô ->Bool
 | [],[]=>true
 | aÉ,y::ys=>q_ x y && oM xs ys
 | _,_=>false
end
mutual
def va:Dt ->Nat
 | ý=>re l+1
 | aĕ=>re l+1
 | _=>0
def re:Ô ->Nat
 | []=>0
 | d::r=>max (va d) (re r)
end
theorem gQ.length {K:jv}{H:Hp}: ∀ {l:Ô} {vs:À},cŭ ->l.length=vs.length
 | [],_,h=>by simp![gQ] at h;subst h;rfl
 | d::r,vs,h=>by simp![gQ] at h;let⟨v,t,rfl,_,h⟩:=h;simp[gQ.length h]
theorem gQ.at {K:jv}{H:Hp}: ∀ {l:Ô} {vs:À} {j:Nat} {d:Dt},cŭ ->eÕ -> ∃v,eΗ /\ cŮ
 | [],_,_,_,_,e=>by simp at e
 | d::r,vs,j,d',h,e=>by
  simp![gQ] at h;let⟨v,t,rfl,h1,h⟩:=h;cases j with
  | zero=>simp at e;subst e;show ců
  | succ j=>simpa using gQ.at (j:=j) h ⇑e
theorem p9: ∀ {l:Ô} {d:Dt},d∈l ->va d<=re l
 | [],_,h=>by simp at h
 | x::r,d,h=>by simp![re];obtain rfl | h:=ĕ;show Nat.le_max_left _ _;show az (p9 h) (Nat.le_max_right _ _)
theorem kQ: ∀ (a b:Ô),oM a b=((List.range (min a.length b.length)).all (λj=>q_ (a.getD j .fb) (b.getD j .fb)) && a.length==b.length)
 | [],[]=>rfl
 | [],y::ys=>by simp[oM]
 | aÉ,[]=>by simp[oM]
 | aÉ,y::ys=>by
  have e:min eΘ eΙ=min xs.length ys.length+1:=by simp![ax];lia
  rw[oM,kQ xs ys,e,List.range_succ_eq_map,List.all_cons,List.all_map];have e2:(eΘ==eΙ)=(xs.length==ys.length):=by simp
  rw[e2,Bool.and_assoc];rfl
mutual
theorem ka: ∀d:Dt,q_ d d=true
 | .fb=>rfl
 | É=>by simp[q_]
 | Þ=>by simp[q_]
 | aå=>by simp[q_]
 | ý=>by simp![q_];show qZ l
 | aĕ=>by simp![q_];show qZ l
theorem qZ: ∀l:Ô,oM l l=true
 | []=>rfl
 | aÉ=>by simp![oM,ka x,qZ xs,Bool.and_self]
end
def Un.sqT {K:jv}{H H':Hp}(h: lŞ){a:iB}{xs:À}(q:cĬ):kY K H' a xs:=by obtain q | q:=q;show .inl (h _ _ q);show .inr q
section
variable {X:Cx}{ag:Ÿ}{σ:St}{H:Hp}{s:eY}
mutual
theorem Rep.inj (I:Ω): ∀ (d e:Dt) (v:V),Rep X.K H d v ->Rep X.K H e v ->d=e
 | .fb,e,v,h1,h2=>by simp![Rep] at h1;subst h1;cases e<;>simp![Rep] at h2<;>first | rfl | (cases h2;done) | (let⟨_,_,q,_⟩:=h2;cases q)
 | É,e,v,h1,h2=>by simp![Rep] at h1;subst h1;cases e<;>simp![Rep] at h2<;>first | (cases h2;rfl) | (cases h2;done) | (let⟨_,_,q,_⟩:=h2;cases q)
 | aĈ,e,v,h1,h2=>by simp![Rep] at h1;subst h1;cases e<;>simp![Rep] at h2<;>first | (cases h2;rfl) | (cases h2;done) | (let⟨_,_,q,_⟩:=h2;cases q)
 | aċ,e,v,h1,h2=>by simp![Rep] at h1;subst h1;cases e<;>simp![Rep] at h2<;>first | (cases h2;rfl) | (cases h2;done) | (let⟨_,_,q,_⟩:=h2;cases q)
 | ý,e,v,h1,h2=>by
  simp![Rep] at h1;let⟨a,vs,rfl,hs,hr⟩:=h1;cases e<;>simp![Rep] at h2<;>first | (cases h2;done) | skip
  let⟨a',tQ,q,yK,lL⟩:=h2;cases q;have:=I.wD hs yK;subst this;rw[hμ];let⟨a',tQ,q,yK,lL⟩:=h2;cases q;let⟨bN,_,ht,_⟩:=cÉ;let⟨its',_,hl,_⟩:=bŵ;show mì
 | aĕ,e,v,h1,h2=>by
  simp![Rep] at h1;let⟨a,vs,rfl,hs,hr⟩:=h1;cases e<;>simp![Rep] at h2<;>first | (cases h2;done) | skip
  let⟨a',tQ,q,yK,lL⟩:=h2;cases q;let⟨bN,_,ht,_⟩:=cÊ;let⟨its',_,hl,_⟩:=bŶ;show mì;let⟨a',tQ,q,yK,lL⟩:=h2;cases q;have:=I.list_inj hs yK;subst this;rw[hμ]
theorem gQ.inj (I:Ω): ∀ (l m:Ô) (vs:À),eÖ ->gQ X.K H m vs ->l=m
 | [],m,vs,h1,h2=>by
  simp![gQ] at h1;subst h1;cases m with
  | nil=>rfl
  | cons _ _=>simp![gQ] at h2;let⟨_,_,q,_⟩:=h2;cases q
 | d ::r,m,vs,h1,h2=>by
  simp![gQ] at h1;let⟨v,t,rfl,h1,h3⟩:=h1;cases m with
  | nil=>simp![gQ] at h2;cases h2
  | cons d' r'=>simp![gQ] at h2;let⟨v',t',q,h4,h5⟩:=h2;cases q;rw[Rep.inj I d d' v h1 h4,gQ.inj I r r' t h3 h5]
end
def gQ.items {l:Ô}{vs:À}{bN:Ê}(h:eÖ)(r:cF vs bN){j:Nat}(hj:j<bN.length):Rep X.K H (dĺ) (eØ) /\ RelV (eØ) bN[j] /\ dĺ∈l:=by
 have e1:=h.length;have e2:=r.length;have hl:cË:= ∅;let⟨v,hv,hr⟩:=h.at (aT hl);let⟨u,hu,ru⟩:=r.get hv;have e3:dĺ=l[j]:=by simp[List.getD,hl]
 have e4:eØ=v:=by simp[List.getD,hv]
 rw[aÏ] at hu;cases hu;rw[e3,e4];show#[hr,ru,cw hl]
def Rep.vL (I:Ω){l:Ô}{x:V}{u:eC}(h:Rep X.K H bÕ x)(r:ĝ):cU λa i=>u= ß /\ IsTup s.heap a i:=by simp![Rep] at h;let⟨a,vs,rfl,hs,hr⟩:=h;cases r;let⟨bN,_,ht,_⟩:=cÉ;show#[a,_,rfl,ht]
def Rep.vX (I:Ω){l:Ô}{x:V}{u:eC}(h:Rep X.K H (aĕ) x)(r:ĝ):cU λa i=>u= ß /\ s.heap.IsList a i:=by simp![Rep] at h;let⟨a,vs,rfl,hs,hr⟩:=h;cases r;let⟨bN,_,ht,_⟩:=bŶ;show#[a,_,rfl,ht.isList]
def Kk (I:Ω)(n:Nat): ∀ (A:Around) (d e:Dt) (x y:V) (u v:eC),va d<=n ->A.units+n<cLine ->eÙ ->eÚ ->ĝ ->bË ->SeqAt.EqAt A s u v (aė):=by
 induction n using Nat.strongRecOn with
 | _ n ih=>
 intro A d e x y u v hn hu h1 h2 r1 r2;cases d<;>cases e;case tup.tup l m=>
  have Th:=h1
  have Nh:=h2
  simp![Rep] at h1 h2
  let⟨a,vs,rfl,hs,hr⟩:=h1
  let⟨b,ws,rfl,yK,lL⟩:=h2
  cases r1;cases r2
  by_cases Pc:a=b
  subst Pc
  rw[hν,ka]
  show gß
  let⟨bN,rv,ht,_⟩:=cÉ
  let⟨its',zi,rW,_⟩:=cÊ
  exact iů
  simp![q_]
  simp![va] at hn
  match n,hn,hu,ih with
  | n +1,hn,hu,ih=>
   have z:=SeqAt.RcAt.tuples (A:=A) (s:=s) (e:=kϰ) ht rW ∅ λj g1 g2=>by let⟨q1,q2,q3⟩:=iŰ;let⟨q4,q5,q6⟩:=iű;exact mŢ;have:=p9 q3;lia;change gì;lia
   rw[kQ,hr.length,lL.length,rv.length,zi.length];simpa using z
 case lst.lst l m=>
  have Th:=h1
  have Nh:=h2
  simp![Rep] at h1 h2
  let⟨a,vs,rfl,hs,hr⟩:=h1
  let⟨b,ws,rfl,yK,lL⟩:=h2
  cases r1;cases r2
  by_cases Pc:a=b
  subst Pc
  rw[hν,ka]
  show gß
  let⟨bN,rv,ht,_⟩:=bŶ
  let⟨its',zi,rW,_⟩:=bŵ
  exact iů
  simp![q_]
  simp![va] at hn
  by_cases hl:hξ
  match n,hn,hu,ih with
  | n +1,hn,hu,ih=>
   have z:=SeqAt.RcAt.lists (A:=A) (s:=s) (e:=kϰ) ht.isList rW.isList aÐ ∅ λj g1 g2=>by let⟨q1,q2,q3⟩:=iŰ;let⟨q4,q5,q6⟩:=iű;exact mŢ;have:=p9 q3;lia;change gì;lia
   rw[kQ,hr.length,lL.length,rv.length,zi.length,hl];simpa [hl] using z
  have z:=mŪ
  have hf:kÀ:= aÐ
  rw[kQ,hr.length,lL.length,rv.length,zi.length,hf,Bool.and_false]
  show z
 case tup.lst=>let⟨a,i,rfl,h⟩:=eΚ;let⟨b,j,rfl,h'⟩:=eΛ;show SeqAt.EqAt.tuple_list h h' ∅
 case lst.tup=>let⟨a,i,rfl,h⟩:=eΜ;let⟨b,j,rfl,h'⟩:=eΝ;show SeqAt.EqAt.list_tuple h h' ∅
 case tup.fb=>let⟨a,i,rfl,h⟩:=eΚ;simp![Rep] at h2;subst h2;cases r2;show SeqAt.EqAt.tuple_none h ∅
 case lst.fb=>let⟨a,i,rfl,h⟩:=eΜ;simp![Rep] at h2;subst h2;cases r2;show SeqAt.EqAt.list_none h ∅
 case fb.tup=>let⟨a,i,rfl,h⟩:=eΝ;simp![Rep] at h1;subst h1;cases r1;show SeqAt.EqAt.none_tuple h ∅
 case fb.lst=>let⟨a,i,rfl,h⟩:=eΛ;simp![Rep] at h1;subst h1;cases r1;show SeqAt.EqAt.none_list h ∅
 case tup.bl=>let⟨a,i,rfl,h⟩:=eΚ;simp![Rep] at h2;subst h2;cases r2;show SeqAt.EqAt.tuple_bool _ h ∅
 case lst.bl=>let⟨a,i,rfl,h⟩:=eΜ;simp![Rep] at h2;subst h2;cases r2;show SeqAt.EqAt.list_bool _ h ∅
 case bl.tup=>let⟨a,i,rfl,h⟩:=eΝ;simp![Rep] at h1;subst h1;cases r1;show SeqAt.EqAt.bool_tuple _ h ∅
 case bl.lst=>let⟨a,i,rfl,h⟩:=eΛ;simp![Rep] at h1;subst h1;cases r1;show SeqAt.EqAt.bool_list _ h ∅
 case tup.int=>let⟨a,i,rfl,h⟩:=eΚ;simp![Rep] at h2;subst h2;let⟨t,rfl⟩:=r2;show SeqAt.EqAt.tuple_int _ _ h ∅
 case lst.int=>let⟨a,i,rfl,h⟩:=eΜ;simp![Rep] at h2;subst h2;let⟨t,rfl⟩:=r2;show SeqAt.EqAt.list_int _ _ h ∅
 case int.tup=>let⟨a,i,rfl,h⟩:=eΝ;simp![Rep] at h1;subst h1;let⟨t,rfl⟩:=r1;show SeqAt.EqAt.int_tuple _ _ h ∅
 case int.lst=>let⟨a,i,rfl,h⟩:=eΛ;simp![Rep] at h1;subst h1;let⟨t,rfl⟩:=r1;show SeqAt.EqAt.int_list _ _ h ∅
 case tup.str=>let⟨a,i,rfl,h⟩:=eΚ;simp![Rep] at h2;subst h2;let⟨t,rfl⟩:=r2;show SeqAt.EqAt.tuple_str _ _ h ∅
 case lst.str=>let⟨a,i,rfl,h⟩:=eΜ;simp![Rep] at h2;subst h2;let⟨t,rfl⟩:=r2;show SeqAt.EqAt.list_str _ _ h ∅
 case str.tup=>let⟨a,i,rfl,h⟩:=eΝ;simp![Rep] at h1;subst h1;let⟨t,rfl⟩:=r1;show SeqAt.EqAt.str_tuple _ _ h ∅
 case str.lst=>let⟨a,i,rfl,h⟩:=eΛ;simp![Rep] at h1;subst h1;let⟨t,rfl⟩:=r1;show SeqAt.EqAt.str_list _ _ h ∅
 all_goals (simp![Rep] at h1 h2;subst h1 h2;show Kj r1 r2 rfl rfl)
universe e
universe L2
namespace L2
open PySem PySem.Spec PyProof.Rows
def afi:Dt ->Bool
 | aĘ=>true
 | aè=>true
 | _=>false
def kz:Dt ->Dt ->Bool
 | aĘ, aĘ=>true
 | aè, aè=>true
 | _,_=>false
section
variable {X:Cx}
def UX {ag:Ÿ}{σ:St}{H:Hp}{s:eY}(I:Ω){A:Around}{d e:Dt}{x y:V}{u v:eC}(hs:cŰ)(hn:bÖ)(hu:fδ)(h1:eÙ)(h2:eÚ)(r1:ĝ)(r2:bË): SeqAt.RcAt A s u v (aė) /\ SeqAt.RcNeAt A s u v (! aė):=by
 cases d with
 | tup l=>
  cases e with
  | tup m=>
   simp![Rep] at h1 h2;let⟨a,vs,rfl,hs,hr⟩:=h1;let⟨b,ws,rfl,yK,lL⟩:=h2;cases r1;cases r2;let⟨bN,rv,ht,_⟩:=cÉ;let⟨its',zi,rW,_⟩:=cÊ;simp![q_];simp![va] at hn;have he: nĭ:=λj g1 g2=>by let⟨q1,q2,q3⟩:=iŰ;let⟨q4,q5,q6⟩:=iű;exact lϛ;have:=p9 q3;lia;change gŹ;lia
   have z:=SeqAt.RcAt.tuples (A:=A) (s:=s) ht rW ∅ he;have z':=SeqAt.RcNeAt.tuples (A:=A) (s:=s) ht rW ∅ he;rw[kQ,hr.length,lL.length,rv.length,zi.length];show#[⇑z, ⇑z']
  | _=>cases hs
 | lst l =>
  cases e with
  | lst m=>
   simp![Rep] at h1 h2;let⟨a,vs,rfl,hs,hr⟩:=h1;let⟨b,ws,rfl,yK,lL⟩:=h2;cases r1;cases r2;let⟨bN,rv,ht,_⟩:=bŶ;let⟨its',zi,rW,_⟩:=bŵ;simp![q_];simp![va] at hn;by_cases hl:hξ;have he: nĭ:=λj g1 g2=>by let⟨q1,q2,q3⟩:=iŰ;let⟨q4,q5,q6⟩:=iű;exact lϛ;have:=p9 q3;lia;change gŹ;lia
   have z:=SeqAt.RcAt.lists (A:=A) (s:=s) ht.isList rW.isList aÐ ∅ he;have z':=SeqAt.RcNeAt.lists (A:=A) (s:=s) ht.isList rW.isList aÐ ∅ he;rw[kQ,hr.length,lL.length,rv.length,zi.length,hl];show#[by simpa [hl] using z,by simpa [hl] using z'];have z:=mŪ;have z':=SeqAt.RcNeAt.lists_lengths (A:=A) (s:=s) ht.isList rW.isList aÐ ∅;have hf:kÀ:= aÐ;rw[kQ,hr.length,lL.length,rv.length,zi.length,hf,Bool.and_false];show#[z,z']
  | _=>cases hs
 | _=>cases hs
def QE (K:jv):R2:=λx y H Q=>cU λd e=>gX (cŰ) (bÖ) eÛ eÜ (Q (.bl (aė)) H)
def BO (K:jv):R2:=λx y H Q=>cU λd e=>gX (cŰ) (bÖ) eÛ eÜ (Q (.bl (! aė)) H)
def Q2 (hu:gź):jE X fø (QE X.K):=by intro ag s σ H x y v u Q I r1 r2 h;let⟨d,e,h0,hn,h1,h2,q⟩:=h;show jġ.1 X.prog X.w X.xe _ gŬ
def uv (hu:gź):jE X gœ (BO X.K):=by intro ag s σ H x y v u Q I r1 r2 h;let⟨d,e,h0,hn,h1,h2,q⟩:=h;show jġ.2 X.prog X.w X.xe _ gŬ
def eV.S0 {k:Nat}{A:Around}(r:aā):fδ:=by have:=r.units;lia
theorem Er: ∀ {ks:û} {vs:Ê},hÅ ->(∀ (j:Nat) (v:eC),eΗ ->cU λ aű (t:Tok)=>eΞ /\ v= .int k t) ->IntsAre vs ks
 | [],[],_,_=> .nil
 | [],_::_,h,_=>by simp at h
 | _::_,[],h,_=>by simp at h
 | k::ks,v::vs,h,hv=>by let⟨k',t,e1,e2⟩:=hv 0 v rfl;simp at e1;subst e1 e2;show .cons k t (Er ⇑h kÁ)
universe e
def dY.of {X:Cx}{sc scope:Scope}{N own N':ê}{fr:ü}(RC:X.env.scope=sc:=by show rfl)(hN:X.N=N:=by show rfl)(kind:hε:=by show rfl)(names:N'=own++iϑ:=by decide+kernel)(len:jϺ:=by show rfl)(nd:N'.Nodup:=by decide+kernel) (uE: kö:=by decide+kernel) (loc: mš:=by decide+kernel) (Tk: ∀x∈iϑ,kø:=by decide+kernel) (free: ∀y∈scope.names,cÄ ->hÆ=bϥ \/ hÆ=ś:=by first | decide+kernel | show bQ rfl):hĦ:=by subst hN RC;show#[kind,names,len,nd,uE,loc,Tk,free]
structure jr (K:PySem.W.Frag)(mg:gń)(x:Str)(ps:aϟ)(st:Stmt)(f:Addr)(fd:FuncData):Prop where
 at_:mg x=dϮ
 fn:wj K x x st f fd
 bd:fŲ
section
variable {X:Cx}{k:Nat}{f:iB}{fd:FuncData}{ps:ê}{sp:Sp}{x:Str}{st:Stmt}{p pos:Pos}{e:Expr}{es:Đ}{t:TA}
theorem aQ {j:Nat}(C:iŲ)(F:lŹ)(hr:eV j X.A) (ha:Μ) (hk:k<=j:=by decide) (hg:ì:=by rfl) (ni:ϰ:=by decide) (he:ϻ:=by rfl) (nh:Ϲ:=by rfl): PE X kŭ (wG sp [] E0 t):=DU F (hr.mono hk) hg C.at_ C.fn.kp C.bd .nil DW ha ni he nh
universe e
theorem bO {H:Hp}{p:iB}{o:HO}(h:İ):fI H (upd H p o):=λb u e=>by rw[bH (dU e h)];show e
def a_ (H H':Hp):Prop:= lŞ
theorem a_.refl (H:Hp):a_ H H:=cÌ
theorem a_.trans {H H1 H2:Hp}(a:aź)(b:bØ):a_ H H2:=ių
theorem fI.ts {H H':Hp}(a:fI H H'):Ę:=λb xs h=>by obtain h | ⟨o,h⟩:=h;show .inl (a _ _ h);show .inr #[o,a _ _ h]
inductive WD (K:PySem.W.Frag)(H:Hp):fŰ where
 | of {x:V} {t:Value} (h:rB K H x t):WD K H x t
 | tup {a:Addr} {xs:ã} (h:cĬ):WD K H Ī ϋ
 | lst {a:Addr} {xs:ã} (h:cī):WD K H Ī Λ
section
variable {X:Cx}
def QD (K:jv):ϧ:=λxs H Q=>jD λx T t b=>fE (xs= [x, .ty T]) (WD K H x t) (iÇ=ô) (Q aŬ H)
def KH:eN X iċ (QD X.K):=by
 intro ag s σ H xs us Q I r h;let⟨x,T,t,b,rfl,ty,e,q⟩:=h;let⟨u,w',rfl,ru,ya⟩:=vals2 r;cases ya;cases ty with
 | of ty=>show Ga I ru ty e kù
 | tup hs=>cases ru;let⟨bN,rv,⟨o,h1,h2,_⟩,_⟩:=cÉ;show cS W.kitx_tuple I.mx b϶ e ϐ kù
 | lst hs=>cases ru;let⟨bN,rv,ht,_⟩:=bŶ;let⟨o,h1,h2,_⟩:=ht.isList;show cS W.kitx_list I.mx b϶ e ϐ kù
universe e
universe L2
namespace L2
open PySem PyProof.Rows PyProof.V PySem.Calls PySem.Spec
def tJ (h:Heap):Nat ->bŷ
 | 0,a=> ∃o vs,fæ /\ gŐ /\ vs[2]? =some .none
 | n+1,a=> ∃o vs b,fæ /\ gŐ /\ vs[2]? =some (ö) /\ tJ h n b
def vx (h h':Heap):Prop:= ∀a o vs v,fæ ->gŐ ->eΟ -> ∃o' tQ,bŏ=aŦ /\ o'.data= .fields tQ /\ eΡ
theorem vx.refl {h:Heap}:vx h h:=λa o vs v e d q=>#[o,vs,e,d,q]
theorem vx.trans {h h1 h2:Heap}(k:vx h h1)(k':vx h1 h2):vx h h2:=λa o vs v e d q=>by let⟨o1,v1,e1,d1,q1⟩:=k a o vs v e d q;show k' a o1 v1 v e1 d1 q1
theorem vx.of {h h':Heap}(k: ∀b o,Ψ ->fŝ):vx h h':=λa o vs v e d q=>#[o,vs,k _ _ e,d,q]
theorem tJ.kp {h h':Heap}(k:vx h h'): ∀ {n a},tJ h n a ->tJ h' n a
 | 0,a,fε=>fζ
 | n+1,a,hĪ=>by let⟨o1,v1,e1,d1,q1⟩:=fζ;show#[o1,v1,b,e1,d1,q1,tJ.kp k c]
theorem tJ.there {h:Heap}: ∀ {n a},tJ h n a -> hĂ
 | 0,a,fε=>#[o,e]
 | n+1,a,hĪ=>#[o,e]
def gZ {α:Type}:aï ->Prop
 | .pure _=>True
 | .raise _=>True
 | .unsupported _=>True
 | .finish _=>True
 | .rule _ k=>bŸ
 | .at _ k=>bŸ
 | .load _ _ k=> eÝ
 | .update _ _ f k=>(∀ (o:Obj) (vs:Ġ) (v:eC),gŐ ->eΟ -> ∃tQ,(f o).data= .fields tQ /\ eΡ) /\ bŸ
 | .alloc _ k=> ∀a,gZ (k a)
 | .point _ k=>bŸ
 | .stack k=> ∀l,gZ (k l)
 | .handled _ k=> eÝ
 | .loadIfAlive _ k=> eÝ
 | _=>False
def gZ.bind {α β:Type}{f:cű}(hf: eÞ){t:aï}(h:gZ t):gZ (t.bind f):=by
 induction t with
 | pure a=>show hf a
 | raise _=>show trivial
 | unsupported _=>show trivial
 | finish _=>show trivial
 | rule _ k ih=>show ih () h
 | «at» _ k ih=>show ih () h
 | load _ _ k ih=>show fē
 | update _ _ f k ih=>show#[h.1,ih () h.2]
 | alloc _ k ih=>show fē
 | point _ k ih=>show ih () h
 | stack k ih=>show fē
 | handled _ k ih=>show fē
 | loadIfAlive _ k ih=>show fē
 | _=>show dĳ
theorem gZ.bind' {α β:Type}{t:aï}{f:cű}(h:gZ t)(hf: eÞ):gZ (t >>=f):=gZ.bind hf h
def jZ {α:Type}{M:Model}{Γ:PySem.Ctx}{E:eC ->Pos ->ň}(t:aï){Q:α ->Pos ->ň}{p:Pos}{s:eY}(c:gZ t)(h:Sem.wp M Γ t Q E p s):Sem.wp M Γ t (λa p' s'=>Q a p' s' /\ gí) E p s:=by
 induction t generalizing p s with
 | pure a=>show#[h, .refl]
 | raise _=>show h
 | unsupported _=>show h
 | finish _=>show h
 | rule _ k ih=>show bŹ
 | «at» _ k ih=>show bŹ
 | load _ _ k ih=>let⟨o,e,h⟩:=h;show#[o,e,ih o (c o) h]
 | update a _ f k ih=>let⟨e,h⟩:=h;exact#[e,Sem.wp_mono M Γ _ (λa' p' s' ⟨q,kp⟩=>#[q,vx.trans (λb o vs v eb d q2=> ?_) kp]) eΤ _ _ (ih () c.2 h)];by_cases hb:a=b;subst hb;let⟨tQ,d',q'⟩:=c.1 o vs v d q2;show#[_,tQ,df _ eb (Obj.isFreed_of_fields d'),d',q'];show#[o,vs,(dD _ _ hb).trans eb,d,q2]
 | alloc o k ih=>show Sem.wp_mono M Γ _ (λa' p' s' ⟨q,kp⟩=>#[q,vx.trans (vx.of λb o' eb=>ar _ eb) kp]) eΤ _ _ (dĻ)
 | point _ k ih=>show bŹ
 | stack k ih=>show dĻ
 | handled _ k ih=>show dĻ
 | loadIfAlive _ k ih=>show dĻ
 | _=>show False.elim c
theorem gw {α:Type}{M:Model}{A:Around}{t:aï}{Q:eū}{E:Ε}{s:eY}(c:gZ t)(h:gË):wpAny M A t (λa s'=>Q a s' /\ gí) E s:=λΓ p hΓ=>jZ t c (h Γ p hΓ)
def AM {v:eC}:gZ (fieldsOf v):=by
 unfold fieldsOf;cases v<;>first | show trivial | skip
 exact gZ.bind' (t:=load _) (bÙ) bÙ;show trivial;split<;>show trivial
def qi {v:eC}{i:Nat}:gZ (field v i):=by unfold field;exact gZ.bind' AM λvs=> ?_;split<;>show trivial
def CH {v x:eC}{i:Nat}(hi:i≠2):gZ (setField v i x):=by
 unfold setField;cases v<;>first | show trivial | skip
 unfold updateField;exact lş;split;split;exact#[λo vs v d q=>#[vs.setIfInBounds i x,dS d _,?_],trivial];rw[Array.getElem?_setIfInBounds_ne hi];show q;show trivial;show trivial
def rh {v:eC}{f:Î}:gZ (setFlight v f):=by unfold setFlight;exact gZ.bind' qi λtb=> ?_;split;show CH ⋯;show trivial
theorem AL: ∀l,gZ (readyFrames l)
 | []=>trivial
 | env :: outer=>by unfold readyFrames;split;exact lş;split;show trivial;exact gZ.bind' ?_ λim=>gZ.bind' ?_ λback=>gZ.bind' (t:=update _ _) ?_ λ_=>AL outer;unfold behindIsImport;split;show trivial;split;show trivial;show gZ.bind' qi dļ;unfold keptBack;split;split;show trivial;show gZ.bind' (t:=underTheClaimsCaller) (dļ) dļ;show trivial;show#[λo vs v d q=>#[vs,d,q],trivial];show trivial
def CI {env:Env}:gZ (gî):=by
 unfold PySem.frameOf frameEnvs;exact gZ.bind' (gZ.bind' eΥ dļ) λl=>gZ.bind' ?_ bÙ;generalize List.dropWhile _ l=m;cases m with
 | nil=>show trivial
 | cons a r=>unfold frameObject;show gZ.bind' (AL _) dļ
 split<;>show trivial
def Kv {f:iB}{b:Bool}:gZ (entryPlaceOf f b):=by unfold entryPlaceOf;exact gZ.bind' eΥ λl=> ?_;split;show trivial;show trivial
def Gw {t:String}{vs:Ê}:gZ (newFields t vs):=by unfold newFields newObj newObjAsIs;change gZ hī;split;show trivial;show dļ
theorem Kw {a b c d e:eC}{pl:Ê}:gZ (EntryCells.newEntry a b c d e pl):=Gw
def yR {e:eC}{env:Env}:gZ (noteFrame e env):=by unfold noteFrame;split;exact gZ.bind' qi λhead=> ?_;rename_i fr _;have jp:gZ (do let a <- gî;let pl <- entryPlaceOf fr (head !=Value.none);let b <- EntryCells.newEntry head a .none (rawInt fr) .none pl;setField e 1 b):=gZ.bind' CI λ_=>gZ.bind' Kv λ_=>gZ.bind' Kw λ_=>CH ⋯;change gZ hī;split;exact gZ.bind' qi bÚ;split;show trivial;show gZ.bind' (CH ⋯) λ_=>jp;show jp;show trivial
theorem vi {e:eC}{env:Env}:gZ (leaving env e):=gZ.bind' yR λ_=>rh
section
variable {M:Model}{A:Around}{E:Ε}{s:eY}{base h:Heap}{env:Env}{outer l:è}{L e:iB}{cls a0:eC}{args:Ê}{Q:Ϗ}
theorem Ci (lw:jß)(hf:fη)(Nc:lς) (hQ: ∀h',kΕ ->mĔ):lÏ:=bf (gw vi (wpAny_leaves_onW (Q:=λ_ s'=> ∃h',hο /\ kΕ /\ hÇ) lw hf Nc iĕ)) mĕ ş
theorem yD (lw:jß)(hf:fη)(hkb:base.StaysIn h)(hl:h.FunFrames base dĽ)(hx:Heap.MadeExcOf h s.heap e cls args) (hQ: ∀h' t,lġ ->fĔ ->fθ ->mĔ):lÏ:=bf (gw vi (wpAny_leaves_madeW (Q:=λ_ s'=> ∃h' t,hο /\ lġ /\ fĔ /\ fθ /\ hÇ) lw hf hkb hl hx λh' t a b c d=>#[h',t,rfl,a,b,c,d])) (λ_ _ ⟨⟨h',t,q,a,b,c,d⟩,k⟩=>by subst q;show hQ h' t a b c d k) ş
theorem w5 (lw:jß)(hf:fη)(Nc:lς) (hQ: ∀h',lķ ->mĔ):wpAny M A (noteFrame Ĳ env) Q E s:=bf (gw yR (wpAny_looks_onW (Q:=λ_ s'=> ∃h',hο /\ lķ /\ hÇ) lw hf Nc iĕ)) mĕ ş
theorem Cj (hh:Heap.HeldW base l e cls a0 L s.heap) (hQ: nì):lĢ:=bf (gw rh (wpAny_landsW (Q:=nÒ) hh iĕ)) mĕ ş
theorem yF (hh:Heap.FlyingW base l e cls a0 s.heap) (hQ: nì):lĢ:=bf (gw rh (PyProof.Rows.lands_againW (Q:=nÒ) hh iĕ)) mĕ ş
def tJ.made {h':Heap}(mk:Heap.MadeExcOf h h' e cls args):tJ h' 0 e:=by let⟨t,he,_,_⟩:=mk.there;show#[_,_,he,rfl,rfl]
universe e
def fQ (P:pF)(w:World):G1:=λouter H s E e s'=>qu λ(ea:iB) (cls a0:eC) (B:Heap) (H':Hp)=>KQ (e= aŻ) (s'.os=s.os) (fð) (Heap.FlyingW B outer ea cls a0 s'.heap) (lN P w H' B) (cÍ) lÉ (dh (mž) (mū) ((∃n,tJ s'.heap n ea) /\ E cls none H'))
def eL.ex {P:pF}{w:World}{H:Hp}{h:Heap}{a:iB}{o:HO}(x:eŜ): ∃u,ġ=á:=by
 cases o with
 | lst xs=>let⟨_,_,_,_,e⟩:=x;show ú
 | tup xs=>let⟨_,_,_,p,e,_⟩:=x;show ú
 | dK kvs=>let⟨_,_,_,_,o,_,_,e,_⟩:=x;show ú
 | dT kvs=>let⟨_,_,_,_,o,_,_,e,_⟩:=x;show ú
 | set S n=>let⟨o,_,_,_,e,_⟩:=x;show ú
 | ins C dx fs=>let⟨_,_,_,e,_⟩:=x;show ú
 | own y=>show x
 | xd fs=>let⟨_,fè,_⟩:=x;show ú
 | XU lo hi=>let⟨_,_,_,e⟩:=x;show ú
 | nF ob u=>let⟨e,_⟩:=x;show ú
 | LW ps=>show#[_,jΗ]
 | met f y=>show#[_,jΗ]
 | ext φ=>let⟨_,e,_⟩:=x;show e
section
variable {X:Cx}{ag:Ÿ}{σ:St}{H H':Hp}{s s':eY}
theorem Inv.zW (I:Ω){b:iB}{o:Obj}(e:iΞ)(n:aϢ):eΦ:=λz=>by obtain q | q:=fŢ;have h1:=Á;have h2:=I.ok.above;rw[q] at h1;show absurd h1 (Nat.not_lt.mpr h2);show n q
theorem oY {outer:è}{H₀:Hp}{h0 h h' B:Heap}{base:Heap}(ff:iÉ)(hF: jĢ)(u:jΡ)(st:dĿ)(up:h.UpToSlots h') (kb: mŵ) (kt: mō):kÃ where
 keep b o e n hb _:=iÊ
 slot b o e n hb hx:=by let⟨sl,e1⟩:=hĬ;let⟨_,o2,e2,Gg⟩:=bŻ;rw[e1] at e2;cases e2;let⟨Fv,e3⟩:=dŀ;show#[Fv,e3]
 free:=u.free
 there b o e hx:=by by_cases hb:b∈Į;let⟨sl,e1⟩:=jŲ;let⟨_,o2,e2,Gg⟩:=bŻ;rw[e1] at e2;cases e2;let⟨Fv,e3⟩:=dŀ;show#[_,e3];let⟨o',e'⟩:=cų;show fĕ
 lT:=u.lT
 kP:=u.kP
 nB:=u.nB
def oC {P:pF}{w:World}{K:jv}{mg:Ũ}{base:Heap}{N:ê}{qual:Str}{scope:Scope}{f:iB}{cd:eC}{A:Around}{outer:è}{s:eY}{H:Hp}{E:XK}: gO ĳ (Ϻ) E:=by
 intro ag σ H1 s1 e s' I hf;let⟨ea,cls,a0,B,H',rfl,os,bare,fl,c9,nV,un,kb,kt,cŴ,hE⟩:=hf;have I':=I.E1 (ch:= []) os un eΧ bare jĜ;change wpAny _ _ hπ _ _ s';exact Ci I.ok.frames rfl fl λh' fl' up kp=> ?_;have hex:mŗ:=rfl;have VJ: mž:=λb o e n hb=>kb b o (I.base.keep b o e n hb kÄ) (I.base.free b o e n kÄ) cŵ;have VI: mū:=λb o e hb=>by let⟨o1,e1⟩:=I.base.there b o e kÄ;show kt b o1 e1 cŵ
 show#[ea,cls,a0,B,H',rfl,os.trans I.os,bare,fl',c9,nV,oY I'.mH I.ok.G_ I'.base fl'.1 up VJ VI,VJ,VI,#[nc,hc.kp kp],hE]
def J_ {P:pF}{w:World}{M:Model}{E':Ε}{E:XK}{h':Heap}{e:iB}{cls:eC}{vs:Ê}(hP:aϲ)(hw:X.w=w)(I:Ω)(j8:hϮ)(lw:jΘ)(hex:X.ex= []) (mk:kŏ) (hE:dŁ): wpAny M X.A (leaving X.env Ĳ) (λ_ s2=>fQ P w X.outer X.H₀ X.s₀ E Ĳ s2) E' ϔ:=by
 subst hP hw;have Jh: ∀b:iB,aϡ:=λb z=>by rw[hex] at z;show gŢ
 have Qk:=I.stack;have Ct: mø:=lϭ;have hB:lN X.prog X.w H (jΤ):=nĺ;have nV:H e=none:=by
  cases q:H e with
  | none=>rfl
  | some o=>let⟨u,hu⟩:=(I.c9 e o q).ex;rw[mk.new] at hu;cases hu
 have kb: ∀b o,iΞ ->dϚ ->b∉bϤ ->lÐ=ä:=mĹ;have kt: ∀b o,iΞ ->b∉bϤ -> ∃o',lÐ=aŦ:=λb o e hb=>by let⟨o1,e1⟩:=iϖ;show iϗ
 have Yj:s.heap.FunFrames (jΤ) (eţ):=by have:=W.funFrames_hide Qk Ct;rw[j8] at this ⊢;show this
 exact yD iĖ lw (λb o q=>fι) Yj mk λh2 t fl tu _ up kp=> ?_;have up':s.heap.UpToSlots h2:=(Heap.UpToSlots.of_keeps mk.keeps).trans up;have u0:Un (bϤ) [] X.H₀ H X.s₀.heap s.heap:=by have:=I.base;rw[hex] at this;show this
 show#[e,cls, aă,_,H,rfl,I.os,I.bare,fl,hB,nV,oY I.mH I.ok.G_ u0 fl.1 up' kb kt,kb,kt,#[0,(tJ.made mk).kp kp],hE]
def xL (X:Cx)(E:XK):Prop:= ∀ (ag:Ÿ) (σ:St) (H:Hp) (s:eY) (h':Heap) (e:iB) (cls:eC) (vs:Ê),Ω ->kŏ ->dŁ ->X.xe Ĳ ϔ
theorem uY {P:pF}{w:World}{K:jv}{mg:Ũ}{base:Heap}{N:ê}{qual:Str}{scope:Scope}{f:iB}{cd:eC}{A:Around}{outer:è}{s:eY}{H:Hp}{E:XK}: xL (Ϻ) E:=λag σ H1 s1 h' e cls vs I mk hE=>J_ (P:=P) (w:=w) rfl rfl I rfl rfl rfl mk hE
nonrec abbrev Tn:Ê:= [.type dł, .type "Exception", .type fĖ, eŵ]
def BB (C:iB)(E:XK)(t:TA):TS:=λ_ σ H=>t σ H λvs H1=>gϺ /\ E ī none H1
def Iq {E:XK}{x:Str}{C:iB}{np dM pos:Pos}{e₀:Expr}{rest:Đ}{t:TA}(hF:xL X E)(hc:ũ)(hg:ì)(O:PyProof.Rows.OwnCls x C Tn hĭ X.mg X.base)(ha:PA X dŃ t) (ni:ϰ:=by decide) (he:mι:=by rfl) (nh:lŠ=false:=by rfl): mϕ:=by intro ag s σ H D I h;let⟨tl,N,nm,q,bs,hdct,sn,sub,ab,col,dd,k0,k1,k2,k3,k5,mN,hC,hN,G7,T⟩:=O.obj;exact wpAny_Raise_call_subU (C:=C) (nm:=nm) (q:=q) (N:=N) (bs:=bs) (bm:=tl) (hdct:=hdct) (sn:=sn) (sub:=sub) (ab:=ab) (col:=col) (dd:=dd) (k0:=k0) (k1:=k1) (k2:=k2) (k3:=k3) (k5:=k5) dZ (bmB:=Tn) ϙ dZ (mN:=mN) iË ź (by rw[he];change(false || lŠ)=false;rw[nh];rfl) G7 (pH I hg O.bound #[rfl,?_] ni);have h2:=ha dM ag s σ H _ I h;rw[he] at h2 ⊢;show Calls.evalArgs_plain (dH h2 λus s2 ⟨vs,H1,I1,r,z,hE⟩=>#[rfl,by rw[<- r.length];show z,I1.bk _ _ hC,hN.keeps I1.bk,T.keeps I1.bk,λh' e mk=>hF ag σ H1 s2 h' e ī us I1 mk hE])
universe e
def gf (a C:iB)(h:Heap):Prop:= ∃o,fæ /\ eß
abbrev Cx.jx (X:Cx)(e:eC):Cx:= {X with A:=X.A.mark aϱ,calm:=false,xe:=Ź}
section
variable {X:Cx}{ag:Ÿ}{σ:St}{H H':Hp}{s s':eY}
theorem Cx.Ok.jx (ok:X.Ok)(e:eC):(X.jx e).Ok:=#[ok.mod,ok.kind,ok.glob,ok.blt,ok.above,ok.inj,ok.has,ok.Tl,ϐ,ok.frames,ok.Qk,ok.exf,ok.bs,ok.KJ,ok.FS,ok.CD,ok.mH,ok.G_]
theorem Inv.jx (I:Ω)(e:eC):iÌ:=#[I.ok.jx e,I.os,I.bare,I.base,I.loc,I.cell,I.free,I.gU,I.pin,I.c9,I.len]
theorem Inv.kJ {e:eC}(ok:X.Ok)(I:iÌ):Ω:=#[ok,I.os,I.bare,I.base,I.loc,I.cell,I.free,I.gU,I.pin,I.c9,I.len]
def Ni {M:Model}{A:Around}{E:Ε}{i:Nat}{n:Str}{pos:Pos}{Q:Ϗ}(I:Ω)(hN:X.N.Nodup)(hi:X.N[i]? =aē)(hk:jà) (h: ∀s',Inv X ag fė H s' ->aŨ):wpAny M A (do iÍ;unbindBehindTheSuite X.env n pos) Q E s:=by
 let⟨m,hn,hl⟩:=aϦ;have RT:nâ:=by rw[I.ok.kind];rfl
 have Yh:cģ:=by rw[I.len];show dĉ
 have KC:=I.KC;exact wpAny_nameGoes_keeps hk hn RT λh' v V0 hs=> ?_;let⟨oL,_,_,hoL,_⟩:=id hn;have tracked:gň:=λb ob e=>by exact mυ;rintro rfl;obtain rfl | hc:=hc;rw[I.free] at e;cases e;rw[I.free] at hc;cases hc
 exact h _ #[I.ok,I.os,I.bare,nñ,jϬ,dĊ,I.free,I.gU,cğ,tracked, aϧ];show lİ jĘ;let⟨sl,e1⟩:=iΡ;show lϲ;let⟨o',e1⟩:=hŨ;show lϳ;by_cases hj:j=i;subst hj;rw[iΤ] at e2;cases e2;rw[jŤ] at e2;let⟨u',r',q⟩:=gŉ;exact cĤ;rcases q with⟨k,e⟩ | ⟨k,c,e,z⟩
 exact dċ;have:y≠n:=ję;simp[this,e];show kϫ;let⟨w',z⟩:=dČ;show#[w',iĂ];let⟨e,n,ne,nf,d⟩:=bϧ;show kŨ
def gv {H1:Hp}{s1:eY}{B h5:Heap}{ea C:iB}{a0:eC}(I:gÔ)(os:s'.os=s1.os)(bare:fð)(fl:Heap.FlyingW B X.stack ea ī a0 s'.heap)(c9:lN X.prog X.w H' B)(nV:cÍ) (un:Un dć [] H1 H' s1.heap s'.heap) (kb: ∀b o,hς ->H1 b=none ->eΦ ->bÛ=ä) (kt: ∀b o,hς ->eΦ -> iÈ) (fl5:Heap.FlyingW B X.stack ea ī a0 h5) (up:s'.heap.UpToSlots h5) {tk:Nat}:Inv X ag σ jų jģ /\ kű:=by
 have new: ∀b o,hς ->b≠ea:=λb o e z=>by subst z;by_cases hb:b∈bϦ;let⟨_,o2,e2,Gg⟩:=fl.2.2.1.mem hb;let⟨oe,vs,e3,_,hd,_⟩:=fl.first;rw[e2] at e3;cases e3;show Gg vs hd;let⟨o',e'⟩:=cų;rw[fl.2.1] at e';cases e'
 have u5:=oY fl.2.2.1 I.o0 un fl5.1 up kb kt;have Aj: ∀b o,H' b=ä ->upd H' ea fμ b=ä:=λb o e=>by rw[bH (dU e nV)];show e
 have u6:Un dć [] H1 jų s1.heap h5:=#[u5.keep,u5.slot,λb o e n hx=>by rw[bH (new b o e)];show u5.free b o e n hx,u5.there,λb xs e=>Aj _ _ (u5.lT b xs e),λb o u e=>Aj _ _ (u5.kP b o u e),λb ps e=>let ⟨m,z⟩:=u5.nB b ps e;#[m,Aj _ _ z]]
 have _S:lN X.prog X.w jų h5:=λb o e=>by by_cases hb:b=ea;subst hb;rw[bX] at e;cases e;let⟨oe,vs,e3,hc,_⟩:=fl5.first;show#[#[oe,e3,hc],#[oe,e3],λh1 h2 cŶ k=>#[o,k o e,c]];rw[aÃ] at e;show(c9 b o e).jo (λc u _ q=>fl5.1 c u q) (λc q=>Aj _ _ q) λc xs q=>Aj _ _ q
 exact#[I.E1 (s':= jģ) (ch:= []) os u6 _S bare jĜ,λb xs r=> ?_];obtain r | ⟨w,r⟩:=r;show .inl (u6.lT _ _ r);show .inr #[w,u6.kP _ _ _ r]
def As (i:Nat)(D:kZ):kZ:= ną
theorem pE {M:Model}{A:Around}{E:Ε}{x:Str}{u:eC}{pos:Pos}{Q:Ε}(I:Ω)(hg:ì)(hm:dϡ)(h:Q u s) (hd:ϰ:=by decide):wpAny M A jÎ Q E s:=nČ
universe e
universe L2
namespace L2
open PySem PyProof.Rows PyProof.V PySem.Calls PySem.Spec PySem.W PySem.Builtin PySem.Builtin.ObjectAttr PySem.Builtin.Getset_descriptor
section
variable {prog:pF}{w:World}{A:Around}{E:Ε}{K:jv}{hh:Heap}{g:eŦ}{d:Drawn}{t:Nat}{os:OsState}{a C:iB}{o:Obj}
theorem qX {M:Model}(hx:fν)(hc:eß):Looks M hh (typeOf Ī) ī:=hc▸ (Looks.ld hx).andThen .now
def Nv {R:gř}{tp:eC}(X:aż)(hx:fν)(hc:eß)(hm:kϐ)(h:lÑ): codeAny Ι A (.call lÈ #[[jě, ß,tp],[]]) R Ξ:=by
 have L0:=já;have L1:=looks_mroIn (M:=dė) X hm;exact codeAny_call_builtin KF.slot_gs.plain KF.entry_gs (KF.slot_gs.check _ _ _ _ _ _ _ _ KF.type_class (KF.args_gs _ _ _) ?_);unfold Builtin.«getset_descriptor.__get__» descrGet;rw[dga_obj];exact aq aŽ;unfold descrGetter descrCheckInstance descrNameAndClass isInstance;simp![KF.owner_class];repeat lk
 exact#[lî,codeAny_builtin KF.entry_class ?_];unfold Builtin.«object.__class__» shownTypeOf;repeat lk
 show h
def Gq {tk:Tok}{Q:fĘ}(X:aż)(hx:fν)(hc:eß)(iQ:mμ)(hm:kϐ) (hq:Q (.done (.ret ī)) Ξ):wpAny Ι A (Builtin.«object.__getattribute__» kΖ) Q E Ξ:=by
 have LT:=já;have L3:=looks_findIn (M:=dė) X iQ;have hT5:(Ξ:eY).TypeIs (jě) "getset_descriptor" :=F.typeOf_object_class;have f5:=F.typeOf_object_class;have f6:=F.slot_gs_get.lookup;have f7:=F.slot_gs_set.lookup;repeat (any_goals (first | assumption | with_reducible exact eΨ | with_reducible exact Looks.at L3 ?_ | (with_reducible exact iĘ;rw[hc]) | wp_step))
 exact Nv X hx hc hm ?_;repeat (any_goals (first | assumption | wp_step))
def Gr {M:Model}{OO:eC}{Q:Ϗ}(X:aż)(hx:fν)(hc:eß)(hb:lō)(hq:Q () Ξ): wpAny M A (checkBuiltinCall kģ #[[ß,OO],[]]) Q E Ξ:=by
 have LT:=qX (M:=M) hx hc;have LB:=looks_mroIn (M:=M) X hb;have hk:builtinKind kģ =some .slot:=by decide+kernel
 have RB:splitId kģ =some (fĖ,gŻ):=by decide+kernel
 have ha:=F.args_bexc_ga Ī OO;simp![checkBuiltinCall,hk,RB];exact aÆ
 .unfold isInstance;repeat (first | with_reducible exact eΨ | with_reducible exact Looks.at LB ?_ | (with_reducible exact iĘ;rw[hc]) | wp_step)
  show hq
theorem Kg {tk:Tok}{R:gř}(X:aż)(hx:fν)(hc:eß)(iQ:mμ)(hm:kϐ)(hb:lō) (hq:lÑ):codeAny Ι A (.call lŎ kΖ) R Ξ:=codeAny_call_builtin F.excAttr_ValueError.ga.plain F.entry_bexc_ga (Gr X hx hc hb (Gq X hx hc iQ hm hq))
def Sf {tk:Tok}{fill Kf:Bool}{Q:Ε}(X:aż)(hx:fν)(hc:eß)(Lv:nÏ)(hgn:lĸ) (iQ:mμ) (hm:kϐ) (hb:lō) (hq:Q ī Ξ):wpAny Ι A (getAttrBy Ī (hÉ) fill Kf) Q E Ξ:=by
 have LT:=já;have L1:=looks_findIn (M:=dė) X Lv;have L2:=looks_findIn (M:=dė) X hgn;have f3:=F.excAttr_ValueError.ga.bind Ī;have VT:(Kf && onTheHeap (lτ))=false:=by cases Kf<;>rfl
 have JU:(mϹ)=false:=by decide+kernel
 have Rv:(onTheHeap (cŷ) && mϹ)=false:=by rw[JU];rfl
 repeat (any_goals (first | assumption | with_reducible exact eΨ | with_reducible exact Looks.at L1 ?_ | with_reducible exact Looks.at L2 ?_ | (with_reducible exact iĘ;rw[hc]) | wp_step))
 exact Kg X hx hc iQ hm hb ?_;repeat (any_goals (first | assumption | wp_step))
def Kh {Q:Ë ->ň}(X:aż)(hx:fν)(hc:eß)(Lv:nÏ)(hgn:lĸ) (iQ:mμ) (hm:kϐ) (hb:lō) (hq:Q (dϵ) #[hh,g,d,t+1,os]):wpAny Ι A (getAttr? Ī cł) Q E Ξ:=by unfold getAttr? getAttrBy?;repeat (any_goals (first | assumption | with_reducible apply Sf X hx hc Lv hgn iQ hm hb | wp_step))
universe e
universe L2
namespace L2
open PySem PyProof.Rows PyProof.V PySem.Calls PySem.Spec PySem.W
structure C4 (K:PySem.W.Frag)(C:Addr):Prop where
 cls:(clsIn K C).isSome=true
 ga:nÏ
 gn:lĸ
 cl:mμ
 mo:kϐ
 mb:lō
theorem Jz {K:jv}{a C:iB}(k:aę):KitX K Ī ī (gf a C) where
 ty:=λM h _ cŶ=>qX e c
 it :=λ_ _ X _=>by let⟨cdD,Nd⟩:=kŐ;unfold clsIn at Nd;split at Nd;rename_i c' d' cd' ZD ho;intro A' Q' E' s' k q;unfold isType loadHead;show aq (wpAny_loadPart (k _ _ (X _ _ ho)) (aV q));cases Nd
 ne :=λh tp dd bN n sl X htp=>by let⟨cdD,Nd⟩:=kŐ;exact Bool.eq_false_iff.mpr λq=> ?_;have e:C=tp:=Value.ref.inj (beq_iff_eq.mp q);subst e;unfold clsIn at Nd;split at Nd;rename_i c' d' cd' ZD ho;have z:=(X _ _ ho).symm.trans htp;cases z;cases Nd
 ca:=λ{prog w A E Q s} X cŶ h=>by let⟨hh,g,d,t,os⟩:=s;show Kh X e c k.ga k.gn k.cl k.mo k.mb h
section
variable {X:Cx}
def Ij (K:jv):ϧ:=λxs H Q=>qu λa C c cu b=>GI (xs= [ß,c]) (iŴ) (aę) (RelV c cu) iÎ (kitOne K ī cu=ô) (Q aŬ H)
def vp:eN X iċ (Ij X.K):=by intro ag s σ H xs us Q I r h;let⟨a,C,c,cu,b,rfl,ea,kc,rc,only,e,q⟩:=h;let⟨u,w',rfl,ru,ya⟩:=vals2 r;cases only _ ya;cases (show ι from ru);show kia_one (Jz kc) I.mx (cŃ).1 e ϐ kù
universe e
universe L2
namespace WL
open PySem L2
set_option genInjectivity true in
inductive W where
 | v (x:V) | tup (l:aĚ)
set_option genInjectivity true in
inductive MO where
 | lst (l:aĚ) | dK (kvs:dŅ) | ins (C dx:Addr) (fs:List (Str×W)) | exc (C:Addr) | fz (o:Obj) (ks:dý) (kvs:dŅ)
abbrev Mp:=iB ->gk MO
abbrev dt:=eA (Å)
abbrev WK:=W ->ő
abbrev WE:=dt ->eΩ
abbrev WT:=dt ->Mp ->(ϑ) ->Prop
abbrev WA:=dt ->Mp ->(fξ) ->Prop
abbrev WG:=W ->kő
abbrev KU:=Æ ->kő
abbrev vw:=W ->gż
abbrev y8:=hτ
abbrev WI:=dt ->Mp ->(kÅ) ->Prop
structure fA where
 nx:Ο
 rt:WK
 bk:Ο:=Ź
 ct:Ο:=Ź
abbrev WS:=fA ->Ο
@[reducible] def wi (i:Int):W:= cŸ
@[reducible] def wb (b:Bool):W:= .v aŬ
@[reducible] def wr (a:iB):W:= cŹ
@[reducible] def ws (x:Str):W:= .v aϫ
@[reducible] def wn:W:= aě
def um (M:Mp)(a:iB)(o:MO):Mp:=λb=>if b=a then ä else M b
def am {M:Mp}{a:iB}{o:MO}:um M a o a=ä:=by unfold um;rw[å]
def aR {M:Mp}{a b:iB}{o:MO}(h:b≠a):um M a o b=M b:=by unfold um;rw[aC h]
def nL {M:Mp}{a:iB}{o u:MO}:um (um M a o) a u=um M a u:=by funext b;unfold um;split<;>rfl
def dR {M:Mp}{a b:iB}{o:MO}(h:cÎ)(h':bÜ):a≠b:=by intro e;subst e;rw[h] at h';cases h'
def Sm (M M':Mp):Prop:= ∀b o,M b=ä ->M' b=ä
theorem Sm.refl (M:Mp):Sm M M:=cÌ
theorem Sm.trans {M M1 M2:Mp}(a:až)(b:Sm M1 M2):Sm M M2:=ių
def Sm.free {M M':Mp}{p:iB}(a:ę)(h:bż):Ĵ:=by
 cases e:M p with
 | none=>rfl
 | some o=>rw[a p o e] at h;cases h
theorem aN {M:Mp}{p:iB}{o:MO}(h:Ĵ):Sm M cÏ:=λb u e=>by rw[cź];show e
theorem Sm.um {M M':Mp}{p:iB}{o:MO}(a:ę)(h:Ĵ):Sm M cŻ:=λb u e=>by rw[cź];show a b u e
mutual
def WR (K:jv)(H:Hp):W ->V ->Prop
 | .v x,v=>v=x
 | ý,v=>mÙ
def cO (K:jv)(H:Hp):Æ ->À ->Prop
 | [],vs=>aô
 | x::r,vs=>cU λv t=>dh (vs=v::t) (Š) (cO K H r t)
end
mutual
theorem WR.ts {K:jv}{H H':Hp}(a:Ę): ∀ (x:W) (v:V),Š ->cż
 | .v x,v,h=>by simp![WR] at h ⊢;show h
 | ý,v,h=>by simp![WR] at h ⊢;let⟨p,vs,e,hs,hr⟩:=h;show#[p,vs,e,Un.sqT a hs,cO.ts a l vs hr]
theorem cO.ts {K:jv}{H H':Hp}(a:Ę): ∀ (l:Æ) (vs:À),Ŭ ->cO K H' l vs
 | [],vs,h=>by simp![cO] at h ⊢;show h
 | x::r,vs,h=>by simp![cO] at h ⊢;let⟨v,t,e,h1,h2⟩:=h;show#[v,t,e,WR.ts a x v h1,cO.ts a r t h2]
end
theorem cO.length {K:jv}{H:Hp}: ∀ {l:Æ} {vs:À},Ŭ ->gŽ
 | [],_,h=>by simp![cO] at h;subst h;rfl
 | d::r,vs,h=>by simp![cO] at h;let⟨v,t,rfl,_,h⟩:=h;simp[cO.length h]
theorem cO.at {K:jv}{H:Hp}: ∀ {l:Æ} {vs:À} {j:Nat} {d:W},Ŭ ->eÕ -> ∃v,eΗ /\ cÐ
 | [],_,_,_,_,e=>by simp at e
 | d::r,vs,j,d',h,e=>by
  simp![cO] at h;let⟨v,t,rfl,h1,h⟩:=h;cases j with
  | zero=>simp at e;subst e;show ců
  | succ j=>simpa using cO.at (j:=j) h ⇑e
theorem cO.mk {K:jv}{H:Hp}: ∀ {l:Æ} {vs:À},gŽ ->(∀ (j:Nat) d v,eÕ ->eΗ ->cÐ) ->Ŭ
 | [],vs,h,_=>by simp![cO];show List.length_eq_zero_iff.mp h
 | d::r,[],h,_=>by simp at h
 | d::r,v::vs,h,k=>by simp![cO];show#[v,vs,rfl,k 0 d v rfl rfl,cO.mk ⇑h λj x u e1 e2=>k aÑ x u ⇑e1 ⇑e2]
def cO.back {K:jv}{H:Hp}{l:Æ}{vs:À}{j:Nat}{v:V}(h:Ŭ)(e:eΗ): ∃d,eÕ /\ cÐ:=by
 have hl:=h.length;have hj:cË:=by have:=(bu.mp e).1;lia
 let⟨u,hu,r⟩:=h.at (j:=j) (d:=l[j]) (aÏ);rw[e] at hu;cases hu;show#[_,aÏ,r]
def cO.snoc {K:jv}{H:Hp}{l:Æ}{vs:À}{d:W}{v:V}(h:Ŭ)(hr:cÐ):cO K H (l++ [d]) (vs++ [v]):=by
 have hl:=h.length;exact cO.mk (by simp[hl]) gž;by_cases hj:cË;rw[bb hj] at e1;rw[bb ∅] at e2;let⟨w,hw,r⟩:=aſ;rw[e2] at hw;cases hw;show r;rw[aĜ] at e1;rw[aĜ,hl] at e2;cases hk:j - l.length with
 | zero=>rw[hk] at e1 e2;simp at e1 e2;subst e1 e2;show hr
 | succ k=>rw[hk] at e1;simp at e1
def cO.append {K:jv}{H:Hp}{l m:Æ}{vs us:À}(h:Ŭ)(h':cO K H m us):cO K H (l++m) (vs++us):=by have hl:=h.length;have J0:=h'.length;exact cO.mk (by simp[hl,J0]) gž;by_cases hj:cË;rw[bb hj] at e1;rw[bb ∅] at e2;let⟨w,hw,r⟩:=aſ;rw[e2] at hw;cases hw;show r;rw[aĜ] at e1;rw[aĜ,hl] at e2;let⟨w,hw,r⟩:=h'.at e1;rw[e2] at hw;cases hw;show r
def cO.drop {K:jv}{H:Hp}{l:Æ}{vs:À}(n:Nat)(h:Ŭ):cO K H (l.drop n) (vs.drop n):=by exact lš;rw[List.getElem?_drop] at e1 e2;let⟨w,hw,r⟩:=aſ;rw[e2] at hw;cases hw;show r
def cO.take {K:jv}{H:Hp}{l:Æ}{vs:À}(n:Nat)(h:Ŭ):cO K H (l.take n) (vs.take n):=by exact lš;rw[List.getElem?_take] at e1 e2;split at e1;rename_i hj;rw[aF hj] at e2;let⟨w,hw,r⟩:=aſ;rw[e2] at hw;cases hw;show r;cases e1
def cO.set {K:jv}{H:Hp}{l:Æ}{vs:À}(n:Nat){d:W}{v:V}(h:Ŭ)(hr:cÐ):cO K H (l.set n d) (vs.set n v):=by have hl:=h.length;exact lš;rw[List.getElem?_set] at e1 e2;split at e1;rename_i hj;rw[aF hj] at e2;split at e1;split at e2;cases e1;cases e2;show hr;cases e2;cases e1;rename_i hj;rw[aC hj] at e2;let⟨w,hw,r⟩:=aſ;rw[e2] at hw;cases hw;show r
def cO.nil {K:jv}{H:Hp}:cO K H [] []:=by simp![cO]
def cO.cons {K:jv}{H:Hp}{x:W}{v:V}{l:Æ}{vs:À}(h:Š)(r:Ŭ):cO K H aĝ (v::vs):=by simp![cO];show#[v,vs,rfl,h,r]
def WR.v {K:jv}{H:Hp}{x:V}:WR K H (.v x) x:=by simp![WR]
def WR.eq {K:jv}{H:Hp}{x v:V}(h:WR K H (.v x) v):v=x:=by simpa only[WR] using h
def WR.tup {K:jv}{H:Hp}{l:Æ}{v:V}(h:WR K H bÕ v):mÙ:=by simpa only[WR] using h
def WR.MG {K:jv}{H:Hp}{l:Æ}{a:iB}{vs:À}(h:cŬ)(r:Ŭ):WR K H bÕ Ī:=by simp![WR];show#[a,vs,rfl,h,r]
def KR (K:jv)(H:Hp){κ:Type}:cÑ ->Ř ->Prop:=Paired λp q=>p.1=q.1 /\ eϊ
theorem KR.ts {K:jv}{H H':Hp}{κ:Type}(a:Ę): ∀ {l:cÑ} {vs:Ř},ŭ ->KR K H' l vs
 | _,_, .nil=> .nil
 | _,_, gï=> .cons #[e,r.ts a] (KR.ts a t)
def MR (K:jv)(H:Hp)(a:iB):MO ->Prop
 | aĕ=> ∃vs,H a=some bŽ /\ Ŭ
 | aţ=> ∃ks,H a=some (.dK ks) /\ eá
 | dþ=> ∃ks,H a=some (.ins C dx ks) /\ dņ
 | .exc C=>iŴ
 | dŇ=>H a=some (.nF o (.dK ks)) /\ eá
def MR.some {K:jv}{H:Hp}{a:iB}{o:MO}(h:cÒ): ∃u,H a=á:=by
 cases o with
 | lst l=>let⟨_,e,_⟩:=h;show ú
 | dK l=>let⟨_,e,_⟩:=h;show ú
 | ins C d l=>let⟨_,e,_⟩:=h;show ú
 | exc C=>show#[_,h]
 | fz o l l2=>show#[_,h.1]
def MR.mv {K:jv}{H H':Hp}{a:iB}{o:MO}(t:Ę)(e:H' a=H a)(h:cÒ):MR K H' a o:=by
 cases o with
 | lst l=>let⟨vs,e1,r⟩:=h;show iě
 | dK l=>let⟨vs,e1,r⟩:=h;show iě
 | ins C d l=>let⟨vs,e1,r⟩:=h;show iě
 | exc C=>show e.trans h
 | fz o l l2=>show#[e.trans h.1,h.2.ts t]
def gP (K:jv)(M:Mp)(H:Hp):Prop:= ∀a o,cÎ ->cÒ
def gP.fresh {K:jv}{M:Mp}{H:Hp}(h:ĵ){p:iB}(hp:İ):Ĵ:=by
 cases e:M p with
 | none=>rfl
 | some o=>let⟨u,hu⟩:=(h p o e).some;rw[hp] at hu;cases hu
theorem gP.new {K:jv}{M:Mp}{H:Hp}(h:ĵ){p:iB}{u:HO}(hp:İ):gP K M (upd H p u):=λa o e=>by have:=h a o e;let⟨w,hw⟩:=this.some;show this.mv Ϛ (bH (dU hw hp))
theorem Dj {H:Hp}{a:iB}{o u:HO}(h:bϟ)(hn: ∀xs,o≠ .tup xs)(hf: ∀b xs,o≠ .nF b ņ):fο:=λb xs r=>by
 have nb:b≠a:=λe=>by subst e;obtain r | ⟨w,r⟩:=r;rw[h] at r;cases r;show hn _ rfl;rw[h] at r;cases r;show hf _ _ rfl
 unfold Rd;rw[bH nb];show r
theorem gP.put {K:jv}{M:Mp}{H:Hp}(h:ĵ){a:iB}{o:MO}{u:HO}(t:fο)(new:MR K cŽ a o):gP K (um M a o) cŽ:=λb x e=>by by_cases hb:b=a;subst hb;rw[am] at e;cases e;show new;rw[aR hb] at e;show(h b x e).mv t (aÃ)
theorem gP.pC {K:jv}{M:Mp}{H:Hp}(h:ĵ){p:iB}{l:Æ}{vs:À}(hp:İ)(r:Ŭ):gP K gð (upd H p bŽ):=h.put Ϛ #[vs,bX,r.ts Ϛ]
theorem i_ {H:Hp}{a:iB}{xs:À}{u:HO}(h:gŌ):fο:=Dj h gŇ λ_ _ z=>nomatch z
theorem wE {H:Hp}{a:iB}{xs:Ş}{u:HO}(h:gñ):fο:=Dj h gŇ λ_ _ z=>nomatch z
theorem Qb {H:Hp}{a C d:iB}{xs:ū}{u:HO}(h:H a=some (.ins C d xs)):fο:=Dj h gŇ λ_ _ z=>nomatch z
theorem gP.putL {K:jv}{M:Mp}{H:Hp}(h:ĵ){a:iB}{xs:À}{l:Æ}{vs:À}(e:gŌ)(r:Ŭ):gP K (um M a (aĕ)) (upd H a bŽ):=h.put (i_ e) #[vs,bX,r.ts (i_ e)]
theorem gP.putD {K:jv}{M:Mp}{H:Hp}(h:ĵ){a:iB}{xs:Ş}{l:š}{vs:Ş}(e:gñ)(r:ŭ):gP K (um M a (.dK l)) (upd H a (.dK vs)):=h.put aĞ #[vs,bX,eϋ]
def E7 (K:jv)(H:Hp)(ρ:dt)(σ:St):Prop:=ρ.length=σ.length /\ ∀ (i:Nat) x,hυ -> ∃v,hŦ /\ Š
theorem E7.ts {K:jv}{H H':Hp}{ρ:dt}{σ:St}(t:Ę)(h:dň):E7 K H' ρ σ:=#[h.1,λi x e=>let ⟨v,a,r⟩:=h.2 i x e;#[v,a,r.ts t]]
structure Ok (K:PySem.W.Frag)(ρ:dt)(M:Mp)(σ:St)(H:Hp):Prop where
 env:dň
 hp:ĵ
theorem Ok.mv {K:jv}{ρ:dt}{M M':Mp}{σ:St}{H H':Hp}(o:Ρ)(t:Ę)(m:Ţ):Ok K ρ M' σ H':=#[o.env.ts t,m]
def E7.set {K:jv}{H:Hp}{ρ:dt}{σ:St}(h:dň)(i:Nat){x:W}{v:V}(r:Š):E7 K H hÊ gϣ:=by exact jŴ;rw[List.getElem?_set] at e ⊢;split at e;rename_i hj;rw[aF hj];split at e;rename_i j9;rw[aF (by rw[<- h.1];show j9)];cases e;show#[v,rfl,r];cases e;rename_i hj;rw[aC hj];show h.2 j y e
section
variable (K:jv)
class IE (t:TE) (w:outParam WE):Prop where
 imp: ∀ (ρ:dt) (M:Mp) (σ:St) (H:Hp) (q:WK) (Q:VK),Ρ ->bÞ ->mţ ->Ħ
class IT (t:TT) (w:outParam WT):Prop where
 imp: ∀ (ρ:dt) (M:Mp) (σ:St) (H:Hp) (q:ϑ) (Q:fţ),nÃ
class IA (t:TA) (w:outParam WA):Prop where
 imp: ∀ (ρ:dt) (M:Mp) (σ:St) (H:Hp) (q:aĚ ->ő) (Q:ã ->ŉ),Ρ ->bÞ ->(∀x M' v H',q x M' ->Ę ->Ţ ->cO K H' x v ->aí) ->Ħ
class IG (t:TG) (w:outParam WG):Prop where
 imp: ∀ (x:W) (v:V) (ρ:dt) (M:Mp) (σ:St) (H:Hp) (q:Ο) (Q:Ζ),Ρ ->Š ->nÖ
class W4 (t:GK) (w:outParam KU):Prop where
 imp: ∀ (x:aĚ) (v:ã) (ρ:dt) (M:Mp) (σ:St) (H:Hp) (q:Ο) (Q:Ζ),Ρ ->cO K H x v ->nÖ
structure jM (H:Hp)(D':fA)(D:kZ):Prop where
 nx: ∀ρ' M' σ' H',D'.nx ρ' M' ->Ę ->gſ ->cĥ
 rt: ∀x M' v H',D'.rt x M' ->Ę ->Ţ ->cż ->D.rt v H'
 bk: ∀ρ' M' σ' H',D'.bk ρ' M' ->Ę ->gſ ->cĦ
 ct: ∀ρ' M' σ' H',D'.ct ρ' M' ->Ę ->gſ ->cħ
class IS (t:TS) (w:outParam WS):Prop where
 imp: ∀ (ρ:dt) (M:Mp) (σ:St) (H:Hp) (D':fA) (D:kZ),Ρ ->w D' ρ M ->cž ->aϩ
class IR (r:R2) (w:outParam vw):Prop where
 imp: ∀ (x y:W) (v u:V) (M:Mp) (H:Hp) (q:WK) (Q:VK),ĵ ->Š ->cÓ ->w x y M q ->mţ ->r v u H Q
class IU (r:gŒ) (w:outParam (gż)):Prop where
 imp: ∀ (x:W) (v:V) (M:Mp) (H:Hp) (q:WK) (Q:VK),ĵ ->Š ->mϴ
class IC (r:ã ->eŨ) (w:outParam y8):Prop where
 imp: ∀ (x:aĚ) (v:ã) (M:Mp) (H:Hp) (q:WK) (Q:VK),ĵ ->cO K H x v ->mϴ
universe e
theorem jM.mv {K:jv}{H H':Hp}{D':fA}{D:kZ}(e:cž)(t:Ę):jM K H' D' D:=#[λa b c d h s=>e.nx a b c d h cſ,λa b c d h s=>e.rt a b c d h cſ,λa b c d h s=>e.bk a b c d h cſ,λa b c d h s=>e.ct a b c d h cſ]
universe WL
namespace WL
open PySem L2
section
variable {K:jv}
def fT (i:Nat):WE:=λρ M q=>match ρ[i]? with
 | some bÝ=>Õ
 | _=>False
def PF {i:Nat}{ρ:dt}{M:Mp}{q:WK}(h:fT i ρ M q): ∃x,hυ /\ Õ:=by unfold fT at h;split at h;rename_i x e;show#[x,e,h];show h.elim
instance {i:Nat}:IE K (LX i) (fT i) where
 imp:=λρ M σ H q Q o h k=>let ⟨x,e,h⟩:=PF h;let ⟨v,e',r⟩:=o.env.2 i x e;#[v,e',k x M v H h Ů o.hp r]
def wC (x:W):WE:=λ_ M q=>Õ
instance {v:V}:IE K (tC v) (wC (.v v)) where
 imp:=λρ M σ H q Q o h k=>k (.v v) M v H h Ů o.hp WR.v
def PK (r:vw)(a b:WE):WE:=λρ M q=>lģ
instance {r:R2}{w:vw}{ta tb:TE}{a b:WE} [ir:IR K r w] [ia:IE K ta a] [ib:IE K tb b]:IE K dĔ (PK w a b) where
 imp:=λρ M σ H q Q o h k=>ia.imp ρ M σ H _ _ o h λx M1 v H1 h1 t1 m1 r1=>ib.imp ρ M1 σ H1 _ _ Ž h1 λy M2 u H2 h2 t2 m2 r2=>ir.imp x y v u M2 H2 _ _ m2 cÔ r2 h2 mν
def wUn (r:gż)(a:WE):WE:=λρ M q=>iĜ
instance {r:gŒ}{w:gż}{ta:TE}{a:WE} [ir:IU K r w] [ia:IE K ta a]:IE K (tUn r ta) (wUn w a) where
 imp:=λρ M σ H q Q o h k=>ia.imp ρ M σ H _ _ o h λx M1 v H1 h1 t1 m1 r1=>ir.imp x v M1 H1 _ _ m1 r1 h1 mĬ
def wI (C:fũ)(g:dϬ):vw:=λx y M q=> ∃i j,ağ /\ y=wi j /\ C i j /\ fπ
def wI0 (g:dϬ):vw:=λx y M q=>cU λi j=>dh (ağ) (y=wi j) (fπ)
def wU (g:aŭ):gż:=λx M q=> ∃i,ağ /\ eό
instance {C:fũ}{g:dϬ}:IR K (rI C g) (wI C g) where
 imp:=by rintro x y v u M H q Q m r1 r2 ⟨i,j,rfl,rfl,c,h⟩ k;show#[i,j,r1.eq,r2.eq,c,ϱ]
instance {g:dϬ}:IR K (Ma g) (wI0 g) where
 imp:=by rintro x y v u M H q Q m r1 r2 ⟨i,j,rfl,rfl,h⟩ k;show#[i,j,r1.eq,r2.eq,ϱ]
instance {g:aŭ}:IU K (rU g) (wU g) where
 imp:=by rintro x v M H q Q m r1 ⟨i,rfl,h⟩ k;show#[i,r1.eq,ϱ]
def Xw:vw:=λx y M q=>cU λa b=>fE (x= .v a) (y= .v b) eâ (q (wb (dù)) M)
def Xs:vw:=λx y M q=>cU λa b=>fE (x= .v a) (y= .v b) eâ (iŶ)
instance:IR K rEq Xw where
 imp:=by rintro x y v u M H q Q m r1 r2 ⟨i,j,rfl,rfl,c,h⟩ k;cases r1.eq;cases r2.eq;show#[c,ϱ]
instance:IR K rNe Xs where
 imp:=by rintro x y v u M H q Q m r1 r2 ⟨i,j,rfl,rfl,c,h⟩ k;cases r1.eq;cases r2.eq;show#[c,ϱ]
def zu (a:WE):WT:=λρ M q=>a ρ M λx M1=> ∃k,x=wb k /\ q k M1
instance {t:TE}{a:WE} [ia:Ķ]:IT K (HG t) (zu a) where
 imp:=λρ M σ H q Q o h k=>ia.imp ρ M σ H _ _ o h λx M1 v H1 dŉ t1 m1 r1=>by subst e;show jΥ
instance {t:TE}{a:WE} [ia:Ķ]:IT K (tB t) (zu a) where
 imp:=λρ M σ H q Q o h k=>ia.imp ρ M σ H _ _ o h λx M1 v H1 dŉ t1 m1 r1=>by subst e;show jΥ
def Ui (a b:WT):WT:=λρ M q=>a ρ M λc M1=>if í then bž else q false M1
def Y1 (a b:WT):WT:=λρ M q=>a ρ M λc M1=>if í then q true M1 else bž
def PL (a:WT):WT:=λρ M q=>iŷ
instance {t u:TT}{a b:WT} [ia:bß] [ib:IT K u b]:IT K (UH t u) (Ui a b) where
 imp:=λρ M σ H q Q o h k=>ia.imp ρ M σ H _ _ o h λc M1 H1 h1 t1 m1=>by
  cases c with
  | true=>simp![if_true] at h1 ⊢;show mϺ
  | false=>simp![bU,eu] at h1 ⊢;show gδ
instance {t u:TT}{a b:WT} [ia:bß] [ib:IT K u b]:IT K (tOr t u) (Y1 a b) where
 imp:=λρ M σ H q Q o h k=>ia.imp ρ M σ H _ _ o h λc M1 H1 h1 t1 m1=>by
  cases c with
  | false=>simp![bU,eu] at h1 ⊢;show mϺ
  | true=>simp![if_true] at h1 ⊢;show gδ
instance {t:TT}{a:WT} [ia:bß]:IT K (Uy t) (PL a) where
 imp:=λρ M σ H q Q o h k=>ia.imp ρ M σ H _ _ o h λc M1 H1 h1 t1 m1=>gδ
def Oe (a b:WE):WE:=λρ M q=>a ρ M λx M1=> ∃c,x=wb c /\ if í then bž else q cÕ M1
def TN (a b:WE):WE:=λρ M q=>a ρ M λx M1=> ∃c,x=wb c /\ if í then q (aγ) M1 else bž
def N7 (a:WE):WE:=λρ M q=>a ρ M λx M1=> ∃c,x=wb c /\ eύ
instance {t u:TE}{a b:WE} [ia:Ķ] [ib:ķ]:IE K (Ov t u) (Oe a b) where
 imp:=λρ M σ H q Q o h k=>ia.imp ρ M σ H _ _ o h λx M1 v H1 dŊ t1 m1 r1=>by
  subst e;exact eä;cases c with
  | true=>simp![if_true] at h1 ⊢;show né
  | false=>simp![bU,eu] at h1 ⊢;show iϘ
instance {t u:TE}{a b:WE} [ia:Ķ] [ib:ķ]:IE K (Uw t u) (TN a b) where
 imp:=λρ M σ H q Q o h k=>ia.imp ρ M σ H _ _ o h λx M1 v H1 dŊ t1 m1 r1=>by
  subst e;exact eä;cases c with
  | false=>simp![bU,eu] at h1 ⊢;show né
  | true=>simp![if_true] at h1 ⊢;show iϘ
instance {t:TE}{a:WE} [ia:Ķ]:IE K (Op t) (N7 a) where
 imp:=λρ M σ H q Q o h k=>ia.imp ρ M σ H _ _ o h λx M1 v H1 dŊ t1 m1 r1=>by subst e;show#[c,r1.eq,iϘ]
def wIf (c:WT)(a b:WE):WE:=λρ M q=>c ρ M λc M1=>if í then a ρ M1 q else bž
instance {tc:TT}{t u:TE}{c:WT}{a b:WE} [ic:bſ] [ia:Ķ] [ib:ķ]:IE K (tIf tc t u) (wIf c a b) where
 imp:=λρ M σ H q Q o h k=>ic.imp ρ M σ H _ _ o h λc M1 H1 h1 t1 m1=>by
  cases c with
  | true=>simp![if_true] at h1 ⊢;show ia.imp ρ M1 σ H1 _ _ Ž h1 mĖ
  | false=>simp![bU,eu] at h1 ⊢;show né
def Ht (r r':vw)(a b c:WE):WE:=λρ M q=>a ρ M λx M1=>b ρ M1 λy M2=>r x y M2 λz M3=> ∃k,z=wb k /\ if k=true then c ρ M3 λy' M4=>r' y y' M4 λz' M5=>q z' M5 else q cÕ M3
def Bt:WA:=λ_ M q=>q [] M
def tP (a:WE)(r:WA):WA:=λρ M q=>lŢ
instance:IA K Fo Bt where
 imp:=λρ M σ H q Q o h k=>k [] M [] H h Ů o.hp cO.nil
instance {t:TE}{u:TA}{a:WE}{b:WA} [ia:Ķ] [ib:bà]:IA K (Dm t u) (tP a b) where
 imp:=λρ M σ H q Q o h k=>ia.imp ρ M σ H _ _ o h λx M1 v H1 h1 t1 m1 r1=>ib.imp ρ M1 σ H1 _ _ Ž h1 λy M2 u H2 h2 t2 m2 r2=>k _ M2 _ H2 h2 eã m2 (cO.cons cÔ r2)
def Tw (a:WA):WE:=λρ M q=>a ρ M λxs M1=>Ϝ /\ q ņ M1
def TU (a:WA):WE:=λρ M q=>a ρ M λxs M1=>Ϝ /\ ∀p,Œ ->jŵ
instance {t:TA}{a:WA} [ia:ĸ]:IE K (Ut t) (Tw a) where
 imp:=λρ M σ H q Q o h k=>ia.imp ρ M σ H _ _ o h λx M1 v H1 cδ t1 m1 r1=>#[by rw[r1.length];show hl,λp hp=>k _ M1 _ _ h1 jΦ (m1.new hp) (WR.MG cÖ (r1.ts Ϛ))]
instance {t:TA}{a:WA} [ia:ĸ]:IE K (Uz t) (TU a) where
 imp:=λρ M σ H q Q o h k=>ia.imp ρ M σ H _ _ o h λx M1 v H1 cδ t1 m1 r1=>#[by rw[r1.length];show hl,λp hp=>k _ _ _ _ (gε) jΦ (m1.pC hp r1) WR.v]
def TW:vw:=λx y M q=>jD λa l i u=>gX Ĺ bá ϟ (eå) (q u M)
def PN:vw:=λx y M q=>gh λl i u=>fE (x= ý) bá (eå) (q u M)
def cO.jC {H:Hp}{l:Æ}{vs:À}{i:Int}{u:W}(r:Ŭ)(e:eå): ∃v,L2.jC vs i=â /\ WR K H u v:=by
 unfold L2.jC at e ⊢;rw[r.length];cases h:eæ with
 | none=>rw[h] at e;cases e
 | some j=>rw[h] at e;show r.at e
instance:IR K (QC K) TW where
 imp:=by rintro x y v u M H q Q m r1 r2 ⟨a,l,i,z,rfl,rfl,hl,e,h⟩ k;let⟨vs,hv,r⟩:=ĺ;let⟨v',e',r'⟩:=r.jC e;show#[a,vs,i,v',r1.eq,r2.eq,Ļ,e',jŶ]
instance:IR K (QB K) PN where
 imp:=by rintro x y v u M H q Q m r1 r2 ⟨l,i,z,rfl,rfl,e,h⟩ k;let⟨a,vs,rfl,hv,r⟩:=r1.tup;let⟨v',e',r'⟩:=r.jC e;show#[a,vs,i,v',rfl,r2.eq,hv,e',jŶ]
def oO (xs:Æ)(lo hi:ø):Æ:=nË
def cO.cut {H:Hp}{l:Æ}{vs:À}(lo hi:ø)(r:Ŭ):cO K H dŋ (AQ vs lo hi):=by unfold oO AQ;rw[r.length];show(r.drop _).take _
universe e
abbrev WO:=dt ->Mp ->(gζ) ->Prop
class IO (K:PySem.W.Frag) (t:TO) (w:outParam WO):Prop where
 imp: ∀ (ρ:dt) (M:Mp) (σ:St) (H:Hp) (q:cØ ->ő) (Q:cØ ->ŉ),nÃ
abbrev Tp:=W ->ø ->ø ->eΩ
class ISl (K:PySem.W.Frag) (r:V ->cØ ->cØ ->eŨ) (w:outParam Tp):Prop where
 imp: ∀ (x:W) (v:V) (lo hi:cØ) (M:Mp) (H:Hp) (q:WK) (Q:VK),ĵ ->Š ->w x lo hi M q ->mţ ->r v lo hi H Q
section
variable {K:jv}
def Db:WO:=λ_ M q=>q none M
def N5 (a:WE):WO:=λρ M q=>a ρ M λx M1=> ∃i,ağ /\ q bÇ M1
instance:IO K Dk Db where
 imp:=lϜ
instance {t:TE}{a:WE} [ia:Ķ]:IO K (Oo t) (N5 a) where
 imp:=λρ M σ H q Q o h k=>ia.imp ρ M σ H _ _ o h λx M1 v H1 ⟨i,e,h1⟩ t1 m1 r1=>by subst e;show#[i,r1.eq,gδ]
def wSl (r:Tp)(a:WE)(lo hi:WO):WE:=λρ M q=>mĭ
instance {r:kϋ}{w:Tp}{t:TE}{tl th:TO}{a:WE}{lo hi:WO} [ir:ISl K r w] [ia:Ķ] [il:IO K tl lo] [ih:IO K th hi]:IE K (tSl r t tl th) (wSl w a lo hi) where
 imp:=λρ M σ H q Q o h k=>ia.imp ρ M σ H _ _ o h λx M1 v H1 h1 t1 m1 r1=>il.imp ρ M1 σ H1 _ _ Ž h1 λl M2 H2 h2 t2 m2=>ih.imp ρ M2 σ H2 _ _ iĝ h2 λu M3 H3 h3 t3 m3=>ir.imp x v l u M3 H3 _ _ m3 hχ h3 λy M4 v4 H4 h4 t4 m4 r4=>k y M4 v4 H4 h4 (kÆ t4) m4 r4
def TF:Tp:=λx lo hi M q=>cU λa l=>dh Ĺ ϟ (∀p,Ĵ ->kϱ)
instance:ISl K (U1 K) TF where
 imp:=by rintro x v lo hi M H q Q m r1 ⟨a,l,rfl,hl,h⟩ k;let⟨vs,hv,r⟩:=ĺ;show#[a,vs,r1.eq,Ļ,λp hp=>k _ _ _ _ gη Ϛ (m.pC hp (r.cut lo hi)) WR.v]
def Uf (r:y8)(a:WA):WE:=λρ M q=>iϙ
instance {r:ϧ}{w:y8}{t:TA}{a:WA} [ir:IC K r w] [ia:ĸ]:IE K (UF r t) (Uf w a) where
 imp:=λρ M σ H q Q o h k=>ia.imp ρ M σ H _ _ o h λx M1 v H1 h1 t1 m1 r1=>ir.imp x v M1 H1 _ _ m1 r1 h1 mĮ
abbrev iR:=hτ
def jF (K:jv)(p:iR):Sp:=λvs H Q _=>gh λ(xs:Æ) (M:Mp) (q:WK)=>fE (dō) (ĵ) (p xs M q) mţ
def Od (p:iR)(a:WA):WE:=λρ M q=>a ρ M λxs M1=>p xs M1 q
instance {p:iR}{E:XK}{t:TA}{a:WA} [ia:ĸ]:IE K (wG bâ [] E t) (Od p a) where
 imp:=λρ M σ H q Q o h k=>ia.imp ρ M σ H _ _ o h λx M1 v H1 h1 t1 m1 r1=>#[x,M1,q,by rw[cA];show r1,m1,h1,mĮ]
def okW {P:pF}{w:World}{mg:Ũ}{base:Heap}{x qual:Str}{st:Stmt}{f:iB}{fd:FuncData}{N ps:ê}{k:Nat}{p:iR}(F:hÁ)(S:fČ)(len: lĄ) (iF: ∀ (cdv:eC) (A:Around) (outer:è) (s:eY) (H:Hp) (E:XK),mψ ->cU λt w'=>dh (mζ) (bγ) (∀vs M q,bã ->w' {nx:=λ_ M'=>aδ,rt:=q} (mé) M)): lĹ:=by
 exact wj.ok F S (λvs H Q E ⟨xs,M,q,r,m,h,_⟩=>by rw[r.length];show len xs M q h) kŲ;let⟨t,w',h1,h2,h3⟩:=iĞ;let⟨xs,M,q,r,m,h,k'⟩:=h;exact#[t,h1,h2.imp _ M _ H _ _ iğ eç #[λρ' M' σ' H' h ts o=>k' _ M' _ H' h ts o.hp WR.v,λx M' v H' h ts m' r'=>k' x M' v H' h ts m' r',hÌ,hÌ]];have:=r.length;simp[L2.start,this];have hl:=r.length;unfold L2.start;by_cases hi:cő;rw[bÅ,aD] at e;cases ex:aæ with
 | none=>rw[ex] at e;cases e
 | some y=>rw[ex] at e;cases e;let⟨v,hv,rv⟩:=aε;exact cÙ;rw[fς,aD,hv];rfl
 rw[bÄ,de] at e;split at e<;>cases e
def QA (K:jv):ϧ:=λxs H Q=>cU λp ys=>dh eγ jŷ iÅ
theorem GC {X:Cx}:eN X fŹ (QA X.K):=yW
def PM:y8:=λxs M q=>(cU λa l=>dh (xs= [wr a]) ϟ (gó)) \/ ∃l,xs= [ý] /\ gó
def cO.one {H:Hp}{x:W}{vs:À}(h:cO K H [x] vs): ∃v,vs= [v] /\ Š:=by simp![cO] at h;let⟨v,t,rfl,h1,rfl⟩:=h;show ců
def cO.two {H:Hp}{x y:W}{vs:À}(h:cO K H [x,y] vs):cU λv u=>dh (vs= [v,u]) (Š) (cÓ):=by simp![cO] at h;let⟨v,t,rfl,h1,u,t',rfl,h2,rfl⟩:=h;show#[v,u,rfl,h1,h2]
instance:IC K (QA K) PM where
 imp :=by
  rintro xs v M H q Q m r1 h k;rcases h with⟨a,l,rfl,hl,h⟩ | ⟨l,rfl,h⟩
  let⟨v,rfl,r⟩:=r1.one;cases r.eq;let⟨vs,hv,rr⟩:=ĺ;exact#[a,vs,rfl, fę,jŸ];rw[rr.length];show WR.v;let⟨v,rfl,r⟩:=r1.one;let⟨a,vs,rfl,hv,rr⟩:=r.tup;exact#[a,vs,rfl, .inr hv,jŸ];rw[rr.length];show WR.v
def Va:ϧ:=mŖ
theorem i6 {X:Cx}:eN X fū Va:=KI
def Uj:y8:=λxs M q=> ∃i,cÚ /\ kĤ
instance:IC K Va Uj where
 imp:=by rintro xs v M H q Q m r1 ⟨i,rfl,h⟩ k;let⟨v,rfl,r⟩:=r1.one;cases r.eq;show#[i,rfl,ϱ]
def DK (K:jv):ϧ:=λxs H Q=>cU λp ys=>dh eγ jŷ lΩ
theorem ji {X:Cx}:eN X Λ (DK X.K):=yU
def Dc:y8:=λxs M q=> ∃l,mù /\ ∀p,Ĵ ->q þ gð
instance:IC K (DK K) Dc where
 imp :=by
  rintro xs v M H q Q m r1 ⟨l,hx,h⟩ k;rcases hx with⟨a,rfl,hl⟩ | rfl
  let⟨v,rfl,r⟩:=r1.one;cases r.eq;let⟨vs,hv,rr⟩:=ĺ;show#[a,vs,rfl, fę,mω];let⟨v,rfl,r⟩:=r1.one;let⟨a,vs,rfl,hv,rr⟩:=r.tup;show#[a,vs,rfl, .inr hv,mω]
def zN (K:jv):ϧ:=λxs H Q=>cU λp ys=>dĤ /\ ((cε /\ lν) \/ (cζ /\ Q ĭ H))
theorem iI {X:Cx}:eN X ϋ (zN X.K):=v_
def zt:y8:=λxs M q=> ∃l,mù /\ q bÕ M
instance:IC K (zN K) zt where
 imp :=by
  rintro xs v M H q Q m r1 ⟨l,hx,h⟩ k;rcases hx with⟨a,rfl,hl⟩ | rfl
  let⟨v,rfl,r⟩:=r1.one;cases r.eq;let⟨vs,hv,rr⟩:=ĺ;show#[a,vs,rfl, .inl #[Ļ,λp hp=>k _ M _ _ h Ϛ cÛ (WR.MG cÖ (rr.ts Ϛ))]];let⟨v,rfl,r⟩:=r1.one;let⟨a,vs,rfl,hv,rr⟩:=r.tup;show#[a,vs,rfl, .inr #[hv,k _ M _ H h Ů m (WR.MG hv rr)]]
theorem cO.ofInts {H:Hp}: ∀ (ns:û),cO K H cη eπ
 | []=>cO.nil
 | n::r=>cO.cons WR.v (cO.ofInts r)
def XG (M:Mp):W ->Ë
 | .v (ð)=>some ξ
 | .v (Ò)=>some Κ
 | .v (ñ)=>some μ
 | aě=>some gş
 | aĘ=>some ϋ
 | cŹ=>match M a with
  | some (aè)=>some Λ
  | _=>none
 | _=>none
def TX (K:jv):y8:=λxs M q=>jD λx T t b=>fE (xs= fĚ) (eè) (iÇ=ô) (cÜ)
def P_ {H:Hp}{M:Mp}{x:W}{v:V}{t:eC}(m:ĵ)(r:Š)(e:eè):WD K H v t:=by
 cases x with
 | tup l=>let⟨a,vs,rfl,hv,rr⟩:=r.tup;cases e;show .tup hv
 | v y =>
  cases r.eq;cases v with
  | int i=>cases e;show .of aϪ
  | bl i=>cases e;show .of (.bl i)
  | str i=>cases e;show .of (.str i)
  | fb=>cases e;show .of .fb
  | ref a=>
   simp![XG] at e;cases ha:M a with
   | none=>rw[ha] at e;cases e
   | some o=>
    rw[ha] at e;cases o with
    | lst l=>cases e;let⟨vs,hv,_⟩:=bä;show .lst (Ļ)
    | dK l=>cases e
    | ins C d l=>cases e
    | exc C=>cases e
    | fz o l l2=>cases e
  | CP _=>cases e
  | Nn _=>cases e
  | ty _=>cases e
instance:IC K (QD K) (TX K) where
 imp:=by rintro xs v M H q Q m r1 ⟨x,T,t,b,rfl,ht,e,h⟩ k;let⟨v,u,rfl,r,r'⟩:=r1.two;cases r'.eq;show#[v,T,t,b,rfl,P_ m r ht,e,ϱ]
universe e
section
variable {K:jv}
abbrev WM:=W ->hτ
class IM (K:PySem.W.Frag) (r:V ->ã ->eŨ) (w:outParam WM):Prop where
 imp: ∀ (x:W) (v:V) (ys:aĚ) (us:ã) (M:Mp) (H:Hp) (q:WK) (Q:VK),ĵ ->Š ->cO K H ys us ->w x ys M q ->mţ ->r v us H Q
def IsL (M:Mp)(x:W):Prop:=cU λa l=>x=wr a /\ gò
def IsL.ty {M:Mp}{H:Hp}{x:W}{v:V}(m:ĵ)(r:Š)(h:IsL M x):XI K æ v H:=by let⟨a,l,rfl,hl⟩:=h;cases r.eq;let⟨vs,hv,_⟩:=ĺ;show .inl #[rfl,vs,Ļ]
def Zl (r:WM)(a:WE)(b:WA):WE:=λρ M q=>a ρ M λx M1=>IsL M1 x /\ jŹ
def PZ (r:WM)(a:WE):WE:=λρ M q=>a ρ M λx M1=>IsL M1 x /\ cθ
instance {r:ϫ}{w:WM}{t:TE}{u:TA}{a:WE}{b:WA} [ir:bå] [ia:Ķ] [ib:bà]:IE K (XO K æ r t u) (Zl w a b) where
 imp:=λρ M σ H q Q o h k=>ia.imp ρ M σ H _ _ o h λx M1 v H1 cδ t1 m1 r1=>#[cι,ib.imp ρ M1 σ H1 _ _ Ž h1 λy M2 u H2 h2 t2 m2 r2=>ir.imp x v y u M2 H2 _ _ m2 cÔ r2 h2 mν]
instance {r:ϫ}{w:WM}{t:TE}{a:WE} [ir:bå] [ia:Ķ]:IE K (UG K æ r t) (PZ w a) where
 imp:=λρ M σ H q Q o h k=>ia.imp ρ M σ H _ _ o h λx M1 v H1 cδ t1 m1 r1=>#[cι,ir.imp x v [] [] M1 H1 _ _ m1 r1 cO.nil h1 mĬ]
def Dg:WM:=λx ys M q=>gh λa l y=>gX Ĺ (ys= [y]) ϟ hÍ (q wn (um M a fτ))
instance:IM K DN Dg where
 imp:=by rintro x v ys us M H q Q m r1 r2 ⟨a,l,y,rfl,rfl,hl,hn,h⟩ k;cases r1.eq;let⟨u,rfl,r⟩:=r2.one;let⟨vs,hv,rr⟩:=ĺ;show#[a,vs,u,rfl,rfl,hv,by rw[rr.length];show hn,k _ _ _ _ h aζ (m.putL hv (rr.snoc r)) WR.v]
def Df:WM:=λx ys M q=>jD λa b l l'=>oR Ĺ (ys= aĠ) ϟ hĮ kÇ (q wn (um M a eώ))
instance:IM K DM Df where
 imp:=by rintro x v ys us M H q Q m r1 r2 ⟨a,b,l,l',rfl,rfl,hl,J0,hn,h⟩ k;cases r1.eq;let⟨u,rfl,r⟩:=r2.one;cases r.eq;let⟨vs,hv,rr⟩:=ĺ;let⟨tQ,jO,G2⟩:=m b _ J0;show#[a,b,vs,tQ,rfl,rfl,hv,jO,by rw[rr.length,G2.length];show hn,k _ _ _ _ h aζ (m.putL hv eϏ) WR.v]
def Ud:vw:=λx y M q=>jD λa b l l'=>oR Ĺ (y=wr b) ϟ hĮ kÇ (∀p,Ĵ ->kĥ)
instance:IR K U9 Ud where
 imp:=by rintro x y v u M H q Q m r1 r2 ⟨a,b,l,l',rfl,rfl,hl,J0,hn,h⟩ k;cases r1.eq;cases r2.eq;let⟨vs,hv,rr⟩:=ĺ;let⟨tQ,jO,G2⟩:=m b _ J0;show#[a,b,vs,tQ,rfl,rfl,hv,jO,by rw[rr.length,G2.length];show hn,λp hp=>k _ _ _ _ gη Ϛ (m.pC hp eϏ) WR.v]
def LJ (M:Mp):W ->cμ
 | aě,k=>k=false
 | .v aŬ,k=>k=b
 | cŸ,k=>bŞ
 | .v bæ,k=>lŘ
 | cŹ,k=>(∃l,gò /\ eé) \/ (∃l,M a=dŏ /\ eé)
 | ý,k=>eé
 | _,_=>False
def HF (K:jv)(ta:TE):TT:=λσ H Q=>ta σ H λx H'=> ∃k,NJ K x H' k /\ Q k H'
theorem qK {X:Cx}{a:Expr}{ta:TE}(ha:Ŋ)(he: mΤ:=by intro _;rfl):PT X a (HF X.K ta):=Ip ha he
def Bs (a:WE):WT:=λρ M q=>a ρ M λx M1=> ∃k,LJ M1 x k /\ q k M1
def cO.isEmpty {H:Hp}{l:Æ}{vs:À}(r:Ŭ):hį:=by have:=r.length;cases l<;>cases vs<;>simp_all
def KR.isEmpty {H:Hp}{l:š}{vs:Ş}(r:ŭ):hį:=by cases r<;>rfl
def LJ.ok {M:Mp}{H:Hp}{x:W}{v:V}{k:Bool}(m:ĵ)(r:Š)(h:LJ M x k):NJ K v H k:=by
 cases x with
 | tup l=>let⟨a,vs,rfl,hv,rr⟩:=r.tup;show .inr (.inl #[vs,hv,by rw[rr.isEmpty];show h])
 | v y =>
  cases r.eq;cases v with
  | ref a=>
   rcases h with⟨l,hl,e⟩ | ⟨l,hl,e⟩
   let⟨vs,hv,rr⟩:=ĺ;show .inl #[vs,Ļ,by rw[rr.isEmpty];show e];let⟨vs,hv,rr⟩:=ĺ;show .inr (.inr #[vs,hv,by rw[rr.isEmpty];show e])
  | _=>first | show h | show(show False from h).elim
instance {t:TE}{a:WE} [ia:Ķ]:IT K (HF K t) (Bs a) where
 imp:=λρ M σ H q Q o h k=>ia.imp ρ M σ H _ _ o h λx M1 v H1 ⟨b,hb,h1⟩ t1 m1 r1=>#[b,hb.ok m1 r1,gγ]
def uM:dB ->W
 | aâ=>wi k
 | aã=>ws x
def iy (kvs:š)(k:dB):Å:=lś
def qJ (kvs:š)(k:dB)(v:W):š:=nÿ
theorem KR.keys {H:Hp}: ∀ {l:š} {vs:Ş},ŭ ->eÊ=ž
 | _,_, .nil=>rfl
 | _,_, gï=>by rw[av,av,KR.keys t,e]
theorem KR.length {H:Hp}{κ:Type}: ∀ {l:cÑ} {vs:Ř},ŭ ->gŽ
 | _,_, .nil=>rfl
 | _,_, bŌ=>by rw[ax,ax,KR.length t]
theorem KR.val {H:Hp}(k:dB): ∀ {l:š} {vs:Ş},ŭ ->(iy l k=none /\ lI vs k=none) \/ cU λx v=>dh (iy l k=à) (lI vs k=â) (Š)
 | _,_, .nil=> .inl bϱ
 | (k1,x)::l,(k2,v)::vs, gï=>by have e:k1=k2:=e;subst e;unfold iy lI;rw[cT,cT];by_cases hk:k1=k;simp![hk,decide_true];show .inr #[x,v,rfl,rfl,r];simp![hk,decide_false];show KR.val k t
theorem KR.map {H:Hp}{k:dB}{x:W}{v:V}(rx:Š): ∀ {l:š} {vs:Ş},ŭ ->KR K H (l.map (λkv=>if aĐ then(kv.1,x) else kv)) (vs.map lË)
 | _,_, .nil=> .nil
 | (k1,y)::l,(k2,u)::vs, gï=>by have e:k1=k2:=e;subst e;rw[av,av];exact .cons ?_ (KR.map rx t);by_cases hk:k1=k;rw[aÇ,aÇ];show bδ;rw[aÈ,aÈ];show#[rfl,r]
theorem KR.append {H:Hp}{k:dB}{x:W}{v:V}(rx:Š): ∀ {l:š} {vs:Ş},ŭ ->KR K H (l++ [(k,x)]) (vs++ [(k,v)])
 | _,_, .nil=> hİ
 | _,_, bō=> .cons r (KR.append rx t)
def KR.put {H:Hp}{k:dB}{x:W}{v:V}(rx:Š){l:š}{vs:Ş}(r:ŭ):KR K H (qJ l k x) (nC vs k v):=by
 have ek:jΧ=jū:=by
  have:=r.keys;have e1:jΧ=(ž).any gô:=by rw[List.any_map];rfl
  have e2:(jū)=(eÊ).any gô:=by rw[List.any_map];rfl
  rw[e1,e2,this]
 unfold qJ nC;rw[ek];split;show KR.map rx r;show KR.append rx r
def pM {H:Hp}{k:dB}{v:V}(r:WR K H (uM k) v):v=kV k:=by cases k<;>show r.eq
def Oa:WE:=λ_ M q=> ∀p,Ĵ ->jâ
instance:IE K HH Oa where
 imp:=λρ M σ H q Q o h k=>λp hp=>k _ _ _ _ hψ Ϛ (o.hp.put Ϛ eϐ) WR.v
def Hq (a b:WE):WE:=λρ M q=>a ρ M λx M1=>b ρ M1 λy M2=>jD λp kvs k z=>gX bç hω bè (bé=some z) (q z M2)
instance {t u:TE}{a b:WE} [ia:Ķ] [ib:ķ]:IE K (Ou t u) (Hq a b) where
 imp :=λρ M σ H q Q o h k=>ia.imp ρ M σ H _ _ o h λx M1 v H1 h1 t1 m1 r1=>ib.imp ρ M1 σ H1 _ _ Ž h1 λy M2 u H2 ⟨p,kvs,ky,z,e1,e2,e3,e4,h2⟩ t2 m2 r2=>by
  subst e1 e3;let⟨ks,hk,rr⟩:=bε;rcases rr.val ky with⟨n1,_⟩ | ⟨x',v',n1,n2,rx⟩
  rw[n1] at e4;cases e4;rw[n1] at e4;cases e4;exact#[p,v',r1.eq,?_,k _ M2 _ H2 h2 eã m2 rx];rw[pM r2, <- n2];show oS.k hk
def PX (a b:WE):WE:=λρ M q=>a ρ M λy M1=>b ρ M1 λx M2=>gh λp kvs k=>fE bç hω bè (jĤ)
def xR (a b:WE):WE:=λρ M q=>a ρ M λy M1=>b ρ M1 λx M2=>gh λp kvs k=>fE bç hω bè (kÈ)
def KR.some {H:Hp}(k:dB){l:š}{vs:Ş}(r:ŭ):(lI vs k).isSome=(iy l k).isSome:=by rcases r.val k with⟨a,b⟩ | ⟨x,v,a,b,_⟩ <;>rw[a,b] <;>rfl
instance {t u:TE}{a b:WE} [ia:Ķ] [ib:ķ]:IE K (UE t u) (PX a b) where
 imp:=λρ M σ H q Q o h k=>ia.imp ρ M σ H _ _ o h λy M1 v H1 h1 t1 m1 r1=>ib.imp ρ M1 σ H1 _ _ Ž h1 λx M2 u H2 jã t2 m2 r2=>by subst e1 e3;let⟨ks,hk,rr⟩:=bε;exact mϖ;rw[rr.some];show WR.v
instance {t u:TE}{a b:WE} [ia:Ķ] [ib:ķ]:IE K (Dl t u) (xR a b) where
 imp:=λρ M σ H q Q o h k=>ia.imp ρ M σ H _ _ o h λy M1 v H1 h1 t1 m1 r1=>ib.imp ρ M1 σ H1 _ _ Ž h1 λx M2 u H2 jã t2 m2 r2=>by subst e1 e3;let⟨ks,hk,rr⟩:=bε;exact mϖ;rw[rr.some];show WR.v
def Bv (a b c:WE):WE:=λρ M q=>a ρ M λx M1=> ∃p,dh bç (∃kvs,M1 p=Θ) (b ρ M1 nà)
instance {t u s:TE}{a b c:WE} [ia:Ķ] [ib:ķ] [ic:bê]:IE K (HI t u s) (Bv a b c) where
 imp:=λρ M σ H q Q o h k=>ia.imp ρ M σ H _ _ o h λx M1 v H1 ⟨p,e,⟨kvs,hp⟩,h1⟩ t1 m1 r1=>by
  subst e;let⟨ks,hk,rr⟩:=bζ;exact#[p,r1.eq, .inl #[ks, aũ],ib.imp ρ M1 σ H1 _ _ Ž h1 λy M2 u H2 h2 t2 m2 r2=>ic.imp ρ M2 σ H2 _ _ iĝ h2 λz M3 u3 H3 ⟨kvs,ky,e2,e3,h3⟩ t3 m3 r3=> ?_];subst e3;let⟨ks,hk,rr⟩:=m3 p _ e2;exact#[lI ks ky,by rw[pM (r2.ts t3)];show oS.k hk,k _ M3 _ H3 h3 iŵ m3 ?_];rcases rr.val ky with⟨n1,n2⟩ | ⟨x',v',n1,n2,rx⟩
  rw[n1,n2];show r3;rw[n1,n2];show rx
universe e
section
variable {K:jv}
def Di (i:Nat):WG:=λx ρ M q=>q hÊ M
instance {i:Nat}:IG K aó (Di i) where
 imp:=λx v ρ M σ H q Q o r h k=>k _ M _ H h Ů #[o.env.set i r,o.hp]
def P9:KU:=λxs ρ M q=>aĄ /\ q ρ M
def Og (a:WG)(b:KU):KU:=λxs ρ M q=>cU λx r=>xs=x::r /\ kû
instance:W4 K Sa P9 where
 imp:=λx v ρ M σ H q Q o r h k=>by let⟨rfl,h⟩:=h;show#[by simpa only[cO] using r,k _ M _ H h Ů o]
instance {t:TG}{u:GK}{a:WG}{b:KU} [ia:IG K t a] [ib:W4 K u b]:W4 K (EA t u) (Og a b) where
 imp:=λx v ρ M σ H q Q o r h k=>by let⟨y,rest,rfl,h⟩:=h;simp![cO] at r;let⟨v1,t1,rfl,r1,r2⟩:=r;show#[v1,t1,rfl,ia.imp y v1 ρ M σ H _ _ o r1 h λρ' M' σ' H' h' ts o'=>ib.imp rest t1 ρ' M' σ' H' _ _ o' (r2.ts ts) h' λρ2 M2 σ2 H2 h2 LR o2=>k ρ2 M2 σ2 H2 h2 (ts.trans LR) o2]
def Uk (n:Nat)(a:KU):WG:=λx ρ M q=> ∃l,dh (x= ý) (cÝ) dŐ
instance {n:Nat}{t:GK}{a:KU} [ia:W4 K t a]:IG K (R_ K n t) (Uk n a) where
 imp:=λx v ρ M σ H q Q o r h k=>by let⟨l,rfl,hl,h⟩:=h;let⟨a',vs,rfl,hv,rr⟩:=r.tup;show#[a',vs,rfl,hv,by rw[rr.length];show hl,ia.imp l vs ρ M σ H _ _ o rr h k]
abbrev KS:=W ->W ->W ->Mp ->(ő) ->Prop
class W2 (K:PySem.W.Frag) (t:KW) (w:outParam KS):Prop where
 imp: ∀ (x y z:W) (v u r:V) (M:Mp) (H:Hp) (q:ő) (Q:ŉ),ĵ ->Š ->cÓ ->WR K H z r ->w x y z M q ->(∀M' H',q M' ->Ę ->Ţ ->Q H') ->t v u r H Q
def NZ:KS:=λx y z M q=>jD λa l k j=>gX Ĺ (y=wi k) ϟ (vY l.length k=aą) (q (um M a gθ))
instance:W2 K OF NZ where
 imp:=by rintro x y z v u r M H q Q m r1 r2 r3 ⟨a,l,i,j,rfl,rfl,hl,e,h⟩ k;let⟨vs,hv,rr⟩:=ĺ;show#[a,vs,i,j,r1.eq,r2.eq,hv,by rw[rr.length];show e,k _ _ h aζ (m.putL hv (rr.set j r3))]
def Ul (a b:WE)(s:KS):WG:=λx ρ M q=>mî
instance {t u:TE}{s:KW}{a b:WE}{w:KS} [ia:Ķ] [ib:ķ] [is:W2 K s w]:IG K (Wn t u s) (Ul a b w) where
 imp:=λx v ρ M σ H q Q o r h k=>ia.imp ρ M σ H _ _ o h λy M1 v1 H1 h1 t1 m1 r1=>ib.imp ρ M1 σ H1 _ _ Ž h1 λz M2 v2 H2 h2 t2 m2 r2=>is.imp y z x v1 v2 v M2 H2 _ _ m2 cÔ r2 (r.ts eã) h2 λM3 H3 h3 t3 m3=>k ρ M3 σ H3 h3 iŵ kų
def DD:WS:=λD ρ M=>bη
instance:IS K Oq DD where
 imp:=λρ M σ H D' D o h e=>e.nx ρ M σ H h Ů o
def BL (a b:WS):WS:=λD ρ M=>a {D with nx:=b D} ρ M
instance {t u:TS}{a b:WS} [ia:IS K t a] [ib:IS K u b]:IS K (Qg t u) (BL a b) where
 imp:=λρ M σ H D' D o h e=>ia.imp ρ M σ H _ _ o h #[λρ' M' σ' H' h' ts o'=>ib.imp ρ' M' σ' H' D' D o' h' (e.mv ts),e.rt,e.bk,e.ct]
def OA (a:WE):WS:=λD ρ M=>iϚ
instance {t:TE}{a:WE} [ia:Ķ]:IS K (Ot t) (OA a) where
 imp:=λρ M σ H D' D o h e=>ia.imp ρ M σ H _ _ o h λx M1 v H1 h1 t1 m1 r1=>e.nx ρ M1 σ H1 h1 t1 Ž
def Qs (a:WE):WS:=λD ρ M=>cν
instance {t:TE}{a:WE} [ia:Ķ]:IS K (Uv t) (Qs a) where
 imp:=λρ M σ H D' D o h e=>ia.imp ρ M σ H _ _ o h λx M1 v H1 h1 t1 m1 r1=>e.rt x M1 v H1 h1 t1 m1 r1
def S2 (c:WT)(a b:WS):WS:=λD ρ M=>c ρ M λk M1=>if k=true then a D ρ M1 else b D ρ M1
instance {tc:TT}{t u:TS}{c:WT}{a b:WS} [ic:bſ] [ia:IS K t a] [ib:IS K u b]:IS K cį (S2 c a b) where
 imp:=λρ M σ H D' D o h e=>ic.imp ρ M σ H _ _ o h λk M1 H1 h1 t1 m1=>by
  cases k with
  | true=>simp![if_true] at h1 ⊢;show ia.imp ρ M1 σ H1 D' D Ž h1 (e.mv t1)
  | false=>simp![bU,eu] at h1 ⊢;show ib.imp ρ M1 σ H1 D' D Ž h1 (e.mv t1)
def Qt (a:WE)(g:WG):WS:=λD ρ M=>jΨ
instance {t:TE}{g:TG}{a:WE}{w:WG} [ia:Ķ] [ig:bë]:IS K (HK t g) (Qt a w) where
 imp:=λρ M σ H D' D o h e=>ia.imp ρ M σ H _ _ o h λx M1 v H1 h1 t1 m1 r1=>ig.imp x v ρ M1 σ H1 _ _ Ž r1 h1 λρ2 M2 σ2 H2 h2 t2 o2=>e.nx ρ2 M2 σ2 H2 h2 eã o2
def BM (a b c:WE):WS:=λD ρ M=>c ρ M λz M1=>a ρ M1 λx M2=>b ρ M2 λy M3=>gh λp kvs k=>gX bç (hÎ) bè hž lÒ
instance {t u s:TE}{a b c:WE} [ia:Ķ] [ib:ķ] [ic:bê]:IS K (OB t u s) (BM a b c) where
 imp :=λρ M σ H D' D o h e=>ic.imp ρ M σ H _ _ o h λz M1 v1 H1 h1 t1 m1 r1=>ia.imp ρ M1 σ H1 _ _ Ž h1 λx M2 v2 H2 h2 t2 m2 r2=>ib.imp ρ M2 σ H2 _ _ iĝ h2 λy M3 v3 H3 ⟨p,kvs,k,e1,e2,e3,hl,h3⟩ t3 m3 r3=>by subst e1 e3;let⟨ks,hk,rr⟩:=m3 p _ e2;have ts:=wE (u:= fυ) hk;exact#[p,_,r2.eq,?_,e.nx ρ _ σ (upd H3 p (fυ)) h3 (kÆ ts) (o.mv (kÆ ts) (m3.putD hk (KR.put hχ rr)))];rw[pM r3];show Lb.k hk (by rw[rr.length];show hl)
def GQ (K:jv)(H1:Hp)(J:It)(xs:Æ)(keep:ő):Prop:=∀i M H,a_ H1 H ->ĵ ->aġ ->(xs.length=i ->bϯ) /\ (cő ->aϳ) /\ ∀v H',cő ->J.SQ i H v H' ->Ę /\ gP K M H' /\ ∃x,Δ /\ cż
class II (K:PySem.W.Frag) (t:TI) (w:outParam WI):Prop where
 imp: ∀ (ρ:dt) (M:Mp) (σ:St) (H:Hp) (q:aĚ ->iĚ) (R:eű),Ρ ->bÞ ->(∀xs keep J M' H',q xs keep M' ->Ę ->Ţ ->GQ K H' J xs keep ->R J H') ->t σ H R
def JH (a:WE):WI:=λρ M q=>a ρ M λx M1=>cU λp l=>dh bç (M1 p=ο) (q l jä M1)
def VM (a:WE):WI:=λρ M q=>a ρ M λx M1=> ∃l,x= ý /\ q l cξ M1
def jJ (lo:Int)(n:Nat):Æ:=gι λ aθ=>wi (lo+aű)
def JG (a:WA):WI:=λρ M q=>a ρ M λxs M1=> ∃j:Int,fE (xs= [wi j]) (dϫ) (j<aö) kŒ
def F_ {H1:Hp}{p:iB}{l:Æ}:GQ K H1 (Itl K p) l jä:=by intro i M H ts m hk;let⟨vs,hv,rr⟩:=m p _ hk;have hl:=rr.length;exact#[λh=>#[vs,Ļ, ∅],λh=>#[vs,vs[i]'∅,Ļ,by simp],fχ];let⟨rfl,y⟩:=y;have:=y vs (Ļ);let⟨d,hd,r⟩:=rr.back this;show hΑ
def JK {H1:Hp}{p:iB}{l:Æ}{vs:À}(hv:kY K H1 p vs)(rr:cO K H1 l vs):GQ K H1 (Itt K p) l cξ:=by intro i M H ts m _;have jO:=Un.sqT ts hv;have G2:=rr.ts ts;have hl:=G2.length;exact#[λh=>#[vs,jO, ∅],λh=>#[vs,vs[i]'∅,jO,by simp],fχ];let⟨rfl,y⟩:=y;have:=y vs jO;let⟨d,hd,r⟩:=G2.back this;show hΑ
def JM {H1:Hp}{lo:Int}{n:Nat}:GQ K H1 (YD lo n) (jJ lo n) cξ:=by
 intro i M H ts m _;have hl:gμ:=by simp[jJ]
 rw[hl];exact#[λh=>Nat.le_of_eq h,λh=>h,fχ];let⟨rfl,y⟩:=y;exact#[bθ,m,wi (lo+i),?_,by rw[y];show WR.v];simp[jJ,hi]
instance {t:TE}{a:WE} [ia:Ķ]:II K (JS K t) (JH a) where
 imp:=λρ M σ H q R o h k=>ia.imp ρ M σ H _ _ o h λx M1 v H1 ⟨p,l,e,hp,h1⟩ t1 m1 r1=>by subst e;let⟨vs,hv,rr⟩:=bζ;show#[p,r1.eq,#[vs,Ļ],k l _ _ M1 H1 h1 t1 m1 F_]
instance {t:TE}{a:WE} [ia:Ķ]:II K (Ru K t) (VM a) where
 imp:=λρ M σ H q R o h k=>ia.imp ρ M σ H _ _ o h λx M1 v H1 ⟨l,e,h1⟩ t1 m1 r1=>by subst e;let⟨p,vs,rfl,hv,rr⟩:=r1.tup;show#[p,rfl,#[vs,hv],k l _ _ M1 H1 h1 t1 m1 (JK hv rr)]
instance {t:TA}{a:WA} [ia:ĸ]:II K (OZ t) (JG a) where
 imp:=λρ M σ H q R o h k=>ia.imp ρ M σ H _ _ o h λxs M1 v H1 ⟨j,e,h0,h1,h2⟩ t1 m1 r1=>by subst e;let⟨v,rfl,r⟩:=r1.one;cases r.eq;show#[j,rfl,h0,h1,k _ _ _ M1 H1 h2 t1 m1 JM]
def US (it:WI)(g:WG)(b:WS):WS:=λD ρ M=>it ρ M λxs keep M1=> nŊ
instance {ti:TI}{g:TG}{t:TS}{it:WI}{w:WG}{b:WS} [ii:cÞ] [ig:bë] [ib:IS K t b]:IS K (UD ti g t) (US it w b) where
 imp :=λρ M σ H D' D o h e=>ii.imp ρ M σ H _ _ o h λxs keep J M1 H1 h1 t1 m1 ok=>by let⟨I,h0,hk,hs,hd⟩:=h1;exact#[λi m σ' H'=>fě /\ dŒ /\ cU λρ' M'=>dh (I i ρ' M') (a_ H1 H') (gſ),#[_,rfl,ν,ρ,M1,h0,bθ,o.mv t1 m1],?_];rintro i m σ' H' ⟨rfl,hi,ρ',M',hI,ts,o'⟩;let⟨k1,k2,k3⟩:=ok i M' H' ts o'.hp (hk i ρ' M' hi hI);by_cases j9:cő;exact .inr #[k2 j9,λσ2 H2=>cU λρ2 M2=>dh (I Ð ρ2 M2) (bØ) (Ok K ρ2 M2 σ2 H2),λσ2 H2 ⟨ρ2,M2,a,b,c⟩=>#[xs.length - Ð, ∅,rfl,j9,ρ2,M2,a,b,c],eê];let⟨ty,my,x,hx,r⟩:=dœ;replace ts:=cο;exact ig.imp x v ρ' M' σ' H2 _ _ (o'.mv ty my) r (hs i x ρ' M' hx hI) λρ3 M3 σ3 H3 h3 t3 o3=>ib.imp ρ3 M3 σ3 H3 _ _ o3 h3 #[lϝ,λa b c d h t=>e.rt a b c d h kŴ,λa b c d h t=>e.nx a b c d h kŴ,lϝ];have e':cπ:= ∅;subst e';show .inl #[k1 rfl,e.nx ρ' M' σ' H' (hd ρ' M' hI) eë o']
def nH (own:Nat)(fr:ü)(ρ:dt):dt:=iē++fr.map λj=>(ρ[j]?).join
def E7.Tk {H:Hp}{ρ:dt}{σ:St}(own:Nat)(fr:ü)(h:dň):E7 K H Τ eΔ:=by
 unfold nH qp;exact#[by simp,dŎ];by_cases hi:i<own;rw[bÅ,de,aF hi] at e;cases e;rw [bÄ,List.length_replicate,aD] at e;rw[bÄ,List.length_replicate,aD];cases ej:fr[i - own]? with
 | none=>rw[ej] at e;cases e
 | some j=>
  rw[ej] at e;simp![d8,Option.some.injEq] at e ⊢;cases er:ρ[j]? with
  | none=>rw[er] at e;cases e
  | some z=>rw[er] at e;simp![Option.join_some] at e;subst e;let⟨v,ev,r⟩:=h.2 j x er;show#[v,by rw[ev];rfl,r]
def Hr (it:WI)(own:Nat)(fr:ü)(g:WG)(c:WT)(el:WE):WE:=λρ M q=>it ρ M λxs keep M1=>nŐ
instance {ti:TI}{own:Nat}{fr:ü}{g:TG}{tc:TT}{te:TE}{it:WI}{w:WG}{c:WT}{el:WE} [ii:cÞ] [ig:bë] [ic:bſ] [ie:IE K te el]:IE K (HJ ti own fr g tc te) (Hr it own fr w c el) where
 imp :=λρ M σ H q Q o h k=>ii.imp ρ M σ H _ _ o h λxs keep J M1 H1 h1 t1 m1 ok=>by
  intro p hp;let⟨hz,h1⟩:=h1;let⟨I,h0,hk,hs,hd⟩:=gε;have tp:=kÉ;exact nł;rintro i m vs H' ⟨rfl,hi,ys,M',hI,ts,m',rv,hv⟩;exact#[hv,?_];let⟨kp,hMp,hyl⟩:=fψ;let⟨k1,k2,k3⟩:=hÏ;by_cases j9:cő;exact lό;let⟨ty,my,x,hx,r⟩:=dœ;replace ts:=cο;have oc:lą:=lĆ
  exact nĢ;cases b with
  | true=>simp![if_true] at h4 ⊢;exact ie.imp ρ3 M4 σ3 H4 _ _ eí h4 kϲ;let⟨LN,oJ,HY⟩:=m5 p _ h5;have Qi:=iÑ;have t6:=jĦ;show nč
  | false=>simp![bU,eu] at h4 ⊢;let⟨LN,oJ,HY⟩:=kœ;show mĈ
  have e':cπ:= ∅;subst e';show .inl #[k1 rfl,k _ M' _ H' eî eë m' WR.v]
def PD:WT:=λ_ M q=>q true M
instance:IT K Us PD where
 imp:=lϜ
universe e
section
variable {K:jv}
theorem gP.sub {M M':Mp}{H:Hp}(s:ę)(m:gP K M' H):ĵ:=λa o e=>m a o (s a o e)
def okS {P:pF}{w:World}{mg:Ũ}{base:Heap}{x qual:Str}{st:Stmt}{f:iB}{fd:FuncData}{N ps:ê}{k:Nat}{p:iR}(F:hÁ)(S:fČ)(len: lĄ) (iF: ∀ (cdv:eC) (A:Around) (outer:è) (s:eY) (H:Hp) (E:XK),mψ ->∃t,mζ /\ ∃w',bγ /\ ∀vs M q,bã ->nī): lĹ:=by
 have h:=okW (K:=K) (P:=P) (w:=w) (mg:=mg) (base:=base) (k:=k) (p:=λvs M q=> ∃q',p vs M q' /\ q=λx M'=> ∃M0,bî /\ q' x M0) F S (λvs M q ⟨q',h,_⟩=>len vs M q' h) λcdv A outer s H E hr=>by let⟨t,h1,w',h2,h3⟩:=iĞ;exact#[t,w',h1,h2,?_];rintro vs M q ⟨q',h,rfl⟩;show h3 vs M q' h
 exact h.imp λvs H Q E ⟨xs,M,q,r,m,hp,hk⟩=>#[xs,M,_,r,m,#[q,hp,rfl],?_]
 rintro x M' v H' ⟨M0,s,hq⟩ ts m' r';show hk x M0 v H' hq ts (m'.sub s) r'
def Gy {xs:Æ}{keep:ő}{M1:Mp}{own:Nat}{fr:ü}{ρ:dt}{g:WG}{c:WT}{el:WE}{q:WK}(f:W ->Å)(hz:Ϝ)(mE: hΔ) (hs: ∀ (i:Nat) x,Δ -> ∀ (M:Mp) (N:fω),aι ->N (f x) M ->g x Τ M λρ2 M2=>c ρ2 M2 λb M3=>if î then kü else N none M3) (hq: mė): nŐ:=by
 exact#[hz,λp hp=>#[λi ys M=>hÐ /\ ys=iĠ,eϑ,?_,?_,?_]];rintro i ys M hi ⟨rfl,rfl⟩;exact#[dŕ,am,az (List.length_filterMap_le _ _) ?_];rw[bz];lia;rintro i x ys M hx ⟨rfl,rfl⟩;exact hs i x hx _ (λo M4=>match o with
 | õ=>M4 p=some kĦ /\ (um M4 p lÓ=um M1 p lÓ /\ iĠ++ [y]=jħ)
 | none=>M4=um M1 p kĦ /\ iĠ=jħ) aμ ?_
 have e:eï=bι++ [x]:=by rw[cy,hx];rfl
 cases hf:f x with
 | none=>show#[rfl,by rw[e,List.filterMap_append];simp[hf]]
 | some y=>show#[am,nL,by rw[e,List.filterMap_append];simp[hf]]
 rintro ys M ⟨rfl,rfl⟩;rw[cr];show aν
mutual
def Gv:W ->gk Dt
 | aě=>some .fb
 | .v aŬ=>some aŬ
 | cŸ=>some aϪ
 | .v aϫ=>some aϫ
 | .v _=>none
 | ý=>(nG l).map .tup
def nG:Æ ->gk (Ô)
 | []=>some []
 | x::r=>match Gv x,nG r with
  | aĖ,aĢ=>some (d::l)
  | _,_=>none
end
mutual
theorem Ig {H:Hp}: ∀ (x:W) (d:Dt) (v:V),Gv x=aĖ ->Š ->cŮ
 | .v y,d,v,e,r=>by cases r.eq;cases y<;>simp![Gv,Option.some.injEq,reduceCtorEq] at e<;>subst e<;>simp![Rep]
 | ý,d,v,e,r=>by
  let⟨a,vs,rfl,hv,rr⟩:=r.tup;simp![Gv] at e;cases hd:nG l with
  | none=>rw[hd] at e;cases e
  | some ds=>rw[hd] at e;cases e;simp![Rep];show#[a,vs,rfl,hv,ye l ds vs hd rr]
theorem ye {H:Hp}: ∀ (l:Æ) (ds:Ô) (vs:À),dŖ ->Ŭ ->gQ K H ds vs
 | [],ds,vs,e,r=>by simp![nG] at e;cases e;simp![cO] at r;simp![gQ];show r
 | x ::l,ds,vs,e,r=>by
  simp![nG] at e;cases hx:Gv x with
  | none=>rw[hx] at e;cases e
  | some d=>
   cases hl:nG l with
   | none=>rw[hx,hl] at e;cases e
   | some ds'=>rw[hx,hl] at e;cases e;simp![cO] at r;let⟨v,t,rfl,r1,r2⟩:=r;simp![gQ];show#[v,t,rfl,Ig x d v hx r1,ye l ds' t hl r2]
end
def DR (M:Mp)(x:W)(d:Dt):Prop:=Gv x=aĖ \/ gh λa l ds=>fE Ĺ ϟ (dŖ) (d= .lst ds)
def DR.rep {M:Mp}{H:Hp}{x:W}{d:Dt}{v:V}(m:ĵ)(r:Š)(h:bï):cŮ:=by obtain h | ⟨a,l,ds,rfl,hl,e,rfl⟩:=h;show Ig x d v h r;cases r.eq;let⟨vs,hv,rr⟩:=ĺ;simp![Rep];show#[a,vs,rfl,Ļ,ye l ds vs e rr]
def T8:vw:=λx y M q=>cU λd e=>gX (bï) (DR M y e) (cŰ) (bÖ) (q (wb (aė)) M)
def LL:vw:=λx y M q=>cU λd e=>gX (bï) (DR M y e) (cŰ) (bÖ) (q (wb (! aė)) M)
instance:IR K (QE K) T8 where
 imp:=by rintro x y v u M H q Q m r1 r2 ⟨d,e,h1,h2,h3,h4,h⟩ k;show mŤ
instance:IR K (BO K) LL where
 imp:=by rintro x y v u M H q Q m r1 r2 ⟨d,e,h1,h2,h3,h4,h⟩ k;show mŤ
instance {r r':R2}{t u s:TE}{a b c:WE}{w w':vw} [ir:IR K r w] [ir':IR K r' w'] [ia:Ķ] [ib:ķ] [ic:bê]:IE K (BC r r' t u s) (Ht w w' a b c) where
 imp :=λρ M σ H q Q o h k=>ia.imp ρ M σ H _ _ o h λx M1 v H1 h1 t1 m1 r1=>ib.imp ρ M1 σ H1 _ _ Ž h1 λy M2 u H2 h2 t2 m2 r2=>ir.imp x y v u M2 H2 _ _ m2 cÔ r2 h2 λz M3 v3 H3 ⟨kk,e,h3⟩ t3 m3 r3=>by
  subst e;exact#[kk,r3.eq,?_];cases kk with
  | true=>simp![if_true] at h3 ⊢;show ic.imp ρ M3 σ H3 _ _ kų h3 λy4 M4 v4 H4 h4 t4 m4 r4=>ir'.imp y y4 u v4 M4 H4 _ _ m4 (r2.ts (cς)) r4 h4 λz5 M5 v5 H5 h5 t5 m5 r5=>k z5 M5 v5 H5 h5 ((kÆ t4).trans t5) m5 r5
  | false=>simp![bU,eu] at h3 ⊢;show k _ M3 _ H3 h3 iŵ m3 WR.v
def Zb (neg:Bool):vw:=λx y M q=>cU λ(z:V) (l:À)=>gX (x= .v z) (y= .tup cà \/ ∃a,y=wr a /\ M a=some (.lst cà)) (mI z=true) (l.all mI=true) (q (wb (if neg then !Cp z l else Cp z l)) M)
theorem cO.vals {H:Hp}: ∀ {l us:À},cO K H cà us ->us=l
 | [],us,h=>by simpa only[dw,cO] using h
 | n::r,vs,h=>by simp![av,cO] at h;let⟨v,t,rfl,h1,h2⟩:=h;rw[cO.vals h2,h1.eq]
instance {neg:Bool}:IR K (U5 K neg) (Zb neg) where
 imp :=by rintro x y v u M H q Q m r1 r2 ⟨z,l,rfl,hy,h1,h2,h⟩ k;cases r1.eq;obtain rfl | ⟨a,rfl,ha⟩:=hy;let⟨a,vs,rfl,hv,rr⟩:=r2.tup;cases rr.vals;show#[a,l,rfl, .inr hv,h1,h2,ϱ];cases r2.eq;let⟨vs,hv,rr⟩:=bä;cases rr.vals;show#[a,l,rfl, fę,h1,h2,ϱ]
universe e
universe WL
namespace WL
open PySem L2
theorem WB {α:Type}{a:α}{l:Ì}:jC (a::l) 0=ë:=gM (j:=0) ļ
theorem afn {α:Type}{a b:α}{l:Ì}:jC (a::b::l) 1=ô:=gM (j:=1) ļ
theorem afm {α:Type}{a b c:α}{l:Ì}:jC (a::b::c::l) 2=é:=gM (j:=2) ļ
theorem afl {α:Type}{a b c d:α}{l:Ì}:jC (a::b::c::d::l) 3=aĖ:=gM (j:=3) ļ
def afh {n:Nat}:vY (n+1+1) 1=some 1:=by unfold vY;rw[aĆ,aĆ];rfl
def afg {n:Nat}:vY (n+1+1+1) 2=some 2:=by unfold vY;rw[aĆ,aĆ];rfl
def aff {n:Nat}:vY (n+1+1+1+1) 3=some 3:=by unfold vY;rw[aĆ,aĆ];rfl
def kW {α:Type}{l:Ì}{i:Int}{a:α}(h0:0<=i)(h:cτ =ë):jC l i=ë:=by have e:((i.toNat:Nat):Int)=i:= ∅;rw[<- e];show gM h
theorem jm {M:Mp}{P:ő}(h:P M): ∃M0,Sm M0 M /\ P M0:=#[M,œ,h]
def NB (d:iB)(M M':Mp):Prop:= ∀b,aÒ ->M' b=M b
theorem NB.refl (d:iB)(M:Mp):NB d M M:=cá
theorem NB.trans {d:iB}{M M1 M2:Mp}(a:NB d M M1)(b:NB d M1 M2):NB d M M2:=λc n=>(b c n).trans (a c n)
theorem NB.put {d:iB}{M:Mp}{o:MO}:NB d M (um M d o):=λb n=>aR n
def Dr (M:Mp)(d l:iB):Prop:=jD λ cυ (i c s:Int)=>fE (M d=some (.lst [wr l,wi i,wi c,wi s])) (M l=some (.lst cη)) (0<=i) (d≠l)
def Dr.put {M:Mp}{d l p:iB}{o:MO}(h:bð)(hp:Ĵ):Dr cÏ d l:=by let⟨ns,i,c,s,h1,h2,h3,h4⟩:=h;show#[ns,i,c,s,by rw[aR (dR h1 hp)];show h1,by rw[aR (dR h2 hp)];show h2,h3,h4]
def Dr.vP {M:Mp}{d l p:iB}{o:MO}(h:bð)(hd:p≠d)(hl:p≠l):Dr cÏ d l:=by let⟨ns,i,c,s,h1,h2,h3,h4⟩:=h;show#[ns,i,c,s,by rw[aR hd.symm];show h1,by rw[aR hl.symm];show h2,h3,h4]
def Dr.ne {M:Mp}{d l p:iB}(h:bð)(hp:Ĵ):p≠d /\ p≠l:=by let⟨ns,i,c,s,h1,h2,h3,h4⟩:=h;show#[(dR h1 hp).symm,(dR h2 hp).symm]
def dC (q:Ľ):W:= .tup [wi q.1,aģ]
def oB (l:eð):W:= .tup câ
def pairs_at {l:eð}{i:Nat}{x:W}(h:câ[i]? =à): ∃q,aÓ =ađ /\ x=dC q:=by
 rw[aD] at h;cases e:aÓ with
 | none=>rw[e] at h;cases h
 | some q=>rw[e] at h;cases h;show dŗ
def JO {l:û}{i:Nat}{x:W}(h:(l.map wi)[i]? =à): ∃n,aÓ =aē /\ x=wi n:=by
 rw[aD] at h;cases e:aÓ with
 | none=>rw[e] at h;cases h
 | some q=>rw[e] at h;cases h;show dŗ
def jT {lo:Int}{n i:Nat}{x:W}(h:(jJ lo n)[i]? =à):i<n /\ x=wi (lo+i):=by unfold jJ at h;rw[aD] at h;by_cases hi:i<n;rw[List.getElem?_range hi] at h;cases h;show#[hi,rfl];rw[List.getElem?_eq_none ⇑hi] at h;cases h
def iZ {lo:Int}{n:Nat}:gμ:=by simp[jJ]
def lstK (o:gk MO)(k:cχ):Prop:= ∃l,o=ο /\ k l
def mO (o:gk MO)(k:š ->Prop):Prop:= ∃l,o=dŏ /\ k l
def sJ {α:Type}(o:gk α)(k:α ->Prop):Prop:= ∃a,o=ë /\ k a
def eR (C Q:Prop):Prop:=C /\ Q
def j6 (b:Bool)(A B:Prop):Prop:=if î then A else B
def Ji (M:Mp)(k:bŷ):Prop:= ∀p,Ĵ ->k p
def AW (p:iR)(xs:Æ)(M:Mp)(q:WK):Prop:=p xs M q
def S9 (x:W)(M:Mp)(q:ϑ):Prop:= ∃k,x=wb k /\ q k M
def hG (x:W)(k:bŷ):Prop:= ∃a,x=wr a /\ k a
def tupK (x:W)(k:cχ):Prop:= ∃l,x= ý /\ k l
def LS (M:Mp)(x:W)(k:cμ):Prop:= ∃b,LJ M x b /\ k b
def sN (x:W)(k:bμ):Prop:= ∃y,x=uM y /\ k y
def Ws (xs:Æ)(keep:ő)(g:WG)(b:WS)(D:fA)(ρ:dt)(M1:Mp):Prop:= nŊ
def xB (xs:Æ)(keep:ő)(own:Nat)(fr:ü)(g:WG)(c:WT)(el:WE)(ρ:dt)(M1:Mp)(q:WK):Prop:=nŐ
section
variable {M:Mp}{ρ:dt}{q:WK}{a b c:WE}{D:fA}
def _c {l:Æ}{k:cχ}:lstK (ο) k=k l:=by apply propext;symm;(· rintro⟨_,h,k⟩;cases h;show k);(· intro h;show ţ)
def aeG {l:š}{k:š ->Prop}:mO (dŏ) k=k l:=by apply propext;symm;(· rintro⟨_,h,k⟩;cases h;show k);(· intro h;show ţ)
def ZP {α:Type}{x:α}{k:α ->Prop}:sJ bÝ k=k x:=by apply propext;symm;(· rintro⟨_,h,k⟩;cases h;show k);(· intro h;show ţ)
def aeR {Q:Prop}:eR True Q=Q:=by simp[eR]
def _t {A B:Prop}:j6 true A B=A:=by simp[j6]
def _u {A B:Prop}:j6 false A B=B:=by simp[j6]
def afj {k:Bool}{q:ϑ}:S9 (.v (.bl k)) M q=q k M:=by apply propext;symm;(· rintro⟨_,h,k⟩;cases h;show k);(· intro h;show ţ)
def ZJ {x:iB}{k:bŷ}:hG eñ k=k x:=by apply propext;symm;(· rintro⟨_,h,k⟩;cases h;show k);(· intro h;show ţ)
def Zv {x:Æ}{k:cχ}:tupK (.tup x) k=k x:=by apply propext;symm;(· rintro⟨_,h,k⟩;cases h;show k);(· intro h;show ţ)
def _n {i:Int}{k:bμ}:sN π k=k (aä):=by apply propext;symm;(· rintro⟨y,h,z⟩;cases y<;>cases h;show z);(· intro h;show#[aä,rfl,h])
def _m {i:Str}{k:bμ}:sN eò k=k (.inr i):=by apply propext;symm;(· rintro⟨y,h,z⟩;cases y<;>cases h;show z);(· intro h;show#[.inr i,rfl,h])
theorem YT {x:W}{r:dt}:fT 0 (Ŕ) M q=Õ:=rfl
theorem YS {x0:Å}{x:W}{r:dt}:fT 1 (x0::Ŕ) M q=Õ:=rfl
theorem YR {x0 x1:Å}{x:W}{r:dt}:fT 2 (x0::x1::Ŕ) M q=Õ:=rfl
theorem YQ {x0 x1 x2:Å}{x:W}{r:dt}:fT 3 (x0::x1::x2::Ŕ) M q=Õ:=rfl
theorem YO {x0 x1 x2 x3:Å}{x:W}{r:dt}:fT 4 (x0::x1::x2::x3::Ŕ) M q=Õ:=rfl
theorem YN {x0 x1 x2 x3 x4:Å}{x:W}{r:dt}:fT 5 (x0::x1::x2::x3::x4::Ŕ) M q=Õ:=rfl
theorem YM {x0 x1 x2 x3 x4 x5:Å}{x:W}{r:dt}:fT 6 (x0::x1::x2::x3::x4::x5::Ŕ) M q=Õ:=rfl
theorem YL {x0 x1 x2 x3 x4 x5 x6:Å}{x:W}{r:dt}:fT 7 (x0::x1::x2::x3::x4::x5::x6::Ŕ) M q=Õ:=rfl
theorem YK {x0 x1 x2 x3 x4 x5 x6 x7:Å}{x:W}{r:dt}:fT 8 (x0::x1::x2::x3::x4::x5::x6::x7::Ŕ) M q=Õ:=rfl
theorem YJ {x0 x1 x2 x3 x4 x5 x6 x7 x8:Å}{x:W}{r:dt}:fT 9 (x0::x1::x2::x3::x4::x5::x6::x7::x8::Ŕ) M q=Õ:=rfl
theorem Xm {x0 x1 x2 x3 x4 x5 x6 x7 x8 x9:Å}{x:W}{r:dt}:fT 10 (x0::x1::x2::x3::x4::x5::x6::x7::x8::x9::Ŕ) M q=Õ:=rfl
theorem Xl {x0 x1 x2 x3 x4 x5 x6 x7 x8 x9 sH:Å}{x:W}{r:dt}:fT 11 (x0::x1::x2::x3::x4::x5::x6::x7::x8::x9::sH::Ŕ) M q=Õ:=rfl
theorem Xk {x0 x1 x2 x3 x4 x5 x6 x7 x8 x9 sH tL:Å}{x:W}{r:dt}:fT 12 (x0::x1::x2::x3::x4::x5::x6::x7::x8::x9::sH::tL::Ŕ) M q=Õ:=rfl
theorem Xj {x0 x1 x2 x3 x4 x5 x6 x7 x8 x9 sH tL vK:Å}{x:W}{r:dt}:fT 13 (x0::x1::x2::x3::x4::x5::x6::x7::x8::x9::sH::tL::vK::Ŕ) M q=Õ:=rfl
theorem Xi {x0 x1 x2 x3 x4 x5 x6 x7 x8 x9 sH tL vK xN:Å}{x:W}{r:dt}:fT 14 (x0::x1::x2::x3::x4::x5::x6::x7::x8::x9::sH::tL::vK::xN::Ŕ) M q=Õ:=rfl
theorem Xh {x0 x1 x2 x3 x4 x5 x6 x7 x8 x9 sH tL vK xN zo:Å}{x:W}{r:dt}:fT 15 (x0::x1::x2::x3::x4::x5::x6::x7::x8::x9::sH::tL::vK::xN::zo::Ŕ) M q=Õ:=rfl
theorem Xg {x0 x1 x2 x3 x4 x5 x6 x7 x8 x9 sH tL vK xN zo Bq:Å}{x:W}{r:dt}:fT 16 (x0::x1::x2::x3::x4::x5::x6::x7::x8::x9::sH::tL::vK::xN::zo::Bq::Ŕ) M q=Õ:=rfl
theorem Xf {x0 x1 x2 x3 x4 x5 x6 x7 x8 x9 sH tL vK xN zo Bq Fe:Å}{x:W}{r:dt}:fT 17 (x0::x1::x2::x3::x4::x5::x6::x7::x8::x9::sH::tL::vK::xN::zo::Bq::Fe::Ŕ) M q=Õ:=rfl
theorem Xe {x0 x1 x2 x3 x4 x5 x6 x7 x8 x9 sH tL vK xN zo Bq Fe He:Å}{x:W}{r:dt}:fT 18 (x0::x1::x2::x3::x4::x5::x6::x7::x8::x9::sH::tL::vK::xN::zo::Bq::Fe::He::Ŕ) M q=Õ:=rfl
theorem Xd {x0 x1 x2 x3 x4 x5 x6 x7 x8 x9 sH tL vK xN zo Bq Fe He LD:Å}{x:W}{r:dt}:fT 19 (x0::x1::x2::x3::x4::x5::x6::x7::x8::x9::sH::tL::vK::xN::zo::Bq::Fe::He::LD::Ŕ) M q=Õ:=rfl
theorem Xc {x0 x1 x2 x3 x4 x5 x6 x7 x8 x9 sH tL vK xN zo Bq Fe He LD PB:Å}{x:W}{r:dt}:fT 20 (x0::x1::x2::x3::x4::x5::x6::x7::x8::x9::sH::tL::vK::xN::zo::Bq::Fe::He::LD::PB::Ŕ) M q=Õ:=rfl
theorem Xb {x0 x1 x2 x3 x4 x5 x6 x7 x8 x9 sH tL vK xN zo Bq Fe He LD PB Tt:Å}{x:W}{r:dt}:fT 21 (x0::x1::x2::x3::x4::x5::x6::x7::x8::x9::sH::tL::vK::xN::zo::Bq::Fe::He::LD::PB::Tt::Ŕ) M q=Õ:=rfl
theorem Xa {x0 x1 x2 x3 x4 x5 x6 x7 x8 x9 sH tL vK xN zo Bq Fe He LD PB Tt YG:Å}{x:W}{r:dt}:fT 22 (x0::x1::x2::x3::x4::x5::x6::x7::x8::x9::sH::tL::vK::xN::zo::Bq::Fe::He::LD::PB::Tt::YG::Ŕ) M q=Õ:=rfl
theorem W_ {x0 x1 x2 x3 x4 x5 x6 x7 x8 x9 sH tL vK xN zo Bq Fe He LD PB Tt YG x22:Å}{x:W}{r:dt}:fT 23 (x0::x1::x2::x3::x4::x5::x6::x7::x8::x9::sH::tL::vK::xN::zo::Bq::Fe::He::LD::PB::Tt::YG::x22::Ŕ) M q=Õ:=rfl
theorem afr {x:W}:wC x ρ M q=Õ:=rfl
theorem ae0 {r:vw}:PK r a b ρ M q=lģ:=rfl
theorem aeX {r:gż}:wUn r a ρ M q=iĜ:=rfl
def afq {C:fũ}{g:dϬ}{i j:Int}:wI C g π eó M q=eR (C i j) (fπ):=by apply propext;symm;(· rintro⟨_,_,h1,h2,k⟩;cases h1;cases h2;show k);(· intro h;show fΑ)
def ae6 {g:dϬ}{i j:Int}:wI0 g π eó M q=fπ:=by apply propext;symm;(· rintro⟨_,_,h1,h2,k⟩;cases h1;cases h2;show k);(· intro h;show fΑ)
def afp {g:aŭ}{i:Int}:wU g π M q=eό:=by apply propext;symm;(· rintro⟨_,h,k⟩;cases h;show k);(· intro h;show ţ)
def ae9 {i j:Int}:Xw π eó M q=iġ:=by apply propext;symm;(· rintro⟨_,_,h1,h2,_,k⟩;cases h1;cases h2;simpa using k);(· intro h;show iŹ)
def ae2 {i j:Int}:Xs π eó M q=iź:=by apply propext;symm;(· rintro⟨_,_,h1,h2,_,k⟩;cases h1;cases h2;simpa using k);(· intro h;show iŹ)
def ae8 {i j:Str}:Xw eò eô M q=iġ:=by apply propext;symm;(· rintro⟨_,_,h1,h2,_,k⟩;cases h1;cases h2;simpa using k);(· intro h;show iŹ)
def ae1 {i j:Str}:Xs eò eô M q=iź:=by apply propext;symm;(· rintro⟨_,_,h1,h2,_,k⟩;cases h1;cases h2;simpa using k);(· intro h;show iŹ)
theorem Xn {q:ϑ}:zu a ρ M q=a ρ M λx M1=>S9 x M1 q:=rfl
theorem Zm {a b:WT}{q:ϑ}:Ui a b ρ M q=a ρ M λc M1=>j6 c cψ (q false M1):=rfl
theorem aeZ {a b:WT}{q:ϑ}:Y1 a b ρ M q=a ρ M λc M1=>j6 c (q true M1) cψ:=rfl
theorem Y2 {a:WT}{q:ϑ}:PL a ρ M q=iŷ:=rfl
theorem XD:Oe a b ρ M q=a ρ M λx M1=>S9 x M1 λc M1=>j6 c cψ (q cÕ M1):=rfl
theorem Y0:TN a b ρ M q=a ρ M λx M1=>S9 x M1 λc M1=>j6 c (q (aγ) M1) cψ:=rfl
theorem Xr:N7 a ρ M q=a ρ M λx M1=>S9 x M1 λc M1=>eύ:=rfl
theorem ae5 {c:WT}:wIf c a b ρ M q=c ρ M λc M1=>j6 c (a ρ M1 q) cψ:=rfl
theorem Uc {r r':vw}:Ht r r' a b c ρ M q=a ρ M λx M1=>b ρ M1 λy M2=>r x y M2 λz M3=>S9 z M3 λk M3=>j6 k (c ρ M3 λy' M4=>r' y y' M4 q) (q cÕ M3):=rfl
theorem Y3 {q:fξ}:Bt ρ M q=q [] M:=rfl
theorem Xz {r:WA}{q:fξ}:tP a r ρ M q=lŢ:=rfl
theorem YU {a:WA}:Tw a ρ M q=a ρ M λxs M1=>eR hŭ (q ņ M1):=rfl
theorem Y4 {a:WA}:TU a ρ M q=a ρ M λxs M1=>eR hŭ (Ji M1 λp=>jŵ):=rfl
def Y' {x:iB}{i:Int}:TW eñ π M q=lstK aÔ λl=>iÒ:=by apply propext;symm;(· rintro⟨_,l,_,u,h1,h2,h3,h4,k⟩;cases h1;cases h2;show#[l,h3,u,h4,k]);(· rintro⟨l,h3,u,h4,k⟩;show#[_,l,_,u,rfl,rfl,h3,h4,k])
def Y8 {l:Æ}{i:Int}:PN bÕ π M q=iÒ:=by apply propext;symm;(· rintro⟨_,_,u,h1,h2,h4,k⟩;cases h1;cases h2;show#[u,h4,k]);(· rintro⟨u,h4,k⟩;show#[_,_,u,rfl,rfl,h4,k])
theorem SU {q:gζ}:Db ρ M q=q none M:=rfl
def Gc (x:W)(k:bϲ):Prop:= ∃i,ağ /\ k i
def _v {i:Int}{k:bϲ}:Gc π k=k i:=by apply propext;symm;(· rintro⟨_,h,k⟩;cases h;show k);(· intro h;show ţ)
theorem Xq {q:gζ}:N5 a ρ M q=a ρ M λx M1=>Gc x λi=>q bÇ M1:=rfl
theorem aeY {r:Tp}{lo hi:WO}:wSl r a lo hi ρ M q=mĭ:=rfl
def YY {x:iB}{lo hi:ø}:TF eñ lo hi M q=lstK aÔ λl=>Ji M λp=>kϱ:=by apply propext;symm;(· rintro⟨_,l,h1,h3,k⟩;cases h1;show#[l,h3,k]);(· rintro⟨l,h3,k⟩;show fĜ)
theorem ae' {r:y8}{a:WA}:Uf r a ρ M q=iϙ:=rfl
theorem XC {p:iR}{a:WA}:Od p a ρ M q=a ρ M λxs M1=>AW p xs M1 q:=rfl
def Y6 {x:iB}:PM [.v aϘ] M q=lstK aÔ λl=>gó:=by apply propext;symm;(· rintro(⟨_,l,h1,h2,k⟩ | ⟨_,h1,_⟩);(· cases h1;show bν);cases h1);(· rintro⟨l,h3,k⟩;show .inl fĜ)
def Y5 {l:Æ}:PM [ý] M q=gó:=by apply propext;symm;(· rintro(⟨_,l,h1,h2,k⟩ | ⟨_,h1,k⟩);(· cases h1);cases h1;show k);(· intro k;show .inr #[l,rfl,k])
def Zo {i:Int}:Uj [cŸ] M q=kĤ:=by apply propext;symm;(· rintro⟨_,h,k⟩;cases h;show k);(· intro h;show ţ)
def SV {l:Æ}:Dc [ý] M q=Ji M λp=>q þ gð:=by apply propext;symm;(· rintro⟨l,⟨_,h1,h2⟩ | h1,k⟩;(· cases h1);cases h1;show k);(· intro k;show#[l, ĥ,k])
def PH {x:iB}:zt [.v aϘ] M q=lstK aÔ λl=>q bÕ M:=by apply propext;symm;(· rintro⟨l,⟨_,h1,h2⟩ | h1,k⟩;(· cases h1;show bν);cases h1);(· rintro⟨l,h3,k⟩;show#[l, .inl #[_,rfl,h3],k])
def Y_ {K:jv}{x:W}{T:String}:TX K fĚ M q=sJ (XG M x) λt=>sJ (iÇ) λb=>cÜ:=by apply propext;symm;(· rintro⟨_,_,t,b,h1,h2,h3,k⟩;cases h1;show#[t,h2,b,h3,k]);(· rintro⟨t,h2,b,h3,k⟩;show#[_,_,t,b,rfl,h2,h3,k])
theorem OW {K:jv}:W.kitOne K ξ ξ=Ŏ:=rfl
theorem MP {K:jv}:W.kitOne K ξ Κ=Ŝ:=rfl
theorem OV {K:jv}:W.kitOne K ξ μ=Ŝ:=rfl
theorem Lk {K:jv}:W.kitOne K ξ ϋ=Ŝ:=rfl
theorem MN {K:jv}:W.kitOne K ξ Λ=Ŝ:=rfl
theorem MS {K:jv}:W.kitOne K Κ ξ=Ŏ:=rfl
theorem Lm {K:jv}:W.kitOne K Κ Κ=Ŏ:=rfl
theorem MQ {K:jv}:W.kitOne K Κ μ=Ŝ:=rfl
theorem JD {K:jv}:W.kitOne K Κ ϋ=Ŝ:=rfl
theorem Ll {K:jv}:W.kitOne K Κ Λ=Ŝ:=rfl
theorem OU {K:jv}:W.kitOne K μ ξ=Ŝ:=rfl
theorem MK {K:jv}:W.kitOne K μ Κ=Ŝ:=rfl
theorem OT {K:jv}:W.kitOne K μ μ=Ŏ:=rfl
theorem Lh {K:jv}:W.kitOne K μ ϋ=Ŝ:=rfl
theorem MJ {K:jv}:W.kitOne K μ Λ=Ŝ:=rfl
theorem F7 {K:jv}:W.kitOne K gş ξ=Ŝ:=rfl
theorem En {K:jv}:W.kitOne K gş Κ=Ŝ:=rfl
theorem F6 {K:jv}:W.kitOne K gş μ=Ŝ:=rfl
theorem Cn {K:jv}:W.kitOne K gş ϋ=Ŝ:=rfl
theorem Em {K:jv}:W.kitOne K gş Λ=Ŝ:=rfl
theorem Lg {K:jv}:W.kitOne K ϋ ξ=Ŝ:=rfl
theorem JB {K:jv}:W.kitOne K ϋ Κ=Ŝ:=rfl
theorem Lf {K:jv}:W.kitOne K ϋ μ=Ŝ:=rfl
theorem G3 {K:jv}:W.kitOne K ϋ ϋ=Ŏ:=rfl
theorem JA {K:jv}:W.kitOne K ϋ Λ=Ŝ:=rfl
theorem MM {K:jv}:W.kitOne K Λ ξ=Ŝ:=rfl
theorem Lj {K:jv}:W.kitOne K Λ Κ=Ŝ:=rfl
theorem ML {K:jv}:W.kitOne K Λ μ=Ŝ:=rfl
theorem JC {K:jv}:W.kitOne K Λ ϋ=Ŝ:=rfl
theorem Li {K:jv}:W.kitOne K Λ Λ=Ŏ:=rfl
def afa {r:WM}{b:WA}:Zl r a b ρ M q=a ρ M λx M1=>hG x λp=>lstK aĤ λ_=>jŹ:=by unfold Zl IsL hG lstK;congr 1;funext x M1;apply propext;symm;(· rintro⟨⟨p,l,h1,h2⟩,k⟩;show eϒ);(· rintro⟨p,h1,l,h2,k⟩;show gö)
def Zk {r:WM}:PZ r a ρ M q=a ρ M λx M1=>hG x λp=>lstK aĤ λ_=>cθ:=by unfold PZ IsL hG lstK;congr 1;funext x M1;apply propext;symm;(· rintro⟨⟨p,l,h1,h2⟩,k⟩;show eϒ);(· rintro⟨p,h1,l,h2,k⟩;show gö)
def SY {x:iB}{y:W}:Dg eñ [y] M q=lstK aÔ λl=>eR hÍ (q wn (um M x fτ)):=by apply propext;symm;(· rintro⟨_,l,_,h1,h2,h3,h4,k⟩;cases h1;cases h2;show#[l,h3,h4,k]);(· rintro⟨l,h3,h4,k⟩;show#[_,l,_,rfl,rfl,h3,h4,k])
def SW {x y:iB}:Df eñ [.v (.ref y)] M q=lstK aÔ λl=>lstK (M y) λl'=>eR kÇ (q wn (um M x eώ)):=by apply propext;symm;(· rintro⟨_,_,l,l',h1,h2,h3,h4,h5,k⟩;cases h1;cases h2;show gξ);(· rintro⟨l,h3,l',h4,h5,k⟩;show kÊ)
def Zi {x y:iB}:Ud eñ (.v (.ref y)) M q=lstK aÔ λl=>lstK (M y) λl'=>eR kÇ (Ji M λp=>kĥ):=by apply propext;symm;(· rintro⟨_,_,l,l',h1,h2,h3,h4,h5,k⟩;cases h1;cases h2;show gξ);(· rintro⟨l,h3,l',h4,h5,k⟩;show kÊ)
theorem Tx {q:ϑ}:Bs a ρ M q=a ρ M λx M1=>LS M1 x λk=>q k M1:=rfl
theorem Xx:Oa ρ M q=Ji M λp=>jâ:=rfl
def Xy:Hq a b ρ M q=a ρ M λx M1=>b ρ M1 λy M2=>hG x λp=>sN y λk=>mO aĥ λkvs=>sJ (bé) λz=>q z M2:=by unfold Hq hG sN mO sJ;congr 1;funext x M1;congr 1;funext y M2;apply propext;symm;(· rintro⟨p,kvs,k,z,h1,h2,h3,h4,h⟩;show#[p,h1,k,h3,kvs,h2,z,h4,h]);(· rintro⟨p,h1,k,h3,kvs,h2,z,h4,h⟩;show#[p,kvs,k,z,h1,h2,h3,h4,h])
def Zh:PX a b ρ M q=a ρ M λy M1=>b ρ M1 λx M2=>hG x λp=>sN y λk=>mO aĥ λkvs=>jĤ:=by unfold PX hG sN mO;congr 1;funext x M1;congr 1;funext y M2;apply propext;symm;(· rintro⟨p,kvs,k,h1,h2,h3,h⟩;show hΕ);(· rintro⟨p,h1,k,h3,kvs,h2,h⟩;show hΖ)
def SX:xR a b ρ M q=a ρ M λy M1=>b ρ M1 λx M2=>hG x λp=>sN y λk=>mO aĥ λkvs=>kÈ:=by unfold xR hG sN mO;congr 1;funext x M1;congr 1;funext y M2;apply propext;symm;(· rintro⟨p,kvs,k,h1,h2,h3,h⟩;show hΕ);(· rintro⟨p,h1,k,h3,kvs,h2,h⟩;show hΖ)
def Ua:Bv a b c ρ M q=a ρ M λx M1=>hG x λp=>mO aĤ λ_=>b ρ M1 λy M2=>c ρ M2 λz M3=>sN y λk=>mO (M3 p) λkvs=>iŸ:=by
 unfold Bv hG sN mO;congr 1;funext x M1;apply propext;symm;rintro⟨p,h1,⟨kvs,h2⟩,h⟩;exact#[p,h1,kvs,h2,?_];have e:nŁ:=by funext y M2;congr 1;funext z M3;apply propext;symm;rintro⟨a,b,c,d,e⟩;show dř;rintro⟨b,d,a,c,e⟩;show dŚ
 rw[<- e];show h;rintro⟨p,h1,kvs,h2,h⟩;exact#[p,h1,#[kvs,h2],?_];have e:nŁ:=by funext y M2;congr 1;funext z M3;apply propext;symm;rintro⟨a,b,c,d,e⟩;show dř;rintro⟨b,d,a,c,e⟩;show dŚ
 rw[e];show h
theorem d6 {a b:WS}:eõ=a {nx:=b D,rt:=D.rt,bk:=D.bk,ct:=D.ct} ρ M:=rfl
theorem XR:DD D ρ M=bη:=rfl
theorem XT:OA a D ρ M=iϚ:=rfl
theorem ZF:Qs a D ρ M=cν:=rfl
theorem afc {c:WT}{a b:WS}:S2 c a b D ρ M=c ρ M λk M1=>j6 k (a D ρ M1) (b D ρ M1):=rfl
theorem ZH {g:WG}:Qt a g D ρ M=jΨ:=rfl
def UU:BM a b c D ρ M=c ρ M λz M1=>a ρ M1 λx M2=>b ρ M2 λy M3=>hG x λp=>sN y λk=>mO (M3 p) λkvs=>eR hž lÒ:=by unfold BM hG sN mO eR;congr 1;funext z M1;congr 1;funext x M2;congr 1;funext y M3;apply propext;symm;(· rintro⟨p,kvs,k,h1,h2,h3,h4,h⟩;show#[p,h1,k,h3,kvs,h2,h4,h]);(· rintro⟨p,h1,k,h3,kvs,h2,h4,h⟩;show#[p,kvs,k,h1,h2,h3,h4,h])
theorem ZG {it:WI}{g:WG}{b:WS}:US it g b D ρ M=it ρ M λxs keep M1=>iÓ:=rfl
theorem sX {i:Nat}{x:W}{q:Ο}:Di i x ρ M q=q hÊ M:=rfl
def Zr {q:Ο}:P9 [] ρ M q=q ρ M:=by simp[P9]
def XF {a:WG}{b:KU}{x:W}{r:Æ}{q:Ο}:Og a b (x::r) ρ M q=kû:=by apply propext;symm;(· rintro⟨_,_,h,k⟩;cases h;show k);(· intro h;show#[_,_,rfl,h])
def Zp {n:Nat}{a:KU}{l:Æ}{q:Ο}:Uk n a bÕ ρ M q=eR (cÝ) dŐ:=by apply propext;symm;(· rintro⟨_,h,k,l⟩;cases h;show#[k,l]);(· rintro⟨h,l⟩;show#[_,rfl,h,l])
theorem Zq {s:KS}{x:W}{q:Ο}:Ul a b s x ρ M q=mî:=rfl
def Xp {x:iB}{i:Int}{z:W}{q:ő}:NZ eñ π z M q=lstK aÔ λl=>sJ (eæ) λj=>q (um M x gθ):=by apply propext;symm;(· rintro⟨_,l,_,j,h1,h2,h3,h4,k⟩;cases h1;cases h2;show#[l,h3,j,h4,k]);(· rintro⟨l,h3,j,h4,k⟩;show#[_,l,_,j,rfl,rfl,h3,h4,k])
def X6 {q:kÅ}:JH a ρ M q=a ρ M λx M1=>hG x λp=>lstK aĤ λl=>q l jä M1:=by unfold JH hG lstK;congr 1;funext x M1;apply propext;symm;(· rintro⟨p,l,h1,h2,h⟩;show eϓ);(· rintro⟨p,h1,l,h2,h⟩;show eϔ)
theorem _r {q:kÅ}:VM a ρ M q=a ρ M λx M1=>tupK x λl=>q l cξ M1:=rfl
def Q4 (xs:Æ)(k:bñ):Prop:= ∃x,xs= [x] /\ k x
def ZQ {x:W}{k:bñ}:Q4 [x] k=k x:=by apply propext;symm;(· rintro⟨_,h,k⟩;cases h;show k);(· intro h;show ţ)
def X5 {a:WA}{q:kÅ}:JG a ρ M q=a ρ M λxs M1=>Q4 xs λx=>Gc x λj=>eR (dϫ /\ j<aö) kŒ:=by unfold JG Q4 Gc eR;congr 1;funext x M1;apply propext;symm;(· rintro⟨j,h1,h2,h3,h⟩;show#[_,h1,j,rfl,#[h2,h3],h]);(· rintro⟨_,h1,j,rfl,⟨h2,h3⟩,h⟩;show#[j,h1,h2,h3,h])
theorem XA {it:WI}{own:Nat}{fr:ü}{g:WG}{c:WT}{el:WE}:Hr it own fr g c el ρ M q=it ρ M λxs keep M1=>kħ:=rfl
theorem YI {q:ϑ}:PD ρ M q=q true M:=rfl
universe e
def sl1:(cω)=True:=by rw[cP];decide
def Fv:(2<=sizeLine)=True:=by rw[cP];decide
def sl3:(cΑ)=True:=by rw[cP];decide
def sl4:(cΒ)=True:=by rw[cP];decide
def sl0:(0<=sizeLine)=True:=by simp
def eQ {c A B:Prop} [Decidable c](h1:c ->A)(h2:¬c ->B):j6 (decide c) A B:=by unfold j6;by_cases h:c;rw[aF (aH h)];show h1 h;rw[aC ⇑h];show h2 h
theorem CK {xs:Æ}{keep:ő}{M1:Mp}{own:Nat}{fr:ü}{ρ:dt}{g:WG}{c:WT}{el:WE}{q:WK}(f:W ->Å)(hz:Ϝ)(mE: hΔ) (hs: ∀ (i:Nat) x,Δ -> ∀ (M:Mp) (N:fω),aι ->N (f x) M ->g x Τ M mΧ) (hq: mė):kħ:=Gy f hz mE hs hq
universe WL
namespace WL
def hold (f:Ο)(ρ:dt)(M:Mp):Prop:=f ρ M
theorem eZ {f:Ο}{ρ:dt}{M:Mp}(h:f ρ M):hold f ρ M:=h
theorem fk {a b:WS}{D:fA}{ρ:dt}{M:Mp}:eõ=a {nx:=hold (b D),rt:=D.rt,bk:=D.bk,ct:=D.ct} ρ M:=rfl
theorem JR {c:WT}{a b R:WS}{D:fA}{ρ:dt}{M:Mp}(Mid:Ο)(rest: ∀ρ M,Mid ρ M ->R D ρ M)(h: ∀N:Ο,(∀ρ M,Mid ρ M ->N ρ M) ->S2 c a b {nx:=N,rt:=D.rt,bk:=D.bk,ct:=D.ct} ρ M):BL (S2 c a b) R D ρ M:=h _ rest
theorem iG {xs:Æ}{keep:ő}{g:WG}{b:WS}{D:fA}{ρ:dt}{M1:Mp}(I:Nat ->Ο)(h0:I 0 ρ M1)(hk: lĺ) (hs: ∀i x ρ M,Δ ->bì -> ∀N:Ο,(∀ρ' M',I Ð ρ' M' ->N ρ' M') ->g x ρ M λρ2 M2=>b {nx:=N,rt:=D.rt,bk:=D.nx,ct:=N} ρ2 M2) (hd: kϑ):iÓ:=#[I,h0,hk,λi x ρ M hx hI=>hs i x ρ M hx hI _ cÌ,hd]
universe WL
namespace WP
open PySem L2 WL
abbrev Pt:=eð
def look:eϕ
 | [],_=>0
 | q::r,x=>if aÕ then q.2 else look r x
def f8 (p:Int)(l:Pt):Prop:=(∀q∈l,0<q.2 /\ q.2<p) /\ jĨ
def vM:eϕ
 | [],_=>0
 | q::r,x=>(iŻ)+vM r x
def BA (a b:Pt)(x:Int):vM (a++b) x=vM a x+vM b x:=by
 induction a with
 | nil=>simp[vM]
 | cons q r ih=>rw[List.cons_append,vM,vM,ih];lia
def zw (a:Pt)(q:Ľ)(x:Int):vM (a++ [q]) x=vM a x+iŻ:=by rw[BA];simp[vM]
def iD {l:Pt}{x:Int}(h: ∀q∈l,q.1≠x):bò=0:=by
 induction l with
 | nil=>rfl
 | cons q r ih=>rw[look,aC (h q Ň),ih λz hz=>h z eö]
def HA {l:Pt}(h:jĨ)(x:Int):vM l x=bò:=by
 induction l with
 | nil=>rfl
 | cons q r ih=>rw[bT] at h;rw[vM,look,ih h.2];by_cases e:aÕ;rw[Ã,Ã,iD];lia;intro z hz;have:=bó;lia;rw[Ä,Ä];lia
def Cb {p:Int}{l:Pt}(hp:0<p)(h:f8 p l)(x:Int):0<=bò /\ bò<p:=by
 induction l with
 | nil=>rw[look];lia
 | cons q r ih=>rw[look];split;have:=h.1 q Ň;lia;show ih lţ
theorem f8.tail {p:Int}{q:Ľ}{r:Pt}(h:f8 p (q::r)):f8 p r:=lţ
theorem f8.nil {p:Int}:f8 p []:=#[iϐ,List.Pairwise.nil]
theorem yl {p p':Int}: ∀ {a b:Pt},f8 p a ->f8 p' b ->(∀x,look a x=look b x) ->a=b
 | [],[],_,_,_=>rfl
 | [],q::r,_,hb,h=>by have:=h q.1;rw[look,look,å] at this;have:=hb.1 q Ň;lia
 | q::r,[],ha,_,h=>by have:=h q.1;rw[look,look,å] at this;have:=ha.1 q Ň;lia
 | q ::r,q'::r',ha,hb,h=>by
  have pa:=ha.1 q Ň;have pb:=hb.1 q' Ň;have sa:=(bT.mp ha.2).1;have sb:=(bT.mp hb.2).1;have e1:q.1=q'.1:=by obtain l | l | l:=Int.lt_trichotomy q.1 q'.1;have e:=h q.1;rw[look,å,look,ù,kŕ] at e;lia;show l;have e:=h q'.1;rw[look,ù,kŖ,look,å] at e;lia
  have e2:q.2=q'.2:=by have e:=h q.1;rw[look,å,look,aF e1.symm] at e;show e
  have e:r=r':=yl ha.tail hb.tail λx=>by by_cases hx:aÕ;rw[kŖ,kŕ];have e:=h x;rwa [look,aÎ,look,ù] at e
  rw[e,Prod.ext e1 e2]
def jk (p:Int):Pt ->Int ->Int ->Pt
 | [],x,s=>if s % p=0 then [] else [(x,s % p)]
 | q::r,x,s=>if x<q.1 then(if s % p=0 then q::r else(x,s % p)::q::r) else if x=q.1 then(if cΕ=0 then r else(x,cΕ)::r) else q::jk p r x s
def sM (p:Int)(ps:Pt):Pt:=ps.foldl (λa q=>jk p a q.1 q.2) []
def xJ {p:Int}{l:Pt}{x s:Int}{z:Ľ}(h:z∈cã):z.1=x \/ z∈l:=by
 induction l with
 | nil=>rw[jk] at h;split at h;cases h;left;rw[aο]
 | cons q r ih=>rw[jk] at h;split at h;split at h;show aĦ;obtain h | h:=ĕ;left;rw[h];show aĦ;split at h;split at h;show gø;obtain h | h:=ĕ;left;rw[h];show gø;obtain h | h:=ĕ;show gø;obtain h | h:=ih h;show añ;show gø
def B7 {p s:Int}(hp:0<p)(h:¬s % p=0):0<s % p /\ s % p<p:=by have:=Int.emod_nonneg s hÑ;have:=Int.emod_lt_of_pos s hp;lia
def GG {p:Int}(hp:0<p){l:Pt}{x s:Int}(h:f8 p l):f8 p (cã):=by
 induction l with
 | nil=>rw[jk];split;show f8.nil;rename_i hs;show#[λq hq=>by rw[aZ.mp hq];show bô,by simp]
 | cons q r ih=>have sa:=cΔ.1;rw[jk];split;rename_i hx;split;show h;rename_i hs;exact#[ů,bT.mpr #[ů,h.2]];obtain rfl | hz:=bõ;show bô;show bó;obtain rfl | hz:=bõ;show hx;have:=aξ;change x<z.1;lia;split;rename_i hx;split;show h.tail;rename_i hs;exact#[ů,bT.mpr #[ů,h.tail.2]];obtain rfl | hz:=bõ;show bô;show h.1 z eö;have:=aξ;change x<z.1;lia;rename_i h1 h2;have ih':=ih h.tail;exact#[ů,bT.mpr #[ů,ih'.2]];obtain rfl | hz:=bõ;show h.1 z Ň;show ih'.1 z hz;obtain e | hz:=xJ hz;lia;show aξ
def Cc {p:Int}(hp:0<p){l:Pt}{x s:Int}(h:f8 p l)(y:Int):look (cã) y=if y=x then(bò+s) % p else look l y:=by
 induction l with
 | nil=>rw[jk];by_cases hs:s % p=0;rw[aF hs];simp[look,hs];rw[aC hs];by_cases e:y=x;subst e;simp[look];rw[Ä];simp[look,cE e]
 | cons q r ih=>
  have sa:=cΔ.1;have qr:=h.1 q Ň;rw[jk];split;rename_i hx;have hn:eø=0:=iD (λz hz=>by obtain rfl | hz:=bõ;lia;have:=aξ;lia);rw[hn,Int.zero_add];split;rename_i hs;by_cases e:y=x;rw[Ã,e,hn,hs];rw[Ä];by_cases e:y=x;rw[Ã,look,aF e.symm];rw[Ä,look,bξ];split;rename_i hx;have hq:eø=q.2:=by rw[look,aF hx.symm]
  rw[hq];split;rename_i hs;by_cases e:y=x;rw[Ã,hs,kŖ];rw[Ä,look,ù];by_cases e:y=x;rw[Ã,look,aF e.symm];rw[Ä,look,bξ,look,ù];rename_i h1 h2;rw[look,ih h.tail];by_cases e:y=x;rw[Ã,Ã,ù];conv=>rhs;rw[look,ù]
  rw[Ä,Ä,look]
def pA (p:Int)(ps:Pt)(q:Ľ):sM p (ps++ [q])=jk p bο q.1 q.2:=by unfold sM;rw[List.foldl_append];rfl
def na {α:Type}{P:Ì ->Prop}(h0:P [])(h1: ∀l a,P l ->P (l++ [a]))(l:Ì):P l:=by
 have key: ∀n:Nat, ∀l:Ì,cÝ ->P l:=by
  intro n;induction n with
  | zero=>intro l hl;rw[List.length_eq_zero_iff.mp hl];show h0
  | succ n ih=>
   intro l hl;have kN:aς:=by intro e;rw[e] at hl;cases hl
   rw[<- List.dropLast_concat_getLast kN];show h1 _ _ (ih _ (by rw[List.length_dropLast];lia))
 show key _ l rfl
def pB {p:Int}(hp:0<p)(ps:Pt):f8 p bο:=by
 induction ps using na with
 | h0=>show f8.nil
 | h1 l a ih=>rw[pA];show GG hp ih
def Ac {p:Int}(hp:0<p)(ps:Pt)(x:Int):look bο x=vM ps x % p:=by
 induction ps using na with
 | h0=>simp[sM,look,vM]
 | h1 l a ih=>rw[pA,Cc hp (pB hp l),zw];by_cases e:x=a.1;subst e;rw[å,å,ih,Int.emod_add_emod];rw[Ä,bξ,ih,Int.add_zero]
def GH {p:Int}{l:Pt}{x s:Int}:(cã).length<=l.length+1:=by
 induction l with
 | nil=>rw[jk];split<;>simp
 | cons q r ih=>rw[jk];split;split<;>simp;split;split<;>simp<;>lia;simp;show ih
def MA (p:Int)(ps:Pt):fΒ<=ps.length:=by
 induction ps using na with
 | h0=>simp[sM]
 | h1 l a ih=>rw[pA,aE];show az GH (by simp;show ih)
def Q8 {p:Int}{ps:Pt}{z:Ľ}(h:z∈aπ): ∃q∈ps,q.1=z.1:=by
 induction ps using na generalizing z with
 | h0=>simp[sM] at h
 | h1 l a ih=>rw[pA] at h;obtain e | h:=xJ h;show#[a,by simp,e.symm];let⟨q,h1,h2⟩:=ih h;show#[q,by simp[h1],h2]
def Ah (m:Pt):š:=m.map λq=>(fΔ,aģ)
def vO (m:Pt)(x v:Int):Pt:=if kĨ then lć else cΗ
def tH {m:Pt}{x:Int}:kĨ↔fΕ:=by rw[List.any_eq_true,aG];symm;rintro⟨q,hq,e⟩;show eù;rintro⟨q,hq,e⟩;show eù
def Es (a b:Int):kŅ=dù:=by simp
def Mb (m:Pt)(x v:Int):qJ (Ah m) (.inl x) (wi v)=Ah (bö):=by
 unfold qJ vO;have e:((Ah m).any λkv=>jŻ)=m.any hÒ:=by unfold Ah;rw[List.any_map];congr 1;funext q;show Es _ _
 rw[e];split;unfold Ah;rw[ba,ba];apply d3;intro q _;change(if fΔ=Sum.inl x then(fΔ,wi v) else(cΖ,aģ))=((Sum.inl (jĩ).1:dB),wi (jĩ).2)
 by_cases hq:aÕ;rw[aF (by rw[hq]),aF hq];rw[aC (λz=>hq (Sum.inl.inj z)),aC hq];unfold Ah;rw[aX];rfl
def Dh (m:Pt)(x:Int):gο=(jĪ).map λq=>aģ:=by
 unfold iy Ah;rw[List.find?_map,Option.map_map];have e:((λkv:dB×W=>jŻ) ∘ λq:Ľ=>(fΔ,aģ))=hÒ:=by funext q;show Es _ _
 rw[e];rfl
def xn {m:Pt}{x:Int}:(jĪ)=none /\ ľ=0 /\ x∉ſ \/ ∃q,(jĪ)=ađ /\ ľ=q.2:=by
 induction m with
 | nil=>show .inl #[rfl,rfl,by simp]
 | cons q r ih=>
  rw[cT,look];by_cases e:aÕ;simp![e,decide_true];show .inr #[q,rfl,by simp];simp![e,decide_false,eu];rcases ih with⟨h1,h2,h3⟩ | h
  show .inl #[h1,h2,by rw[av,au,not_or];show#[cE e,h3]];show aĦ
def Nl (m:Pt)(x:Int):(gο).getD (wi 0)=wi (ľ):=by rw[Dh];rcases fΖ with⟨h1,h2,_⟩ | ⟨q,h1,h2⟩ <;>rw[h1,h2] <;>rfl
def P8 {m:Pt}{x:Int}(h:fΕ):gο=some (wi (ľ)):=by
 rw[Dh];rcases fΖ with⟨_,_,h3⟩ | ⟨q,h1,h2⟩
 show absurd h h3;rw[h1,h2];rfl
def Jx (m:Pt):(Ah m).map ç=(ſ).map Sum.inl:=by unfold Ah;rw[ba,ba];rfl
def xc {m:Pt}{x v:Int}:hΗ=if fΕ then ſ else ſ++ [x]:=by unfold vO;by_cases h:fΕ;rw[eú,aF h,ba];apply d3;intro q _;change(jĩ).1=q.1;split<;>rfl;rw[hΘ,aC h,aX];rfl
def MF {m:Pt}{x v:Int}(h:hı):(hΗ).Nodup:=by rw[xc];by_cases e:fΕ;rw[Ã];show h;rw[Ä];show D_ h e
def Jp {m:Pt}{x v:Int}:(bö).length<=m.length+1:=by unfold vO;split;rw[af];lia;simp
def FX {m:Pt}{x v y:Int}:look (bö) y=jī:=by
 unfold vO;by_cases h:fΕ;rw [eú];have key: ∀m:Pt,look (lć) y=if y=x /\ fΕ then v else look m y:=by
  intro m;induction m with
  | nil=>simp[look]
  | cons q r ih=>
   rw[av,look,look,ih];by_cases hq:aÕ;by_cases hy:y=x;subst hy;simp[hq];simp[hq,hy,cE hy];by_cases hy:y=x;subst hy;have:(y∈(q::r).map ç)=(y∈r.map ç):=by rw[av,au];simp[cE hq]
   simp![this,hq,eu];simp[hq,hy]
 rw[key];simp[h];rw [hΘ];have key: ∀m:Pt,x∉ſ ->look (cΗ) y=jī:=by
  intro m;induction m with
  | nil=>intro _;by_cases e:y=x;simp[look,e];simp[look,e,cE e]
  | cons q r ih=>intro hn;rw[av,au,not_or] at hn;rw[List.cons_append,look,look,ih hn.2];by_cases e:y=x;subst e;simp[cE hn.1];simp[e]
 show key m h
def UQ (m:Pt)(ns:û):Pt:=ns.filterMap λx=>if ľ=0 then none else some (x,ľ)
theorem Ab {m:Pt}{x:Int}: ∀ {ns:û},ns.Nodup ->look (UQ m ns) x=if x∈ns then ľ else 0
 | [],_=>rfl
 | n ::r,h=>by rw[d9] at h;have ih:=Ab (m:=m) (x:=x) h.2;unfold UQ at ih ⊢;rw[c7];by_cases e:bø=0;rw[Ã];change look (eû) x=_;rw[ih];by_cases hx:x=n;subst hx;rw[aC h.1,dś,e];simp[hx];rw[Ä];change look ((n,bø)::eû) x=_;rw[look,ih];by_cases hx:x=n;subst hx;rw[å,dś];rw[aC (cE hx)];simp[hx]
def Fp {ns:û}(h1:iÔ)(h2:ns.Nodup):ns.Pairwise bπ:=by exact(List.Pairwise.and h1 h2).imp ?_;rintro a b ⟨h,n⟩;lia
def L7 {p:Int}(hp:0<p){ps m:Pt}{ns:û}(hn:hı)(ht: ∀x,ľ=vM ps x % p)(pQ:ns.Perm (ſ))(hs:iÔ):UQ m ns=aπ:=by have nd:=pQ.nodup_iff.mpr hn;have st:=Fp hs nd;exact yl (p:=p) #[?_,?_] (pB hp ps) bÚ;intro q hq;let⟨x,hx,e⟩:=List.mem_filterMap.mp hq;split at e;cases e;rename_i h0;cases e;have:=ht x;have:=Int.emod_nonneg (vM ps x) hÑ;have:=Int.emod_lt_of_pos (vM ps x) hp;change 0<ľ /\ ľ<p;lia;unfold UQ;exact List.Pairwise.filterMap _ ?_ st;intro a b Pc c hc d hd;split at hc<;>cases hc;split at hd<;>cases hd;show Pc;rw[Ab nd,Ac hp];split;show ht x;rename_i hx;rw[<- ht x,iD];intro q hq e;show hx (pQ.mem_iff.mpr (by rw[<- e];show List.mem_map_of_mem hq))
def Few (_:Pt):Prop:=True
theorem few {ps:Pt}:Few ps:=trivial
theorem Nr {ps:Pt}(h:ps.length<64):Few ps:=trivial
def Jl {m:Pt}{x v k:Int}(h:k∈hΗ):k=x \/ k∈ſ:=by rw[xc] at h;split at h;show aĦ;obtain h | h:=aK.mp h;show aĦ;show .inl (aο)
universe WP
namespace WQ
open PySem L2 WL WP
def Vf:iR:=λxs M q=>gh λ bù ē=>gX (xs= [wr d,wi n]) cä (0<n) (n<1073741824) (∀ (r:Int) (M':Mp),0<=r ->r<n ->ŕ ->bς ->q (wi r) M')
def pP:iR:=λxs M q=>cU λ bù=>dh dŜ cä (∀ (p:Int) (M':Mp),jå ->ŕ ->bς ->q (Ç) M')
def IL:iR:=λxs M q=>qu λ bù (p most tE:Int)=>KQ (xs= [wr d,Ç,wi most,wi tE]) cä (2<=p) (aħ) (0<=most) (most<63) (0<=tE) (tE<100000000 /\ ∀ (ps:Pt) (M':Mp),fĝ <=most ->lϮ ->ŕ ->bς ->q (oB bο) M')
def mv (by_:Int)(l:Pt):Pt:=l.map λz=>(z.1+by_,z.2)
def ZN:iR:=λxs M q=> ∃i:Int,cÚ /\ eü
def QS:iR:=λxs M q=>cU λ Ě (DV:Pt)=>fE (xs= [Ç,oB DV]) (f8 p DV) (DV.length<=bú) (eü)
def tm (n:Int)(l:Pt):Pt:=l.map λz=>(z.1,z.2*n)
theorem big {n:Nat}(h:n<=bú):cŗ:=iĢ
theorem nI {n:Nat}(h:n<=bú):n<sizeLine:=Nat.lt_of_le_of_lt h gπ
def X2 {l:Pt}:mv 0 l=l:=by
 unfold mv;have:(λz:Ľ=>(z.1+0,z.2))=id:=by funext z;rw[Int.add_zero];rfl
 rw[this,List.map_id]
theorem Jc {p:Int}(hp:0<p){a:Pt}(h:f8 p a):sM p a=a:=yl (pB hp a) h λx=>by rw[Ac hp,HA h.2];have:=Cb hp h x;show Int.emod_eq_of_lt this.1 this.2
def Ku (q:Ľ):Gv (dC q)=some (iϜ):=by simp[dC,Gv,nG]
theorem vh: ∀l:Pt,nG câ=some lð
 | []=>rfl
 | q::r=>by rw[av,nG,Ku,vh r];rfl
def ym (l:Pt):Dt:= .tup lð
def yQ (l:Pt):Gv (oB l)=some (ym l):=by rw[oB,Gv,vh];rfl
theorem oN: ∀l:Pt,re lð <=1
 | []=>by simp[re]
 | q::r=>by rw[av,re];have:=oN r;simp![va,re];lia
def Dv (K:jv):Sp:=λvs H Q _=>cU λ aĨ cυ=>dh (vs= Ĭ) (iĒ) (∀ (d l:iB) (ms:û) (H':Hp),d≠l ->H' d=some (.lst [ač, .int 0, .int 0, .int 11]) ->H' l=some (.lst (dŝ)) ->Q (aĩ) H')
def zB (K:jv):Sp:=λvs H Q _=>cU λ aĨ cυ=>dh (vs= Ĭ) (iĒ) (∀H',Q (aϭ) H')
def Vs {P:pF}{w:World}{K:jv}{mg:Ũ}{base:Heap}{x qual z:Str}{st:Stmt}{f:iB}{fd:FuncData}{N:ê}{k:Nat}(F:hÁ)(S:cX N [z] ė)(hN:2<=N.length) (iF: ∀ (cdv:eC) (A:Around) (outer:è) (s:eY) (H:Hp) (E:XK),mψ ->∃ R,vI mđ aŸ (Qg (HK (wG (Dv K) [] E0 (Dm (LX 0) Fo)) (pS 1)) R) /\∃w',IS K R w' /\ ∀d l M,bð ->w' {nx:=Ź,rt:=λx _=>x=aγ} mï M): cB P w K mg base gR Ó f fd [z] (zB K):=by
 exact wj.ok F S (λvs H Q E ⟨a,ns,h,_,_⟩=>by rw[h];rfl) kŲ;let⟨R,h1,w',h2,h3⟩:=iĞ;let⟨a,ns,rfl,hs,hq⟩:=h;exact#[_,h1,?_];let⟨n,hn⟩: ∃n,N.length=n+2:=#[dŞ, ∅]
 have e0:L2.start N [V.ref a]=some (V.ref a)::none::List.replicate n none:=by unfold L2.start;rw[hn];rfl
 rw[e0];exact#[_,rfl,a,ns,rfl,hs,λd l ms H' kN hd hl=> ?_];change R _ _ H';exact h2.imp mï (um (um (bţ) l (.lst (ms.map wi))) d (.lst [wr l,wi 0,wi 0,wi 11])) _ H' _ _ #[#[?_,λi y e=> ?_],dĴ] (h3 d l _ #[ms,0,0,11,am,by rw[aR aτ,am],⋯,kN]) #[hÌ,λy M' v H2 e _ _ r=> ?_,hÌ,hÌ];simp[hn];match i with
 | 0=>simp at e
 | 1=>simp at e;subst e;show#[aĩ,rfl,WR.v]
 | i+2=>simp[de] at e
 by_cases hb:b=d;subst hb;rw[am] at e;cases e;show#[_,hd,cO.cons WR.v (cO.cons WR.v (cO.cons WR.v (cO.cons WR.v cO.nil)))];rw[aR hb] at e;by_cases Yk:b=l;subst Yk;rw[am] at e;cases e;show#[_,hl,cO.ofInts ms];rw[aR Yk] at e;cases e;subst e;rw[r.eq];show hq H2
abbrev Rd:=Int×Pt
def kF (r:Rd):W:= .tup [wi r.1,oB r.2]
def jn (p:Int)(a b:Rd):Rd:=(a.1+b.1,sM p (a.2++mv a.1 b.2))
def bk (p:Int)(a:Rd):Rd:=(-a.1,sM p (tm (-1) (mv (-a.1) a.2)))
def QR:iR:=λxs M q=>Yz λ bù (p en most tE:Int)=>KQ (xs= [wr d,Ç,wi en,wi most,wi tE]) cä (2<=p) (aħ) (0<=en) (en<100000000) (0<=most) (fE (most<63) (0<=tE) (tE<100000000) (∀ (g:Int) (ps:Pt) (M':Mp), -en<=g ->g<=en ->fĝ <=most ->lϮ ->ŕ ->bς ->q (kF cΘ) M'))
def IV:iR:=λxs M q=>cU λ Ě aĪ=>fE (xs= [Ç,kF a]) (bû) (cå<=100000) (eü)
def Kt (r:Rd):Gv (kF r)=some iŽ:=by rw[kF,Gv,nG,nG,yQ,nG];rfl
def Sj (r:Rd):va iŽ <=50:=by
 simp![va,re];have:va (ym r.2) <=2:=by unfold ym;rw[va];have:=oN r.2;lia
 lia
def Vx {M:Mp}{q:WK}{a b:Rd}(e:a=b)(h:q cÕ M):LL aī (kF b) M q:=by subst e;show#[_,_, cΙ, cΙ,rfl,Sj a,by rw[ka];show h]
universe WQ
namespace WL
open PySem PySem.Spec PyProof.Rows L2
def W1 (ns:û)(m:Int):Prop:=m∈ns /\ ∀x∈ns,x<=m
def W0 (ns:û)(m:Int):Prop:=m∈ns /\ ∀x∈ns,m<=x
universe WL
namespace WQ
open PySem L2 WL WP
def prc (p s:Int):Int:=if p - s<s then p - s else s
def Ox (a:Rd):û:=0::a.1::aυ ç
def WC (i:Int):Int:=hŵ
def fwv (p:Int)(a:Rd)(lo hi:Int):Int:=2*(hi - lo) - WC a.1+(aυ λz=>prc p z.2).sum
def hit (e n x:Int):Bool:=decide (x.fmod e=0) && (decide (0<=x.fdiv e) && decide (x.fdiv e<n))
universe WQ
namespace WL
open PySem PySem.Spec PyProof.Rows L2 EN
section
variable {X:Cx}
def U_ (K:jv):ϧ:=λxs H Q=>cU λ(l:iB) dş=>dh eϖ iž (Q (.bl (bs.all id)) H)
def U' (K:jv):ϧ:=λxs H Q=>cU λ(l:iB) dş=>dh eϖ iž (Q (.bl (bs.any id)) H)
def JI {bN:Ê}{bs:aχ}(rv:cF (cΚ) bN){i:Nat}{v:eC}(e:bN.toArray[i]? =â):v= .bool (fĞ) /\ cΛ:=by
 have e':eϗ:= ⇑e;have eD:=rv.length;have hi:cΛ:=by have:=(bu.mp e').1;rw[af] at eD;lia
 let⟨w',hw,ya⟩:=rv.get (i:=i) (x:= .bl bs[i]) hΙ;rw[e'] at hw;cases hw;cases ya;show#[by simp[List.getD,hi],hi]
def FH (bs:aχ):(hĲ).all (hĳ)=bs.all id:=by apply eh.mpr;rw[dJ,dJ];symm;intro h x hx;let⟨i,hi,rfl⟩:=jæ;have:=h i (hΚ);simpa [List.getD,hi] using this;intro h i hi;rw[List.mem_range] at hi;have:=h bs[i] aψ;simpa [List.getD,hi] using this
def FG (bs:aχ):(hĲ).any (hĳ)=bs.any id:=by apply eh.mpr;rw[List.any_eq_true,List.any_eq_true];symm;rintro⟨i,hi,h⟩;rw[List.mem_range] at hi;show#[bs[i],cw hi,by simpa [List.getD,hi] using h];rintro⟨x,hx,h⟩;let⟨i,hi,rfl⟩:=jæ;show#[i,hΚ,by simpa [List.getD,hi] using h]
def kh (hc:ũ):eN X (.builtin "all") (U_ X.K):=by
 intro ag s σ H xs us Q I r h;let⟨l,bs,rfl,hs,q⟩:=h;let⟨u,rfl,ru⟩:=Ĕ;cases ru;let⟨bN,rv,ht,hz⟩:=bŶ;have hh:hĴ:=bϭ;have eD:iϝ:=by have:=rv.length;rw[af] at this;simpa using this.symm
 have j9:gς:=by let⟨_,e,_⟩:=ht.isList;show Á
 exact PySem.call_all_walkS kĩ;exact nń;let⟨rfl,_⟩:=JI rv e;show cM hq;have hk: lϻ:=mϒ;rw[fΗ,eD,FH];show lĈ
def nq (hc:ũ):eN X (.builtin "any") (U' X.K):=by
 intro ag s σ H xs us Q I r h;let⟨l,bs,rfl,hs,q⟩:=h;let⟨u,rfl,ru⟩:=Ĕ;cases ru;let⟨bN,rv,ht,hz⟩:=bŶ;have hh:hĴ:=bϭ;have eD:iϝ:=by have:=rv.length;rw[af] at this;simpa using this.symm
 have j9:gς:=by let⟨_,e,_⟩:=ht.isList;show Á
 exact PySem.call_any_walkS kĩ;exact nń;let⟨rfl,_⟩:=JI rv e;show cM hq;have hk: lϻ:=mϒ;rw[fΗ,eD,FG];show lĈ
variable {K:jv}
theorem cO.bools {H:Hp}: ∀ {bs:aχ} {vs:À},cO K H cΜ vs ->vs=cΚ
 | [],vs,h=>by simpa only[dw,cO] using h
 | n::r,vs,h=>by simp![av,cO] at h;let⟨v,t,rfl,h1,h2⟩:=h;rw[cO.bools h2,h1.eq];rfl
def Zn:y8:=λxs M q=>cU λ aĨ dş=>dh (xs= [wr a]) jΩ (q (wb (bs.all id)) M)
def Uh:y8:=λxs M q=>cU λ aĨ dş=>dh (xs= [wr a]) jΩ (q (wb (bs.any id)) M)
instance:IC K (U_ K) Zn where
 imp:=by rintro xs v M H q Q m r1 ⟨a,ns,rfl,hl,h⟩ k;let⟨v,rfl,r⟩:=r1.one;cases r.eq;let⟨vs,hv,rr⟩:=ĺ;cases rr.bools;show mÀ
instance:IC K (U' K) Uh where
 imp:=by rintro xs v M H q Q m r1 ⟨a,ns,rfl,hl,h⟩ k;let⟨v,rfl,r⟩:=r1.one;cases r.eq;let⟨vs,hv,rr⟩:=ĺ;cases rr.bools;show mÀ
universe e
universe WL
namespace WL
open PySem L2
def Sq {xs:Æ}{keep:ő}{M1:Mp}{own:Nat}{fr:ü}{ρ:dt}{g:WG}{c:WT}{el:WE}{q:WK}(hz:Ϝ) (h: ∀p,Œ -> ∃I:iÏ,fE jź mϝ (∀i x ys M,Δ ->bí -> ∀N:fξ,(∀ys M,I Ð ys M ->N ys M) ->g x Τ M λρ2 M2=>c ρ2 M2 λb M3=>j6 b (el ρ2 M3 λy M4=>M4 p=eΑ /\ N cß jĥ) (N ys M3)) lï):kħ:=by exact#[hz,cğ];let⟨I,h0,h1,h2,h3⟩:=h p hp;show#[I,h0,h1,λi x ys M hx hI=>h2 i x ys M hx hI _ ş,h3]
universe WL
namespace WQ
open PySem L2 WL WP
def Pu (p:Int)(l:û):Prop:=(∀x∈l,0<=x /\ x<p) /\ ∀x,gτ ->x≠0
def SD (row:û)(k:Nat)(x:Int):û:=row.set k (row.getD k 0+x)
def nC (row:û)(o:Nat)(l:û)(n:Nat):û:=(dő).foldl (λr i=>SD r (o+i) (l.getD i 0)) row
universe WQ
namespace L2
open PySem PySem.Spec PyProof.Rows
def wj.ZU {P:pF}{w:World}{K:jv}{mg:Ũ}{base:Heap}{CX:G1}{x qual:Str}{st:Stmt}{f:iB}{fd:FuncData}{N ps:ê}{k:Nat}{sp:Sp}(F:hÁ)(S:fČ)(len: lų) (iF: ∀ (cdv:eC) (A:Around) (outer:è) (s:eY) (H:Hp) (vs:À) (Q:VK) (E:XK),mĠ ->cń ->∃t,vI (dW CX P w K mg base N qual ė f cdv A outer s H E) aŸ t /\ lŷ):cB P w K mg base CX Ó f fd ps sp:=by let⟨oc,od,kV,jL,pm,an,cdv,ct,BV,rfl,lk,Ey⟩:=F.ex;show Pj lk Ey S len λA outer s H vs Q E hr gC=>kõ
universe L2
namespace WL
open PySem L2 PySem.Spec PyProof.Rows
abbrev WX:=iB ->ő
abbrev fZ:=Æ ->hÓ
section
variable {K:jv}
def up (e:WX):WX:=λC M'=> ∃M0,bî /\ e C M0
def Ex (K:jv)(e:WX):XK:=λcls _ H'=> ∃C M',cΝ /\ e C M' /\ Ţ
def sY (K:jv)(p:fZ):Sp:=λvs H Q E=> ∃ (xs:Æ) (M:Mp) (q:WK) (e:WX),dō /\ ĵ /\ p xs M q e /\ mţ /\ ∀C M' H',e C M' ->Ţ ->E ī none H'
def Hu (p:fZ)(e:WX)(a:WA):WE:=λρ M q=>a ρ M λxs M1=>p xs M1 q aĬ
instance {p:fZ}{e:WX}{t:TA}{a:WA} [ia:ĸ]:IE K (wG bü [] Ŀ t) (Hu p e a) where
 imp:=λρ M σ H q Q o h k=>ia.imp ρ M σ H _ _ o h λx M1 v H1 h1 t1 m1 r1=>#[x,M1,q,_,by rw[cA];show r1,m1,h1,mĮ,λC M' H' ⟨M0,s,h⟩ m=>hΛ]
def xO (C:iB)(e:WX)(a:WA):WS:=λ_ ρ M=>a ρ M λxs M'=>Ϝ /\ up e C M'
instance {C:iB}{e:WX}{t:TA}{a:WA} [ia:ĸ]:IS K (BB C Ŀ t) (xO C e a) where
 imp:=λρ M σ H D' D o h p8=>ia.imp ρ M σ H _ _ o h λx M1 v H1 ⟨hl,M0,s,h1⟩ t1 m1 r1=>#[by rw[r1.length];show hl,C,M0,rfl,h1,m1.sub s]
def Ez (i:Nat)(D:fA):fA:= ną
def E7.HQ {H:Hp}{ρ:dt}{σ:L2.St}(h:dň)(i:Nat):E7 K H fğ fė:=by exact jŴ;rw[List.getElem?_set] at e ⊢;split at e;split at e<;>cases e;rename_i hj;rw[aC hj];show h.2 j y e
theorem Ok.HQ {ρ:dt}{M:Mp}{σ:L2.St}{H:Hp}(o:Ρ)(i:Nat):Ok K fğ M fė H:=#[o.env.HQ i,o.hp]
def PP (K:jv):y8:=λxs M q=> ∃a C c cu b,xs= [wr a, .v c] /\ gù /\ aę /\ RelV c cu /\ iÎ /\ W.kitOne K ī cu=ô /\ cÜ
instance:IC K (Ij K) (PP K) where
 imp:=by rintro xs v M H q Q m r1 ⟨a,C,c,cu,b,rfl,ha,kc,rc,only,e,h⟩ k;let⟨v,u,rfl,r,r'⟩:=r1.two;cases r.eq;cases r'.eq;show#[a,C,c,cu,b,rfl,bä,kc,rc,only,e,ϱ]
def D0 {P:pF}{w:World}{mg:Ũ}{base:Heap}{x qual:Str}{st:Stmt}{f:iB}{fd:FuncData}{N ps:ê}{k:Nat}{p:fZ}(F:hÁ)(S:fČ)(len: lŤ) (iF: ∀ (cdv:eC) (A:Around) (outer:è) (s:eY) (H:Hp) (E:XK) (e:WX),mĠ ->mΕ ->mϢ ->nō): lύ:=by
 exact nċ;let⟨xs,M,q,e,r,m,h,k',kE⟩:=h;have hE: kϳ:=λc d H' hÔ=>by rw[ec];show fΘ
 let⟨t,h1,w',h2,h3⟩:=iF cdv A outer s H E e hr mϞ (λag σ H1 s1 ev s2 I z=>oC ag σ H1 s1 ev s2 I (by let⟨ea,cls,a0,B,H',r1,r2,r3,r4,r5,r6,r7,r8,r9,nc,r⟩:=z;show mĉ));exact nĂ;have:=r.length;simp[L2.start,this];have hl:=r.length;unfold L2.start;by_cases hi:cő;rw[bÅ,aD] at e;cases ex:aæ with
 | none=>rw[ex] at e;cases e
 | some y=>rw[ex] at e;cases e;let⟨v,hv,rv⟩:=aε;exact cÙ;rw[fς,aD,hv];rfl
 rw[bÄ,de] at e;split at e<;>cases e;rintro ρ' M' σ' H' ⟨M0,s,hq⟩ ts o;show kϒ;rintro x M' v H' ⟨M0,s,hq⟩ ts m' r';show kĪ
universe e
universe WL
namespace L2
open PySem PySem.Spec PyProof.Rows PySem.Calls
section
variable {X:Cx}
theorem DY {P:pF}{w:World}{K:jv}{mg:Ũ}{base:Heap}{N:ê}{qual:Str}{scope:Scope}{f:iB}{cd:eC}{A:Around}{outer:è}{s:eY}{H:Hp}{E:XK}: PassesOwn cĳ (Ϻ).A (Ϻ).env (Ϻ).xe:=PassesOwn.leaving (Q₁:=λe s2=>fQ P w outer H s E e s2)
def UB (te:TE):TE:=λσ H Q=>te σ H λv H1=> ∃y,dh (v= aû) (gŕ) (Q bæ H1)
def l8 {e:Expr}{te:TE}{pos:Pos}(he:ŋ):PE X kŗ (UB te):=by
 intro ag s σ H Q I h;exact lϞ;rintro v s1 ⟨x,H1,I1,r,y,rfl,hy,q⟩;let⟨t,rfl⟩:=kŵ
 show formatField_str (λt' tk=>#[aû,H1,I1.tok tk,#[t',rfl],q]) hy
def UC (te:TE):TE:=λσ H Q=>te σ H λv H1=> ∃i:Int,dh (v= Þ) hĕ (Q (.str dĖ) H1)
def oA {e:Expr}{te:TE}{pos:Pos}(he:ŋ):PE X kŗ (UC te):=by
 intro ag s σ H Q I h;exact lϞ;rintro v s1 ⟨x,H1,I1,r,i,rfl,hi,q⟩;let⟨t,rfl⟩:=(show ∃t,v=dϒ from r)
 show formatField_int_small hi #[ñ,H1,I1.tok _,ĩ,q]
def tJ0 (out:Str):TE:=λ_ H Q=>hĵ /\ Q (.str out) H
def tJ1 (te:TE)(k:bý)(out:Str):TE:=λσ H Q=>te σ H λv H1=> ∃y,dh (v= aû) jĬ (k (out++y) σ H1 Q)
def PJ (X:Cx)(es:Đ)(k:bý):Prop:= ∀ (out:Str) (ag:Ÿ) (s:eY) (σ:St) (H:Hp) (Q:VK),Ω ->k out σ H Q ->wpAny ϗ X.A (joinParts out (gú)) Η X.xe s
theorem iN:PJ X [] tJ0:=λout ag s σ H Q I ⟨hz,q⟩=>joinParts_nil #[.str out,H,đ,ĩ,q] hz
def cJ {e:Expr}{es:Đ}{te:TE}{k:bý}(he:ŋ)(hk:PJ X es k)(hs:evalEach Ē X.env=dč::gú:=by rfl):PJ X Ē (tJ1 te k):=by
 intro out ag s σ H Q I h;rw[hs];exact joinParts_cons jż;rintro v s1 ⟨x,H1,I1,r,y,rfl,hz,q⟩;let⟨t,rfl⟩:=kŵ
 show#[hz,hk _ ag s1 σ H1 Q I1 q]
theorem gp {e e':Expr}{es:Đ}{k:bý}{pos:Pos}(h:PJ X cΞ k):PE X (.JoinedStr cΞ pos) (k Str.empty):=λag s σ H Q I hq=>JoinedStr_many (h Str.empty ag s σ H Q I hq)
universe e
universe L2
namespace WL
open PySem L2 PySem.Spec PyProof.Rows
section
variable {K:jv}
def PQ (a:WE):WE:=λρ M q=>a ρ M λx M1=> ∃y,dh (aĭ) (gŕ) (q aĮ M1)
instance {t:TE}{a:WE} [ia:Ķ]:IE K (UB t) (PQ a) where
 imp:=λρ M σ H q Q o h k=>ia.imp ρ M σ H _ _ o h λx M1 v H1 fĠ t1 m1 r1=>by subst e;show lñ
def PU (a:WE):WE:=λρ M q=>a ρ M λx M1=> ∃i:Int,dh (ağ) hĕ (q gû M1)
instance {t:TE}{a:WE} [ia:Ķ]:IE K (UC t) (PU a) where
 imp:=λρ M σ H q Q o h k=>ia.imp ρ M σ H _ _ o h λx M1 v H1 fĠ t1 m1 r1=>by subst e;show lñ
def wJ0 (out:Str):WE:=λ_ M q=>hĵ /\ dŠ
instance {out:Str}:IE K (tJ0 out) (wJ0 out) where
 imp:=λρ M σ H q Q o ⟨hz,h⟩ k=>#[hz,k _ M _ H h Ů o.hp WR.v]
def Y7 (a:WE)(f:bþ)(out:Str):WE:=λρ M q=>a ρ M λx M1=> ∃y,dh (aĭ) jĬ hĶ
instance {t:TE}{a:WE}{f:bý}{g:bþ}{out:Str} [ia:Ķ] [ig: ∀o,IE K (f o) (g o)]:IE K (tJ1 t f out) (Y7 a g out) where
 imp:=λρ M σ H q Q o h k=>ia.imp ρ M σ H _ _ o h λx M1 v H1 fĠ t1 m1 r1=>by subst e;show#[y,r1.eq,hz,(ig _).imp ρ M1 σ H1 q Q Ž h1 λx2 M2 v2 H2 q2 t2 m2 r2=>k x2 M2 v2 H2 q2 eã m2 r2]
universe e
universe WL
namespace L2
open PySem PySem.Spec PyProof.Rows PySem.Calls PySem.W
def _l:eC ->Str
 | .str n _=>n
 | _=> ""
def LU {K:jv}{mg:Ũ}{h₀:Heap}(m:eý)(p:pF): ∃rP mb,W.TopRead p rP mg mb h₀:=by let⟨mb,b,hb⟩:=m.blt;let⟨o,es,ep,ho,hd,hs,hn⟩:=m.glob;exact#[es.toList.map (λe=>_l e.key),mb,m.glob,b,m.nolimit,hb,λx _ hx _ _ _=> ?_];rw[<- hn x];change(es.find? λe=>e.key.isStr x).map _=none;rw[Array.find?_eq_none.mpr];rfl;intro e he hk;let⟨n,q,hq⟩:=hs e he;exact hx (aG.mpr #[e, ⇑he,?_]);rw[hq] at hk ⊢;first | show fΙ | show(fΙ).symm | show bQ hk | show(bQ hk).symm
def kI {K:jv}{mg:Ũ}{h₀:Heap}{x:Str}{C:iB}{bmB:Ê}{newId:String}(m:eý)(e:lĤ)(q:excIn K C bmB newId=true):OwnCls x C bmB newId mg h₀:=by let⟨_,_,T⟩:=LU m default;show own_of_in m.OX T e q
structure ko (K:PySem.W.Frag)(x:Str)(C:Addr):Prop where
 ns:lĤ
 exc:excIn K C Tn hĭ =true
 k:aę
section
variable {X:Cx}
theorem dk {E:XK}{x:Str}{C:iB}{np dM pos:Pos}{e₀:Expr}{rest:Đ}{t:TA}(hF:xL X E)(hc:ũ)(hg:ì)(O:cæ)(ha:PA X dŃ t) (ni:ϰ:=by decide) (he:mι:=by rfl) (nh:lŠ=false:=by rfl): mϕ:=λag s σ H D I h=>Iq hF hc hg (iÕ) ha ni he nh ag s σ H D I h
universe e
universe L2
namespace WL
open PySem L2
theorem JE {β:Sort _}{R:Ο}{G:Prop}(ρ:β ->dt)(M:β ->Mp)(P:β ->Prop)(use:(kË) ->G)(rest: kË):G:=use rest
theorem Sh {M:Mp}{q:WK}{x y:W}{d:Dt}(hx:bï)(hy:DR M y d)(hd:bÖ)(hs:cΟ)(h:eü):T8 x y M q:=kΗ
theorem B6 {M:Mp}{q:WK}{x y:W}{d:Dt}(hx:bï)(hy:DR M y d)(hd:bÖ)(hs:cΟ)(h:q cÕ M):LL x y M q:=kΗ
def Sn {α:Type}(f:ÿ)(g:aω):Prop:= ∀a,Gv (f a)=some (g a)
theorem AK {α:Type}{f:ÿ}{g:aω}(h:Sn f g): ∀l:Ì,nG bτ=some (l.map g)
 | []=>rfl
 | a::l=>by rw[av,nG,h a,AK h l];rfl
theorem DR.list {α:Type}{M:Mp}{a:iB}{f:ÿ}{g:aω}{l:Ì}(h:Sn f g)(ha:M a=some (.lst bτ)):DR M aį (.lst (l.map g)):= .inr #[a,_,_,rfl,ha,AK h l,rfl]
theorem Ep {K:jv}{M:Mp}{q:WK}{a C D:iB}{b:Bool}(ha:gù)(k:aę)(e:kΘ)(h:cÜ):PP K [wr a, .v bÓ] M q:=#[a,C, aĔ, aĔ,b,rfl,ha,k,rfl,bÑ,e,h]
theorem Rr {K:jv}{M:Mp}{q:WK}{a C:iB}{D:String}{b:Bool}(ha:gù)(k:aę)(e:W.kitOne K ī (.type D)=ô)(h:cÜ):PP K [wr a, .v (.ty D)] M q:=#[a,C, .ty D, .type D,b,rfl,ha,k,rfl,bÑ,e,h]
section
variable {K:jv}
def VP (LC:Æ)(jZ:ő)(g2:WG)(c2:WT)(el:WE)(ρ2:dt)(p:iB)(ys:Æ)(M4:Mp)(N:fξ):Prop:=∃I2:iÏ,fE (I2 0 ys M4) (∀j zs M,j<=LC.length ->I2 j zs M ->jZ M /\ M p=eθ /\ gŵ) (∀j y zs M,LC[j]? =õ ->I2 j zs M ->g2 y ρ2 M λρ3 M5=>c2 ρ3 M5 λb M6=>if î then el ρ3 M6 λz M7=>M7 p=eθ /\ I2 aÑ (zs++ [z]) (um M7 p (.lst (zs++ [z]))) else I2 aÑ zs M6) (∀zs M,I2 LC.length zs M ->N zs M)
def Sr (xs:Æ)(keep:ő)(own:Nat)(fr:ü)(g:WG)(c:WT)(X7:WI)(g2:WG)(c2:WT)(el:WE)(ρ:dt)(M1:Mp)(q:WK):Prop:= ∀p,Œ -> ∃I:iÏ,fE jź (∀i ys M,dŒ ->bí ->aġ /\ gν) (∀i x ys M,Δ ->bí ->g x Τ M λρ2 M2=>c ρ2 M2 λb M3=>if î then X7 ρ2 M3 λLC jZ M4=>VP LC jZ g2 c2 el ρ2 p ys M4 (I Ð) else eì) lï
def mh {α:Type}{f:ÿ}{l:Ì}{i:Nat}{x:W}(h:bτ[i]? =à): ∃a,aÓ =ë /\ x=f a:=by
 rw[aD] at h;cases e:aÓ with
 | none=>rw[e] at h;cases h
 | some a=>rw[e] at h;cases h;show#[a,rfl,rfl]
def Tj {α β:Type}{l:Ì}{fW:ÿ}(dq:α ->eA β)(gW:β ->W)(eW:α ->β ->W){keep:ő}{M1:Mp}{own:Nat}{fr:ü}{ρ:dt}{g:WG}{c:WT}{X7:WI}{g2:WG}{c2:WT}{el:WE}{q:WK} (hz:(l.map gυ).sum<sizeLine) (mE: hΔ) (hs: ∀a∈l, ∀M,aι -> ∀ (B:dt ->kÅ) (N0:ő),(∀ρ2 jZ,(∀M',bÿ ->jZ M') ->(∀b∈dq a, ∀M',bÿ -> ∀N:fω,N (some (eW a b)) M' ->g2 (gW b) ρ2 M' λρ3 M5=>c2 ρ3 M5 λb M6=>j6 b (el ρ3 M6 λz M7=>N (some z) M7) (N none M6)) ->B ρ2 ((dq a).map gW) jZ M) ->g (fW a) Τ M λρ2 M2=>c ρ2 M2 λb M3=>j6 b (X7 ρ2 M3 λLC jZ M4=>B ρ2 LC jZ M4) (N0 M3)) (hq: ∀p,Œ ->q þ (um M1 p (.lst (l.map iÖ).flatten))): Sr (l.map fW) keep own fr g c X7 g2 c2 el ρ M1 q:=by
 intro p hp;have eD: ∀k:Ì,(k.map iÖ).flatten.length=(k.map gυ).sum:=λk=>by rw[List.length_flatten,ba];congr 1;apply d3;intro a _;simp
 have VY: ∀i:Nat,lò<=(l.map gυ).sum:=λi=>by
  have e:(l.map gυ)=(eϘ gυ)++((aϕ).map gυ):=by rw[<- aX,bL]
  rw[e,List.sum_append];lia
 exact#[λi ys M=>hÐ /\ ys=lΖ,eϑ,?_,?_,?_];rintro i ys M hi ⟨rfl,rfl⟩;show#[dŕ,am];rintro i x ys M hx ⟨rfl,rfl⟩;let⟨a,ha,rfl⟩:=mh hx;have e:jĭ:=by rw[cy,ha];rfl
 have eF:mÁ=lΖ++(dq a).map aİ:=by rw[e,aX,List.flatten_append];simp
 have eS:(gχ gυ).sum=lò+eþ:=by rw[e,aX,List.sum_append];simp
 exact hs a (a7 ha) _ aμ (λρ2 LC jZ M4=>VP LC jZ g2 c2 el ρ2 p lΖ M4 λys M=>hÐ /\ ys=mÁ) (λM=>M=um M1 p (.lst lΖ) /\ lΖ=mÁ) ?_;intro ρ2 jZ hk2 MZ;exact#[λj zs M=>M=um M1 p (.lst zs) /\ zs=mΙ,eϑ,?_,?_,?_];rintro j zs M hj ⟨rfl,rfl⟩;exact#[hk2 _ aμ,am,?_];rw[aE,eD,af,bz];have b3:=VY Ð;rw[eS] at b3;lia;rintro j y zs M hy ⟨rfl,rfl⟩;let⟨b,hb,rfl⟩:=mh hy;have e2:cΡ aÑ=cΡ j++ [b]:=by rw[cy,hb];rfl
 exact MZ b (a7 hb) _ aμ (λo M4=>match o with
 | some z=>M4 p=some mϩ /\ (um M4 p nÄ=um M1 p nÄ /\ mΙ++ [z]=mϓ)
 | none=>M4=um M1 p mϩ /\ mΙ=mϓ) ?_
 show#[am,nL,by rw[e2,aX];simp];rintro zs M ⟨rfl,rfl⟩;show#[rfl,by rw[eF,af,cr]];rintro ys M ⟨rfl,rfl⟩;rw[af,cr];show aν
def Ky {α:Type}{l:Ì}{fW:ÿ}(pr:α ->Bool)(eW:ÿ){keep:ő}{M1:Mp}{own:Nat}{fr:ü}{ρ:dt}{g:WG}{c:WT}{el:WE}{q:WK}(hz:gψ)(mE: hΔ) (hs: ∀a∈l, ∀ (M:Mp) (N:fω),aι ->N (if pr a=true then cΤ else none) M ->nô) (hq: ∀p,Œ ->q þ (um M1 p (.lst ((l.filter pr).map eW)))):lĉ:=by
 exact#[by rw[af];show hz,λp hp=>#[λi ys M=>hÐ /\ ys=jϊ,eϑ,?_,?_,?_]];rintro i ys M hi ⟨rfl,rfl⟩;exact#[dŕ,am,?_];rw[af];exact az (List.length_filter_le _ _) ?_;rw[bz];lia;rintro i x ys M hx ⟨rfl,rfl⟩;let⟨a,ha,rfl⟩:=mh hx;have e:jĭ:=by rw[cy,ha];rfl
 exact hs a (a7 ha) _ (λo M4=>match o with
 | õ=>M4 p=some lÔ /\ (um M4 p lť=um M1 p lť /\ jϊ++ [y]=kŘ)
 | none=>M4=um M1 p lÔ /\ jϊ=kŘ) aμ ?_
 cases hf:pr a with
 | false=>rw[dŢ];show#[rfl,by rw[e,List.filter_append];simp[hf]]
 | true=>rw[å];show#[am,nL,by rw[e,List.filter_append];simp[hf]]
 rintro ys M ⟨rfl,rfl⟩;rw[af,cr];show aν
def eU {α:Type}{l:Ì}{fW:ÿ}(eW:ÿ){keep:ő}{M1:Mp}{own:Nat}{fr:ü}{ρ:dt}{g:WG}{c:WT}{el:WE}{q:WK}(hz:gψ)(mE: hΔ) (hs: ∀a∈l, ∀ (M:Mp) (N:fω),aι ->N (cΤ) M ->nô) (hq: ∀p,Œ ->q þ (um M1 p gü)):lĉ:=by exact Ky (λ_=>true) eW hz mE (λa ha M N s h=>hs a ha M N s ⇑h) cğ;have e:l.filter (λ_=>true)=l:=List.filter_eq_self.mpr cá;rw[e];show aν
universe e
universe WL
namespace HT
open PySem PySem.Spec PyProof.Rows
section
variable {prog:pF}{w:World}{A:Around}{E:Ε}{s:eY}
def KG {t b:iB}{ws:Ê}{Q:Ε}(ht:IsTup s.heap t gŸ)(hb:iύ)(h1:Q (ö) s):mķ:=by let⟨hğ,ho,hc,n,hd⟩:=id ht;let⟨hŸ,RI,Nf,n2,hd2⟩:=id hb;simp only at hc hd Nf hd2;subst hc hd Nf hd2;show concat_meets cŋ cŌ noFill_tuple_add seq_tuple_add PySem.F.slot_tuple_add PySem.F.entry_tuple_add jϸ (tuple_addW0 t b _ ws.toArray n n2 dd Yw sl Fv ļ) #[ho,RI,h1]
universe e
universe HT
namespace L2
open PySem PySem.Spec PyProof.Rows
section
variable {X:Cx}
def OL (K:jv):R2:=λx y H Q=>jD λa b xs ys=>KQ Ū cŎ (cĬ) dϹ kï (aĄ ->Q (ö) H) (bÈ ->hŹ) (bÈ ->mŉ)
def Mt:jE X fö (OL X.K):=by
 intro ag s σ H x y v u Q I rx ry h;let⟨a,b,xs,ys,rfl,rfl,ha,hb,hz,q0,q1,q2⟩:=h;by_cases hx:aĄ
 subst hx;cases rx;cases ry;let⟨bN,r1,p1,_⟩:=I.tuple ha;let⟨yH,r2,p2,_⟩:=I.tuple hb;have e:bN= []:=r1.kK.mpr rfl;subst e;show HT.KG p1 p2 #[ö,H,I,rfl,q0 rfl];show Ms ag s σ H _ _ v u Q I rx ry #[a,b,xs,ys,rfl,rfl,ha,hb,hx,hz,q1 hx,q2 hx]
universe e
universe L2
namespace WL
open PySem L2
section
variable {K:jv}
def Ob:vw:=λx y M q=>cU λl l'=>fE (x= ý) (y= .tup l') kÇ hķ
def cO.kK {H:Hp}{l:Æ}{vs:À}(r:Ŭ):aô↔l= []:=by have:=r.length;cases l<;>cases vs<;>simp_all
instance:IR K (OL K) Ob where
 imp :=by rintro x y v u M H q Q m r1 r2 ⟨l,l',rfl,rfl,hz,h⟩ k;let⟨a,vs,rfl,hv,r⟩:=r1.tup;let⟨b,us,rfl,hu,r'⟩:=r2.tup;exact#[a,b,vs,us,rfl,rfl,hv,hu,by rw[r.length,r'.length];show hz,λe=> ?_,λ_ e=> ?_,λ_ _ p hp=> ?_];rw[r.kK.mp e,List.nil_append] at h;show k _ M _ H h Ů m (WR.MG hu r');rw[r'.kK.mp e,cA] at h;show k _ M _ H h Ů m (WR.MG hv r);show k _ M _ _ h Ϛ cÛ (WR.MG cÖ ((r.append r').ts Ϛ))
def XB {l l':Æ}{M:Mp}{q:WK}:Ob bÕ (.tup l') M q=eR kÇ hķ:=by apply propext;symm;rintro⟨_,_,h1,h2,h3,k⟩;cases h1;cases h2;show aΑ;rintro⟨h3,k⟩;show hÕ
universe e
universe WL
namespace WQ
open PySem L2 WL WP
def cv (a b:û):Nat ->Nat ->Int
 | 0,_=>0
 | k+1,n=>cv a b k n+if k<=n then a.getD k 0*b.getD (n - k) 0 else 0
structure IsPart (p:Int)(one IX q r:List Int):Prop where
 qs:Pu p q
 rs:Pu p r
 len:r.length<IX.length
 ql:q.length<=one.length
 eq: ∀n,one.getD n 0 % p=(cv q IX q.length n+r.getD n 0) % p
def A3 {α:Type}{l:Ì}{x:α}(h:gτ):jC l (-1)=à:=by
 have hl:0<l.length:=by
  cases l with
  | nil=>simp at h
  | cons a r=>simp
 unfold jC vY;rw[ù,aĆ,Option.bind_some];rw[List.getLast?_eq_getElem?] at h;rw[show(-1+eϙ).toNat=dĨ by lia];show h
universe WQ
namespace L2
open PySem PySem.Spec PyProof.Rows
theorem wz: ∀ {ss:ê} {us:Ê},cF (dţ) us -> ∃l:eA (Str×Tok),us=strValues l /\ ž=ss
 | [],_,h=>by cases h;show#[[],rfl,rfl]
 | x ::r,_,h=>by
  cases h with
  | cons h1 h2=>let⟨t,rfl⟩:=h1;let⟨l,rfl,e⟩:=wz h2;show#[(x,t)::l,rfl,by rw[av,e]]
section
variable {X:Cx}
def lq (K:jv):ϫ:=λx vs H Q=>gh λ(sep:Str) (b:iB) (ss:ê)=>oR (x= .str sep) eη (gg K H b (dţ)) (mΖ) lź (Q (.str (iſ)) H)
def iq:xK X "str.join" (lq X.K):=by
 intro ag s σ H x xs v us Q I rx rv h;let⟨sep,b,ss,rfl,rfl,hb,hl,hg,q⟩:=h;let⟨t,rfl⟩:=rx;let⟨u,rfl,ru⟩:=bĀ;cases ru;let⟨bN,r,p,hz⟩:=I.list hb;let⟨l,rfl,e⟩:=wz r;exact call_meets cC gω PySem.F.entry_str_join (PySem.F.args_str_join_2 _ _) (meets_str_join_list sep t b l (by rw[e];show hl)) #[p.isList,?_];match l,e with
 | [],e=>have e:ss= []:=e.symm;subst e;show kŶ
 | [y],e=>have e:ss= [y.1]:=e.symm;subst e;show#[.str y.1,H,I,#[y.2,rfl],q]
 | y::z::l',e=>subst e;show kŶ
def OM:R2:=nã
theorem ei:jE X fö OM:=BX
def OD:ϧ:=λxs H Q=> ∃i:Int,mň
theorem kg:eN X μ OD:=yT
universe e
universe L2
namespace WL
open PySem L2
section
variable {K:jv}
def PY (r:WM)(a:WE)(b:WA):WE:=λρ M q=>a ρ M λx M1=> ∃y,aĭ /\ jŹ
instance {r:ϫ}{w:WM}{t:TE}{u:TA}{a:WE}{b:WA} [ir:bå] [ia:Ķ] [ib:bà]:IE K (XO K aÅ r t u) (PY w a b) where
 imp :=λρ M σ H q Q o h k=>ia.imp ρ M σ H _ _ o h λx M1 v H1 ⟨y,e,h1⟩ t1 m1 r1=>by subst e;cases r1.eq;show#[rfl,ib.imp ρ M1 σ H1 _ _ Ž h1 λz M2 u H2 h2 t2 m2 r2=>ir.imp aĮ bæ z u M2 H2 _ _ m2 WR.v r2 h2 mν]
theorem cO.strs {H:Hp}: ∀ {ss:ê} {vs:À},cO K H (bχ) vs ->vs=dţ
 | [],vs,h=>by simpa only[dw,cO] using h
 | n::r,vs,h=>by simp![av,cO] at h;let⟨v,t,rfl,h1,h2⟩:=h;rw[cO.strs h2,h1.eq];rfl
def De:WM:=λx ys M q=>gh λ(sep:Str) (b:iB) (ss:ê)=>oR (x=ws sep) (ys= aĠ) (jĮ) (mΖ) lź (kΙ)
instance:IM K (lq K) De where
 imp:=by rintro x v ys us M H q Q m r1 r2 ⟨sep,b,ss,rfl,rfl,hb,hl,hg,h⟩ k;cases r1.eq;let⟨u,rfl,r⟩:=r2.one;cases r.eq;let⟨vs,hv,rr⟩:=m b _ hb;cases rr.strs;show#[sep,b,ss,rfl,rfl,Ļ,hl,hg,ϱ]
def Of:vw:=λx y M q=>cU λi j=>fE bā bĂ jΜ gý
instance:IR K OM Of where
 imp:=by rintro x y v u M H q Q m r1 r2 ⟨i,j,rfl,rfl,hz,h⟩ k;cases r1.eq;cases r2.eq;show#[i,j,rfl,rfl,hz,ϱ]
def XE {i j:Str}{M:Mp}{q:WK}:Of eò eô M q=eR jΜ gý:=by apply propext;symm;rintro⟨_,_,h1,h2,h3,k⟩;cases h1;cases h2;show aΑ;rintro⟨h3,k⟩;show hÕ
def Hg:y8:=λxs M q=> ∃i:Int,dh (cÚ) hĕ (q gû M)
instance:IC K OD Hg where
 imp:=by rintro xs v M H q Q m r1 ⟨i,rfl,hz,h⟩ k;let⟨v,rfl,r⟩:=r1.one;cases r.eq;show#[i,rfl,hz,ϱ]
def Xo {i:Int}{M:Mp}{q:WK}:Hg [cŸ] M q=eR hĕ (q gû M):=by apply propext;symm;rintro⟨_,h1,h3,k⟩;cases h1;show aΑ;rintro⟨h3,k⟩;show eÿ
def xV (x:W)(k:Str ->Prop):Prop:= ∃y,aĭ /\ k y
def ZB {y:Str}{k:Str ->Prop}:xV (.v bæ) k=k y:=by apply propext;symm;rintro⟨_,h,k⟩;cases h;show k;intro h;show ţ
def Zj {r:WM}{a:WE}{b:WA}{ρ:dt}{M:Mp}{q:WK}:PY r a b ρ M q=a ρ M λx M1=>xV x λy=>b ρ M1 λxs M2=>r aĮ xs M2 q:=by unfold PY xV;congr 1;funext x M1;apply propext;symm;rintro⟨y,rfl,h⟩;show#[y,rfl,h];rintro⟨y,rfl,h⟩;show#[y,rfl,h]
def Zd {a:WE}{ρ:dt}{M:Mp}{q:WK}:PU a ρ M q=a ρ M λx M1=>Gc x λi=>eR hĕ (q gû M1):=by unfold PU Gc eR;congr 1;funext x M1;show mŘ
def Zc {a:WE}{ρ:dt}{M:Mp}{q:WK}:PQ a ρ M q=a ρ M λx M1=>xV x λy=>eR (gŕ) (q aĮ M1):=by unfold PQ xV eR;congr 1;funext x M1;show mŘ
theorem ae4 {out:Str}{ρ:dt}{M:Mp}{q:WK}:wJ0 out ρ M q=eR (hĵ) (dŠ):=rfl
def ae3 {a:WE}{f:bþ}{out:Str}{ρ:dt}{M:Mp}{q:WK}:Y7 a f out ρ M q=a ρ M λx M1=>xV x λy=>eR jĬ hĶ:=by unfold Y7 xV eR;congr 1;funext x M1;show mŘ
universe e
universe WL
namespace WQ
open PySem L2 WL WP
def mX {a b:Str}(h:iϞ):a=b:=by cases a;cases b;congr 1;show Array.toList_inj.mp h
def iu (a b:Str):lŦ:=by change(a.cps++b.cps).toList=_;simp
def str_len (a:Str):a.length=a.cps.toList.length:=by change a.cps.size=_;simp
def a8 (a b:Str):ký:=by rw[str_len,iu,aE, <- str_len, <- str_len]
def bY (sep:Str): ∀ (x:Str) (ss:ê),(Builtin.Str.glued sep (x::ss)).cps.toList=x.cps.toList++lϯ:=by
 intro x ss;unfold Builtin.Str.glued;change(ss.foldl (λgN p=>gN++sep.cps++p.cps) x.cps).toList=_;generalize x.cps=a;induction ss generalizing a with
 | nil=>simp
 | cons y ss ih=>rw[List.foldl_cons,ih,av,db];simp
theorem qU (sep:Str):Builtin.Str.glued sep []=Str.empty:=rfl
theorem gJ (sep:Str){c:Nat}: ∀ (ss:ê),(hΜ) ->kř<=iγ
 | [],_=>by rw[qU];show ν
 | x :: ss,h=>by
  rw[str_len,bY,aE, <- str_len];have h1:=eĀ;have h2:(lϯ).length<=iγ:=by
   have: ∀l:ê,iØ ->((l.map kŚ).flatten).length<=iģ:=by
    intro l hl;induction l with
    | nil=>simp
    | cons y l ih=>rw[av,db,aE,aE, <- str_len, <- str_len,ax,Nat.succ_mul];have:=hl y Ň;have:=ih jç;lia
   show this ss λy hy=>h y eā
  rw[ax,Nat.succ_mul];lia
def Uq (sep:Str){c:Nat}(ss:ê)(h: hΜ)(hz:kΚ):mΖ:=by
 have: ∀ (l:ê) (n:Nat),iØ ->l.foldl (λ(a:Nat) (y:Str)=>a+y.length+sep.length) n<=n+iģ:=by
  intro l;induction l with
  | nil=>intro n _;simp
  | cons y l ih=>intro n hl;rw[List.foldl_cons,ax,Nat.succ_mul];have h1:=hl y Ň;have h2:=ih (n+y.length+sep.length) jç;lia
 have h1:=this ss 0 h;unfold Builtin.Str.tooLong;rw[decide_eq_false_iff_not,List.foldl_toArray];lia
theorem kL {M:Mp}{q:WK}{sep:Str}{b:iB}{ss:ê}{c:Nat}(hb:jĮ)(h: hΜ)(hz:kΚ)(k:kΙ):De (ws sep) aĠ M q:=#[sep,b,ss,rfl,rfl,hb,Uq sep ss h hz,az (gJ sep ss h) hz,k]
def zy (s:String):(Str.ofString s).length=s.toList.length:=by rw[Str.ofString_eq_toList];change((s.toList.map Char.toNat).toArray).size=_;simp
def ip {i:Int}(h:fΛ):kŷ<=61:=by
 rw[zy];have hd: ∀n:Nat,n<aΒ ->jè<=60:=λn hn=>by rw[Nat.repr_eq_ofList_toDigits,String.toList_ofList];show(Nat.length_toDigits_le_iff ⋯ ⋯).mpr hn
 cases i with
 | ofNat n=>change jè<=61;have:=hd n h;lia
 | negSucc n=>
  change kϓ<=61;rw[String.toList_append,aE];have:=hd aÖ h;have e:jϋ:=⋯
  lia
def m_ {i:Int}(h:fΛ):gŗ:=by by_cases h0:i.natAbs=0;rw[h0];decide;rw[eϛ];show aP h ϙ
def bR (z:Ľ):Str:=(dŤ:Str)++ "=" ++dť
def bE (a:Rd):Str:=gΑ++ ":" ++Builtin.Str.glued gþ (aυ λz=> " " ++bR z)
def eE (a:Rd):bE a=Builtin.Str.glued " " (lÕ):=by
 exact mX ?_;rw[bY,bE,iu];congr 1;cases a.2 with
 | nil=>rfl
 | cons z l=>
  rw[av,bY,av,av,db,iu,ba,ba];congr 2;apply d3;intro y _;change jž++(ϒ ++bR y).cps.toList=jό++(bR y).cps.toList;rw[iu];have:kī:=by decide+kernel
  rw[this];rfl
def CU (a:Rd):Prop:=cè<aΒ /\ ∀z∈a.2,lĊ
def Ae {z:Ľ}(h:lĊ):eĂ<=123:=by
 unfold bR;rw[a8,a8];have h1:=ip h.1;have h2:=ip h.2;have e:jİ:=by decide+kernel
 lia
def QP:iR:=λxs M q=> ∃ (a:Rd),fE dŧ (cå<=Â) (CU a) gÿ
theorem EI (x:Str):Str.empty++x=x:=mX (by rw[iu];rfl)
theorem aL {n:Nat}(h:n<=5000):cŗ:=iĢ
theorem rA (a b c:Str):a++b++c=a++(b++c):=mX (by rw[iu,iu,iu,iu,bn])
universe WQ
namespace WL
open PySem L2
def Kx {α:Type}{l:Ì}{fW:ÿ}(eW:ÿ){keep:ő}{M1:Mp}{own:Nat}{fr:ü}{ρ:dt}{g:WG}{c:WT}{el:WE}{q:WK}(hz:gψ)(mE: hΔ) (hs: ∀a∈l, ∀ (M:Mp) (N:fω),aι ->(∀M',ę ->N (cΤ) M') ->nô) (hq: ∀p M',Œ ->bÿ ->M' p=some gü ->q þ M'):lĉ:=by
 exact#[by rw[af];show hz,λp hp=>#[λi ys M=>gν /\ aι /\ ys=gĀ,#[am,aN hp,by simp],?_,?_,?_]];rintro i ys M hi ⟨h1,h2,rfl⟩;exact#[mE _ h2,h1,?_];rw[af,bz];lia;rintro i x ys M hx ⟨h1,h2,rfl⟩;let⟨a,ha,rfl⟩:=mh hx;have e:jĭ:=by rw[cy,ha];rfl
 exact hs a (a7 ha) _ (λo M4=>match o with
 | õ=>kϔ /\ um M4 p kĬ p=some kĬ /\ Sm M1 (um M4 p kĬ) /\ gĀ++ [y]=gχ eW
 | none=>kϔ /\ Sm M1 M4 /\ gĀ=gχ eW) h2 λM' s'=>#[s' _ _ h1,am,λc o ec=>by rw[aR (dR ec hp)];show s' _ _ (h2 _ _ ec),by rw[e,aX];rfl]
 rintro ys M ⟨h1,h2,rfl⟩;rw[af,cr] at h1;show hq p M hp h2 h1
universe WL
namespace WQ
open PySem L2 WL WP
def cs (n r:Int)(l:Pt):Int:=((l.filter λz=>decide (z.1 % n=r)).map aò).sum
universe WQ
namespace L2
open PySem PySem.Spec PyProof.Rows
section
variable {X:Cx}{tg l:Expr}{tl:TE}{K:jv}
def dF (hK:Ï)(hl:bś):PI X tg l (JS K tl):=by subst hK;show Mg hl
def yg (hK:Ï)(hl:bś):PI X tg l (Ru K tl):=by subst hK;show Ir hl
universe e
universe L2
namespace WL
open PySem L2
def cR {X:Cx}{K:jv}(hK:Ï):eN X fŹ (QA K):=by subst hK;show GC
universe WL
namespace WQ
open PySem L2 WL WP
abbrev Cf:=Nat ->Int
def act:Nat ->Cf ->Cf ->Int
 | 0,f,g=>f 0*g 0
 | n+1,f,g=>f 0*g aÖ+act n (λi=>f Ð) g
def co (l:û):Cf:=λi=>l.getD i 0
def Mult (p:Int)(a g:Cf):Prop:=cU λ(E:Cf) (N:Nat)=>(∀i,N<=i ->E i % p=0) /\ ∀n,a n % p=act n E g % p
def FV (p:Int)(a:Rd)(v:Int):Prop:=cU λlo hi=>dh (W0 (Ox a) lo) (W1 (Ox a) hi) (v=fwv p a lo hi)
open Classical in
noncomputable def fv (p:Int) (a:Rd):Int:=if h: ∃v,FV p a v then h.choose else 0
def names:ê:= ["on","back","up","down"]
def UI (p:Int)(s:Str):Rd:=if s= "on" then(1,[]) else if s= "back" then(-1,[]) else if s= "up" then(0,[(0,1)]) else(0,[(0,p - 1)])
noncomputable def tE (p:Int) (a:Rd) (s:Str):Bool:=decide (fv p (jn p a (UI p s)) >fv p a)
universe WQ
namespace L2
open PySem
def IZ {X:Cx}{K:jv}(hK:Ï):jE X fù (U5 K false):=by subst hK;show FN
def gz {X:Cx}{K:jv}(hK:Ï):eN X iċ (QD K):=by subst hK;show KH
universe L2
namespace WQ
open PySem L2 WL WP
def YH:Int ->Pt ->Int
 | _,[]=>0
 | here,z::r=>WC (here - z.1)+YH z.1 r
universe WQ
namespace L2
open PySem PySem.Spec PyProof.Rows
def Inv.freeze {X:Cx}{ag:Ÿ}{σ:St}{H:Hp}{s:eY}{d:iB}{v:HO}{o:Obj}(I:Ω)(e:H d=â)(ho:s.heap.get? d=ä)(n1: ∀xs,HO.tup xs≠v:=by intro _ q;cases q)(n2: ∀a b,HO.nF a b≠v:=by intro _ _ q;cases q)(n3: ∀a,HO.own a≠v:=by intro _ q;cases q)(n4: ∀a,HO.LW a≠v:=by intro _ q;cases q): Inv X ag σ (upd H d (.nF o v)) s:=by
 have ne: ∀ {b u},bϠ ->u≠v ->aÒ:=λ{b u} h n z=>by subst z;rw[e] at h;show n cΥ
 have ME: iδ:=λ{b} h z=>by subst z;rw[e] at h;cases h
 exact nŀ;have z:=iε;rw[bH (ME z)];show z;have z:=fΝ;rw[bH (ne z (n1 _))];show z;have z:=gΒ;rw[bH (ne z (n2 _ _))];show z;let⟨more,z⟩:=fΞ;show#[more,by rw[bH (ne z (n4 _))];show z];rw[eϜ];show I.free;rw[hĸ];show cë;let⟨a1,a2,a3⟩:=bϧ;show kŸ;have ow: ∀c,H c=eă ->hÖ=eă:=λc r=>by rw[bH (ne r (n3 _))];show r
 have tu: ∀c xs,gŃ ->hÖ=eŝ:=λc xs r=>by rw[bH (ne r (n1 _))];show r
 by_cases hb:b=d;subst hb;rw[bX] at h;cases h;show#[ho,fĢ eϝ ow tu];rw[aÃ] at h;show kϕ
def YE (d:iB)(o:Obj)(kvs:Ş):It:=#[λi H=>i<kvs.length /\ jé,λi H x H'=>H'=H /\ ∃kv,kvs[i]? =some kv /\ x=kv.2,λi H=>kvs.length<=i /\ jé]
theorem OR: ∀ {kvs:Ş} {vs:cŠ} {i:Nat} {q:dB×eC},Ņ ->eϞ -> ∃p,fģ /\ dü
 | _,_,0,_, gā,e=>by cases e;show bϞ
 | _,_,i+1,q, bŌ,e=>by have e':_=ađ:=e;rw[List.getElem?_cons_succ] at e' ⊢;show OR t e'
def J8 {X:Cx}{ag:Ÿ}{σ:St}{H:Hp}{s:eY}{d:iB}{o:Obj}{kvs:Ş}{es:fĈ}{ep:Nat}(I:Ω)(ho:gϟ)(e:jé): ∃vs,Ņ /\ s.heap.DictAt fú d vs ep:=by
 let⟨h0,_,_,vs,jl,o',Yt,Yu,h1,h2,h3,h4⟩:=(show eL X.prog X.w H s.heap d (.nF o ō) from I.c9 d _ e)
 rw[h0] at h1;cases h1;rw[ho] at h3;cases h3;show#[vs,jl,o,es,h0,h2,ho,h4]
def Fk {P:pF}{w:World}{K:jv}{tg:Expr}{d it:iB}{o:Obj}{kvs:Ş}{es:fĈ}{ep:Nat}(ho:gϟ): y9 P w K tg dŨ [it] it (λi h=>h.IsValIter it d i kvs.length ep) where
 mem:=by simp
 obj:=λi h st b hb=>by have e:b=it:= Ñ;subst e;let⟨o,e,c,d⟩:=st;show kΑ
 keep:=lμ
 item:=by
  intro X hP hw hK hc i ag s σ H E I hf st hg;subst hP hw hK;let⟨hi,hH⟩:=hg;let⟨vs,jl,hd⟩:=J8 I ho hH;have hl:=jl.length;rw[hl] at st hi;let⟨f0,f1,f2,f3,f4,f5⟩:=ϊ;let⟨⟨k,x⟩,hx⟩: ∃q,eϞ:=#[vs[i],by simp[hi]]
  let⟨p,hp,rp⟩:=OR jl hx;exact wpAny_pyNext_values_item st hd hx λh' RO yK=> ?_;have I1:ké:=I.turned (t':=s.toks) (λb o hb e=>(yK.2 b hb).trans e) f0 f1 f3 f4 f5;let⟨oo,e,c,dd⟩:=id RO;rw[<- hl] at RO;show#[x,rfl,Au (s:= ϔ) e c dd ⋯ #[p.2,H,I1,rp,#[rfl,p,hp,rfl],RO,gϩ]]
 done:=by intro X hP hw hK hc i ag s σ H E I hf st hg;subst hP hw hK;let⟨hi,hH⟩:=hg;let⟨vs,jl,hd⟩:=J8 I ho hH;have hl:=jl.length;rw[hl] at st hi;let⟨f0,f1,f2,f3,f4,f5⟩:=ϊ;show wpAny_pyNext_values_end ź st hd fĤ mϊ
 self:=λ_ _ _ _ _ st h=>wpAny_pyIter_valiter st h
section
variable {X:Cx}{tg o:Expr}{td:TE}{eK dM:Pos}
def OY (td:TE):TI:=λσ H R=>td σ H λx H1=>cU λd kvs=>dh (x= aĩ) (H1 d=Θ) (∀o,R dŨ (upd H1 d (.nF o ō)))
def Mf (ho:bű)(mG:attributeBase o "values" X.env (Ż)=Ż:=by rfl)(uT:jÖ:=by rfl):PI X tg (.Call (.Attribute o "values" eK) [] [] dM) (OY td):=by
 intro ag s σ H R I h;exact wpAny_Call_method0_late mG uT (dH hĎ λv s1 ⟨x,H1,I1,r1,d,kvs,ex,hd,q1⟩=> ?_);subst ex;obtain rfl:v=Value.ref d:=r1;let⟨t1,t2,sys⟩:=JN I1 (.inl #[kvs, .inl hd]);exact#[aĀ,"dict.values",PySem.F.plainAttrs_dict,PySem.F.slot_dict_values,PySem.F.type_dict_values,t1,t2,Calls.callWith_builtin rfl (PySem.evalArgs_none ?_)];let⟨z,_I,vs,jl,dd⟩:=p_ I1.c9 (.inl hd);exact call_meetsIn PySem.F.slot_dict_values dd.typeIs PySem.F.entry_dict_values (PySem.F.args_dict_values_1 _) (meets_dict_values fú d _I) #[#[vs,dd],?_];let⟨ob,es,ep,g1,g2,g3,g4⟩:=dd;have da:s1.heap.DictAt fú d vs ep:=#[ob,es,g1,g2,g3,g4]
 exact wpAny_pyIter_values (d:=d) (kvs:=vs) (ep:=ep) (knd:=dϭ) hű (da.push _) ?_;have I2:=I1.freeze hd g1;exact#[_,[_],_,YE d ob kvs,_,rfl,I2.kept (t':=s1.toks) λb o e=>ar _ bÔ,Fk g3,?_,cġ,q1 ob];rw[jl.length];show hű;have I3:Inv X ag σ (upd H1 d (.nF ob ō)) {s1 with heap:=s1.heap.push {cls:= .type "dict_values",data:= .fields #[aĩ]}}:=I2.kept (t':=s1.toks) fó;have e:=aZ.mp hb;subst e;show I3.Gp ï (I3.c9.fresh ï)
universe e
universe L2
namespace WL
open PySem L2
variable {K:jv}
def JF (a:WE):WI:=λρ M q=>a ρ M λx M1=>cU λd kvs=>dh (x=wr d) (M1 d=Θ) (mϪ)
theorem OS: ∀ {H:Hp} {kvs:š} {vs:Ş} {i:Nat} {q:dB×V},eĄ ->eϞ -> ∃p,fģ /\ eϊ
 | _,_,_,0,_, gā,e=>by cases e;show bϞ
 | _,_,_,i+1,q, bŌ,e=>by have e':_=ađ:=e;rw[List.getElem?_cons_succ] at e' ⊢;show OS t e'
theorem Jy {H:Hp}: ∀ {kvs:š} {vs:Ş},eĄ ->hĔ
 | _,_, .nil=>rfl
 | _,_, bŌ=>by rw[ax,ax,Jy t]
def F' {H1:Hp}{d:iB}{o:Obj}{kvs:š}{ks:Ş}:GQ K H1 (YE d o ks) fΟ kĭ:=by intro i M H t m hM;let⟨e1,r1⟩:=m d _ hM;have hl:=Jy r1;rw[af];exact#[hØ,hØ,λv H' hi ⟨e2,kv,hk,e3⟩=> ?_];subst e2 e3;let⟨p,hp,rp⟩:=OS r1 hk;show#[bθ,m,p.2,by rw[aD,hp];rfl,rp]
instance {t:TE}{a:WE} [ia:Ķ]:II K (OY t) (JF a) where
 imp:=λρ M σ H q R o h k=>ia.imp ρ M σ H _ _ o h λx M1 v H1 ⟨d,kvs,ex,hd,h1⟩ t1 m1 r1=>by subst ex;let⟨ks,e,r⟩:=m1 d _ hd;exact#[d,ks,r1.eq,e,λob=>k _ _ _ _ _ (h1 ob ks) (t1.trans aĞ) (m1.put aĞ #[bX,eϋ]) F']
def X4 {a:WE}{ρ:dt}{M:Mp}{q:kÅ}:JF a ρ M q=a ρ M λx M1=>hG x λd=>mO (M1 d) λkvs=> mϪ:=by unfold JF hG mO;congr 1;funext x M1;apply propext;symm;(· rintro⟨p,l,h1,h2,h⟩;show eϓ);(· rintro⟨p,h1,l,h2,h⟩;show eϔ)
universe WL
namespace WQ
open PySem L2 WL WP
def Ww (n:Int):eϕ
 | [],_=>0
 | z::r,k=>(if z.1 % n=k then z.2 else 0)+Ww n r k
theorem AB {α:Type} [DecidableEq α]{f:aω}(hf: ∀x y,q_ (f x) (f y)=dĕ): ∀a b:Ì,oM (a.map f) (b.map f)=dù
 | [],[]=>by simp[oM]
 | [],y::b=>by simp[oM]
 | x::a,[]=>by simp[oM]
 | x::a,y::b=>by rw[av,av,oM,hf,AB hf a b];by_cases h:x=y<;>by_cases h2:a=b<;>simp[h,h2]
def Nw (a b:Pt):q_ (ym a) (ym b)=dù:=by unfold ym;rw[q_];exact AB (λx y=> ?_) a b;simp![q_,oM,Bool.and_true];let⟨x1,x2⟩:=x;let⟨y1,y2⟩:=y;dsimp only;by_cases h:x1=y1<;>by_cases h2:x2=y2<;>simp[h,h2]
def fl (p:Int)(m:Nat)(f:Pt):û:=(List.range m).map λ aθ=>Ww m f k % p
def AN (l:Æ)(k:Int)(hk:0<=k):oO l none (aĎ)=l.take k.toNat:=by unfold oO;let⟨n,rfl⟩:=b0 hk;have e:(some (aŢ:Int))=some (Int.ofNat n):=rfl;rw[HT.zI,HT.DE,List.drop_zero,Nat.sub_zero,Int.toNat_natCast];obtain h | h:=Nat.le_total n l.length;rw[gĂ];rw[gΔ,dv ï,dv h]
universe WQ
namespace L2
open PySem PySem.Spec PyProof.Rows
section
variable {X:Cx}{k:Nat}{f:iB}{fd:FuncData}{ps:ê}{sp:Sp}{E:XK}{x:Str}{p pos:Pos}{e:Expr}{es:Đ}{t:TA}{st:Stmt}
theorem fJ (hP:iÙ)(C:iŲ)(F:mĊ)(hr:į)(hg:ì) (ha:Μ) (ni:ϰ:=by decide) (he:ϻ:=by rfl) (nh:Ϲ:=by rfl): PE X kŭ (wG sp [] E t):=DU F hr hg C.at_ C.fn.kp C.bd .nil hP ha ni he nh
universe e
universe L2
namespace WQ
open PySem L2 WL WP
def aeJ (s x:Int):Int:=if s=0 then x else x % s
def hI (s x:Int):Int:=if s=0 then 0 else x / s
def Rj:û ->Int
 | []=>0
 | a::r=>r.foldl (λm x=>if x<m then x else m) a
def plc (l:Pt):û:=ž
universe WQ
namespace L2
open PySem
structure SN (K:PySem.W.Frag)(mg:gń)(x qual:Str)(ps:aϟ)(st:Stmt)(C f:Addr)(fd:FuncData):Prop where
 at_:mg x=dϵ
 mkr:Mk K C f
 cl:aþ
 fn:wj K bϴ qual st f fd
 bd:fŲ
section
variable {X:Cx}{k:Nat}{f C:iB}{fd:FuncData}{ps:ê}{sp:Sp}{x qual:Str}{st:Stmt}{p pos:Pos}{e:Expr}{es:Đ}{t:TA}
theorem ut (M:kþ)(F:lŹ)(hr:dĞ)(hg:ì) (ha:Μ) (ni:ϰ:=by decide) (he:ϻ:=by rfl) (nh:Ϲ:=by rfl): PE X kŭ (zx C sp [] E0 t):=DT M.mkr F hr hg M.at_ M.bd .nil DW ha ni he nh
universe e
universe L2
namespace WL
open PySem L2
section
variable {K:jv}
theorem Ai {H:Hp}{f:Str}{x:W}: ∀ {fs:ű} {ks:ū},dņ ->cě=Option.some x -> ∃v,cΦ=Option.some v /\ Š
 | _,_, .nil,h=>by cases h
 | bψ,(g',v)::ks, gï,h=>by
  cases gΕ;rw[List.lookup_cons] at h ⊢;cases hb:f==g with
  | true=>rw[hb] at h;cases h;show#[v,rfl,r]
  | false=>rw[hb] at h;show Ai t h
def iA (f:Str)(v:W):ű ->ű
 | []=> [(f,v)]
 | (g,x)::r=>if g=f then(g,v)::r else(g,x)::iA f v r
theorem Ej {H:Hp}{f:Str}{x:W}{v:V}(rx:Š): ∀ {fs:ű} {ks:ū},dņ ->KR K H (iA f x fs) (L2.jU f v ks)
 | _,_, .nil=> hİ
 | bψ,(g',u)::ks, gï=>by cases gΕ;unfold iA L2.jU;split;show .cons bδ t;show .cons #[rfl,r] (Ej rx t)
theorem Ek {H:Hp}: ∀ {kvs:ű} {vs:ū},eĄ ->hĔ
 | _,_, .nil=>rfl
 | _,_, bŌ=>by rw[ax,ax,Ek t]
def PV (K:jv)(a:WE)(f:Str):WE:=λρ M q=>a ρ M λx M1=>qu λp C dx fs v=>oR bç (M1 p=Ϟ) aϺ bϵ (gŜ) (q v M1)
instance {t:TE}{a:WE}{f:Str} [ia:Ķ]:IE K (Qh K t f) (PV K a f) where
 imp:=λρ M σ H q Q o h k=>ia.imp ρ M σ H _ _ o h λx M1 v H1 ⟨p,C,dx,fs,y,ex,hp,hc,hn,hl,h1⟩ t1 m1 r1=>by subst ex;let⟨ks,e,r⟩:=bζ;let⟨u,hu,ru⟩:=Ai r hl;show#[p,C,dx,ks,u,r1.eq,e,hc,hn,hu,k _ _ _ _ h1 t1 m1 ru]
def HV (K:jv)(a b:WE)(f:Str):WS:=λD ρ M=>b ρ M λy M1=>a ρ M1 λx M2=>jD λp C dx fs=>oR bç (M2 p=Ϟ) aϺ bϵ (eŴ) lŏ
instance {t u:TE}{a b:WE}{f:Str} [ia:Ķ] [ib:ķ]:IS K (UT K t u f) (HV K a b f) where
 imp:=λρ M σ H D' D o h e=>ib.imp ρ M σ H _ _ o h λy M1 v1 H1 h1 t1 m1 r1=>ia.imp ρ M1 σ H1 _ _ Ž h1 λx M2 v2 H2 ⟨p,C,dx,fs,ex,hp,hc,hn,hl,h2⟩ t2 m2 r2=>by subst ex;let⟨ks,ek,r⟩:=m2 p _ hp;have ts:=Qb (u:= .ins C dx (jU f v1 ks)) ek;exact#[p,C,dx,ks,r2.eq,ek,hc,hn,by rw[<- Ek r];show hl,e.nx ρ _ σ _ h2 iζ (o.mv iζ (m2.put ts #[_,bX,KR.ts ts (Ej cÔ r)]))]
def N8 (C:iB)(p:iR)(a:WA):WE:=λρ M q=>a ρ M λxs M1=> ∀x dx,bω ->cì ->aý ->p (bă) (iÚ) jı
instance {C:iB}{p:iR}{E:XK}{t:TA}{a:WA} [ia:ĸ]:IE K (zx C bâ [] E t) (N8 C p a) where
 imp:=λρ M σ H q Q o h k=>ia.imp ρ M σ H _ _ o h λxs M1 vs H1 h1 t1 m1 r1=>λx dx hx Gj kN=>by
  have JU:iϠ:=by rw[bH aτ];show hx
  have Up:a_ H1 hĜ:=fΡ;have LR:a_ hĜ lņ:=fΤ;exact#[bă,iÚ,jı,lϟ,kś,lÖ,?_];rintro y M' u H' ⟨rfl,hq⟩ ts m' r';show mŒ
def yI (o:gk MO)(k:jſ):Prop:=gh λC dx fs=>o=Ϟ /\ k C dx fs
def _w {C dx:iB}{fs:ű}{k:jſ}:yI (Ϟ) k=k C dx fs:=by apply propext;symm;rintro⟨_,_,_,e,h⟩;cases e;show h;intro h;show#[_,_,_,rfl,h]
def Zf {a:WE}{f:Str}{ρ:dt}{M:Mp}{q:WK}:PV K a f ρ M q=a ρ M λx M1=>hG x λp=>yI aĤ λC dx fs=>eR aϺ (eR bϵ (sJ (cě) λv=>q v M1)):=by unfold PV hG yI eR sJ;congr 1;funext x M1;apply propext;symm;rintro⟨p,C,dx,fs,v,e1,e2,e3,e4,e5,h⟩;show#[p,e1,C,dx,fs,e2,e3,e4,v,e5,h];rintro⟨p,e1,C,dx,fs,e2,e3,e4,v,e5,h⟩;show#[p,C,dx,fs,v,e1,e2,e3,e4,e5,h]
def XS {a b:WE}{f:Str}{D:fA}{ρ:dt}{M:Mp}:HV K a b f D ρ M=b ρ M λy M1=>a ρ M1 λx M2=>hG x λp=>yI aĥ λC dx fs=>eR aϺ (eR bϵ (eR (eŴ) lŏ)):=by unfold HV hG yI eR;congr 1;funext y M1;congr 1;funext x M2;apply propext;symm;rintro⟨p,C,dx,fs,e1,e2,e3,e4,e5,h⟩;show#[p,e1,C,dx,fs,e2,e3,e4,e5,h];rintro⟨p,e1,C,dx,fs,e2,e3,e4,e5,h⟩;show#[p,C,dx,fs,e1,e2,e3,e4,e5,h]
theorem xQ {C:iB}{p:iR}{a:WA}{ρ:dt}{M:Mp}{q:WK}:N8 C p a ρ M q=a ρ M λxs M1=> ∀x dx,bω ->cì ->aý ->AW p (bă) (iÚ) jı:=rfl
universe e
universe WL
namespace L2
open PySem
nonrec def jh (s:Stmt)(j:Nat):Stmt:=match s with
 | .ClassDef _ _ _ b _ _ _ _ _ _ _=>b.getD j (fΥ)
 | _=> fΥ
universe L2
namespace L2
open PySem PySem.Spec PyProof.Rows
def Inv.Zx {X:Cx}{ag:Ÿ}{σ:St}{H:Hp}{s:eY}{d:iB}{kvs:Ş}{o:Obj}(I:Ω)(e:jé)(h0: kĮ): Inv X ag σ (upd H d ō) s:=by
 have ne: ∀ {b u},bϠ ->u≠ .nF o ō ->aÒ:=λ{b u} h n z=>by subst z;rw[e] at h;show n cΥ
 have ME: iδ:=λ{b} h z=>by subst z;rw[e] at h;cases h
 exact nŀ;have z:=iε;rw[bH (ME z)];show z;have z:=fΝ;rw[jê];show z;have z:=gΒ;have nb:aÒ:=λz=>h0 o' u (z▸h);rw[bH nb];show z;let⟨more,z⟩:=fΞ;show#[more,by rw[jê];show z];rw[eϜ];show I.free;rw[hĸ];show cë;let⟨a1,a2,a3⟩:=bϧ;show kŸ;have ow: ∀c,H c=eă ->hÙ=eă:=λc r=>by rw[jë];show r
 have tu: ∀c xs,gŃ ->hÙ=eŝ:=λc xs r=>by rw[jë];show r
 by_cases hb:b=d;subst hb;rw[bX] at h;cases h;have z:=fĢ (H':=upd H b ō) (h':=s.heap) eϝ ow tu;show z.2;rw[aÃ] at h;show kϕ
universe L2
namespace WL
open PySem L2
variable {K:jv}
theorem Qc {H:Hp}{a:iB}{o:Obj}{xs:Ş}{u:HO}(h:H a=some (.nF o (.dK xs))):fο:=Dj h gŇ λ_ _ z=>nomatch z
universe WL
set_option maxHeartbeats 4000000
namespace WL
open PySem L2
def Hz {M:Mp}{x:iB}{l:Æ}{k:cμ}(h:M x=ο):LS M eñ k=k (!l.isEmpty):=by apply propext;symm;rintro⟨b,⟨l',h1,h2⟩ | ⟨l',h1,_⟩,z⟩;rw[h] at h1;cases h1;rw[h2] at z;show z;rw[h] at h1;cases h1;intro z;show#[_, .inl #[l,h,rfl],z]
universe WL
namespace WQ
open PySem L2 WL WP
abbrev WH:=Int×Ľ
def putL (s:Int)(ZA:eA Pt)(tl:eA WH):Pt:=tl.flatMap λt=>(hĹ).map λz=>(z.1+t.2.1*s,z.2*t.2.2)
def jU (s x:Int)(ZA:eA Pt)(t:WH):Int:=vM (hĹ) (x - t.2.1*s)*t.2.2
universe WQ
namespace L2
open PySem
def C8:Nat ->(dû) ->Prop
 | 0,p=>p []
 | n+1,p=> ∀v,C8 n λus=>p (v::us)
theorem C8.to: ∀ {n:Nat} {p:dû},C8 n p -> ∀us,us.length=n ->p us
 | 0,_,h,[],_=>h
 | _+1,_,h,v::us,e=>C8.to (h v) us (Nat.succ.inj e)
section
variable {K:jv}{h:Heap}{mg:Ũ}{x:Str}{ps:ê}{st:Stmt}{f C:iB}{oc:eC}{od an:Î}{BV:dϷ}{kV jL pm cdv ct:eC}
theorem cK (X:aĲ)(G:hÀ)(a:iÛ=hė) (l:bϸ=some #[oc,od, .func mį,BV]) (c:W.codeIn K cdv x=true) (k:iŪ) (b: ∀ (kV jL pm:eC) (an:Î) (cdv ct:eC),C8 ps.length λus=>bindArgs mį bÀ=fű:=by(repeat intro _);rfl): jr K mg x ps st f mį:=#[eą,bĄ,mϣ]
theorem KD {q:Str}(X:aĲ)(G:hÀ)(a:lŐ)(g:mÊ) (l:bϸ=some #[oc,od, .func mŶ,BV]) (c:hΝ) (k:iŪ) (h1:gŚ) (h2:h϶) (h3:W.keepIn K ī=true) (h4:W.plainGet K C Str.empty=true) (h5:hĖ) (h6:hĘ) (h7:mό) (b: ∀ (kV jL pm:eC) (an:Î) (cdv ct:eC),C8 ps.length λus=>bindArgs mŶ bÀ=fű:=by(repeat intro _);rfl): SN K mg x q ps st C f mŶ:=#[eą,#[h1,g,h2,h3],#[h4,h5,h6,h7],bĄ,mϣ]
theorem uF {q:Str}{fd:FuncData}(_:SN K mg x q ps st C f fd)(a:Str)(e:W.findIn K ī a=bş):fP K C a:=e
theorem Ts {cd:ClassData}(a:lŐ)(e:lĥ)(k1:hÚ)(k2:nØ)(k3:lŧ)(k4:mΗ)(k5:lØ)(k6:lŻ):ko K x C:=#[a,e,(by rw[k1];rfl),k2,k3,k4,k5,k6]
def Rk {l:W.OpenLaw}{w:World}{fa:iB}{fd:FuncData}{p:Str}{kd:Nat}(T:jr K mg aØ [p] st f fd)(V6:mg aØ =eν)(hb: ∀ (kV jL pm:eC) (an:Î) (cdv ct v:eC),bindArgs (W.fnOf aØ aØ aŷ aŸ ė .none kV jL pm an cdv ct) bΑ=pure [(p,v)]) (ok: ∀base,cB l.prog w K mg base gR kd f fd [p] (WQ.zB K)): ∃fd:FuncData,(∀ (s:eY) (v:eC),BindsTo s fd bΑ [(p,v)]) /\ ∀base:Heap,bŒ ->hϭ ->cB l.prog w K mg base gR kd fa fd [p] (WQ.zB K):=by have e:=V6.symm.trans T.at_;cases e;let⟨oc,od,kV,jL,pm,an,cdv,ct,BV,rfl,lk,Ey⟩:=T.fn.ex;show#[_,λs v=> .of_eq (hb kV jL pm an cdv ct v),λbase _ _=>ok base]
universe e
universe L2
namespace WQ
open PySem L2 WL WP
def lc:û ->eϟ ->bŝ
 | v::vs,g::gs,x=>v*g x+lc vs gs x
 | _,_,_=>0
def fam (s:Int)(b:Pt):Int ->Nat ->eϟ
 | _,0=> []
 | lo,n+1=>(λx=>look b (x - s*lo))::fam s b (lo+1) n
def cps (s:Int)(G:eA (Pt×Int×Nat)):eϟ:=G.flatMap λg=>fam s g.1 g.2.1 g.2.2
def Nn (q js:Pt):Pt:=js.flatMap λj=>tm j.2 (mv j.1 q)
def ahd (s c:Int):Int:=if s=0 then 0 else c
section
variable {s Z K w KP c c2 dr:Int}{a c1:Pt}{P P1:Pq}{L:eA Sta}{t:Sta}
def eP (s K w KP c:Int):Int:=KP+ahd s c*(w+2*K*s+2*K)
variable {p:Int}{js:Pt}{ms:û}
universe e
def fW (s:Int)(a:Pt):W:=if plc a= [] then wn else wi (Rj ((plc a).map (aeJ s)))
def gL (l:Æ)(k:Nat):oO l (some (aθ:Int)) none=l.drop k:=by unfold oO;rw[HT.zI,HT.DE];obtain h | h:=Nat.le_total k l.length;rw[gĂ,dv (by rw[dy];show aA _)];rw[gΔ,List.drop_length,List.take_nil,List.drop_of_length_le h]
universe WQ
namespace L2
open PySem
def dc {X:Cx}{K:jv}{e:Expr}{f:Str}{pos:Pos}{ta:TE}(hK:Ï)(he:PE X e ta)(hb:lϴ):PE X hę (Qh K ta f):=by subst hK;show QI he hb
universe L2
namespace L2
open PySem PySem.Spec PyProof.Rows
section
variable {X:Cx}
def DL:ϫ:=λx vs H Q=>gh λl xs y=> ∃i:Nat,oR cŘ (vs= [Þ,y]) hģ hĤ (dŒ) (Q .fb (upd H l (.lst (bι++y::xs.drop i))))
def wX:WZ X "list.insert" DL:=by
 intro ag s σ H x vs v us Q I rx rv h;let⟨l,xs,y,i,rfl,rfl,hH,hz,hi,q⟩:=h;cases rx;let⟨u0,u,rfl,⟨tk,rfl⟩,ru⟩:=rv.two;let⟨z,bN,n,r,hl,e⟩:=aŴ;have hf:Builtin.List.listFitsIndex aΔ=true:=by have hs:=cP;unfold Builtin.List.listFitsIndex;rw[cx,c_,c_];lia
 let⟨x,hx⟩: ∃x:Int,x=aΔ:=ĩ
 rw[<- hx] at hf ⊢;exact call_meets F.slot_list_insert bϻ F.entry_list_insert (F.args_list_insert_3 _ _ _) (PySem.AutoSeq1.list_insert_list_int_val_1 l bN.toArray n x tk u (by simp[hf]) fā) aŵ;exact#[.fb,_,I.Jo (its':=bN.take i++u::bN.drop i) hH e ?_ ((r.take i).append (.cons ru (r.drop i))) ?_,rfl,q];have hk:mΨ=i:=by rw[ù,aM];lia
 change(bN.toArray.extract 0 mΨ).push u++bN.toArray.extract mΨ=_;rw[hk];apply Array.toList_inj.mp;simp;show dv Ň;rw[aE,ax,bz,dy];lia
universe e
universe L2
namespace WL
open PySem L2
section
variable {K:jv}{M:Mp}{q:WK}
def LM:WM:=λx ys M q=>gh λa l y=> ∃i:Nat,oR Ĺ (ys= [wi i,y]) ϟ hÍ (i<=l.length) (q wn (um M a (.lst (aϓ++y::aϕ))))
instance:IM K DL LM where
 imp:=by rintro x v ys us M H q Q m r1 r2 ⟨a,l,y,i,rfl,rfl,hl,hn,hi,h⟩ k;cases r1.eq;let⟨u0,u,rfl,r0,r⟩:=r2.two;cases r0.eq;let⟨vs,hv,rr⟩:=ĺ;show#[a,vs,u,i,rfl,rfl,hv,by rw[rr.length];show hn,by rw[rr.length];show hi,k _ _ _ _ h aζ (m.putL hv ((rr.take i).append (.cons r (rr.drop i)))) WR.v]
universe e
universe WL
namespace WQ
open PySem L2 WL WP
def lpk (k:Int):û ->Pt
 | []=> []
 | v::r=>(k,v)::lpk Ó r
def lp (l:û):Pt:=lpk 0 l
universe WQ
namespace L2
open PySem
structure zk (K:PySem.W.Frag)(m qual:Str)(ps:aϟ)(st:Stmt)(C f:Addr)(fd:FuncData):Prop where
 VC:K2 K C m f
 cl:aþ
 fn:wj K m qual st f fd
 bd:fŲ
section
variable {X:Cx}{k:Nat}{f C:iB}{fd:FuncData}{ps:ê}{sp:Sp}{m qual:Str}{st:Stmt}{pos eK:Pos}{o e:Expr}{es:Đ}{ta:TE}{t:TA}
theorem gG {pl:a϶}(M:jì)(F:lŹ)(hr:į)(he:bŤ)(ha:Μ) (j8:ϻ:=by rfl) (nh:Ϲ:=by rfl) (ht:mÕ=(do
  let ov <- Ż
  gÕ
  let (f,first) <- kě
  nÝ):=by rfl):
 PE X lĳ (tU C m sp [] E0 ta t):=DS he M.cl M.VC F hr M.bd .nil DW ha j8 nh ht
theorem gy {pl:a϶}(M:jì)(F:lŹ)(hr:į)(he:bŤ) (ht:lΤ=(do
  let ov <- Ż
  gÕ
  let (f,first) <- kě
  nÉ):=by rfl):
 PE X kϯ (tU C m sp [] E0 ta Fo):=Iu he M.cl M.VC F hr M.bd .nil DW ht
universe e
section
variable {K:jv}{h:Heap}{mg:Ũ}{x:Str}{ps:ê}{st:Stmt}{f g C:iB}{oc:eC}{od an:Î}{BV:dϷ}{kV jL pm cdv ct:eC}
theorem uQ {n:Int}{t:Tok}(X:aĲ)(G:hÀ)(a:iÛ=some (fĦ)): ∃t,mg x=fĦ:=#[t,eą]
theorem hX {m q q':Str}{ps':ê}{Du:Stmt}{fd':FuncData}(c0:SN K mg x q' ps' Du C g fd')(a:W.findIn K ī m=hė) (l:bϸ=some #[oc,od, .func mİ,BV]) (c:hΝ) (k:iŪ) (h2:h϶) (b: ∀ (kV jL pm:eC) (an:Î) (cdv ct:eC),C8 ps.length λus=>bindArgs mİ bÀ=fű:=by(repeat intro _);rfl): zk K m q ps st C f mİ:=#[#[a,h2,k],c0.cl,bĄ,mϣ]
universe e
universe L2
namespace WL
open PySem L2
section
variable {K:jv}
theorem uL {H:Hp}{f:Str}: ∀ {fs:ű} {ks:ū},dņ ->cě=Option.none ->cΦ=Option.none
 | _,_, .nil,_=>rfl
 | bψ,(g',v)::ks, gï,h=>by
  cases gΕ;rw[List.lookup_cons] at h ⊢;cases hb:f==g with
  | true=>rw[hb] at h;cases h
  | false=>rw[hb] at h;show uL t h
def Hk (C:iB)(m:Str)(p:iR)(a:WE)(b:WA):WE:=λρ M q=>a ρ M λx M1=>gh λ(o dx:iB) (fs:ű)=>fE (x=wr o) (M1 o=Ϟ) gŞ (b ρ M1 λxs M2=>p aŰ M2 q)
instance {C:iB}{m:Str}{p:iR}{E:XK}{t:TE}{u:TA}{a:WE}{b:WA} [ia:Ķ] [ib:bà]:IE K (tU C m bâ [] E t u) (Hk C m p a b) where
 imp:=λρ M σ H q Q o h k=>ia.imp ρ M σ H _ _ o h λx M1 v H1 jí t1 m1 r1=>by subst ex;let⟨ks,e,r⟩:=m1 ad _ hp;exact nä;exact#[wr ad::xs,M2,q,lÙ,m2,h2,?_];intro y M' u H' hq ts m' r';show lő
def Xt {C:iB}{m:Str}{p:iR}{a:WE}{b:WA}{ρ:dt}{M:Mp}{q:WK}:Hk C m p a b ρ M q=a ρ M λx M1=>hG x λo=>yI (M1 o) λC' _ fs=>eR jî (b ρ M1 λxs M2=>AW p aŰ M2 q):=by unfold Hk hG yI eR AW;congr 1;funext x M1;apply propext;symm;rintro⟨o,dx,fs,e1,e2,e3,h⟩;show kÌ;rintro⟨o,e1,C',dx,fs,e2,⟨rfl,e3⟩,h⟩;show hΞ
universe e
universe WL
namespace L2
open PySem PyProof.Rows PyProof.V PySem.Calls PySem.Spec
inductive WN (X:Cx):gΖ ->fħ ->Prop
 | nil:WN X [] []
 | cons {x:Str} {np mD:Pos} {b₀:Stmt} {k_:bΒ} {C:Addr} {ts:TS} {rest:gΖ} {al:fħ} (hg:ì) (O:cæ) (O2: ló) (r:WN X rest al) (ni:ϰ:=by decide): WN X mı ((C,ts)::al)
def Dn (K:jv):cΨ ->aΕ
 | [],_=>eς
 | (D,ts)::r,C=>λE σ H=> ∃b,dh (kΘ) (î ->ts E σ H) (b=false ->Dn K r C E σ H)
def yN {K:jv}{M:Model}{h:Heap}{C D e:iB}{b:Bool}{oe:Obj}(X:aĲ)(kD:C4 K D)(kN:C≠D)(he:h.get? e=some oe)(hc:oe.cls= ó)(hk:kΘ): W.Looks M h (excMatches Ĳ bÓ) b:=by
 exact W.exm_one (cls:= ó) X (qX he hc) ?_;have e1:(W.subIn K bÓ ię==Ŏ)=true:=by change(W.mroIn K D ię==Ŏ)=true;rw[kD.mb];rfl
 unfold W.exmOne;rw[aF e1];unfold W.kitOne at hk;rwa [aC (λz=>kN (Value.ref.inj (beq_iff_eq.mp z)))] at hk
section
variable {X:Cx}{ag:Ÿ}{σ:St}{s':eY}
def AT {E0:XK}{ev:eC}{H1:Hp}{s1:eY}{D:kZ}{hs:fΦ}{al:cΨ}(j8:hϮ)(lw:jΘ) (I:gÔ) (fl:kϖ) (ph:WN X hs al) (k: ∀cls d H',cΩ -> nĔ): nŅ:=by
 let⟨ea,cls,a0,B,H2,rfl,os,bare,fl,c9,nV,un,kb,kt,cŴ,hE⟩:=fl;let⟨C,rfl,kk⟩:=cî;exact mŷ;exact kŜ;rw[<- j8] at CC;let⟨I5,XJ⟩:=mĲ;let⟨ob,O5,Ao⟩:=CC.there;have key:=cϋ;clear kk k;induction ph with
 | nil=>show key.elim
 | @cons x np mD b₀ k_ D' ts rest al' hg O O2 r ni ih=>
  let⟨b,hk,ht,hf⟩:=key;have O':=iÕ;exact nÅ;have good:î ->codeAny ϗ jĲ (.handlers Ő [.ExceptHandler none none cí mD] X.env) (λr s₂=>match r with
  | .ok f=>SP X ag D f s₂
  | bą=>cameBackBy ϗ X.A X.env X.xe x s₂) hĻ:=λhb=>by
   exact iϡ
   exact lυ
   let⟨I6,ts⟩:=mξ
   exact bf (O2 ea ag _ σ _ D gă (ht hb)) fΧ fĨ
   cases f with
   | next=>let⟨σ',H3,I8,q⟩:=h8;show hÝ
   | brk=>let⟨σ',H3,I8,q⟩:=h8;show hÝ
   | cont=>let⟨σ',H3,I8,q⟩:=h8;show hÝ
   | ret u=>let⟨v,σ',H3,I8,r,q⟩:=h8;show iĤ
  by_cases Pe:C=D';subst Pe;have hb:î:=by unfold W.kitOne at hk;rw[iĥ] at hk;show dũ
  let⟨bm,N,nm,qn,bs,hdct,sn,sub,ab,col,dd,k0,k1,k2,k3,k5,mN,hC,hN',G7,TL⟩:=hļ;exact wpAny_excMatches_sub_self hC O5 Ao kÿ ?_;show good hb;exact mÚ ?_;cases b with
  | true=>show good rfl
  | false=>show cό
universe e
section
variable {X:Cx}
def Uu (K:jv)(C:iB)(m:Str)(sp:Sp)(te:TE)(ta:TA)(al:cΨ):TS:=λD σ H=>te σ H λx H0=>gh λ(a dx:iB) (fs:ū)=>fE Ū (H0 a=Ϟ) gŞ (ta σ H0 λvs H1=>sp hÞ H1 (λv H2=>D.nx σ H2) λcls _ H'=> ∃C,cΝ /\ ∀ea,cÍ ->kű ->Dn K al C D σ jų)
theorem XW {k:Nat}{f C:iB}{fd:FuncData}{ps:ê}{sp:Sp}{m qual:Str}{dM eK Wt pos:Pos}{o e₀:Expr}{es:Đ}{te:TE}{ta:TA}{h₀:ExceptHandler}{hs:fΦ}{al:cΨ}{st:Stmt}{pl:a϶} (j8:hϮ) (lw:jΘ) (M:jì) (F:mĊ) (hr:į) (ho:PE X.Jd o te) (ha:PA X.Jd cð ta) (ph:WN X cñ al) (he:iϢ=iė::gÊ:=by rfl) (nh:lϊ:=by rfl) (ht:eval lŨ X.env=(do
   let ov <- Ż
   gÕ
   let (f,first) <- kě
   callWith dM f first (backTo dM (iϢ)) (ků)):=by rfl)
  (RA:swapsWith lŨ none Wt.line X.env=bϫ:=by rfl):
  PS X (.Try [.Expr lŨ Wt] cñ [] [] pos) (Uu X.K C m sp te ta al):=by
 intro ag s σ H D I h
 exact wpAny_Try_except (wpAny_execs_cons (wpAny_Expr_any ?_ I.quiet RA))
 exact W.methodCall_KW (pl:=pl) (bf (ho ag s σ H _ aϰ h) (λu s1 ⟨x,H0,I0,rx,a,dx,fs,ex,ea,l,q⟩=> ?_) fĨ) ht
 subst ex
 obtain rfl:ι:=rx
 have I0:=I0.i9
 exact kO I0 ea M.cl M.VC l ?_
 exact W.callWith_K (first:= Ĭ) (h₀:=X.base) I.ok.mod.OX M.VC.kp (bf (ha dM ag s1 σ H0 _ (I0.qA _) q) (λus s2 gŦ=>cň) fĨ) he nh
 have I1:=I1.i9
 have r2:cF hÞ (bϷ++ []):= .cons rfl (eĆ)
 have hl:(cĖ::us++ []).length=ps.length:=by rw[<- r2.length];show F.len _ _ _ _ q
 exact wpAny_call (codeAny_mono (F.run X.A X.stack s2 H1 #[bϷ,[]] (bϷ++ []) hÞ _ _ hr I1.Nx (M.bd s2 (bϷ) I1.mx hl) r2 q) λr s3 hq=> ?_)
 cases r with
 | error ev=>have hq2:fQ X.prog X.w X.stack H1 s2 (λcls _ H'=> nĔ) ev s3:=hq;show AT j8 lw I1 hq2 ph fĩ
 | ok fl=>
  cases fl with
  | ret u=>let⟨v,H2,I2,r,q2⟩:=I1.after hq;show wpAny_execs_nil (wpAny_execs_nil #[_,_,I2,q2])
  | next=>show dϲ
  | brk=>show dϲ
  | cont=>show dϲ
universe e
section
variable {X:Cx}{k:Nat}{f C:iB}{fd:FuncData}{ps:ê}{sp:Sp}{E:XK}{m qual:Str}{st:Stmt}{pos eK:Pos}{o e:Expr}{es:Đ}{ta:TE}{t:TA}
theorem jW {pl:a϶}(hP:iÙ)(M:jì)(F:mĊ)(hr:į)(he:bŤ)(ha:Μ) (j8:ϻ:=by rfl) (nh:Ϲ:=by rfl) (ht:mÕ=(do
  let ov <- Ż
  gÕ
  let (f,first) <- kě
  nÝ):=by rfl):
 PE X lĳ (tU C m sp [] E ta t):=DS he M.cl M.VC F hr M.bd .nil hP ha j8 nh ht
theorem cB.calm {P:pF}{w:World}{K:jv}{mg:Ũ}{base:Heap}{sp UM:Sp}(F:cB P w K mg base ĳ k f fd ps sp)(h: ∀vs H Q E,cņ ->sp vs H Q E0):cB P w K mg base gR k f fd ps UM:=#[λvs H Q E z=>F.len vs H Q _ eϢ,λA outer s H args us vs Q E hr e0 hb hv z=>codeAny_mono (F.run A outer s H args us vs Q E0 hr e0 hb hv eϢ) λr s' hq=>by
 cases r with
 | error ev=>let⟨_,_,_,_,_,_,_,_,_,_,_,_,_,_,_,q⟩:=(show fQ P w outer H s E0 ev s' from hq);show q.elim
 | ok fl=>cases fl<;>show hq]
universe e
universe L2
namespace WL
open PySem L2
section
variable {K:jv}
def UO (p:fZ):iR:=λxs M q=>hΟ
theorem EZ {P:pF}{w:World}{mg:Ũ}{base:Heap}{k:Nat}{f:iB}{fd:FuncData}{ps:ê}{p:fZ}(F:cB P w K mg base ĳ k f fd ps bü):cB P w K mg base gR k f fd ps (jF K (UO p)):=F.calm λvs H Q E ⟨xs,M,q,r,m,h,k⟩=>#[xs,M,q,_,r,m,h,k,λ_ _ _ z=>z.elim]
def Bu (C:iB)(m:Str)(p:fZ)(e:WX)(a:WE)(b:WA):WE:=λρ M q=>a ρ M λx M1=>gh λ(o dx:iB) (fs:ű)=>fE (x=wr o) (M1 o=Ϟ) gŞ (b ρ M1 λxs M2=>p aŰ M2 q aĬ)
instance {C:iB}{m:Str}{p:fZ}{e:WX}{t:TE}{u:TA}{a:WE}{b:WA} [ia:Ķ] [ib:bà]:IE K (tU C m bü [] Ŀ t u) (Bu C m p e a b) where
 imp :=λρ M σ H q Q o h k=>ia.imp ρ M σ H _ _ o h λx M1 v H1 jí t1 m1 r1=>by subst ex;let⟨ks,e,r⟩:=m1 ad _ hp;exact nä;exact#[wr ad::xs,M2,q,_,lÙ,m2,h2,?_,?_];intro y M' u H' hq ts m' r';show lő;rintro C M' H' ⟨M0,s,h⟩ m;show hΛ
def AV (p:fZ)(xs:Æ)(M:Mp)(q:WK)(e:WX):Prop:=p xs M q e
def TQ {C:iB}{m:Str}{p:fZ}{e:WX}{a:WE}{b:WA}{ρ:dt}{M:Mp}{q:WK}:Bu C m p e a b ρ M q=a ρ M λx M1=>hG x λo=>yI (M1 o) λC' _ fs=>eR jî (b ρ M1 λxs M2=>AV p aŰ M2 q aĬ):=by unfold Bu hG yI eR AV;congr 1;funext x M1;apply propext;symm;rintro⟨o,dx,fs,e1,e2,e3,h⟩;show kÌ;rintro⟨o,e1,C',dx,fs,e2,⟨rfl,e3⟩,h⟩;show hΞ
theorem Ue {p:fZ}{e:WX}{a:WA}{ρ:dt}{M:Mp}{q:WK}:Hu p e a ρ M q=a ρ M λxs M1=>AV p xs M1 q aĬ:=rfl
theorem TJ {C:iB}{e:WX}{a:WA}{D:fA}{ρ:dt}{M:Mp}:xO C e a D ρ M=a ρ M λxs M'=>eR hŭ (up e C M'):=rfl
theorem jM.of {H H1 H2:Hp}{D':fA}{D:kZ}(e:cž)(t1:aź)(t2:bØ):jM K H2 D' D:=(e.mv t1).mv t2
universe e
universe WL
namespace L2
open PySem PySem.Spec PyProof.Rows
section
variable {X:Cx}{tg:Expr}
def U0:kϋ:=λx lo hi H Q=> ∃z:Str,dh cœ hġ (Q (.str hß) H)
def eI:SlR X U0:=by
 intro ag s σ H x v vl vu lo hi sl Q I rx hs pl pu h;let⟨z,rfl,hz,q⟩:=h;let⟨t,rfl⟩:=rx;exact#[aÅ,_,F.slot_str_getitem.lookup,fΚ,?_];have j': ∀t' k,EP X ag σ Q (.str hß t') {s with toks:=k}:=λt' k=>#[.str hß,H,đ,ĩ,q]
 cases pl with
 | none=>
  cases pu with
  | none=>show wpAny_getItem_str_slice (l:=none) (u:=none) (st:=none) hs rfl lċ
  | int j tj=>show wpAny_getItem_str_slice (l:=none) (u:=cύ) (st:=none) hs rfl lċ
 | int i ti=>
  cases pu with
  | none=>show wpAny_getItem_str_slice (l:=cώ) (u:=none) (st:=none) hs rfl lċ
  | int j tj=>show wpAny_getItem_str_slice (l:=cώ) (u:=cύ) (st:=none) hs rfl lċ
def fN (z:Str)(n:Nat):Str:=if n=0 then Str.empty else if gĄ then z else⟨lż⟩
def DH (z:Str)(n:Nat):(⟨lż⟩:Str).length=n*z.length:=by
 have: ∀ (n:Nat) (a:Array Nat),(kÍ cò a).size=a.size+dŪ:=by
  intro n;induction n with
  | zero=>intro a;simp
  | succ n ih=>intro a;rw[List.replicate_succ,List.foldl_cons,ih,Array.size_append,Nat.succ_mul];omega
 change(lż).size=dŪ;rw[this];simp
def OG:R2:=λx y H Q=>cU λ(z:Str) aŢ=>gX cœ (y= aĳ) (n<=Â) fΨ (Q (.str (fN z n)) H)
def Mr:jE X fŪ OG:=by
 intro ag s σ H x y v u Q I rx ry h;let⟨z,n,rfl,rfl,hn,hz,q⟩:=h;let⟨t,rfl⟩:=rx;let⟨t',rfl⟩:=ry;have hs:z.length*n<=sizeLine:=az (Nat.mul_le_mul hz hn) gπ;exact PySem.P.mul_str ?_ dū dū ?_;have e1:decide (ē < -(aü:Int))=false:=ς;have e2:decide (ē≥aü)=false:=ς;rw[e1,e2];rfl;intro h;have h1:iĦ<=(aü - 1) / n:=by rw[Int.le_ediv_iff_mul_le Ť];have:(iĦ)*n<=(iĦ)*Â:=Int.mul_le_mul_of_nonneg_left Ť ⋯;omega
 omega;unfold Builtin.Str.tooLong;rw[decide_eq_false_iff_not];have:fĪ:=rfl;rw[this];omega;unfold fN at q;by_cases h0:n=0;subst h0;rw[å] at q;rw[aĴ];show#[⋯,jϱ];rw [aC h0] at q;rw[aC Ť];by_cases h1:gĄ;rw[aÊ] at q;rw[aF (by obtain h | h:=h1 <;>simp[h])];show#[ać,H,I,bÐ,q];rw[aË] at q;rw[aC (by intro c;rw[dE,beq_iff_eq,beq_iff_eq] at c;show h1 (c.imp Ť id))];have e:fĪ:=rfl;rw[e];exact#[?_,jϱ];rw[DH];rw[Nat.mul_comm];show hs
def ItS (z:Str):It:=#[λi _=>dŬ,λi H x H'=>H'=H /\ ∃c,z.cps[i]? =é /\ x= fÿ,λi _=>eć]
def Hy {P:pF}{w:World}{K:jv}{tg:Expr}(z:Str)(t:Tok)(it:iB):y9 P w K tg (ItS z) [it] it (λi h=>h.IsStrIter it "str_ascii_iterator" z t i) where
 mem:=by simp
 obj:=λi h st b hb=>by have e:b=it:= Ñ;subst e;let⟨o,e,c,d⟩:=st;show kΑ
 keep:=λi h h' ⟨o,ho,r⟩ k=>#[o,k it Ň o ho,r]
 item:=by intro X hP hw hK hc i ag s σ H E I hf st hg;subst hP hw hK;let⟨f0,f1,f2,f3,f4,f5⟩:=ϊ;have hg:dŬ:=hg;exact wpAny_pyNext_ascii_item st (c:=z.cps[i]) eĈ fò;have I1:Inv X ag σ H kį:=I.turned (t':=aϴ) kŉ f0 f1 f3 f4 f5;let⟨o,e,c,d⟩:=id Du;show#[_,rfl,Au (s:= kį) e c d ⋯ #[.str ⟨#[z.cps[i]]⟩,H,I1,ĩ,#[rfl,_,by simp[hg],rfl],Du,gϩ]]
 done:=by intro X hP hw hK hc i ag s σ H E I hf st hg;subst hP hw hK;let⟨f0,f1,f2,f3,f4,f5⟩:=ϊ;have hg:eć:=hg;show wpAny_pyNext_ascii_end ź st eĈ mϊ
 self:=λ_ _ _ _ _ st h=>wpAny_pyIter_striter_ascii st h
def VR (tl:TE):TI:=λσ H R=>tl σ H λx H1=> ∃z:Str,dh cœ jï (R (ItS z) H1)
def yh {l:Expr}{tl:TE}(hl:bś):PI X tg l (VR tl):=by intro ag s σ H R I h;exact mè;let⟨z,e,ha,q⟩:=q1;subst e;let⟨t,rfl⟩:=r1;exact wpAny_pyIter_ascii ha ?_;exact#[s1.heap.objs.size,gϪ,_,_,H1,rfl,kϬ,Hy z t _,hű,cġ,q];have e:gϫ:= Ñ;subst e;show kŊ
def OI:ϧ:=mΛ
theorem i5:eN X fŹ OI:=yV
def m9 (i j:Str):Bool:= ! lϩ
def U4:R2:=λx y H Q=>cU λi j=>dh cĹ cĺ (Q (.bl (aĵ)) H)
def DJ:R2:=λx y H Q=>cU λi j=>dh cĹ cĺ (Q (.bl (! aĵ)) H)
theorem IY:jE X fù U4:=FM
theorem wS:jE X gū DJ:=yo
universe e
universe L2
namespace WL
open PySem L2
section
variable {K:jv}
def TV:vw:=λx y M q=>gh λz i c=>gX bĆ bá hġ (gÝ=é) (hà)
instance:IR K U3 TV where
 imp:=by rintro x y v u M H q Q m r1 r2 ⟨z,i,c,rfl,rfl,hz,e,h⟩ k;cases r1.eq;cases r2.eq;show#[z,i,c,rfl,rfl,hz,e,ϱ]
def Y9 {z:Str}{i:Int}{M:Mp}{q:WK}:TV (cϏ) π M q=eR hġ (sJ (gÝ) λc=>hà):=by apply propext;symm;rintro⟨_,_,c,h1,h2,h3,h4,k⟩;cases h1;cases h2;show#[h3,c,h4,k];rintro⟨h3,c,h4,k⟩;show#[_,_,c,rfl,rfl,h3,h4,k]
def TD:Tp:=λx lo hi M q=> ∃z:Str,dh bĆ hġ kÎ
instance:ISl K U0 TD where
 imp:=by rintro x v lo hi M H q Q m r1 ⟨z,rfl,hz,h⟩ k;cases r1.eq;show lĻ
def YX {z:Str}{lo hi:ø}{M:Mp}{q:WK}:TD (cϏ) lo hi M q=eR hġ kÎ:=by apply propext;symm;rintro⟨_,h1,h3,k⟩;cases h1;show aΑ;rintro⟨h3,k⟩;show eÿ
def TH:vw:=λx y M q=>cU λ(z:Str) aŢ=>gX bĆ (y=wi n) (n<=Â) fΨ (q (ws (fN z n)) M)
instance:IR K OG TH where
 imp:=by rintro x y v u M H q Q m r1 r2 ⟨z,n,rfl,rfl,hn,hz,h⟩ k;cases r1.eq;cases r2.eq;show#[z,n,rfl,rfl,hn,hz,ϱ]
def TY:vw:=λx y M q=>cU λi j=>dh bā bĂ (gą)
def xP:vw:=λx y M q=>cU λi j=>dh bā bĂ (gΗ)
instance:IR K U4 TY where
 imp:=by rintro x y v u M H q Q m r1 r2 ⟨i,j,rfl,rfl,h⟩ k;cases r1.eq;cases r2.eq;show lŽ
instance:IR K DJ xP where
 imp:=by rintro x y v u M H q Q m r1 r2 ⟨i,j,rfl,rfl,h⟩ k;cases r1.eq;cases r2.eq;show lŽ
def Za {i j:Str}{M:Mp}{q:WK}:TY eò eô M q=gą:=by apply propext;symm;rintro⟨_,_,h1,h2,k⟩;cases h1;cases h2;show k;intro k;show fΩ
def SS {i j:Str}{M:Mp}{q:WK}:xP eò eô M q=gΗ:=by apply propext;symm;rintro⟨_,_,h1,h2,k⟩;cases h1;cases h2;show k;intro k;show fΩ
def N9:y8:=λxs M q=> ∃z,dh (xs= [ws z]) hġ há
instance:IC K OI N9 where
 imp:=by rintro xs v M H q Q m r1 ⟨z,rfl,hz,h⟩ k;let⟨v,rfl,r⟩:=r1.one;cases r.eq;show lĻ
def Xu {z:Str}{M:Mp}{q:WK}:N9 [cϏ] M q=eR hġ há:=by apply propext;symm;rintro⟨_,h1,h3,k⟩;cases h1;show aΑ;rintro⟨h3,k⟩;show eÿ
def oq (z:Str):ê:=z.cps.toList.map λc=>ŝ
def MT (a:WE):WI:=λρ M q=>a ρ M λx M1=> ∃z:Str,dh bĆ jï kŹ
def JL {H1:Hp}{z:Str}:GQ K H1 (ItS z) (eĉ) cξ:=by
 intro i M H ts m _;have hl:(eĉ).length=z.cps.size:=by unfold oq;simp
 exact#[λh=>by change eć;omega,λh=>by change dŬ;omega,fχ];let⟨rfl,c,hc,rfl⟩:=y;exact#[bθ,m,ws ŝ,?_,WR.v];unfold oq;rw[ba,aD,Array.getElem?_toList,hc];rfl
instance {t:TE}{a:WE} [ia:Ķ]:II K (VR t) (MT a) where
 imp:=λρ M σ H q R o h k=>ia.imp ρ M σ H _ _ o h λx M1 v H1 ⟨z,e,ha,h1⟩ t1 m1 r1=>by subst e;show#[z,r1.eq,ha,k _ _ _ M1 H1 h1 t1 m1 JL]
def _s {a:WE}{ρ:dt}{M:Mp}{q:kÅ}:MT a ρ M q=a ρ M λx M1=>xV x λz=>eR jï kŹ:=by unfold MT xV eR;congr 1;funext x M1;show mŘ
universe e
universe WL
namespace L2
open PySem PySem.Spec PyProof.Rows
theorem Ds: ∀ {ks:ê} {vs:Ê},hÅ ->(∀ (j:Nat) (v:eC),eΗ ->cU λ(k:Str) (t:Tok)=>eΞ /\ v= .str k t) ->eĊ
 | [],[],_,_=> .nil
 | [],_::_,h,_=>by simp at h
 | _::_,[],h,_=>by simp at h
 | k::ks,v::vs,h,hv=>by let⟨k',t,e1,e2⟩:=hv 0 v rfl;simp at e1;subst e1 e2;show .cons k t (Ds ⇑h kÁ)
theorem oX: ∀ {ks:ê} {vs:Ê},eĊ ->cF (ks.map V.str) vs
 | _,_, .nil=> .nil
 | _,_, .cons x t r=> .cons bÐ (oX r)
section
variable {X:Cx}{tg o e:Expr}{td ty:TE}{eK dM:Pos}
def Ik:ϧ:=λxs H Q=>cU λ aĶ fϊ=>dh eϣ hĽ (∀p,İ ->Q ĭ (upd H p ō))
def CO:eN X (dě) Ik:=by intro ag s σ H xs us Q I r h;let⟨d,kvs,rfl,hd,q⟩:=h;let⟨u,rfl,ru⟩:=Ĕ;cases ru;let⟨hz,lo,vs,jl,dd⟩:=có;exact kt_call_dict lo dd jύ λh' Cu sb=> ?_;have big:=I.big;exact#[hŲ,_,I.laid (a:=s.heap.objs.size) (o:= aţ) (t':=s.toks) eŧ ï #[hz,?_,vs,jl,Cu],rfl,ič];rw[sb.2 b cı];show aõ;show beq_eq_false_iff_ne.mpr (λz=>by rw[z] at big;show cH _ big)
def Ol (t:TE):TE:=λσ H Q=>cU λd kvs=>H d=Θ /\ t σ H λv H'=>cU λo us=>H' d=some (.nF o bć) /\ Q v (upd H' d bć)
def Mh {e:Expr}{t:TE}(h:PE X e t):PE X e (Ol t):=by
 rintro ag s σ H Q I ⟨d,kvs,hd,ht⟩;have h0: kĮ:=λo u e=>by have:=I.base.kP d o u e;rw[hd] at this;cases this
 exact dH (h ag s σ H _ I ht) λv s' ⟨x,H',I',r,o,us,e,q⟩=>#[x,_,I'.Zx e h0,?_,q]
 show r
structure SF (K:PySem.W.Frag)(mg:gń)(x:Str)(ns:List Int):Prop where
 ex: ∃a,mg x=some Ī /\ ∀H,iħ
def tGT (K:jv)(ns:û):TE:=λ_ H Q=> ∀a,iħ ->Q Ī H
def Mi {x:Str}{ns:û}{pos:Pos}(hg:ì)(T:SF X.K X.mg x ns)(hd:ϰ:=by decide):PE X dϠ (tGT X.K ns):=by let⟨a,hm,hs⟩:=T.ex;intro ag s σ H Q I h;show fR (v:= ß) hg hm rfl hd ag s σ H Q I (h a (hs H))
universe e
universe L2
namespace WL
open PySem L2
section
variable {K:jv}
def wGT (ns:û):WE:=λ_ M q=>iÜ
instance {ns:û}:IE K (tGT K ns) (wGT ns) where
 imp:=λρ M σ H q Q o h k=>λa hs=>k _ M _ H h Ů o.hp (WR.MG hs (by
  exact cO.mk Ň λj d v e1 e2=> ?_;rw[aD] at e1 e2;cases hj:ns[j]? with
  | none=>rw[hj] at e1;cases e1
  | some n=>rw[hj] at e1 e2;cases e1;cases e2;show WR.v))
theorem ae7 {ns:û}{ρ:dt}{M:Mp}{q:WK}:wGT ns ρ M q=iÜ:=rfl
theorem El {H:Hp}: ∀ {kvs:š} {vs:Ş},eĄ ->eμ=eÊ
 | _,_, .nil=>rfl
 | _,_, .cons ⟨e,_⟩ t=>by rw[av,av,El t,e]
theorem zq {H:Hp}: ∀ (ns:ê),cO K H cϐ eϤ
 | []=>cO.nil
 | _::r=>cO.cons WR.v (zq r)
def Ho:y8:=λxs M q=>cU λ aĶ fϋ=>dh dŜ hľ (lŒ)
instance:IC K Ik Ho where
 imp:=by rintro xs v M H q Q m r1 ⟨d,kvs,rfl,hd,h⟩ k;let⟨v,rfl,r⟩:=r1.one;cases r.eq;let⟨us,e,rr⟩:=bĈ;show#[d,us,rfl,e,λp hp=>k _ _ _ _ gη Ϛ (m.put Ϛ #[us,bX,KR.ts Ϛ rr]) WR.v]
def T_ {d:iB}{M:Mp}{q:WK}:Ho [.v (aĩ)] M q=mO (M d) λkvs=> lŒ:=by apply propext;symm;rintro⟨_,kvs,h1,h2,k⟩;cases h1;show#[kvs,h2,k];rintro⟨kvs,h2,k⟩;show#[_,kvs,rfl,h2,k]
def Tz (t:WE):WE:=λρ M q=>cU λd kvs=>M d=Θ /\ t ρ M λv M'=>gh λo ks us=>M' d=some (.fz o ks us) /\ q v (um M' d bć)
instance {t:TE}{a:WE} [ia:Ķ]:IE K (Ol t) (Tz a) where
 imp:=λρ M σ H q Q o ⟨d,kvs,hd,h⟩ k=>by let⟨ks,ek,r⟩:=o.hp d _ hd;exact#[d,ks,ek,ia.imp ρ M σ H _ _ o h ?_];rintro x M' v H' ⟨ob,us,ws,hM,hq⟩ ts m' r';let⟨e1,r1⟩:=m' d _ hM;have t2:=Qc (u:= .dK us) e1;show#[ob,us,e1,k _ _ _ _ hq eċ (m'.put t2 #[us,bX,KR.ts t2 r1]) (r'.ts t2)]
universe e
universe WL
namespace L2
open PySem
def m7 {X:Cx}{K:jv}(hK:Ï):jE X gū (U5 K true):=by subst hK;show yp
theorem kS {K:jv}{h:Heap}{mg:Ũ}{x:Str}{C:iB}(X:aĲ)(G:hÀ)(a:lŐ):mg x=dϵ:=eą
theorem kr {K:jv}{h:Heap}{x:Str}{C:iB}{cd:ClassData}(_:aĲ)(a:lŐ)(e:lĥ)(k1:hÚ)(k2:nØ)(k3:lŧ)(k4:mΗ)(k5:lØ)(k6:lŻ):ko K x C:=Ts a e k1 k2 k3 k4 k5 k6
theorem HL {K:jv}{h:Heap}{mg:Ũ}{x z:Str}{t:Tok}(X:aĲ)(G:hÀ)(a:iÛ=some (fī)): ∃t,mg x=fī:=#[t,eą]
theorem Qa {K:jv}{h:Heap}{mg:Ũ}{x:Str}{ad:iB}{n1 n2 n3 n4:Int}{t1 t2 t3 t4:Tok}{n:Nat}{sl:dϷ}(X:aĲ)(G:hÀ)(a:iÛ=some (some (.ref ad))) (l:K.lookup ad=some #[dϕ,none, .seq (List.toArray [.int n1 t1, .int n2 t2, .int n3 t3, .int n4 t4]) n,sl]):SF K mg x [n1,n2,n3,n4]:=#[ad,eą,λH=> .inr #[_,_,_,l,rfl,rfl,rfl,by change cΒ;decide, .cons ĩ (mÛ)]]
universe L2
namespace WQ
open PySem L2 WL WP
section
variable {α:Type}
def xU (f:ÿ)(l:ż):š:=l.map λz=>(.inr z.1,f z.2)
def dj (l:ż)(n:Str):gk α:=(jĳ).map aò
def fV (l:ż)(n:Str)(a:α):ż:=if jĴ=true then l.map (λz=>jĵ) else cϑ
def aeH (l:ż)(n:Str):ż:=l.filter λz=>decide (z.1≠n)
theorem yJ {a b:Str}:(eŘ= .inr b)↔a=b:=#[Sum.inr.inj,λh=>by rw[h]]
def f9 (f:ÿ)(l:ż)(n:Str):iy (aķ) bĉ=(dj l n).map f:=by
 unfold iy xU dj;induction l with
 | nil=>rfl
 | cons z l ih=>rw[av,cT,cT];simp![yJ];by_cases h:z.1=n;simp[h];simpa [h] using ih
def kG (f:ÿ)(l:ż)(n:Str)(a:α):qJ (aķ) bĉ (f a)=xU f (bĊ):=by
 have e:((aķ).any λkv=>decide (kv.1= .inr n))=jĴ:=by unfold xU;rw[List.any_map];congr 1;funext z;simp![Function.comp,yJ]
 unfold qJ fV;rw[e];split;unfold xU;rw[ba,ba];apply d3;intro z _;simp![Function.comp,yJ];split<;>rfl;unfold xU;rw[aX];rfl
def jP (f:ÿ)(l:ż):(aķ).map ç=(ž).map Sum.inr:=by unfold xU;rw[ba,ba];rfl
def xT (f:ÿ)(l:ż):(aķ).length=l.length:=by unfold xU;rw[af]
def mZ (l:ż)(n:Str)(a:α):(bĊ).length<=l.length+1:=by unfold fV;split<;>simp
def fg {l:ż}{n:Str}{a:α}(h:dj l n=ë): ∃z∈l,z.1=n /\ z.2=a:=by
 unfold dj at h;cases e:jĳ with
 | none=>rw[e] at h;cases h
 | some z=>rw[e] at h;cases h;show#[z,List.mem_of_find?_eq_some e, ⇑(List.find?_some e),rfl]
def nj {l:ż}{z:aŹ}(h:z∈l): ∃a,dj l z.1=ë:=by
 unfold dj;cases e:l.find? λy=>decide (y.1=z.1) with
 | none=>simpa using List.find?_eq_none.mp e z h
 | some y=>show ĩ
def mY {l:ż}{n:Str}{a:α}{z:aŹ}(h:z∈bĊ):z∈l \/ z=aÙ:=by unfold fV at h;split at h;let⟨y,hy,rfl⟩:=aG.mp h;split;rename_i e;rw[e];show ĥ;show .inl hy;obtain h | h:=aK.mp h;show añ;show .inr (aο)
def Im (l:ż)(n:Str)(a:α):hΡ=if jĴ=true then ž else ž++ [n]:=by unfold fV;split;rw[ba];apply d3;intro z _;simp![Function.comp];split<;>rfl;rw[aX];rfl
def BQ {l:ż}{n:Str}{a:α}(h:hĿ):(hΡ).Nodup:=by rw[Im];split;show h;rename_i hn;rw[List.nodup_append];exact#[h,by simp,λx hx y hy=> ?_];rw[aZ.mp hy];rintro rfl;apply hn;let⟨z,hz,e⟩:=bċ;show List.any_eq_true.mpr #[z,hz, ⇑e]
def tY {a b c:ê}(h1:a.Perm c)(h2:b.Perm c)(s1:a.Pairwise kź)(s2:b.Pairwise kź):a=b:=by exact List.Perm.eq_of_pairwise (le:=kź) (λx y _ _ hxy hyx=> ?_) s1 s2 (h1.trans h2.symm);show mX (List.le_antisymm hxy hyx)
universe e
inductive Rf where
 | BadName | aeV | NoRound | NoCrew | Taken | afo | TooMany | TooFar | aeU | YC
abbrev zm:Str:= jγ
abbrev Rm:=eA (Str×Rd)
abbrev Tm:=eA (Str×ê)
def ja (l:ê):W:= .tup (bČ)
abbrev yd (R:Rm):š:=xU kF R
abbrev wF (T:Tm):š:=xU ja T
def Ev (n:Str)(l:ê):Bool:=Cp (.str n) (cϒ)
def Bw (T:Tm)(n:Str):Bool:=T.any eČ
def bG (n:Str):Bool:=mο
def gA (a:Rd)(m r:Int):Bool:= ! nõ
abbrev bK (n:Str):Prop:=n.cps.all bΕ=true
def oz (r t:iB):ű:= [(bč,wr r),(aΗ,wr t)]
def fu (p:Int)(now la lu lh:iB):ű:= [("p",Ç),(aÚ,wr now),eϥ,fό,(aĹ,wr lh)]
section
variable {p:Int}{r t now la lu lh x:iB}
theorem vQ:fĬ (bč :Str)=cϔ:=rfl
theorem sI:fĬ (aΗ :Str)=cϕ:=rfl
theorem aeO:ϭ ("p" :Str)=Ų:=rfl
theorem nJ:ϭ (aÚ :Str)=some (wr now):=rfl
theorem aeQ:ϭ (aĸ :Str)=some (wr la):=rfl
theorem aeN:iA aÚ (wr x) (gĆ)=fu p x la lu lh:=rfl
theorem aeM:iA bĎ (wr x) (gĆ)=fu p now la x lh:=rfl
theorem aeP:lÚ:=jδ
theorem mU:ϭ (cô :Str)=none:=rfl
theorem oQ:ϭ ("turn_to" :Str)=none:=rfl
theorem Ss:ϭ ("put" :Str)=none:=rfl
theorem sD:ϭ ("put_team" :Str)=none:=rfl
theorem AY:ϭ ("enlisted" :Str)=none:=rfl
theorem E3:ϭ (aĻ :Str)=none:=rfl
theorem KL:ϭ ("found" :Str)=none:=rfl
theorem xD:ϭ ("enlist" :Str)=none:=rfl
theorem wc:ϭ (dŮ :Str)=none:=rfl
theorem AX:ϭ ("names" :Str)=none:=rfl
theorem AZ:ϭ ("crews" :Str)=none:=rfl
theorem mV:ϭ ("round_of" :Str)=none:=rfl
theorem vq:ϭ ("members" :Str)=none:=rfl
universe e
def HD {α:Type}(f:ÿ)(l:ż):(aķ).map (λx=>x.2)=l.map λz=>f z.2:=by unfold xU;rw[ba];rfl
def xm (l:ê):(cϒ).all mI=true:=by rw[List.all_map];show dJ.mpr cá
theorem Eu {n:Str}{l:ê}{M:Mp}{q:WK}(h:q (wb (aļ)) M):Zb false (ws n) (ja l) M q:=#[.str n,cϒ,rfl, .inl (by unfold ja;rw[ba];rfl),rfl,xm l,h]
theorem LV {M:Mp}{t u:iB}{o f:MO}{l:MO}(h:M t=ä)(hu:um M t f u=none):Sm M (um (um (um M t f) u l) t o):=λa x e=>by by_cases ht:a=t;subst ht;rw[am];rw[h] at e;show e;rw[aR ht,aR (dR (M:=um M t f) (by rw[aR ht];show e) hu),aR ht];show e
def Pg (C:iB)(M:Mp)(a:iB)(R:Rm)(T:Tm):Prop:=gh λ(dx r t:iB)=>dh (M a=some hŁ) (hΥ) (hΦ)
structure Bk (B C:Addr)(M:Mp)(b la lu lh:Addr)(p:Int)(now:Addr)(pa un he:bŐ)(R:Rm)(T:Tm):Prop where
 ob: ∃dx,M b=some (.ins B dx (gĆ))
 pa:M la=some (.lst (bΖ))
 un:M lu=some (.lst (un.map wr))
 he:M lh=some (.lst (he.map wr))
 ne:la≠lu /\ la≠lh /\ lu≠lh
 pg:Pg C M now R T
def sE (b la:iB)(M M':Mp):Prop:= ∀a o,cÎ ->a≠b ->a≠la ->M' a=ä
def Pg.sm {C a:iB}{M M':Mp}{R:Rm}{T:Tm}(h:dů)(s:ę):eč:=by let⟨dx,r,t,h1,h2,h3⟩:=h;show#[dx,r,t,s _ _ h1,s _ _ h2,s _ _ h3]
def Bk.sm {B C b la lu lh now:iB}{M M':Mp}{p:Int}{pa un he:Í}{R:Rm}{T:Tm}(h:lÛ)(s:ę):Bk B C M' b la lu lh p now pa un he R T:=by let⟨⟨dx,h1⟩,h2,h3,h4,h5,h6⟩:=h;show#[#[dx,s _ _ h1],s _ _ h2,s _ _ h3,s _ _ h4,h5,h6.sm s]
theorem sE.sm {b la:iB}{M M1 M':Mp}(F:sE b la M1 M')(s:až):γ:=λa o h n1 n2=>F a o (s a o h) n1 n2
theorem sE.dic {b la:iB}{M M':Mp}(F:γ){B dx:iB}{fs:ű}{l:Æ}(hb:M b=some (.ins B dx fs))(ha:M la=ο){r:iB}{kvs:š}(h:M r=Θ):M' r=Θ:=F _ _ h (λz=>by subst z;rw[hb] at h;cases h) λz=>by subst z;rw[ha] at h;cases h
def sE.pg {b la:iB}{M M':Mp}(F:γ){B C dx now VG lu lh a:iB}{p:Int}{l:Æ}{R:Rm}{T:Tm}(hb:M b=some (.ins B dx (fu p now VG lu lh)))(ha:M la=ο)(h:dů):eč:=by let⟨qz,r,t,h1,h2,h3⟩:=h;exact#[qz,r,t,F _ _ h1 (bÉ) (bÉ),F.dic hb ha h2,F.dic hb ha h3];subst z;rw[hb] at h1;injection h1 with h1;injection h1 with _ _ h1;have:=congrArg List.length h1;revert this;change 5=2 ->False;decide;subst z;rw[ha] at h1;cases h1
def Fs (s:iB)(M M':Mp):Prop:= ∀a o,cÎ ->a≠s ->M' a=ä
theorem Fs.trans {s:iB}{M M1 M2:Mp}(f:Fs s M M1)(g:Fs s M1 M2):Fs s M M2:=λa o h n=>g a o (f a o h n) n
theorem Fs.self {s:iB}{M:Mp}{o:MO}:Fs s M (um M s o):=λa u h n=>by rw[aR n];show h
theorem Fs.new {s p:iB}{M M':Mp}{o:MO}(f:bΗ)(hp:bż):Fs s M cŻ:=λa u h n=>by rw[aR (dR (bΘ) hp)];show bΘ
theorem Fs.put {s:iB}{M M':Mp}{o:MO}(f:bΗ):Fs s M (um M' s o):=λa u h n=>by rw[aR n];show bΘ
def Fs.free {s p:iB}{M M':Mp}(f:bΗ)(hp:bż)(n:p≠s):Ĵ:=by
 cases e:M p with
 | none=>rfl
 | some o=>rw[f p o e n] at hp;cases hp
structure NL (p:Int)(R:Rm):Prop where
 nd:hł
 len:eϦ
 ok: ∀z∈R,f8 p aÂ /\ dŰ<=401 /\ hŃ
def QW (C:iB):fZ:=λxs M q e=> ∃n:Str,gX dű (bK n) (eĎ) (Ŗ ->q wn M) (bG n=false ->e C M)
def QN:iR:=λxs M q=>jD λ aĶ fϋ aΘ (x:W)=>fE (xs= [wr d,ws n,x]) hľ (kvs.length<=2000) (∀r,bď ->q (wr r) (um M r (.dK (qJ kvs bĉ x))))
def Vk (C:iB):iR:=λxs M q=>jD λ(s dx r t:iB)=>dh (xs= [wr s,wr r,wr t]) (M s=some eŷ) (q wn (um M s hŁ))
def FK (B C:iB):iR:=λxs M q=>qu λ Ϡ=>jD λ Ě ϓ=>cU λ Ā ā=>dh dŲ ϶ (q (Ç) M)
def Vc (B C:iB):iR:=λxs M q=>Yz λ(b la lu lh now pg:iB)=>jD λ Ě ϓ=>jD λ Ā ā (R':Rm) aΙ=>gX (xs= [wr b,wr pg]) ϶ (Pg C M pg R' T') gĉ (∀M' oH,Bk B C M' b la oH lh p pg (pa++ [now]) [] he R' T' ->γ ->bΙ ->aδ)
def FL (B C:iB):iR:=λxs M q=>qu λ Ϡ=>jD λ Ě ϓ=>gh λ Ā ā aΘ=>fE gĊ ϶ fύ (q (wb (Bw T n)) M)
def gF (T:Tm)(n:Str)(a:Rd):Bool:=dų || (Bw T n && bΚ)
def ZM (B C X:iB):fZ:=λxs M q e=>qu λ Ϡ=>jD λ Ě ϓ=>jD λ Ā ā aΘ aĪ=>KQ (xs= [wr b,ws n,kF a]) ϶ gĉ (eϦ) fύ hΧ (gF T n a=false -> ∀M' oH pg,Bk B C M' b la oH lh p pg (pa++ [now]) [] he (bĐ) T ->lχ) (gF T n a=true ->e X M)
def IB:iR:=λxs M q=>gh λ aĪ (e r:Int)=>dh (xs= [kF a,wi e,wi r]) hΧ (q (wb (!gA a e r)) M)
def QT:iR:=λxs M q=> ∃a:Rd,dh dŧ hΧ (q (wb (! bΚ)) M)
inductive W8 where
 | tell (n:Str) (ds:List (Str×Int)) | join (n x y:Str) | back (n x:Str) | times (n x:Str) (k:Int) | drop (n:Str)
inductive Oc (α:Type) where
 | ok (R:α) | bad (r:Rf)
structure Nm (n:Str):Prop where
 as:bK n
 len:eĎ
structure W7 (p:Int)(R:Rm)(T:Tm)(pa:bŐ):Prop where
 p4:iż
 pa:eϧ
 r:aľ
 t:eď
def Pw (B C:iB)(M:Mp)(b la lh:iB)(p:Int)(now:iB)(pa he:Í)(R:Rm)(T:Tm)(q:WK):Prop:=∀M' oH pg,Bk B C M' b la oH lh p pg (pa++ [now]) [] he R T ->lχ
def IF (B C X:iB):fZ:=λxs M q e=>qu λ Ϡ=>jD λ Ě ϓ=>gh λ Ā ā aΘ=>gX gĊ ϶ (eĎ) (∀a,τ ->q aī M) (aĿ=none ->e X M)
theorem Wp {a n:Str}(h:eĐ)(hn:eĎ):(a++n).length<=sizeLine:=hń
theorem Wo {a n c:Str}(h:eĐ)(hn:eĎ)(hc:eđ):(a++n++c).length<=sizeLine:=aL hŅ
theorem fs3 {a n c d:Str}(h:eĐ)(hn:eĎ)(hc:eđ)(hd:d.length<=600):(a++n++c++d).length<=sizeLine:=aL iĩ
theorem zK {lo hi:Int}: ∀ {l:Pt} {a:Int},l.Pairwise (λx y=>x.1<y.1) ->(∀z∈l,a<=z.1 /\ z.1<=hi) ->a<=hi+1 ->eϙ <=hi+1 - a
 | [],a,_,_,h=>by simp;omega
 | z::l,a,hp,hb,h=>by have h0:=hb z Ň;have:=zK (lo:=lo) (hi:=hi) (l:=l) (a:=z.1+1) (bT.mp hp).2 (λy hy=>#[by have:=(bT.mp hp).1 y hy;omega,(hb y eā).2]) Ť;rw[ax];push_cast;omega
def Nt {a:Rd}{p:Int}(h:gΘ)(hp:bû):cå<=401:=by unfold gA at h;rw[Bool.not_eq_false',cx,dJ] at h;have:=zK (lo:=0) (hi:=200) (a:= -200) hp.2 (λz hz=>by have:=bQ cõ;split at this<;>omega) ⋯;omega
def fO {x:Str}:bK x↔ ∀c∈x.cps.toList,c<128:=by unfold bK;rw[<- Array.all_toList,dJ];simp![c_]
def Nm.app {x y:Str}(hx:bK x)(hy:bK y):bK (x++y):=by rw[fO] at*;intro c hc;rw[iu] at hc;show(bđ).elim (hx c) (hy c)
def gl {x:Str}{lo hi:ø}(hx:bK x):iÝ:=by unfold Txt.slice;split;show hx;rw[fO] at*;intro c hc;rw[List.mem_filterMap] at hc;let⟨i,_,hi⟩:=hc;show hx c (Array.mem_toList_iff.mpr (Array.mem_of_getElem? hi))
def KN {x:Str}{n:Nat}(hx:bK x):bK (fN x n):=by
 unfold fN;split;decide+kernel;split;show hx;rw [fO] at*;have: ∀ (n:Nat) (a:Array Nat),(∀c∈a.toList,c<128) -> ∀c∈((List.replicate n x.cps).foldl cò a).toList,c<128:=by
  intro n;induction n with
  | zero=>intro a ha c hc;show ha c hc
  | succ n ih=>intro a ha c hc;rw[List.replicate_succ,List.foldl_cons] at hc;exact ih (a++x.cps) (cϖ) c hc;rw[Array.toList_append] at hc;show(bđ).elim (ha c) (hx c)
 show this n #[] Ň
def Fm {x:Str}{n:Nat}:(fN x n).length<=n*x.length:=by unfold fN;split;change 0<=_;omega;split;rename_i h0 h;obtain h | h:=h;subst h;omega;rw[h];omega;rw[DH];show aA _
def qq {ss:ê}{sep:Str}(h0:bK sep)(h: ∀x∈ss,bK x):bK (iſ):=by
 cases ss with
 | nil=>rw[qU];decide+kernel
 | cons x ss=>rw[fO];intro c hc;rw[bY,aK] at hc;obtain hc | hc:=hc;show fO.mp (eĀ) c hc;let⟨l,hl,hc⟩:=iÞ;let⟨y,hy,rfl⟩:=aG.mp hl;obtain hc | hc:=bđ;show fO.mp h0 c hc;show fO.mp (h y eā) c hc
universe WQ
namespace WL
open PySem L2
section
variable {K:jv}
def Hs:WM:=λx ys M q=>cU λa l=>fE Ĺ (ys= []) ϟ (iĪ)
instance:IM K Il Hs where
 imp:=by
  rintro x v ys us M H q Q m r1 r2 ⟨a,l,rfl,rfl,ha,h⟩ k;cases r1.eq;let⟨vs,hv,rr⟩:=bä;have e:us= []:=by simpa only[cO] using r2
  subst e;show#[a,vs,rfl,rfl,hv,k _ _ _ _ h aζ (m.putL hv cO.nil) WR.v]
def Ub {a:iB}{M:Mp}{q:WK}:Hs (cŹ) [] M q=lstK (M a) λ_=>iĪ:=by apply propext;symm;rintro⟨_,l,h1,_,h2,k⟩;cases h1;show bν;rintro⟨l,h2,k⟩;show#[_,l,rfl,rfl,h2,k]
universe e
universe WL
namespace WQ
open PySem L2 WL WP
theorem rf:Sn ws Dt.str:=aϹ
def CG (l:ê):va (.lst eϨ) <=50:=by
 have: ∀l:ê,re eϨ <=1:=λl=>by
  induction l with
  | nil=>simp[re]
  | cons x l ih=>simp[re,va];omega
 have:=this l;simp![va];omega
theorem xY {p:fZ}{xs:Æ}{M:Mp}{q:WK}(h:hΟ):AW (UO p) xs M q:=h
def s_ {xs:Æ}{y:Int}{k:bñ}(P:bñ)(h0:0<=y)(h1:y<xs.length)(hP: ∀x∈xs,P x)(hk: ∀x,P x ->k x):sJ (jC xs y) k:=by
 have hj:y.toNat<xs.length:=by omega
 show#[xs[y.toNat],kW h0 (aÏ),hk _ (hP _ (cw _))]
structure CQ (T:Tm):Prop where
 nd:hņ
 len:eď
 key: ∀z∈T,cö<=100
 mem: ∀z∈T,cø<=100
def CB {α:Type}{l:ż}(h:hĿ){z:aŹ}(hz:z∈l):dj l z.1=some z.2:=by
 induction l with
 | nil=>cases hz
 | cons y l ih=>rw[av,d9] at h;unfold dj;rw[cT];obtain e | e:=bõ;subst e;simp;have kN:y.1≠z.1:=λe2=>h.1 (aG.mpr #[z,e,e2.symm]);rw[ay kN];show ih h.2 e
def Mo:iR:=λxs M q=> ∃n:Str,dh dű (Nm n) (q (wb (bG n)) M)
def Vn:iR:=λxs M q=>gh λ aĪ (m r:Int)=>dh (xs= [kF a,wi m,wi r]) hΧ (q (wb (gA a m r)) M)
def Ve (B C X:iB):fZ:=λxs M q e=>qu λ Ϡ=>jD λ Ě ϓ=>gh λ Ā ā aΘ=>gX gĊ ϶ (eĎ) (∀a,aŀ=ë ->q (ja a) M) hΨ
def IQ (B C X:iB):fZ:=λxs M q e=>qu λ Ϡ=>jD λ Ě ϓ=>gh λ Ā ā aΘ=>gX gĊ ϶ (eĎ) (∀a,aŀ=ë -> ∀u,ŀ ->q aŁ (um M u (.lst (a.map ws)))) hΨ
def pD {n:Str}(h:Ŗ):eĒ:=by unfold bG at h;rw[cx,cx] at h;have:=bQ h.1.2;omega
inductive vD where
 | found (c:Str) | EM (c:Str) | enlist (c n:Str) | EL (c n:Str)
def ft (R:Rm)(T:Tm):vD ->Oc Tm
 | bĒ=>if bG c=false then .bad .BadName else match ał with
  | some _=> cϗ
  | none=> .ok (fV T c [])
 | .EM c=>match ał with
  | none=> dŵ
  | some _=> .ok (aeH T c)
 | cϘ=>match ał with
  | none=> dŵ
  | aĢ=>match aĿ with
   | none=> eē
   | ë=>if aļ=true then cϗ else if cϙ then .bad .TooMany else if bΚ=true then .bad .TooFar else .ok (fV T c (l++ [n]))
 | .EL c n=>match ał with
  | none=> dŵ
  | aĢ=>if aļ=false then eē else .ok (fV T c (l.filter λm=>decide (m≠n)))
def aeW:vD ->Prop
 | bĒ=>Nm c
 | .EM c=>Nm c
 | cϘ=>dŶ
 | .EL c n=>dŶ
def IJ (B C:iB):iR:=λxs M q=>qu λ Ϡ=>jD λ Ě ϓ=>jD λ Ā ā (c:Str) cù=>gX (xs= [wr b,ws c,ja l]) ϶ (eϧ) (eď) (Pw B C M b la lh p now pa he R (fV T c l) q)
def DX (B C:iB)(Wx:Rf ->iB)(f:Æ ->vD ->Prop):fZ:=λxs M q e=>qu λ Ϡ=>jD λ Ě ϓ=>jD λ Ā ā (dd:vD) (ys:Æ)=>KQ (xs=wr b::ys) (f ys dd) (aeW dd) ϶ (cϚ) (CQ T) (∀T',ft R T dd= .ok T' ->Pw B C M b la lh p now pa he R T' q) (∀r,ft R T dd= aŃ ->e (Wx r) M)
def Se (ys:Æ)(dd:vD):Prop:= ∃c:Str,ys= [ws c] /\ dd= bĒ
def Nu (ys:Æ)(dd:vD):Prop:=cU λ(c n:Str)=>ys= [ws c,ws n] /\ dd= cϘ
inductive W' where
 | r (d:W8) | c (d:vD) | afs | afu | hold | ret (k:Int)
def afx:W' ->Prop
 | .r _=>True | .c _=>True | _=>False
structure SBk where
 R:Rm
 T:Tm
 past:hã
 und:hã
 held:hã
def keep (s:SBk)(now:iB):SBk:= {s with past:=s.past++ [(now,s.R,s.T)],und:= []}
structure E8 (p:Int)(R:Rm)(T:Tm):Prop where
 r:aľ
 t:CQ T
 k: iη
 m: kŻ
def Nk {T:Tm}(h:CQ T){c:Str}{l:ê}(hg:υ):l.length<=100:=by let⟨z,hz,_,rfl⟩:=Ö;show h.mem z hz
def aeF {M:Mp}{d l:iB}(h:bð): ∃x,M l=eĔ:=by let⟨ns,i,c,sd,h1,h2,h3,h4⟩:=h;show#[_,h2]
section
variable {i:Nat}{s k:Str}{l:Æ}{a rest:WS}{D:fA}{ρ:dt}{M:Mp}
def To {q:WK}(hρ:ρ[i]? =some (some (.tup (ws k::l))))(h:q (wb (dŷ)) M):PK Xw (PK PN (fT i) (wC (W.v (V.int 0)))) (wC (W.v (V.str s))) ρ M q:=by
 unfold PK fT wC;rw[hρ];exact#[_,0,_,rfl,rfl,WB,_,_,rfl,rfl,rfl,?_];have e:decide (V.str k=V.str s)=dŷ:=by simp
 rw[e];show h
universe e
universe WQ
namespace L2
open PySem
theorem Jk {X:Cx}{K:jv}(h:Ï):xK X "str.join" (lq K):=h▸iq
theorem QJ {X:Cx}{K:jv}{T id:String}{name:Str}{r:ϫ}{o e:Expr}{es:Đ}{to:TE}{t:TA}{eK dM:Pos}(hK:Ï)(pa:dĦ)(slot:eε)(VX:mØ)(hm:bŮ)(ho:bŘ)(ha:Μ) (mG:mß:=by rfl) (RQ:nň:=by rfl) (uT:jÖ:=by rfl) (hs:ϻ:=by rfl) (Cs:lϊ:=by rfl): PE X lŚ (XO K T r to t):=hK▸dQ pa slot VX hm ho ha mG RQ uT hs Cs
universe L2
namespace WQ
open PySem L2 WL WP
noncomputable def fw (l:ê):ê:=Classical.epsilon mπ
def HM {l ns:ê}(h1:ns.Perm l)(h2:lψ):ns=fw l:=by have:=Classical.epsilon_spec (p:=mπ) #[ns,h1,h2];show tY h1 this.1 h2 this.2
def di (R:Rm)(n:Str):Str:=match aĿ with
 | ë=> bē ++n++ " " ++bE a
 | none=> ""
def eO (T:Tm)(c:Str):Str:=match ał with
 | aĢ=>Builtin.Str.glued " " (Ă ::c::l)
 | none=> ""
noncomputable def gV (p:Int) (R:Rm) (T:Tm):Str:=Builtin.Str.glued "\n" (lĦ::mŎ)
structure YB (R:Rm)(T:Tm):Prop where
 r: kϗ
 t:CQ T
 k: iη
 m: kŻ
def D8 {p:Int}{a:Rd}(hp:aħ)(h:bû)(hf:gΘ):CU a:=by
 unfold gA at hf;rw[Bool.not_eq_false',cx,dJ] at hf;have h1:=bQ hf.1;exact#[?_,ů];split at h1<;>(have:cè<=200:=by omega) <;>omega;have h2:=bQ (hf.2 z hz);have h3:=bó;have:cé<=200:=by split at h2<;>omega
 have:cê<=Â:=by omega
 omega
theorem E8.n {p:Int}{R:Rm}{T:Tm}(h:bĔ)(hp:aħ):aŅ:=#[λz hz=>#[D8 hp eĕ.1 eĕ.2.2,eĕ.2.1],h.t,h.k,h.m]
def qG {a:Rd}(h:CU a)(hl:cå<=401):eĖ<=50000:=by
 unfold bE;rw[a8,a8];have l1:=ip h.1;have lc:jĸ:=by decide+kernel
 have l0:jð:=by decide+kernel
 have lb:ϯ:=by decide+kernel
 have eD: mę:=λx hx=>by let⟨z,Cq,rfl⟩:=bċ;have:=Ae (h.2 z Cq);rw[a8];omega
 have:=gJ gþ _ eD;rw[af,l0] at this;omega
def HZ {R:Rm}(h: kϗ){n:Str}(hn:eĒ):fĭ<=51000:=by
 unfold di;split;rename_i a hg;let⟨z,hz,_,rfl⟩:=Ö;have:=qG (h z hz).1 (h z hz).2;have l1:kÑ=6:=by decide+kernel
 have l2:ϯ:=by decide+kernel
 rw[a8,a8,a8];omega;have:jð:=by decide+kernel
 omega
theorem yc {T:Tm}(hm: kŻ){c:Str}(hc:eė){l:ê}(hg:υ): ∀x∈(ϡ ::c::l),x.length<=100:=λx hx=>by let⟨z,hz,_,rfl⟩:=Ö;obtain rfl | hx:=bÎ;decide+kernel;obtain rfl | hx:=bÎ;show hc;show hm z hz x hx
def Ib {T:Tm}(h:CQ T)(hm: kŻ){c:Str}(hc:eė):(eO T c).length<=51000:=by
 unfold eO;split;rename_i l hg;have h1:=gJ ϛ _ (yc hm hc hg);have l2:ϯ:=by decide+kernel
 have:=Nk h hg;rw[ax,ax,l2] at h1;omega;have:jð:=by decide+kernel
 omega
theorem iX {n:Nat}(h:n<=bú):cŗ:=iĢ
def xC {p:Int}{R:Rm}{T:Tm}{ns cs:ê}{M:Mp}{q:WK}{b:iB}(hp:iż)(hS:aŅ)(hl:eĘ /\ eę)(n1:iß)(n2:lψ)(c1:cs.Perm (dŴ))(c2:cs.Pairwise kź) (hb:M b=some (.lst ((ws lĦ)::(iϦ++cs.map λc=>ws bĖ)))) (k:hä):De (ws "\n") aĠ M q:=by
 have l1:jñ=1:=by decide+kernel
 have en:=n1.length_eq;have ec:=c1.length_eq;rw[af] at en ec;exact kL (ss:=lĦ::(eĚ++eě)) (c:=51000) (by rw[hb,av,aX,ba,ba];rfl) eĜ ?_ ?_;obtain rfl | hx:=bÎ;have:=hŇ;have l2:kΛ:=by decide+kernel
 rw[a8];omega;obtain hx | hx:=bĘ;let⟨n,hn,rfl⟩:=bċ;let⟨z,hz,rfl⟩:=aG.mp (n1.mem_iff.mp hn);show HZ hS.r (bΛ);let⟨n,hn,rfl⟩:=bċ;let⟨z,hz,rfl⟩:=aG.mp (c1.mem_iff.mp hn);show Ib hS.t hS.m (eĝ);exact iX ?_;rw[ax,aE,af,af,l1];omega;rw[HM n1 n2,HM c1 c2];show k
universe WQ
namespace WL
open PySem L2
section
variable {M:Mp}{ρ:dt}{q:WK}{a b c:WE}{D:fA}{x y z:W}
def kb (b:WT)(q:ϑ):Ο:=λρ M=>b ρ M q
def kq (q:ϑ)(c:Bool):Ο:=λ_ M=>q c M
def pC (q:WK)(M:Mp)(o:MO):Prop:= ∀p,Ĵ ->q þ cÏ
universe e
universe WL
namespace L2
open PySem PyProof.Rows PyProof.V PySem.Calls PySem.Spec
abbrev XH:=Hp ->XK
abbrev TR:=St ->Hp ->VK ->XH ->Prop
abbrev NK:=kZ ->(St ->XH) ->Ζ
def XP (X:Cx)(ag:Ÿ)(σ:St)(E:XH)(ev:eC)(s':eY):Prop:=cU λH1 s1=>gÔ /\ fQ X.prog X.w X.stack H1 s1 (E H1) ev s'
def PR (X:Cx)(e:Expr)(t:TR):Prop:=∀ (ag:Ÿ) (s:eY) (σ:St) (H:Hp) (Q:VK) (E:XH),Ω ->t σ H Q E ->wpAny ϗ X.A (dč) Η eϩ s
def PRS (X:Cx)(st:Stmt)(t:NK):Prop:=∀ (ag:Ÿ) (s:eY) (σ:St) (H:Hp) (D:kZ) (E:St ->XH),Ω ->t D E σ H ->wpAny ϗ X.A fñ cĨ (λev s'=> ∃σ',XP X ag σ' (E σ') ev s') s
def tRC (sp:Sp)(t:TA):TR:=λσ H Q E=>t σ H λvs H1=>sp bΔ H1 Q (E H1)
def tRL (t:TR):TR:=λσ H Q E=>t σ H (λx H1=> ∀p,bŨ ->Q ĭ (upd H1 p cû)) E
def tRA (i:Nat)(t:TR):NK:=λD E σ H=>t σ H (λx H1=>D.nx (σ.set i bÝ) H1) (E σ)
section
variable {X:Cx}{k:Nat}{f C:iB}{fd:FuncData}{ps:ê}{sp:Sp}{x m qual:Str}{p pos eK:Pos}{e o:Expr}{es:Đ}{te:TE}{ta:TA}{t:TR}{st:Stmt}
theorem QL {es:Đ}{t:TA}(h:PA X.Jd es t){E:Ε}{pos:Pos}{ag:Ÿ}{s:eY}{σ:St}{H:Hp}{Q:fŤ}(I:Ω)(hw:Ħ):wpAny ϗ X.A lı eŪ E s:=bf (h pos ag s σ H Q aϰ hw) (λ_ _ ⟨v,H',I',r,q⟩=>#[v,H',I'.i9,r,q]) hŮ
def L9 {ag:Ÿ}{σ:St}{H:Hp}{s:eY}{Q:VK}{E:XH}{us:Ê}{vs:À}(F:mĊ)(hr:į)(hb:Binds X.K fd ps []) (I:Ω) (r:aϨ) (h:sp bΔ H Q (E H)):wpAny ϗ X.A gť Η eϩ s:=by
 have r2:cF bΔ (us++ []):=eĆ;have hl:(us++ []).length=ps.length:=by rw[<- r2.length];show fþ
 exact wpAny_call (codeAny_mono (F.run X.A X.stack s H bÀ (us++ []) bΔ Q _ hr I.Nx gØ r2 h) eŸ);cases r with
 | error e=>show#[H,s,I,hq]
 | ok fl=>
  cases fl with
  | ret u=>show I.after hq
  | next=>show dϲ
  | brk=>show dϲ
  | cont=>show dϲ
def yf (C:iŲ)(F:mĊ)(hr:į)(hg:ì)(ha:PA X.Jd Ē ta) (ni:ϰ:=by decide) (he:ϻ:=by rfl) (nh:Ϲ:=by rfl): PR X kŭ (tRC sp ta):=by intro ag s σ H Q E I h;exact wpAny_Call_Name_kw (pH I hg C.at_ ?_ ni);exact W.callWith_K (h₀:=X.base) I.ok.mod.OX C.fn.kp (dH (QL ha I h) lì) he nh;show L9 F hr C.bd I1 r q
def Me (h:PR X e t)(hs:starEach (e:: []) X.env=hě::gÙ:=by rfl):PR X (.List [e] pos) (tRL t):=by intro ag s σ H Q E I hq;exact wpAny_List_spliced ?_;rw[hs];change wpAny _ _ (spliced (hě::j϶)) _ _ s;exact Calls.spliced_cons (dH (h ag s σ H _ E I hq) λu s1 ⟨x,H1,I1,r1,q⟩=> ?_);exact Calls.spliced_nil #[by change cω;decide,?_];have hf:iϋ:=gő;exact#[hϻ,upd H1 s1.heap.objs.size cû,lϕ,rfl,aĂ];show#[by change cω;decide,[u],0, .cons r1 .nil,Ģ]
def DO {i:Nat}{y:Str}{iM:Pos}(hN:X.N.Nodup)(hi:X.N[i]? =õ)(hy:X.env.kindOf y=ŧ)(he:PR X e t)(hs:swapsWith e (some (.Name y iM)) pos.line X.env=bϫ:=by rfl):PRS X (.Assign [.Name y iM] e pos) (tRA i t):=by intro ag s σ H D E I h;exact wpAny_Assign_Name (bf (he ag s σ H _ _ I h) (kê) λev s2 z=>#[σ,z]) hs;show oZ I1 hN hi (.inl hy) r1 iś (.inr hy)
universe e
def asN (i:Nat)(ts:TS):aΕ:=λea D σ H=>ts (As i D) (σ.set i (eϡ)) H
def asU (ts:TS):aΕ:=λ_=>ts
inductive NN (X:Cx):gΖ ->iϧ ->Prop
 | nil:NN X [] []
 | cons {x:Str} {np mD:Pos} {b₀:Stmt} {k_:bΒ} {C:Addr} {ts:TS} {rest:gΖ} {al:iϧ} (hg:ì) (O:cæ) (O2: ló) (r:dŸ) (ni:ϰ:=by decide): NN X mı ((C,asU ts)::al)
 | name {x n:Str} {i:Nat} {np mD:Pos} {b₀:Stmt} {k_:bΒ} {C:Addr} {ts:TS} {rest:gΖ} {al:iϧ} (hg:ì) (O:cæ) (hN:X.N.Nodup) (hi:X.N[i]? =aē) (hk:jà) (O2: ló) (r:dŸ) (ni:ϰ:=by decide): NN X (.ExceptHandler hÛ (aē) cí mD::rest) ((C,asN i ts)::al)
def Dp (K:jv):hå ->iB ->aΕ
 | [],_,_=>eς
 | (D,ts)::r,C,ea=>λE σ H=> ∃b,dh (kΘ) (î ->ts ea E σ H) (b=false ->Dp K r C ea E σ H)
section
variable {X:Cx}{ag:Ÿ}{σ:St}{s':eY}
def CM {E0:XK}{ev:eC}{H1:Hp}{s1:eY}{D:kZ}{hs:fΦ}{al:hå}(j8:hϮ)(lw:jΘ) (I:gÔ) (fl:kϖ) (ph:NN X hs al) (k: ∀cls d H',cΩ -> ∃C,cΝ /\ ∀ea,cÍ ->kű ->Dp X.K al C ea D σ jų): nŅ:=by
 let⟨ea,cls,a0,B,H2,rfl,os,bare,fl,c9,nV,un,kb,kt,cŴ,hE⟩:=fl;let⟨C,rfl,kk⟩:=cî;exact mŷ;exact kŜ;rw[<- j8] at CC;let⟨I5,XJ⟩:=mĲ;let⟨ob,O5,Ao⟩:=CC.there;have key:=cϋ;clear kk k;have matched: ∀ {A:Around} {b:Bool} {x:Str} {D':iB} {Q:Bool ->ň} {E:Ε},cϜ ->kĀ=ô ->Q b hĻ ->mϫ:=λ{A b x D' Q E} O hk hq=>by
  have O':=iÕ;by_cases Pe:C=D';subst Pe;have hb:î:=by unfold W.kitOne at hk;rw[iĥ] at hk;show dũ
  let⟨bm,N,nm,qn,bs,hdct,sn,sub,ab,col,dd,k0,k1,k2,k3,k5,mN,hC,hN',G7,TL⟩:=hļ;subst hb;show mű;show mÚ hq
 induction ph with
 | nil=>show key.elim
 | @cons x np mD b₀ k_ D' ts rest al' hg O O2 r ni ih=>
  let⟨b,hk,ht,hf⟩:=key;have O':=iÕ;exact nÅ;exact fĮ;cases b with
  | false=>show cό
  | true=>
   exact iϡ;exact lυ;let⟨I6,ts⟩:=mξ;exact bf (O2 ea ag _ σ _ D gă (ht rfl)) fΧ fĨ;cases f with
   | next=>let⟨σ',H3,I8,q⟩:=h8;show hÝ
   | brk=>let⟨σ',H3,I8,q⟩:=h8;show hÝ
   | cont=>let⟨σ',H3,I8,q⟩:=h8;show hÝ
   | ret u=>let⟨v,σ',H3,I8,r,q⟩:=h8;show iĤ
 | @name x n i np mD b₀ k_ D' ts rest al' hg O hN hi RN O2 r ni ih=>
  let⟨b,hk,ht,hf⟩:=key;have O':=iÕ;exact nÅ;exact fĮ;cases b with
  | false=>show cό
  | true=>
   exact codeAny_handlers_suite_as ?_;exact lυ;let⟨I6,ts⟩:=mξ;exact oZ (X:=eϠ) gă hN hi (.inl RN) (v:= aŻ) ļ (λs7 I7=> ?_) (.inr RN);exact bf (O2 ea ag s7 _ _ _ I7 (ht rfl)) fΧ fĨ;have j': ∀ {σ':St} {H3:Hp} {Q:Ϗ},Inv (eϠ) ag σ' H3 s8 ->(∀s9,Inv X ag (σ'.set i none) H3 s9 ->Q () s9) ->wpAny ϗ X.A (do iÍ;unbindBehindTheSuite X.env n mD) Q X.xe s8:=λI8 hq=>Ni (cï) hN hi RN hq;cases f with
   | next=>let⟨σ',H3,I8,q⟩:=h8;show jò
   | brk=>let⟨σ',H3,I8,q⟩:=h8;show jò
   | cont=>let⟨σ',H3,I8,q⟩:=h8;show jò
   | ret u=>let⟨v,σ',H3,I8,r,q⟩:=h8;show j' I8 λs9 I9=>#[v,_,_,I9,r,q]
def Oi (K:jv)(tb:NK)(al:hå):TS:=λD σ H=>tb D (λσ' H1 cls _ H'=> ∃C,cΝ /\ ∀ea,cÍ ->kű ->Dp K al C ea D σ' jų) σ H
def Md {st:Stmt}{h₀:ExceptHandler}{hs:fΦ}{pos:Pos}{tb:NK}{al:hå}(j8:hϮ)(lw:jΘ)(hb:cϝ)(ph:NN X cñ al): PS X (.Try [st] cñ [] [] pos) (Oi X.K tb al):=by
 intro ag s σ H D I h;exact wpAny_Try_except (wpAny_execs_cons (bf ià (dϦ) λev s1 hϊ=>CM j8 lw I1 fl ph fĩ));cases f with
 | next=>show kΜ
 | brk=>show q
 | cont=>show q
 | ret u=>show q
universe e
universe L2
namespace WL
open PySem L2
abbrev GJ:=dt ->hÓ
abbrev Ps:=fA ->(dt ->WX) ->Ο
class W3 (K:PySem.W.Frag) (t:TR) (w:outParam GJ):Prop where
 imp: ∀ (ρ:dt) (M:Mp) (σ:L2.St) (H:Hp) (q:WK) (Q:VK) (e:WX) (E:XH),Ρ ->w ρ M q e ->mţ ->(∀C M' H1 H',e C M' ->aź ->Ţ ->E H1 ī none H') ->t σ H Q E
class IRS (K:PySem.W.Frag) (t:NK) (w:outParam Ps):Prop where
 imp: ∀ (ρ:dt) (M:Mp) (σ:L2.St) (H:Hp) (D':fA) (D:kZ) (e:dt ->WX) (E:L2.St ->XH),Ρ ->w D' e ρ M ->cž ->(∀C ρ' M' σ' H1 H',e ρ' C M' ->aź ->E7 K H1 ρ' σ' ->Ţ ->E σ' H1 ī none H') ->t D E σ H
section
variable {K:jv}
def wRC (p:fZ)(a:WA):GJ:=λρ M q e=>a ρ M λxs M1=>p xs M1 q e
instance {p:fZ}{t:TA}{a:WA} [ia:ĸ]:W3 K (tRC bü t) (wRC p a) where
 imp:=λρ M σ H q Q e E o h k kE=>ia.imp ρ M σ H _ _ o h λx M1 v H1 h1 t1 m1 r1=>#[x,M1,q,e,by rw[cA];show r1,m1,h1,mĮ,λC M' H' h m=>kE C M' H1 H' h t1 m]
def wRL (a:GJ):GJ:=λρ M q e=>a ρ M (λx M1=> ∀p,Œ ->q þ (um M1 p cû)) e
instance {t:TR}{a:GJ} [ia:W3 K t a]:W3 K (tRL t) (wRL a) where
 imp:=λρ M σ H q Q e E o h k kE=>ia.imp ρ M σ H _ _ e E o h (λx M1 v H1 h1 t1 m1 r1=>λp hp=>k _ _ _ _ (gε) jΦ (m1.pC hp (cO.cons r1 cO.nil)) WR.v) kE
def wRA (i:Nat)(a:GJ):Ps:=λD e ρ M=>mÂ
instance {i:Nat}{t:TR}{a:GJ} [ia:W3 K t a]:IRS K (tRA i t) (wRA i a) where
 imp:=λρ M σ H D' D e E o h p8 kE=>ia.imp ρ M σ H _ _ (e ρ) (E σ) o h (λx M1 v H1 h1 t1 m1 r1=>p8.nx _ _ _ _ h1 t1 #[(cϞ).set i r1,m1]) λC M' H1 H' h t1 m=>kE C ρ M' σ H1 H' h t1 (cϞ) m
def Ug (i:Nat)(s:WS):aΚ:=λea D ρ M=>s (Ez i D) (ρ.set i (some (wr ea))) M
class IAs (K:PySem.W.Frag) (t:Addr ->TS) (w:outParam cϟ):Prop where
 imp: ∀ (ea:Addr) (ρ:dt) (M:Mp) (σ:L2.St) (H:Hp) (D':fA) (D:kZ),Ρ ->w ea D' ρ M ->cž ->t ea D σ H
instance {i:Nat}{t:TS}{s:WS} [is:IS K t s]:IAs K (asN i t) (Ug i s) where
 imp:=λea ρ M σ H D' D o h p8=>is.imp _ M _ H (Ez i D') (As i D) #[o.env.set i WR.v,o.hp] h #[λρ' M5 σ' H5 h5 t5 o5=>p8.nx _ _ _ _ h5 t5 bΝ,p8.rt,λρ' M5 σ' H5 h5 t5 o5=>p8.bk _ _ _ _ h5 t5 bΝ,λρ' M5 σ' H5 h5 t5 o5=>p8.ct _ _ _ _ h5 t5 bΝ]
def wy (K:jv):hæ ->iB ->aΚ
 | [],_,_=>eς
 | (D,s)::r,C,ea=>λE ρ M=> ∃b,dh (kΘ) (î ->cϠ) (b=false ->wy K r C ea E ρ M)
class YF (K:PySem.W.Frag) (t:iϧ) (w:outParam (List (Addr× cϟ))):Prop where
 imp: ∀ (C ea:Addr) (ρ:dt) (M:Mp) (σ:L2.St) (H:Hp) (D':fA) (D:kZ),Ρ ->wy K w C ea D' ρ M ->cž ->Dp K t C ea D σ H
instance:YF K [] [] where
 imp:=λ_ _ _ _ _ _ _ _ _ h _=>h.elim
instance {D:iB}{t:aΕ}{s:aΚ}{r:hå}{r':hæ} [is:IAs K t s] [ir:YF K r r']:YF K ((D,t)::r) ((D,s)::r') where
 imp:=λC ea ρ M σ H D' D o ⟨b,hk,h1,h2⟩ e=>#[b,hk,λhb=>is.imp ea ρ M σ H D' D o (h1 hb) e,λhb=>ir.imp C ea ρ M σ H D' D o (h2 hb) e]
theorem Sz {D C ea:iB}{s:aΚ}{r:hæ}{E:fA}{ρ:dt}{M:Mp}(hk:jŽ=Ŏ)(h:cϠ):wy K ((D,s)::r) C ea E ρ M:=#[true, .mk hk (λ_=>h) λz=>nomatch z]
theorem SA {C ea:iB}{s:aΚ}{r:hæ}{E:fA}{ρ:dt}{M:Mp}(h:cϠ):wy K ((C,s)::r) C ea E ρ M:=Sz (by unfold W.kitOne;rw[iĥ]) h
def NW (K:jv)(b:Ps)(al:hæ):WS:=λD ρ M=>mϚ
instance {tb:NK}{b:Ps}{al:hå}{wl:hæ} [ib:IRS K tb b] [il:YF K al wl]:IS K (Oi K tb al) (NW K b wl) where
 imp:=λρ M σ H D' D o h p8=>ib.imp ρ M σ H D' D _ _ o h p8 λC ρ' M' σ' H1 H' h t1 en m=>#[C,rfl,λea nV Zw=>il.imp C ea ρ' (gĎ) σ' _ D' D #[en.ts Zw,jĹ] (gď) (p8.of t1 Zw)]
theorem N1 {i:Nat}{a:GJ}{D:fA}{e:dt ->WX}{ρ:dt}{M:Mp}:wRA i a D e ρ M=mÂ:=rfl
theorem TK {a:GJ}{ρ:dt}{M:Mp}{q:WK}{e:WX}:wRL a ρ M q e=a ρ M (λx M1=>pC q M1 cû) e:=rfl
theorem Hh {p:fZ}{a:WA}{ρ:dt}{M:Mp}{q:WK}{e:WX}:wRC p a ρ M q e=a ρ M λxs M1=>AV p xs M1 q e:=rfl
theorem LH {b:Ps}{al:hæ}{D:fA}{ρ:dt}{M:Mp}:NW K b al D ρ M=mϚ:=rfl
universe e
universe WL
namespace WQ
open PySem L2 WL
def QX (B C D:iB):fZ:=λxs M q e=>gh λ(s dx:iB) Ě=>fE (xs= [wr s,Ç]) (M s=some (.ins B dx [])) (jå -> ∀M' la lu lh now,Bk B C M' s la lu lh p now [] [] [] [] [] ->bΗ ->bΞ ->M lu=none ->M lh=none ->la≠s ->aδ) (¬jå ->e D M)
def VO (p:Int):lũ=decide jå:=by
 change(qY (.int 2) bę || (qY (.int 3) bę || (qY (.int 5) bę || (qY (.int 7) bę || false))))=_;have e: ∀y:Int,qY (.int y) bę=true↔p=y:=λy=>by simp[qY];show eq_comm
 rw[Bool.or_false,eh,dE,dE,dE,c_,e,e,e,e]
def two {α:Type}(a b:α):Nat ->α:=λj=>if j=0 then a else b
universe WQ
namespace L2
open PySem PyProof.Rows PySem.Spec PyProof.V Builtin.Str
section
variable {X:Cx}
def UY:ϫ:=λx vs H Q=>cU λa b=>dh cϡ eϪ (Q (.bl hň) H)
def vV:xK X "str.startswith" UY:=by intro ag s σ H x xs v us Q I rx rv h;let⟨a,b,rfl,rfl,q⟩:=h;let⟨t,rfl⟩:=rx;let⟨u,rfl,t',rfl⟩:=bĀ;show SC.startswith gŬ
def U7:ϫ:=λx vs H Q=>cU λa b=>dh cϡ eϪ (Q (.bl gΙ) H)
def zY:xK X "str.endswith" U7:=by intro ag s σ H x xs v us Q I rx rv h;let⟨a,b,rfl,rfl,q⟩:=h;let⟨t,rfl⟩:=rx;let⟨u,rfl,t',rfl⟩:=bĀ;show SC.endswith gŬ
def U6:ϫ:=λx vs H Q=>cU λa b=>dh cϡ eϪ (Q (.int eϫ) H)
def Eb:xK X "str.find" U6:=by intro ag s σ H x xs v us Q I rx rv h;let⟨a,b,rfl,rfl,q⟩:=h;let⟨t,rfl⟩:=rx;let⟨u,rfl,t',rfl⟩:=bĀ;show SC.find #[ð,H,đ,ĩ,q]
theorem wA: ∀ (l:ê) (k:Nat),cF (cϒ) (strsFrom k l)
 | [],_=> .nil
 | x::l,k=> .cons ĩ (wA l Ó)
def UZ:ϫ:=λx vs H Q=>cU λa b=>gX cϡ eϪ hϋ iá (∀p,İ ->Q ĭ (upd H p kŝ))
def iC:xK X "str.split" UZ:=by
 intro ag s σ H x xs v us Q I rx rv h;let⟨a,b,rfl,rfl,hb,hz,q⟩:=h;let⟨t,rfl⟩:=rx;let⟨u,rfl,t',rfl⟩:=bĀ;have hf:iĐ:=gÚ;have hl:=split_le a b;have self:eĞ= [a] ->EP X ag σ Q Ϫ {s with heap:=s.heap.push {cls:= ŷ,data:= .seq [eğ].toArray}}:=λe=>#[aď,mú,I.laid (t':=s.toks) gÖ ï #[by rw[af];omega,[eğ],0,by rw[e];show .cons bÐ .nil,Ģ],rfl,aĂ]
 by_cases h1:mĢ=true;show call_meets cn gω PySem.F.entry_str_split kÒ (meets_str_split_cannot_occur a b t t' h1) (self (by unfold Txt.split;rw[aÊ]));have Th:mĢ=false:=by simpa using h1
 by_cases h2:lϠ=true;show call_meets cn gω PySem.F.entry_str_split kÒ (meets_str_split_not_found a b t t' Th hb h2) (self (by unfold Txt.split;rw[aË,aF h2]));have Nh:lϠ=false:=by simpa using h2
 have e:eĞ=partsBetween a (lô) b.length:=by unfold Txt.split;rw[aË,aC h2]
 exact call_meets cn gω PySem.F.entry_str_split kÒ (meets_str_split_sep a b t t' Th hb Nh Ť (by rw[<- e];omega)) ?_;exact#[aď,mú,I.laid gÖ ï #[by rw[af];omega,_,0,?_,Ģ],rfl,aĂ];rw[<- e];show wA _ _
def OK:ϧ:=λxs H Q=>cU λ aΛ ē=>fE (xs= [aå]) (fϐ=aē) fį eϬ
def rq:eN X ξ OK:=by intro ag s σ H xs us Q I r h;let⟨x,n,rfl,hn,hl,q⟩:=h;let⟨u,rfl,t,rfl⟩:=Ĕ;show W.KIN.call_text hn hl #[aĳ,H,đ,ĩ,q]
universe e
section
variable {X:Cx}
def U2:ϫ:=λx vs H Q=>cU λa b=>gX cϡ eϪ hϋ hŉ (∀p,İ ->Q ĭ (upd H p nÙ))
def yA:xK X "str.partition" U2:=by
 intro ag s σ H x xs v us Q I rx rv h;let⟨a,b,rfl,rfl,hb,hz,q⟩:=h;let⟨t,rfl⟩:=rx;let⟨u,rfl,t',rfl⟩:=bĀ;have hf:iĐ:=gÚ;exact call_meets PySem.F.slot_str_partition gω PySem.F.entry_str_partition (PySem.F.args_str_partition_2 _ _) (meets_str_partition a b t t' hb hz) ?_;exact#[aď,upd H s.heap.objs.size nÙ,?_,rfl,aĂ];unfold Txt.partition;cases e:occurrences a b 0 a.length 1 with
 | nil=>show nģ
 | cons i r=>show nģ
universe e
universe L2
namespace WL
open PySem L2
section
variable {K:jv}
def TB:WM:=λx ys M q=>cU λa b=>dh bĚ dŹ (jώ)
instance:IM K UY TB where
 imp:=by rintro x v ys us M H q Q m r1 r2 ⟨a,b,rfl,rfl,h⟩ k;cases r1.eq;let⟨u,rfl,r⟩:=r2.one;cases r.eq;show lž
theorem YV {a b:Str}{M:Mp}{q:WK}:TB eĠ eġ M q=jώ:=mϛ
def T9:WM:=λx ys M q=>cU λa b=>dh bĚ dŹ (jĺ)
instance:IM K U7 T9 where
 imp:=by rintro x v ys us M H q Q m r1 r2 ⟨a,b,rfl,rfl,h⟩ k;cases r1.eq;let⟨u,rfl,r⟩:=r2.one;cases r.eq;show lž
theorem Zg {a b:Str}{M:Mp}{q:WK}:T9 eĠ eġ M q=jĺ:=mϛ
def TZ:WM:=λx ys M q=>cU λa b=>dh bĚ dŹ (iī)
instance:IM K U6 TZ where
 imp:=by rintro x v ys us M H q Q m r1 r2 ⟨a,b,rfl,rfl,h⟩ k;cases r1.eq;let⟨u,rfl,r⟩:=r2.one;cases r.eq;show lž
theorem Ze {a b:Str}{M:Mp}{q:WK}:TZ eĠ eġ M q=iī:=mϛ
def TC:WM:=λx ys M q=>cU λa b=>gX bĚ dŹ hϋ iá mť
theorem cO.ofStrs {H:Hp}: ∀ {ss:ê},cO K H (bχ) (dţ)
 | []=> .nil
 | n::r=>cO.cons WR.v cO.ofStrs
instance:IM K UZ TC where
 imp:=by rintro x v ys us M H q Q m r1 r2 ⟨a,b,rfl,rfl,hb,hz,h⟩ k;cases r1.eq;let⟨u,rfl,r⟩:=r2.one;cases r.eq;show#[a,b,rfl,rfl,hb,hz,λp hp=>k _ _ _ _ gη Ϛ (m.pC hp cO.ofStrs) WR.v]
theorem YW {a b:Str}{M:Mp}{q:WK}:TC eĠ eġ M q=eR hϋ (eR iá mť):=nă
def TM:WM:=λx ys M q=>cU λa b=>gX bĚ dŹ hϋ hŉ nÐ
instance:IM K U2 TM where
 imp:=by rintro x v ys us M H q Q m r1 r2 ⟨a,b,rfl,rfl,hb,hz,h⟩ k;cases r1.eq;let⟨u,rfl,r⟩:=r2.one;cases r.eq;show#[a,b,rfl,rfl,hb,hz,λp hp=>k _ M _ _ h Ϛ cÛ (WR.MG cÖ (cO.cons WR.v (cO.cons WR.v hè)))]
theorem YZ {a b:Str}{M:Mp}{q:WK}:TM eĠ eġ M q=eR hϋ (eR hŉ nÐ):=nă
def N_:y8:=λxs M q=>cU λ aΛ ē=>fE dź (fϐ=aē) fį (q (wi n) M)
instance:IC K OK N_ where
 imp:=by rintro xs v M H q Q m r1 ⟨x,n,rfl,hn,hl,h⟩ k;let⟨v,rfl,r⟩:=r1.one;cases r.eq;show#[x,n,rfl,hn,hl,ϱ]
universe e
universe WL
namespace L2
open PySem PyProof.Rows PySem.Spec PySem.Calls PySem.W
def BD {P:pF}{w:World}{A:Around}{E:Ε}{s:eY}{l:iB}{items:Ġ}{Q:Ê ->ň}(hl:hό)(hh:eŶ)(hn:1<=items.size)(hz:items.size<=sizeLine) (h: ∀ (h':Heap) (tk:Nat),(∀b o,lè) ->Q (hé++ [gà]) {s with heap:=h'.push {cls:= ŷ,dict:=none,data:= .seq (hê).toArray},toks:=tk}): wpAny cĳ A (unpackItems bÊ 2 bě) Q E s:=by
 have JZ:gς:=by let⟨o,ho,_⟩:=hl;show aI ho
 have j9:=be JZ;unfold unpackItems notIterableAtAll;exact aq (aq (wpAny_specialOf hl.typeIs slot_list_iter.lookup aŽ));simp![bU,eu];exact aq (cc (wpAny_pyIter_list hl (aq (cc (kun_draw j9 1 0 _ _ hű (hl.push _) hn λh₁ hit hs=> ?_)))));have hl₁:h₁.IsList l items:=(hl.push _).extBut hs.extBut j9;let⟨oi,hoi,_⟩:=id hit;let⟨ol,Yf,_⟩:=id hl₁;rw[List.drop_zero];have e1:(hé).length=1:=by rw[bz,Array.length_toList];omega
 rw[aC Ť];exact aq (cc (kun_collect (s:= {s with heap:=h₁}) (T:= "list_iterator") (.inr (.inr ř)) (Walks.list (A:=A.in1) hh s.heap.objs.size l j9 items) (λj u st=>st.1.typeIs) (k:=1) hn #[hit,hl₁] (aI hoi) (aI Yf) (λh₂ tk hk=> ?_) hz));have e2:lĽ=jζ:=rfl;have e3:List.take (lĽ) (hê)=hê:=by rw[e2,cr]
 have e4:List.drop (lĽ) (hê)= []:=by rw[e2,List.drop_length]
 dsimp only;rw[aC Ť,e3,e4];have e5:jζ<=sizeLine:=by rw[dy,Array.length_toList];omega
 exact aq (wpAny_newList aŽ e5);have kp: ∀b o,Ϥ ->h₂.get? b=ä:=λb o e=>hk b o cı (hs.extBut b o cı bÔ);rw[cA];show h h₂ tk kp
section
variable {X:Cx}
def Ph (K:jv)(t:GK):TG:=λv σ H Q=>gh λ aĨ (x:V) (xs:À)=>dh cİ (gg K H a aŰ) (∀p,İ ->t [x, ò] σ (upd H p bŗ) Q)
def yi {e t:Expr}{sp pos:Pos}{k:Nat}{g:GK}(hc:ũ)(h:WU X [e,t] g)(hs:assignEach gΚ X.env= [iâ,(true,eϭ)]:=by rfl)(hp:assignEach [e,t] X.env= [iâ,(false,eϭ)]:=by rfl): PG X (.Tuple gΚ k pos) (Ph X.K g):=by
 intro ag s σ H v u Q I r hw;let⟨a,x,xs,rfl,hq,hw⟩:=hw;cases r;let⟨bN,rv,ht,hz⟩:=Ō;rw[assign_Tuple];exact hύ;unfold unpack;rw[hs];let⟨u0,us,rfl,r0,rr⟩: ∃u0 us,bN=u0::us /\ RelV x u0 /\ Ĝ:=by cases rv with | cons a b=>show#[_,_,rfl,a,b]
 exact aq (cc (BD ht.isList ź Ň (by have:=rr.length;simp at hz ⊢;omega) λh' tk kp=> ?_));have I1:lā:=I.kept (t':=tk) kp;have hf:H h'.objs.size=none:=gő;have I2:=I1.laid (o:= .lst xs) (t':=tk) (λb u e=>ar {cls:= ŷ,dict:=none,data:= .seq (List.drop 1 (u0::us).toArray.toList).toArray} e) ï #[by have:=rr.length;simp at hz;omega,us,0,rr, ⇑(Ģ)];have h2:=h ag _ σ _ [x, gà] [u0, gà] Q I2 (.cons r0 fų) (hw _ hf);rw[hp] at h2;simpa using h2
universe e
universe L2
namespace WL
open PySem L2
section
variable {K:jv}
def Um (a:KU):WG:=λx ρ M q=>gh λ(l:iB) (y:W) (ys:Æ)=>dh (x=wr l) (M l=some (.lst (y::ys))) (∀p,Ĵ ->a [y,wr p] ρ (um M p bū) q)
instance {t:GK}{a:KU} [ia:W4 K t a]:IG K (Ph K t) (Um a) where
 imp :=by
  rintro x v ρ M σ H q Q o r ⟨l,y,ys,rfl,hl,h⟩ k;cases r.eq;let⟨vs,hv,rr⟩:=o.hp l _ hl;cases vs with
  | nil=>show absurd rr.length Ň
  | cons v0 vs=>simp![cO] at rr;let⟨v',tQ,e,r0,rs⟩:=rr;cases e;exact#[l,v0,vs,rfl,Ļ,cğ];have ts:=L2.fI.ts (bO (o:= .lst vs) hp);show ia.imp _ _ ρ _ σ _ q Q (o.mv ts (o.hp.pC hp rs)) (cO.cons (r0.ts ts) hè) hψ λρ' M' σ' H' hq t2 o2=>k ρ' M' σ' H' hq eċ o2
universe e
universe WL
namespace L2
open PySem PyProof.Rows PySem.Spec PySem.Calls
section
variable {M:Model}{A:Around}{E:Ε}{s:eY}{env:Env}
def DP (M:Model)(A:Around)(E:Ε)(fr:Î)(u:eĢ)(Q:Ε)(gN:eC)(C:iB):gř
 | .ok _,s'=>wpAny M A (u gN) (λ_ s2=> ∃m,s2.heap.Ns C m /\ ∀h',Heap.SameBut C s2.heap h' ->Q .none {s2 with heap:=h'}) E s'
 | bą,s'=> ∃m,s'.heap.Ns C m /\ ∀h',iϔ -> ∀ce:Env,ce.frame=fr ->wpAny M A (passOn "comprehension.variables-let-go" x ce:aî) Ν E gŶ
def So {e:Expr}{scope:Scope}{pos:Pos}{nw fst:aî}{g:Comprehension}{gs:eA Comprehension}{cl:dĶ}{u:eĢ}{Q:Ε}(iQ:clausesOf e=g::gs)(hs: ∀x,foldedSetIterable g.iter env x=pure x)(hc:jŭ) (hk:hε) (hn: ∀x∈scope.names,cϢ ->scope.names.lookup x.1=ŧ) (h :wpAny M A fst (λx s1=>wpAny M A (pyIter x) (λit s2=>wpAny M A nw (λgN s3=>wpAny M A (newFunctionEnv scope env.globals cl [] env.qual none .none (some env)) (λce s4=>ce.frame=env.frame /\codeAny M A (.compStart e 0 it gN kż) (DP M A E env.frame u Q gN ce.locals) s4) E s3) E s2) E s1) E s): wpAny M A (comprehension e scope env pos nw false fst (á)) Q E s:=by
 unfold comprehension;rw[hc,iQ];exact aq (bf h (λx s1 h1=> ?_) ş);exact aq (wpAny_standAt (aq (wpAny_of_eq (hs x) (aq (cc (bf h1 (λit s2 h2=> ?_) ş))))));exact wpAny_standIf (aq (bf h2 (λgN s3 h3=> ?_) ş));exact aq (aV (aq (bf h3 (λce s4 h4=> ?_) ş)));let⟨hf,h4⟩:=h4;dsimp only;have kn: ∀x∈scope.names,cϢ ->Env.kindOf kż x.1=ŧ:=λx hx hl=>lookup_relabel_local (hn x hx hl);have _x: ∀ {p:eÑ ->Bool} {x:eÑ},x∈(scope.names.filter p).reverse ->x∈scope.names:=λhx=>(List.mem_filter.mp (List.mem_reverse.mp hx)).1;exact cc (aq (wpAny_attempt (cc (wpAny_run (codeAny_mono h4 λr s5 hr=> ?_)))));cases r with
 | ok f=>exact aq (wpAny_rule (aq (cc (bf hr (λ_ s6 q=> ?_) ş))));let⟨m,hm,q⟩:=q;exact aq (wpAny_comp_letGo (cenv:= kż) hk _ s6 m (λx hx hl=>kn x ?_ hl) hm λh' _ _ sb=>aV (q h' sb));obtain z | z:=bĘ;show _x (List.mem_of_mem_drop z);show _x (List.mem_of_mem_take z)
 | error x=>let⟨m,hm,q⟩:=hr;show aq (cc (wpAny_comp_letGo (cenv:= kż) hk _ s5 m (λx hx hl=>kn x (_x hx) hl) hm λh' _ _ sb=>bf (q h' sb _ hf) (fĨ) ş))
universe e
universe L2
namespace L2
open PySem PyProof.Rows PyProof.V PySem.Calls PySem.Spec
def zP {α:Type}{M:Model}{A:Around}{E:Ε}{Q:eū}{s:eY}{Tv:String}{B:Heap}{l:è}{ea L:iB}{cls a0:eC}{ce:Env}(hf:fİ)(hh:kŞ) (k: nĸ):wpAny M A (PySem.passOn Tv Ő ce:aï) Q E s:=by
 let⟨st,hn,fr,oe,vs,T,oT,ts,he,hc,hd,h1,O6,R6,hT,J5,h3⟩:=hh;have Wl:=kϘ;have ot: nħ:=iã;have nr: mř:=λb o hb z q=>by rw[q,hT] at hb;cases hb;show z ts J5
 unfold PySem.passOn setFlight;rw[hf];exact jθ;rw[dŢ];exact aq (jθ);rw[dś];exact wpAny_setField hT J5 Wl (wpAny_throw nľ);rotate_left;intro b o vs v e d q;by_cases hb:b=T;subst hb;exact mû;rw[kΝ];show q;show jϏ;show nĈ
theorem Uo {outer:è}{H₀ H':Hp}{h0 h h' B:Heap}{base:Heap}(ff:iÉ)(hF: jĢ)(u:jΡ)(st:dĿ)(up: ∀b∈Į, ∀o,Ψ ->jη -> lç) (kb: mŵ) (kt: mō):kÃ where
 keep b o e n hb _:=iÊ
 slot b o e n hb hx:=by let⟨sl,e1⟩:=hĬ;let⟨_,o2,e2,Gg⟩:=bŻ;rw[e1] at e2;cases e2;let⟨Fv,e3⟩:=fı;show#[Fv,e3]
 free:=u.free
 there b o e hx:=by by_cases hb:b∈Į;let⟨sl,e1⟩:=jŲ;let⟨_,o2,e2,Gg⟩:=bŻ;rw[e1] at e2;cases e2;let⟨Fv,e3⟩:=fı;show#[_,e3];let⟨o',e'⟩:=cų;show fĕ
 lT:=u.lT
 kP:=u.kP
 nB:=u.nB
theorem Pk {h h' B B':Heap}(k: ∀b u,eģ ->kŧ)(nb: ∀b,eģ ->B'.get? b=none): ∀l,h.FunFrames B l ->h'.FunFrames B' l
 | [],_=>trivial
 | _::r,⟨x1,⟨L,u,x2,x3,x4,x5⟩,x6⟩=>#[x1,#[L,u,x2,nb _ x3,k _ _ x3 x4,x5],Pk k nb r x6]
def KZ (X:Cx)(E0:XK):Prop:= ∀ (ag:Ÿ) (σ:St) (H3:Hp) (s3:eY) (N':ê) (sc:Scope) (cl:dĶ) (fp:Í) (jV:Ÿ) (σ':St) (H1:Hp) (s1:eY) (ev:eC) (s9:eY) (u:eĢ) (Q:Ε) (gN:eC),gç ->iŮ ->Inv (dg X N' sc cl fp s3 H3) jV σ' H1 s1 ->kϙ ->wpAny ϗ X.A hĺ (λ_ UV=>DP ϗ X.A X.xe X.env.frame u Q gN s3.heap.objs.size (.error ev) UV) (λev' UV=>DP ϗ X.A X.xe X.env.frame u Q gN s3.heap.objs.size (.error ev') UV) s9
def QK {P:pF}{w:World}{K:jv}{mg:Ũ}{base:Heap}{N:ê}{qual:Str}{scope:Scope}{f:iB}{cd:eC}{A:Around}{outer:è}{s:eY}{H:Hp}{E:XK}:KZ (Ϻ) E:=by
 intro ag σ H3 s3 N' sc cl fp jV σ' H1 s1 ev s9 u Q gN I3 v7 Ic hf;let⟨ea,cls,a0,B,H',rfl,os,bare,fl,c9,nV,un,kb,kt,cŴ,hE⟩:=hf;have I1:=nn I3 v7 Ic;have I':=I1.E1 (ch:= []) os un eΧ bare jĜ;let⟨m,hm,_⟩:=Ic.loc;let⟨o,es,ep,ho,hr⟩:=hm;have hCn:s3.heap.objs.size∉gr mœ:=λz=>by let⟨_,o2,e2,_⟩:=I3.stack.mem z;show absurd (aI e2) aç
 have hB:B.get? s3.heap.objs.size=ä:=kb _ _ ho Ic.free hCn;have Yp:H' s3.heap.objs.size=none:=un.free _ _ ho Ic.free Ň;exact w5 (by rw[I1.ok.frames];rfl) rfl fl λh4 held up4 kp4=> ?_;exact#[m,#[o,es,ep,eĤ,hr],λh' sb ce hce=> ?_];have ZV: ∀ {b u},lČ=á ->bÛ=á /\ hη:=λ{b u} q=>#[fι,λz=>by rw[z,W.hideAll_none _ (iϨ)] at q;cases q]
 have Z5: ∀ {b},eģ ->lČ=none:=λ{b} q=>by
  cases z:lČ with
  | none=>rfl
  | some u=>rw[(ZV z).1] at q;cases q
 have Z': ∀ {b},eģ ->hη:=λ{b} q z=>by rw[z,hB] at q;cases q
 have V9:Heap.HeldW (kā) mœ ea cls a0 s.heap.objs.size h':=by let⟨g1,g2,g3,oe,vs,T,oT,ts,he,hc,hd,q1,O6,R6,hT,J5,q3⟩:=held;exact#[λb u q=>sb.extBut b u (ZV q).2 (g1 b u (ZV q).1),Z5 g2,?_,oe,vs,T,oT,ts,sb.extBut _ _ (Z' g2) he,hc,hd,q1,Z5 O6,R6,sb.extBut _ _ (Z' O6) hT,J5,q3];show Pk (λb u q e=>sb.extBut _ _ (Z' q) e) (λb q=>Z5 q) _ g3
 have kp5:vx h4 h':=λb u vs v e d q=>#[u,vs,sb.extBut b u (λz=>by rw[z,eĤ] at e;cases e;rw[hr.1] at d;cases d) e,d,q]
 exact zP (hce.trans rfl) V9 λh6 O_ k6 kp6=> ?_;change wpAny _ _ hπ _ _ _;unfold leaving;exact aq (wpAny_noteFrame_againW rfl O_.2.2.2 (Cj O_ gΛ));have hex:mŗ:=rfl;have bC: ∀ {b u},hĈ ->b∉ hë:=λ{b u} e z=>by rw[aZ.mp z] at e;show absurd (aP aë I3.sz) aç
 have VJ: ∀b u,hĈ ->ğ ->dľ ->lČ=á:=λb u e n hb=>cZ _ (kb b u (I1.base.keep b u e n hb kÄ) (I1.base.free b u e n kÄ) dŻ) (bC e);have VI: ∀b u,hĈ ->dľ -> ∃u',lČ=some u':=λb u e hb=>by let⟨u1,e1⟩:=I1.base.there b u e kÄ;let⟨u2,e2⟩:=kt b u1 e1 dŻ;show#[u2,cZ _ e2 (bC e)]
 have RG:lN P w H' (kā):=λa u ea=>(c9 a u ea).jo (λb v hb q=>cZ _ q λhm=>by rw[aZ.mp hm] at hb;obtain z | z:=hb;rw[<- z] at ea;rw[ea] at Yp;cases Yp;rw[z] at Yp;cases Yp) bϢ bϣ;have sub: ∀b∈Į,hη:=λb hb z=>hCn (by rw[<- z];show aŧ);exact#[ea,cls,a0,_,H',rfl,os.trans I1.os,bare,kϚ,RG,nV,Uo I'.mH I3.ok.G_ I'.base Ka.1 (λb hb u e Gg=> ?_) VJ VI,VJ,VI,#[nc,hc.kp (((kp4.trans kp5).trans kp6).trans _k)],hE];let⟨sl,e4⟩:=up4 b u e Gg;let⟨Fv,e7⟩:=Zt b _ (k6 b _ (sb.extBut _ _ (sub b hb) e4) Gg) Gg;show#[Fv,e7]
universe L2
namespace L2
open PySem PySem.Spec PyProof.Rows
def Kz (J:It)(own:Nat)(fr:ü)(g:TG)(tc:TT)(te:TR)(E0:XK)(σ:St)(p:iB)(H1:Hp)(Q:VK):Prop:=∃ W :jŰ,kό /\ ∀i m ys H',cŨ ->H' p=eΑ /\(jϻ \/ (J.go i H' /\ gŴ /\ ∀x H2,eΒ ->g x eΔ H2 λσ2 H3=>tc σ2 H3 λb H4=>if î then te σ2 H4 (nĘ) (λ_=>E0) else kō))
def Om (E0:XK)(wi:TI)(own:Nat)(fr:ü)(g:TG)(tc:TT)(te:TR)(i:Nat):TS:=λD σ H=>wi σ H λJ H1=> ∀p,bŨ ->Kz J own fr g tc te E0 σ p H1 λx H2=>pS i x σ H2 D.nx
section
variable {prog:pF}{w:World}{A:Around}{R:gř}{s:eY}
theorem CL {qy jb iter:Expr}{qw:Đ}{scope:Scope}{pos:Pos}{it gN:eC}{env:Env}(I:fď) (xS : ∀n s,I n s ->wpAny Ι A cŦ (λr s₁=>match r with
   | none=>R cŧ s₁
   | â=>wpAny Ι A iϓ (λ_ s₀=>wpAny Ι A gå (λ_ s₂=>
    wpAny Ι A nĤ (λok s₃=>if ok=true then wpAny Ι A eÓ nğ (notedBy Ι A env λx s'=>R (bą) s') s₃ else hħ) Ν s₂)
    Ν s₀) Ν s₁) Ν s)
  (n:Nat) (h:I n s):nÕ:=by
 exact lÌ
 change nĦ
 exact eψ
 rw[compTurn_list]
 exact mϐ
 cases r with
 | none=>show aV h₁
 | some v=>
  exact lϗ;exact lϘ;exact mÌ;cases ZR with
  | false=>show eω
  | true=>show aq (aq (bf h₃ mϨ λ_ _ h'=>h'))
universe e
section
variable {X:Cx}{ag:Ÿ}{σ:St}{H:Hp}{s s3:eY}
def AR {tg iter qy:Expr}{qw:Đ}{pos:Pos}{own N':ê}{fr:ü}{scope:Scope}{cl:dĶ}{fp:Í}{it:iB}{tn:gÏ}{J:It}{g:TG}{tc:TT}{te:TR}{E0:XK}{Q:VK} {E:Ε} {RR:jű} (mF:ũ) (S:hĦ) (hg: lŜ) (hw:fĐ) (hc: lŸ) (he: ∀s3 H3,kϛ) (iQ: më) (sP: mĒ) (I:Ω) (T:kë) (st:cũ) (v7: hů) (h: ∀p,İ ->Kz J own.length fr g tc te E0 σ p H Q) (aeD: ∀ (s3:eY) (H3:Hp),gç ->iŮ -> ∀ (jV:Ÿ) (σ':St) (H1:Hp) (s1:eY) (ev gN:eC) (s9:eY),Inv jğ jV σ' H1 s1 ->kϙ ->notedBy ϗ X.A (lĠ) (λx s'=>RR gN s3.heap.objs.size (bą) s') ev s9) (j': nŌ): wpAny ϗ X.A dĸ (λgN s₃=>wpAny ϗ X.A mΥ (λcenv s₄=>cenv.frame=X.env.frame /\nĹ) E s₃) E s:=by
 exact hĩ;have hf:iĐ:=gÚ;let⟨W,cĵ,xS⟩:=h _ hf;generalize e3:nÑ=s3;have Qj:kϏ:=by rw[<- e3];show gè
 have Zu: lϸ:=λb o e=>by rw[<- e3];show aõ
 have I3:lϙ:=by rw[<- e3];show mϙ
 have Sb: jŮ:=λb hb=>by let⟨o,e,_⟩:=gé;show Á
 have Ap: mà:=mŃ
 exact mϑ;have old: lϚ:=lŌ;have Ic:=nĄ;have UK:tn 0 h₁:=lπ;have tV: nĊ:=λhn b hb=>by exact nġ;change hη;rw[Qj];show be (jĠ);show eÔ
 have loop:nŎ:=by
  exact CL nĻ ?_ m0 lÍ;rintro n s4 ⟨i,ys,H4,I4,UJ,Wr,w4⟩;let⟨Cw,alt⟩:=fđ;rcases alt with⟨stop,q⟩ | ⟨go,hsz,step⟩
  .exact nĳ;subst hr;show mη
  exact nĴ;subst hr;exact lŝ;have I6':=kŎ;have UI:=jÜ;exact mθ;have again: nŏ:=λ{H9 s9 Pz} I9 eΕ=>by exact nė;show wk.1.symm;let⟨o,e,d⟩:=gê;show lÎ.2.1
  exact mġ;cases ok with
  | false=>simp![bU,eu] at q8 ⊢;let⟨zs,q8⟩:=q8;show cŪ
  | true=>simp![if_true] at q8 ⊢;exact bf (he s3 _ _ s8 σ7 H8 _ _ I8 q8) ?_ λev s9 ⟨H1,s1,Ie,fl⟩=>aeD s3 _ I3 Ap _ _ H1 s1 ev _ s9 Ie fl;rintro y s9 ⟨yv,H9,I9,ry,zs,_Q,_B,q9⟩;exact nŇ;subst Yv;show dĹ
 show#[rfl,má]
universe e
section
variable {X:Cx}
def zO {i:Nat}{x:Str}{tg iter qy:Expr}{qw:Đ}{pos HN iM:Pos}{own N':ê}{fr:ü}{scope:Scope}{wi:TI}{g:TG}{tc:TT}{te:TR}{E0:XK}(Ye:KZ X E0)(mF:ũ)(hN:X.N.Nodup)(hx:fë)(hl:gÇ)(S:hĦ)(hi:fõ) (hg: lϬ) (hw:fĐ) (hc: lϹ) (he: ∀cl fp s3 H3,kϛ) (RA:nÞ) (hs: lĲ:=by intro _;rfl) (hf:mÒ:=by first | show Ĥ | show ĥ | assumption):PS X mũ (Om E0 wi own.length fr g tc te i):=by
 intro ag s σ H D I h;let⟨cl,Ar,iQ,sP⟩:=hÄ;rw[kġ];exact jÝ;change nļ;exact aq (dH (So (u:=iϕ) (Q:=jÞ) rfl hs Ar S.kind S.loc mą) hθ);let⟨it,fp,tn,J,H2,e,I2,T,Qm,f2,h2⟩:=h2;subst e;exact AR (RR:=λgN C=>DP ϗ X.A X.xe X.env.frame (iϕ) (jÞ) gN C) mF S cÆ hw cÇ cÈ iQ sP I2 T Qm f2 h2 (λs3 H3 I3 f3 jV σ' H1 s1 ev gN s9 Ie fl=>Ye _ _ H3 s3 N' scope cl fp jV σ' H1 s1 ev s9 _ _ gN I3 f3 Ie fl) ?_;intro s3 H3 I3 f3 Da σ' H' s' t hD Ic q;let⟨m,hn,_⟩:=Ic.loc;have I5:=cū;change mö;exact nß;let⟨a,sb,ha⟩:=O3;have kN:hι:=by obtain rfl | ha:=ha;show gŷ;let⟨v,z⟩:=eΖ;show gë
 exact mŌ
universe e
universe L2
namespace WL
open PySem L2 PySem.Spec PyProof.Rows
section
variable {K:jv}
def Pr (xs:Æ)(keep:ő)(own:Nat)(fr:ü)(g:WG)(c:WT)(el:GJ)(e:WX)(ρ:dt)(M1:Mp)(q:WK):Prop:=Ϝ /\ ∀p,Œ -> ∃I:iÏ,fE jź mϝ (∀i x ys M,Δ ->bí ->g x Τ M λρ2 M2=>c ρ2 M2 λb M3=>if î then el ρ2 M3 (mΦ) aĬ else eì) lï
def NY (e:WX)(it:WI)(own:Nat)(fr:ü)(g:WG)(c:WT)(el:GJ)(i:Nat):WS:=λD ρ M=>nÆ
instance {e:WX}{ti:TI}{own:Nat}{fr:ü}{g:TG}{tc:TT}{te:TR}{it:WI}{w:WG}{c:WT}{el:GJ}{j:Nat} [ii:cÞ] [ig:bë] [ic:bſ] [ie:W3 K te el]:IS K (Om Ŀ ti own fr g tc te j) (NY e it own fr w c el j) where
 imp :=λρ M σ H D' D o h p8=>ii.imp ρ M σ H _ _ o h λxs keep J M1 H1 h1 t1 m1 ok=>by
  intro p hp;let⟨hz,h1⟩:=h1;let⟨I,h0,hk,hs,hd⟩:=gε;have tp:=kÉ;exact nł;rintro i m vs H' ⟨rfl,hi,ys,M',hI,ts,m',rv,hv⟩;exact#[hv,?_];let⟨kp,hMp,hyl⟩:=fψ;let⟨k1,k2,k3⟩:=hÏ;by_cases j9:cő;exact lό;let⟨ty,my,x,hx,r⟩:=dœ;replace ts:=cο;have oc:lą:=lĆ
  exact nĢ;cases b with
  | true=>
   simp![if_true] at h4 ⊢;exact ie.imp ρ3 M4 σ3 H4 _ _ _ _ eí h4 (kϲ) λC M5 Ha Hb ⟨M0,sm,he⟩ _ m5=>#[C,M0,rfl,he,m5.sub sm]
   let⟨LN,oJ,HY⟩:=m5 p _ h5;have Qi:=iÑ;have t6:=jĦ;show nč
  | false=>simp![bU,eu] at h4 ⊢;let⟨LN,oJ,HY⟩:=kœ;show mĈ
  have e':cπ:= ∅;subst e';show .inl #[k1 rfl,p8.nx _ M' _ H' eî eë #[(iÐ).set j WR.v,m']]
theorem LK {e:WX}{it:WI}{own:Nat}{fr:ü}{g:WG}{c:WT}{el:GJ}{i:Nat}{D:fA}{ρ:dt}{M:Mp}:NY e it own fr g c el i D ρ M=nÆ:=rfl
def ZT {P:pF}{w:World}{mg:Ũ}{base:Heap}{x qual:Str}{st:Stmt}{f:iB}{fd:FuncData}{N ps:ê}{k:Nat}{p:fZ}(F:hÁ)(S:fČ)(len: lŤ) (iF: ∀ (cdv:eC) (A:Around) (outer:è) (s:eY) (H:Hp) (E:XK) (e:WX),mĠ ->mΕ ->mϢ ->KZ mĺ Ŀ ->nō): lύ:=by
 exact nċ;let⟨xs,M,q,e,r,m,h,k',kE⟩:=h;have hE: kϳ:=λc d H' hÔ=>by rw[ec];show fΘ
 have fm: mŬ:=λ{o H s ev s'} z=>by let⟨ea,cls,a0,B,H',r1,r2,r3,r4,r5,r6,r7,r8,r9,nc,r⟩:=z;show mĉ
 let⟨t,h1,w',h2,h3⟩:=iF cdv A outer s H E e hr mϞ mü (λag σ H3 s3 N' sc cl fp jV σ' H1 s1 ev s9 u Q gN I3 v7 Ic fl=>QK ag σ H3 s3 N' sc cl fp jV σ' H1 s1 ev s9 u Q gN I3 v7 Ic (fm fl));exact nĂ;have:=r.length;simp[L2.start,this];have hl:=r.length;unfold L2.start;by_cases hi:cő;rw[bÅ,aD] at e;cases ex:aæ with
 | none=>rw[ex] at e;cases e
 | some y=>rw[ex] at e;cases e;let⟨v,hv,rv⟩:=aε;exact cÙ;rw[fς,aD,hv];rfl
 rw[bÄ,de] at e;split at e<;>cases e;rintro ρ' M' σ' H' ⟨M0,s,hq⟩ ts o;show kϒ;rintro x M' v H' ⟨M0,s,hq⟩ ts m' r';show kĪ
universe e
universe WL
namespace EN
open PySem PySem.Spec PyProof.Rows L2 WL
section
variable {X:Cx}{ag:Ÿ}{σ:L2.St}{H:Hp}{s:eY}{h':Heap}
def Rs {fp:Í}{xs:À}{t':Nat}(I:Ω)(k: mñ)(fe: hů) (new:eL X.prog X.w kŽ h' s.heap.objs.size ņ):Inv X ag σ kŽ jÍ:=by
 have lw:iĐ:=gÚ;have ne: jϐ:=λ{b u} q z=>by rw[(fe b z).1] at q;cases q
 exact I.call (ch:=fp) (g':=s.gens) (d':=s.drawn) #[jó,kϴ,λb o q n hc=> ?_,jļ,λb ys q=> ?_,λb o u q=> ?_,λb ps q=>#[#[],?_]] ?_ I.bare ?_;rw[bH (be (aI q))];show n;rw[dż];show q;rw[dż];show q;rw[dż,q];simp;intro b u q;by_cases hb:b=s.heap.objs.size;subst hb;rw[bX] at q;cases q;show new;rw[aÃ] at q;exact fĲ gĐ (λc r=>by rw[dŽ];show r) λc ys r=>by rw[dŽ];show r
 obtain rfl | hc:=hc;show eϮ;show fĳ;intro b hb;show mΘ
def MV {fp:Í}{t':Nat}(I:Ω)(k: mñ)(fe: hů):lĀ:=by
 have ne: jϐ:=λ{b u} q z=>by rw[(fe b z).1] at q;cases q
 exact I.call (ch:=fp) (g':=s.gens) (d':=s.drawn) #[jó,kϴ,λb o q n hc=>n,jļ,λb ys q=>q,λb o u q=>q,λb ps q=>hă] ?_ I.bare ?_;intro b u q;exact fĲ gĐ (λc r=>r) λc ys r=>r;obtain rfl | hc:=hc;show eϮ;show fĳ;intro b hb;show mΘ
universe e
def K5 (K:jv)(a b:iB):It:=#[λi H=>jD λxs ys x y=>fE (cī) (cϤ) (Δ) (eϯ),λi H v H'=>gh λp x y=>gX (İ) (H'=upd H p dž) (v= ò) (kũ) (∀ys,cϤ ->eϯ),λi H=>cU λxs ys=>dh (cī) (cϤ) (dē \/ dŔ)]
def xM (n:iB):Í:= [n+4,n+3,n+2,n,n+1]
def zat (n a b:iB)(i:Nat)(h:Heap):Prop:=gX (IsZip h (n+4) (n+2) (n+3) .none) (IsPair h (n+2) (.ref n) (.ref aÖ)) (cU λu v=>IsPair h (n+3) u v) (h.IsListIter n a i) (h.IsListIter aÖ b i)
def Hc {n a b:iB}(ha:a∉xM n)(hb:b∉xM n):ZipApart (n+4) (n+2) (n+3) n aÖ a b:=by simp![xM,au,cD,or_false,not_or] at ha hb;have ad: ∀i j:Nat,i≠j ->n+i≠n+j:=λi j h z=>h iĬ;show#[ad 2 4 ⋯,ad 3 4 ⋯,ad 0 4 ⋯,ad 1 4 ⋯,ad 2 3 ⋯,ad 2 0 ⋯,ad 2 1 ⋯,ad 3 0 ⋯,ad 3 1 ⋯,ad 0 1 ⋯,ha.1,ha.2.1,ha.2.2.2.1,ha.2.2.2.2,hb.1,hb.2.1,hb.2.2.2.1,hb.2.2.2.2]
theorem C9 {n a b c:iB}{i:Nat}{h:Heap}{bN:Ġ}(st:zat n a b i h)(hl:h.IsList c bN):c∉xM n:=λz=>by let⟨h1,h2,dſ,⟨o4,h4,c4,_⟩,⟨o5,h5,c5,_⟩⟩:=st;let⟨o,ho,hc,_⟩:=hl;simp![xM,au,cD,or_false] at z;obtain rfl | rfl | rfl | rfl | rfl:=z;cases ho.symm.trans h1;simp at hc;cases ho.symm.trans h3;simp at hc;cases ho.symm.trans h2;simp at hc;rw[ho] at h4;cases h4;rw[hc] at c4;simp at c4;rw[ho] at h5;cases h5;rw[hc] at c5;simp at c5
def Hx {P:pF}{w:World}{K:jv}{Si:Đ}{x1}{pos:Pos}(n a b:iB):y9 P w K (.Tuple Si x1 pos) (K5 K a b) (xM n) (n+4) (zat n a b) where
 mem:=by simp[xM]
 obj:=λi h st c hc=>by let⟨h1,h2,dſ,⟨o4,h4,c4,d4⟩,⟨o5,h5,c5,d5⟩⟩:=st;simp![xM,au,cD,or_false] at hc;obtain rfl | rfl | rfl | rfl | rfl:=hc;show#[_,h1,λv z=>nomatch z];show#[_,h3,λv z=>nomatch z];show#[_,h2,λv z=>nomatch z];show#[_,h4,λv z=>by rw[d4] at z;cases z];show#[_,h5,λv z=>by rw[d5] at z;cases z]
 keep:=λi h h' st k=>by let⟨h1,h2,dſ,⟨o4,h4,r4⟩,⟨o5,h5,r5⟩⟩:=st;show#[k _ eĥ _ h1,k _ eĥ _ h2,#[u,v,k _ eĥ _ h3],#[o4,k _ eĥ _ h4,r4],#[o5,k _ eĥ _ h5,r5]]
 item :=by
  intro X hP hw hK hc i ag s σ H E I hf st hg;subst hP hw hK;let⟨xs,ys,x,y,hq,G6,hx,hy⟩:=hg;let⟨bN,rv,p,hz⟩:=Ō;let⟨its',zi,p',gI⟩:=I.list G6;have oa:=eϰ;have ob:=fĵ;let⟨h1,h2,dſ,h4,h5⟩:=st;let⟨ux,hux,rx⟩:=bŚ;let⟨uy,huy,ry⟩:=zi.get hy;have VS:n+4<s.heap.objs.size:=aI h1;exact wpAny_pyNext_zip_item (x:=ux) (y:=uy) (Hc oa ob) h1 h2 h3 h4 h5 p.isList p'.isList ⇑hux ⇑huy λh' z1 z2 z3 z4 z5 z6 z7=> ?_;exact#[_,rfl,wpAny_letOwnedTupleGo_zip z1 λNh y1 y2=> ?_];have kk: ∀c o,c∉xM n ->s.heap.get? c=ä ->Nh.get? c=ä:=λc o hc q=>by simp![xM,au,cD,or_false,not_or] at hc;show y2.extBut c o hc.1 (lľ)
  have nz:s.heap.objs.size≠n+4:=Nat.ne_of_gt VS;exact#[hŲ,upd H s.heap.objs.size dž,Rs (t':=s.toks) I kk hf #[by rw[cP];change 2<=16777216;decide,[ux,uy], .cons rx fĒ,#[_,y2.extBut _ _ nz z5,rfl,_,rfl,rfl]],rfl,#[_,x,y,gÚ,rfl,rfl,λzs _z=>by rw[I.list_inj _z hq];show hx,λzs _z=>by rw[I.list_inj _z G6];show hy],?_,cϖ];have ad: ∀j,j≠4 ->n+j≠n+4:=λj h z=>h iĬ;have h2k:h'.get? (n+2)=_:=z7 _ _ (ad 2 ⋯) lħ (λz=>absurd (Nat.add_left_cancel (k:=0) z) ⋯) lħ h2;let⟨o4,e4,r4⟩:=z3;let⟨o5,e5,r5⟩:=z4;show#[y1,y2.extBut _ _ (ad 2 ⋯) h2k,#[_,_,y2.extBut _ _ (ad 3 ⋯) z2],#[o4,y2.extBut _ _ (ad 0 ⋯) e4,r4],#[o5,y2.extBut _ _ (ad 1 ⋯) e5,r5]];rw[bH (bÉ)];show(hf c hc).1;let⟨o4,e4,_⟩:=h4;let⟨o5,e5,_⟩:=h5;simp![xM,au,cD,or_false] at hc;obtain rfl | rfl | rfl | rfl | rfl:=hc;show nz z.symm;show absurd (aI h3) hĨ;show absurd (aI h2) hĨ;show absurd (aI e4) hĨ;show absurd (aI e5) hĨ
 done:=by
   intro X hP hw hK hc i ag s σ H E I hf st hg;subst hP hw hK;let⟨xs,ys,hq,G6,hx⟩:=hg;let⟨bN,rv,p,hz⟩:=Ō;let⟨its',zi,p',gI⟩:=I.list G6;have oa:=eϰ;have ob:=fĵ;let⟨h1,h2,dſ,h4,h5⟩:=st;have hl:=rv.length;have J0:=zi.length;exact wpAny_pyNext_zip_end ź (Hc oa ob) h1 h2 h3 h4 h5 p.isList p'.isList fĤ λh' z7=>#[rfl,MV (t':=s.toks) I (λc o hc q=> ?_) hf]
   simp![xM,au,cD,or_false,not_or] at hc;show lľ
 self:=λ_ _ _ _ _ st h=>wpAny_pyIter_zip st.1 h
section
variable {X:Cx}{Si:Đ}{x1:_}{Qf:Pos}
def VQ (K:jv)(tl:TA):TI:=λσ H R=>tl σ H λvs H1=>cU λa b=>fE (vs= [ß, ö]) hď (∃ys,gg K H1 b ys) (R (K5 K a b) H1)
def QG {l l2:Expr}{tl:TA}{p pos:Pos}{tg:Expr}(et:tg= .Tuple Si x1 Qf)(hg:Gl X "zip")(hm:X.mg "zip" =none)(ha:PA X [l,l2] tl)(hs:starEach [l,l2] X.env= [(false,eval l X.env),hώ]:=by rfl)(MZ:starEach [l2] X.env= [hώ]:=by rfl):PI X tg (.Call (.Name "zip" p) [l,l2] [] pos) (VQ X.K tl):=by
 subst et;intro ag s σ H R I h;exact Call_ (uI I hg hm Boot.«zip» (PyProof.Rows.callWith_type1 mł (by rw[hs,MZ]) (by rw[MZ];rfl)));let⟨a,b,e,cĴ,⟨ys,G6⟩,q⟩:=q1;subst e;cases r1 with
 | cons r rr=>
  cases rr with
  | cons r' rr=>
   cases rr;cases r;cases r';let⟨bN,rv,ht,hz⟩:=I1.list hq;let⟨its',zi,rW,gI⟩:=I1.list G6;exact call_zip_2 ht.isList rW.isList λh2 z1 z2 z3 z4 z5 hsz hk=> ?_;have I2:Inv X ag σ H1 {s1 with heap:=h2}:=I1.kept (t':=s1.toks) hk;exact wpAny_pyIter_zip z1 ?_;exact#[_,xM s1.heap.objs.size,_,_,H1,rfl,I2,Hx s1.heap.objs.size a b,#[z1,z2,#[_,_,z3],z4,z5],cϖ,q];have Wd:s1.heap.objs.size<=c:=by simp![xM,au,cD,or_false] at hc;obtain rfl | rfl | rfl | rfl | rfl:=hc;show hŊ;show hŊ;show hŊ;show aA _;show hŊ
   show I1.Gp Wd (I1.c9.fresh Wd)
universe e
section
variable {K:jv}
def sG (l r:Æ):Æ:=(l.zip r).map λz=> .tup [z.1,z.2]
def LA {l r:Æ}:fĶ=min l.length r.length:=by unfold sG;rw[af,List.length_zip]
def Py {l r:Æ}{i:Nat}{x y:W}(hx:aÓ =à)(hy:r[i]? =õ):(sG l r)[i]? =some dž:=by unfold sG;rw[aD,(List.getElem?_zip_eq_some (z:=(x,y))).mpr #[hx,hy]];rfl
def JJ {H1:Hp}{p p':iB}{l r:Æ}: ∀i M H,a_ H1 H ->ĵ ->(M p=ο /\ M p'=eĦ) ->(fĶ=i ->(bΟ).stop i H) /\ (i< fĶ ->(bΟ).go i H) /\ ∀v H',i< fĶ ->(bΟ).SQ i H v H' ->Ę /\ gP K M H' /\ ∃x,(sG l r)[i]? =à /\ cż:=by rintro i M H ts m ⟨hk,RN⟩;let⟨vs,hv,rr⟩:=m p _ hk;let⟨tQ,jO,G2⟩:=m p' _ RN;have hl:=rr.length;have J0:=G2.length;rw[LA];exact#[λh=>#[vs,tQ,Ļ,bĜ,by omega],λh=>#[vs,tQ,vs[i]' Ť,tQ[i]' Ť,Ļ,bĜ,by simp,by simp],fχ];let⟨q,x,y',hq,rfl,rfl,y1,y2⟩:=y;let⟨d,hd,r1⟩:=rr.back (y1 vs (Ļ));let⟨d',Cu,r2⟩:=G2.back (y2 tQ (bĜ));have ts:=L2.fI.ts (bO (o:= .tup [x,y']) hq);show#[ts,m.new hq,_,Py hd Cu,WR.MG cÖ (cO.cons (r1.ts ts) (cO.cons (r2.ts ts) cO.nil))]
def VL (a:WA):WI:=λρ M q=>a ρ M λxs M1=>nĮ
instance {t:TA}{a:WA} [ia:ĸ]:II K (VQ K t) (VL a) where
 imp:=λρ M σ H q R o h k=>ia.imp ρ M σ H _ _ o h λxs M1 v H1 ⟨p,l,p',r,e,hp,Lq,h1⟩ t1 m1 r1=>by subst e;let⟨v,u,rfl,ra,rb⟩:=r1.two;cases ra.eq;cases rb.eq;let⟨vs,hv,rr⟩:=bζ;let⟨tQ,jO,G2⟩:=m1 p' _ Lq;show#[p,p',rfl,#[vs,Ļ],#[tQ,bĜ],k _ _ _ M1 H1 h1 t1 m1 JJ]
universe e
universe EN
namespace WQ
open PySem L2 WL WP PySem.W.KIN PySem.NumText PyProof.Rows
theorem UP (x:String):(Str.ofString x).cps.toList=x.toList.map Char.toNat:=signs_ofString x
def kR (m:Nat):AllDigits (kž):=by intro c hc;let⟨ch,G',e⟩:=bĝ;rw[<- e];show digit_range (Nat.isDigit_of_mem_toDigits ⋯ ⋯ G')
def AE (m:Nat):kž≠ []:=by intro e;have h:=toDigits_len_ge 10 m;rw[List.map_eq_nil_iff.mp e] at h;show absurd h ⋯
def t7 (m:Nat):(Str.ofString (toString (Int.negSucc m))).cps.toList=lĿ:=by rw[UP];change(("-" ++Nat.repr (m+1):String)).toList.map Char.toNat=_;rw[String.toList_append,Nat.toList_repr];rfl
def jf {n:Int}(hl:lč):PySem.intText? jĽ=aē:=by
 cases n with
 | ofNat m=>have e:=intText_digits (x:=Str.ofString (toString ((m:Nat):Int))) (by rw[signs_num];show kR m) (by rw[signs_num];show AE m) hl;rw[signs_num,val_back] at e;show e
 | negSucc m=>have e:=intText_neg (t7 m) (kR _) (AE _) hl;rw[val_back] at e;show e
def Mm (B:iB):fZ:=λxs M q e=> ∃x:Str,gX dź fķ jô (∀n:Int,x=Ϭ ->q (wi n) M) ((∀n:Int,x≠Ϭ) ->e B M)
theorem om (x:Str)(l u:ø):Txt.slice x l u=StrLaws.sliceText x l u:=rfl
def qR:(fϑ).cps.toList= [45]:=by decide+kernel
def FU:(fϑ).length=1:=by decide+kernel
theorem bx (x:Str):x.cps.toList.length=x.length:=Array.length_toList
def zA (x:Str):kΞ=true↔ iĭ:=by
 unfold Txt.startswith;rw[StrLaws.subAt_eq,qR,FU,cx,beq_iff_eq,List.drop_zero,c_];have hl:=bx x;cases e:x.cps.toList with
 | nil => rw[e] at hl;simp at hl;symm
          rintro⟨h,_⟩;omega
          rintro⟨r,h⟩;cases h
 | cons c r=>rw[e] at hl;simp at hl;symm;rintro⟨_,h⟩;have:c=45:= ⇑h;show#[r,by rw[this]];rintro⟨r',h⟩;cases h;show#[by omega,by simp]
def Dw {x:Str}{c:Nat}{r:ü}(h:x.cps.toList=c::r):(iϩ).cps.toList=r:=by rw[om,StrLaws.sliceText_from hϏ,h];simp
def E_:Str:=iϪ
def Nq:E_.cps.toList= [48,49,50,51,52,53,54,55,56,57]:=by decide+kernel
def tf (c:Nat):m9 ŝ E_=decide fϒ:=by unfold m9;rw[StrLaws.found_one,Nq];apply eh.mpr;simp![c_,au,cD,or_false];omega
theorem Qe {M:Mp}{f:Str}{k:cμ}:LS M (.v (.str f)) k=eR hŋ (k hŌ):=propext #[λ⟨_,cϥ,z⟩=>by cases h2;show#[h1,z],λ⟨h1,z⟩=>#[_,#[h1,rfl],z]]
def Tr (x f:Str):Prop:=x.cps.toList=45::f.cps.toList \/ (f=x /\ ∀r,x.cps.toList≠45::r)
def Tr.num {x f:Str}{n:Int}(h:Tr x f)(e:x=Ϭ):iä /\ gΜ:=by
 cases n with
 | ofNat m=>
  have e':x.cps.toList=kž:=by rw[e];show cϦ
  obtain h | ⟨h,_⟩:=h;have:=kΟ;omega;rw[h,e'];show#[kR m,AE m]
 | negSucc m=>
  have e':x.cps.toList=lĿ:=by rw[e];show t7 m
  obtain h | ⟨_,h⟩:=h;rw[e'] at h;have h2:=(bB h).2;rw[<- h2];show#[kR _,AE _];show fĸ
theorem xu: ∀ (n:Nat) (cs:ü),cs.length=n ->AllDigits cs ->digitsVal cs<10 ^ n
 | 0,cs,h,_=>by rw[List.eq_nil_of_length_eq_zero h];decide
 | n +1,cs,h,hd=>by obtain e | ⟨l,c,e⟩:=List.eq_nil_or_concat cs;rw[e] at h;cases h;rw[List.concat_eq_append] at e;subst e;have hl:cÝ:= ⇑h;have ih:=xu n l hl λd Cu=>hd d (List.mem_append_left _ Cu);have hc:=hd c (bi _ (List.mem_singleton_self c));rw[digitsVal_snoc,Nat.pow_succ];omega
def Cd {m n:Nat}(h:m<10 ^ n)(hn:n<=500):m.log2<1920:=by
 have h1:bĞ ^ n<=bğ:=Nat.pow_le_pow_right ⋯ hn;have h2:bĞ ^ 500<2 ^ 1920:=by decide+kernel
 by_cases h0:m=0;rw[h0];decide;show(eϛ).mpr Ť
def Tr.int {x f:Str}(h:Tr x f)(hd:iä)(hn:gΜ)(hl:eħ): ∃v,fϐ=â /\ v.natAbs.log2<1920:=by
 obtain h | ⟨rfl,_⟩:=h;exact#[_,intText_neg h hd hn Ť,?_];rw[Int.natAbs_neg,Int.natAbs_natCast];have e:x.length=f.cps.toList.length+1:=by rw[<- bx,h];rfl
 show Cd fĹ Ť;exact#[_,intText_digits hd hn Ť,?_];rw[Int.natAbs_natCast];show Cd fĹ gĒ
universe WQ
namespace WQ
open PySem L2 WL WP PySem.W.KIN PySem.NumText PyProof.Rows Builtin.Str
def gK:fΜ =cϧ:=by decide+kernel
theorem vt {x:Str}{c i:Nat}:StrLaws.At x ŝ x.length i↔x.cps.toList[i]? =é:=StrLaws.subAt_one x c i
def Iz (x:Str)(c:Nat):(∃a b:Str,dh (x=a++ŝ++b) (c∉a.cps.toList) (jõ=(a,ŝ,b))) \/ (fϓ /\ jõ=(x,Str.empty,Str.empty)):=by
 have hs:=PySem.StrLaws.partition_sum x ŝ;unfold Txt.partition at hs ⊢;rcases StrLaws.occ_head x ŝ 1 (aA 1) with⟨h0,hn⟩ | ⟨i,r,h0,hi,hn⟩
 rw[h0];exact .inr #[bΡ,rfl];let⟨i,hi⟩:=jľ;show fϔ;rw[h0] at hs ⊢;exact .inl #[_,_,hs.symm,bΡ,rfl];rw[StrLaws.strSub_toList,List.drop_zero] at hm;let⟨j,hj⟩:=jľ;rw[List.getElem?_take] at hj;split at hj;rename_i j9;show jĿ;cases hj
def bD (a b:Str):lŦ:=by rw[PySem.Str.cps_append,Array.toList_append]
theorem eM {a b:Str}(h:iϞ):a=b:=PySem.Str.ext' (Array.ext' h)
theorem qj {c:Nat}: ∀ {a a' b b':ü},c∉a ->c∉a' ->a++c::b=a'++c::b' ->a=a' /\ b=b'
 | [],[],b,b',_,_,h=>#[rfl,(bB h).2]
 | [],y::a',b,b',_,h',h=>absurd (bB h).1 λe=>h' (by rw[<- e];show bq ..)
 | y::a,[],b,b',h',_,h=>absurd (bB h).1 λe=>h' (by rw[e];show bq ..)
 | y::a,z::a',b,b',h1,h2,h=>by let⟨e1,e2⟩:=bB h;let⟨e3,e4⟩:=qj (λhm=>h1 bΤ) (λhm=>h2 bΤ) e2;show#[by rw[e1,e3],e4]
def f' {n:Int}{c:Nat}(hc:c∈lÜ):c=45 \/ fϒ:=by
 cases n with
 | ofNat m=>show .inr (kR m c (by rw[<- cϦ];show hc))
 | negSucc m=>rw[t7] at hc;obtain h | h:=au.mp hc;show añ;show .inr (kR _ c h)
universe WQ
namespace WQ
open PySem L2 WL WP
def Vl (B:iB):fZ:=λxs M q e=>cU λ Ě aΛ=>gX gē fķ jô (∀a b:Int,x=mſ ->1<=b ->b<p ->q (dC (a,b)) M) ((ní) ->e B M)
universe WQ
namespace WQ
open PySem L2 WL WP PySem.W.KIN PySem.NumText PyProof.Rows
def pI {a b:Str}{m n:Int}(ha:61∉a.cps.toList)(h:a++cϧ++b=mγ):a=iϫ /\ b=Ϭ:=by
 have e:=kſ;simp![bD,gK,bn] at e;have hm:61∉(iϫ).cps.toList:=λz=>by have:=f' z;omega
 let⟨e1,e2⟩:=qj ha hm e;show#[eM e1,eM e2]
def Js {x:Str}{m n:Int}(h:x=mγ):61∈x.cps.toList:=by rw[h,bD,bD,gK];simp
def kX (a b:Str):ký:=by rw[<- bx,bD,aE,bx,bx]
theorem Jb {n:Int}:Str.empty≠Ϭ:=λe=>by
 have:=congrArg iĮ e;cases n with
 | ofNat m=>show AE m (by rw[<- cϦ];show this.symm)
 | negSucc m=>rw[t7] at this;cases this
universe WQ
namespace WQ
open PySem L2 WL WP
def iJ (p:Int)(a:Pt):Prop:=(a.map ç).Pairwise bπ /\ ∀z∈a,fĺ
def Vj (B:iB)(sh:Rd ->Str):fZ:=λxs M q e=>cU λ Ě aΛ=>gX gē fķ jô (∀r:Rd,bĠ ->x=sh r ->q (kF r) M) ((∀r:Rd,bĠ ->x≠sh r) ->e B M)
universe WQ
namespace WQ
open PySem L2 WL WP PySem.W.KIN PySem.NumText PyProof.Rows Builtin.Str
def ge:ϒ =cϨ:=by decide+kernel
def h_:(fώ).cps.toList= [58]:=by decide+kernel
def GA:jĸ:=by decide+kernel
def AC (x:Str):Txt.endswith x gΝ=true↔ ∃r,x.cps.toList=r++ [58]:=by
 unfold Txt.endswith;rw[StrLaws.subAt_eq,h_,GA,cx,beq_iff_eq,c_];have hl:=bx x;symm;rintro⟨h1,h2⟩;exact#[x.cps.toList.take (dδ),?_];have e:=bL (dδ) x.cps.toList;have:(List.drop (dδ) x.cps.toList).length=1:=by rw[dy];omega
 rw[dv Ť] at h2;rw[h2] at e;show e.symm;rintro⟨r,h⟩;rw[h,aE] at hl;have hr:dδ=r.length:=by simp at hl;omega
 exact#[by simp at hl;omega,?_];rw[hr,h,List.drop_left];rfl
def mz (c:Nat)(a b:Str)(r:ê):(Str.join ŝ (aų)).cps.toList=a.cps.toList++c::(jö).cps.toList:=by change(a++ŝ++jö).cps.toList=_;rw[bD,bD];simp
theorem pN {c:Nat}: ∀ {l l':ê},aς ->l'≠ [] ->(∀p∈l,fϕ) ->(∀p∈l',fϕ) ->Str.join ŝ l=Str.join ŝ l' ->l=l'
 | [],_,h,_,_,_,_=>dđ
 | _,[],_,h,_,_,_=>dđ
 | [a],[a'],_,_,_,_,h=>by rw[show a=a' from h]
 | [a],a'::b'::r',_,_,h1,h2,h=>by have e:=kſ;simp![mz] at e;show absurd (show c∈a.cps.toList by rw[show a.cps.toList=_ from e];simp) (h1 a aΜ)
 | aų,[a'],_,_,h1,h2,h=>by have e:=kſ;simp![mz] at e;show absurd (show c∈a'.cps.toList by rw[show a'.cps.toList=_ from e.symm];simp) fĻ
 | aų,a'::b'::r',_,_,h1,h2,h=>by have e:=kſ;simp![mz] at e;let⟨e1,e2⟩:=qj (h1 a aΜ) fĻ e;rw[eM e1,pN (l:=b::r) (l':=b'::r') Ň Ň (λp hp=>h1 p (aJ _ hp)) (λp hp=>h2 p (aJ _ hp)) (eM e2)]
theorem fh (x y:Str):Txt.split x y≠ []:=λe=>by have:=split_pos x y;rw[e] at this;cases this
def jQ (a:Rd):Txt.split aı ϛ=lÕ:=by
 rw[ge];exact pN (c:=32) bġ Ň (StrLaws.split_free _ 32) (cϩ) ?_;have sg: mĳ:=λz=>by have:=f' z;omega
 obtain rfl | hq:=Ł;rw[bD];intro z;obtain z | z:=aΝ;show sg z;rw[h_] at z;simp at z;let⟨z,_,rfl⟩:=bĢ;unfold bR;rw[bD,bD,gK];intro w;obtain w | w:=aΞ;obtain w | w:=aΞ;show sg w;simp at w;show sg w;rw[bW, <- cf,eE];change _=jø;rw[ge]
def o9 {x e0:Str}{ls:ê}{r:Rd}(hw:kϵ)(h:aň):e0=(dε:Str)++ ":" /\ ls=r.2.map bR:=by rw[h,jQ] at hw;show#[(bB hw).1.symm,(bB hw).2.symm]
theorem yE: ∀ {l:ü} {a:Nat},a∈l ->a<=l.sum
 | b::l,a,h=>by rw[List.sum_cons];obtain rfl | h:=ĕ;omega;have:=yE h;omega
theorem gx {x e0:Str}{ls:ê}(hw:kϵ): ∀p∈aŇ,p.length<=x.length:=λp hp=>by
 have h:=PyProof.Rows.split_weight x ϛ ϙ;rw[hw] at h;have:p.length<=((aŇ).map (bυ)).sum:=yE (aG.mpr #[p,hp,rfl]);have h2:1<=(aŇ).length:=by simp
 omega
theorem iY {x e0:Str}{ls:ê}(ha:bK x)(hw:kϵ): ∀p∈aŇ,bK p:=λp hp=>by
 have hj:=bW x ϛ;rw[hw] at hj;rw[fO] at ha ⊢;intro c hc;apply ha;rw[<- hj,ge];clear hj hw;revert e0;induction ls with
 | nil=>intro e0 hp;rw[aZ.mp hp] at hc;show hc
 | cons l ls ih=>intro e0 hp;rw[mz];obtain h | h:=au.mp hp;rw[<- h];show iϬ;show bi _ (aJ _ (ih h))
universe WQ
namespace EN
open PySem L2 WL
def _p (q:kÅ)(xs:Æ)(M1:Mp):Prop:=nĮ
theorem _q {a:WA}{ρ:dt}{M:Mp}{q:kÅ}:VL a ρ M q=a ρ M (_p q):=rfl
universe EN
namespace WQ
open PySem L2 WL WP PySem.W.KIN PySem.NumText PyProof.Rows Builtin.Str
theorem ug: ∀zs:Pt,mģ=false↔(zs.map ç).Pairwise bπ
 | []=>by simp
 | [z]=>by simp
 | a ::b::r=>by have ih:=ug (b::r);simp![List.drop_succ_cons,List.drop_zero,List.zip_cons_cons,av,List.any_cons,id,Bool.or_eq_false_iff,decide_eq_false_iff_not,bT] at ih ⊢;rw[ih];symm;rintro⟨h1,h2,h3⟩;exact#[cϖ,h2,h3];obtain rfl | hc:=au.mp hc;omega;have:=h2 c hc;omega;rintro⟨h1,h2,h3⟩;have:=h1 b.1 aΜ;show#[by omega,h2,h3]
def pz {m n:Int}(hl:(iϫ).length<=4300)(h:iϫ=Ϭ):m=n:=by have e1:=jf hl;have e2:=jf (n:=n) (by rw[<- h];show hl);rw[h,e2] at e1;show(bF e1).symm
def Jr {z z':Ľ}(hl:eĂ<=4300)(h:bR z=bR z'):z=z':=by
 unfold bR at h hl;have Bm:61∉lĎ:=λw=>by have:=f' w;omega
 rw[kX,kX] at hl;let⟨e1,e2⟩:=pI (m:=z'.1) (n:=z'.2) Bm (by rw[<- gK];show h);show Prod.ext (pz Ť e1) (pz Ť e2)
theorem qS: ∀ {l l':Pt},(∀z∈l,eĂ<=4300) ->bģ=l'.map bR ->l=l'
 | [],[],_,_=>rfl
 | [],_::_,_,h=>by cases h
 | _::_,[],_,h=>by cases h
 | a::l,b::l',hl,h=>by let⟨e1,e2⟩:=bB h;rw[Jr (hl a aΜ) e1,qS (λz hz=>hl z (aJ _ hz)) e2]
def LZ {x:Str}{r:ü}{c:Nat}(h:x.cps.toList=r++ [c]):(Txt.slice x none (some (-1))).cps.toList=r:=by
 have hl:=bx x;rw[h] at hl;simp at hl;rw[om,StrLaws.sliceText_neg_hi x none ⋯ Ť,StrLaws.sliceText_to hϏ,h];have:((-1+(x.length:Int)) - 0).toNat=r.length:=by omega
 simp![this,List.drop_zero];simp
def uR (len a b:Nat):strSliceIndices eϱ eϲ 1 len=strSliceIndices (some hϑ) (some ((min b len:Nat):Int)) 1 len:=by
 have e: ∀a:Nat,max aů (min (a:Int) (len:Int))=max aů (min hϑ (len:Int)):=λa=>by omega
 have n: ∀a:Nat,¬((a:Int) <0):=λa=>by omega
 have e1:=e a;have e2:=e b;simp![strSliceIndices,aC (n _)];rw[aĴ,aĴ,aĴ,aĴ,e1,e2]
def tZ (x:Str){a b:Nat}(h:a<=b):(lĨ).cps.toList=(hì).take (b - a):=by
 have e:lĨ=StrLaws.sliceText x (some ((eϳ:Nat):Int)) (some ((eϴ:Nat):Int)):=by rw[om];unfold StrLaws.sliceText;rw[uR x.length a b]
 rw[e,StrLaws.sliceText_nat x Ť Ť];change((x.cps.toList.drop (eϳ)).take (eϴ - eϳ))=_;have hl:=bx x;by_cases ha:a<=x.length;rw[Nat.min_eq_left ha];by_cases hb:b<=x.length;rw[Nat.min_eq_left hb];rw[jŁ,hō,hō];rw[jŁ,kş,kş];simp
def wH (x:Str)(b:Nat):(kĂ).cps.toList=x.cps.toList.take b:=by
 have e:kĂ=Txt.slice x (some dϪ) eϲ:=by rw[om,om];unfold StrLaws.sliceText;rw[StrLaws.sliceIdx_none_lo];rfl
 rw[e,tZ x (ν)];rfl
def zC (x:Str)(a:Nat):(kă).cps.toList=hì:=by
 have hl:=bx x;have e:kă=Txt.slice x eϱ (some ((a+x.length:Nat):Int)):=by rw[om,om];unfold StrLaws.sliceText;rw[StrLaws.sliceIdx_none_hi,uR x.length a x.length,uR x.length a (a+x.length),Nat.min_self,Nat.min_eq_right (Nat.le_add_left ..)]
 rw[e,tZ x Ť,hō]
def Ft (x:Str)(b:Nat):(kĂ).length<=b:=by rw[<- bx,wH,bz];omega
def Fu (x:Str)(a:Nat):(kă).length=x.length - a:=by rw[<- bx,zC,dy,bx]
def BG (x:Str){a b:Nat}(h:a<=b):(lĨ).length<=b - a:=by rw[<- bx,tZ x h,bz];omega
def pT (x:Str)(c:Nat):(hϒ= -1 /\ fϓ) \/ ∃a b:ü,dh (x.cps.toList=a++c::b) (c∉a) (hϒ=eϵ):=by
 rcases find_whole x ŝ with⟨h,hn⟩ | ⟨i,h,hi,hn⟩
 exact .inl #[h,bΡ];let⟨i,hi⟩:=jľ;show fϔ;have J4:=vt.mp hi;let⟨j9,hg⟩:=bu.mp J4;exact .inr #[x.cps.toList.take i,x.cps.toList.drop Ð,?_,bΡ,?_];rw[<- hg, <- List.drop_eq_getElem_cons,bL];let⟨j,hj⟩:=jľ;rw[List.getElem?_take] at hj;split at hj;rename_i j9;show jĿ;cases hj;rw[h,bz,Nat.min_eq_left Ť]
def vc {m:Nat}{r:ü}(h:kž=48::r):r= []:=by
 cases r with
 | nil=>rfl
 | cons c r=>
  have hd:=kR m;have hv:=val_back m;have hl:(gđ).length=r.length+2:=by rw[<- af (f:=Char.toNat),h];rfl
  rw[h] at hd hv;have h2:digitsVal (c::r)=m:=by rw[<- hv];rfl
  have h3:=xu _ (c::r) rfl λd Cu=>hd d (aJ _ Cu);rw[h2] at h3;have h4:=(Nat.length_toDigits_le_iff (b:=10) (k:=(c::r).length) ⋯ Ň).mpr h3;simp at h4;omega
def zn:(fϖ).cps.toList= [48]:=by decide+kernel
def Jn (x:Str):iϭ=fϑ ↔ iĭ:=by
 have h:(iϭ).cps.toList=x.cps.toList.take 1:=wH x 1;symm;intro e;rw[e,qR] at h;cases e':x.cps.toList with
 | nil=>rw[e'] at h;cases h
 | cons c r=>rw[e'] at h;simp at h;show#[r,by rw[<- h]]
 rintro⟨r,e⟩;exact aÛ;rw[h,e,qR];rfl
noncomputable def fC (x:Str):Str:=open Classical in if iϭ=fϑ then iϩ else x
def uZ (x:Str):Tr x (fC x):=by unfold fC;split;rename_i h;let⟨r,hr⟩:=(Jn x).mp h;show .inl (by rw[Dw hr];show hr);rename_i h;show .inr #[rfl,λr hr=>h ((Jn x).mpr #[r,hr])]
noncomputable def dz (x:Str):û:=open Classical in if AllDigits gĔ /\ mϟ then(fϐ).toList else []
def Ce {n:Int}(hl:lč):dz jĽ= [n]:=by
 unfold dz;have hf:=uZ jĽ;let⟨h1,h2⟩:=hf.num rfl;have key:(fC jĽ).cps.toList.head? =some 48 ->Ϭ=fϖ :=by
  intro h3;let⟨r,hr⟩: ∃r,lœ=48::r:=by
   cases e:lœ with
   | nil=>show absurd e h2
   | cons c r=>rw[e] at h3;simp at h3;show#[r,by rw[h3]]
  cases n with
  | ofNat m=>have e':(Str.ofString (toString (Int.ofNat m))).cps.toList=kž:=cϦ;obtain h | ⟨h,_⟩:=hf;have:=kΟ;omega;rw[h,e'] at hr;have h5:=vc hr;exact aÛ;rw[e',zn,hr,h5]
  | negSucc m=>
   have e':=t7 m;obtain h | ⟨_,h⟩:=hf;rw[e'] at h;have h4:=(bB h).2;rw[hr] at h4;have h5:=vc h4;have h6:=val_back (m+1);rw[h4,h5] at h6;have:digitsVal [48]=0:=by decide+kernel
   omega;show fĸ
 rw[aF #[h1,h2,key],jf hl];rfl
def pG (x:Str):eĨ<=1:=by unfold dz;split;cases fϐ<;>simp;simp
def yC {x:Str}(hl:eħ){n:Int}(h:n∈dz x):gĕ:=by
 unfold dz at h;split at h;rename_i hc;obtain hf | ⟨hf,_⟩:=uZ x;rw[intText_neg hf hc.1 aù Ť] at h;simp at h;rw[h,Int.natAbs_neg,Int.natAbs_natCast];have e:x.length=(fC x).cps.toList.length+1:=by rw[<- bx,hf];rfl
 show aP gĖ (Nat.pow_le_pow_right ⋯ Ť);rw[hf] at hc;rw[intText_digits hc.1 aù Ť] at h;simp at h;rw[h,Int.natAbs_natCast];show aP gĖ (Nat.pow_le_pow_right ⋯ gĒ);cases h
def gH {k:Nat}(hk:0<k){i:Int}(h:i.natAbs<aŉ):kŷ<=k+1:=by
 rw[zy];have hd: ∀n:Nat,n<aŉ ->jè<=k:=λn hn=>by rw[Nat.repr_eq_ofList_toDigits,String.toList_ofList];show(Nat.length_toDigits_le_iff ⋯ hk).mpr hn
 cases i with
 | ofNat n=>change jè<=k+1;have:=hd n h;lia
 | negSucc n=>
  change kϓ<=k+1;rw[String.toList_append,aE];have:=hd aÖ h;have e:jϋ:=⋯
  lia
theorem uC {i:Int}(h:i.natAbs<bğ):gŗ:=Cd h ï
def K0 (k:Nat)(a:Rd):Prop:=cè<aŉ /\ ∀z∈a.2,lÝ
def FZ {k:Nat}(hk:0<k){z:Ľ}(h:lÝ):eĂ<=2*k+3:=by
 unfold bR;rw[a8,a8];have h1:=gH hk h.1;have h2:=gH hk h.2;have e:jİ:=by decide+kernel
 lia
def Ml:iR:=λxs M q=> ∃ (a:Rd),fE dŧ (cå<=Â) (K0 500 a) gÿ
def Oh (n:Int): ∃c r,lÜ=c::r:=by
 cases e:lÜ with
 | nil=>show absurd (eM (a:=Str.empty) (b:=Ϭ) (by rw[e];rfl)) Jb
 | cons c r=>show#[c,r,rfl]
def kx (r:Rd):gė=lď++58::(r.2.map jù).flatten:=by rw[eE,bY,bD,h_,ba,bn];congr 3
theorem Z7 {n:Int}:(58:Nat)∉lÜ:=λz=>by have:=f' z;omega
theorem Z6 {n:Int}:(61:Nat)∉lÜ:=λz=>by have:=f' z;omega
def Qp {r:Rd}:Txt.slice aŊ none (some mÜ)=jł:=by exact aÛ;rw[wH,kx,List.take_left]
def Qn {r:Rd}{i j:Int}(hi:i=mÜ+1)(hj:j=mÜ+2):kγ=fġ \/ kγ=ϒ :=by
 have J4:i=((lΗ+1:Nat):Int):=by omega
 have hj':j=mĴ:=by omega
 have h:=tZ aŊ (a:=lΗ+1) (b:=lΗ+2) Ť;rw[<- J4, <- hj',kx, <- List.drop_drop,List.drop_left,List.drop_succ_cons,List.drop_zero,show lΗ+2 - (lΗ+1)=1 by omega] at h;cases e:r.2 with
 | nil=>rw[e] at h;show .inl (eM (by rw[h];rfl))
 | cons z l=>rw[e] at h;show .inr (eM (by rw[h,ge];rfl))
def L5 {r:Rd}{c:Nat}(h:jC gė (-1)=é):c≠32:=by
 rintro rfl;have kN:gė≠ []:=by rw[kx];simp
 let⟨l,y,e⟩: ∃l y,gė=l++ [y]:=by obtain h0 | ⟨l,y,h0⟩:=List.eq_nil_or_concat gė;show absurd h0 kN;show#[l,y,by rw[h0,List.concat_eq_append]]
 rw[e,A3 List.getLast?_concat] at h;cases h;have e2:=e;rw[kx] at e2;obtain h0 | ⟨l',z,h0⟩:=List.eq_nil_or_concat r.2;rw[h0] at e2;have:=jŃ;cases this;rw [List.concat_eq_append] at h0;let⟨c,t,hc⟩: ∃t c,lĐ=t++ [c]:=by obtain h1 | ⟨l,y,h1⟩:=List.eq_nil_or_concat lĐ;let⟨c,t,hc⟩:=Oh z.2;rw[hc] at h1;cases h1;show#[l,y,by rw[h1,List.concat_eq_append]]
 rw[h0,aX,List.flatten_append] at e2;have e3:(List.map (jù) [z]).flatten=32::(lĎ++61::c)++ [t]:=by unfold bR;simp![av,dw,db,List.flatten_nil,cA];rw[bD,bD,hc,gK];simp
 rw[e3, <- List.cons_append, <- bn, <- bn] at e2;have:=jŃ;have ht:t∈lĐ:=by rw[hc];simp
 have:=f' ht;cases jŃ;omega
def jq (w:Str):gk (Str×Str):=if 0<jϑ then some (Txt.slice w none (some (jϑ)),Txt.slice w (some (jϑ+1)) none) else none
def Gx (z:Ľ):jq aŋ=some mā:=by
 have hc:gĘ=lĎ++61::lĐ:=by unfold bR;rw[bD,bD,gK];simp
 have hf:Txt.find aŋ gΞ=(lΘ:Int):=by
  rw[gK];rcases pT aŋ 61 with⟨_,h⟩ | ⟨a,b,h1,h2,h3⟩
  show absurd fϗ h;rw[h3,(qj h2 Z6 (h1.symm.trans hc)).1]
 let⟨c,t,ht⟩:=Oh z.1;have hp:0< lΘ:=by rw[ht];simp
 unfold jq;rw[hf,aF Ť];congr 2;exact aÛ;rw[wH,hc,List.take_left];exact aÛ;have h:=zC aŋ (lΘ+1);rw[hc, <- List.drop_drop,List.drop_left] at h;show h
def CJ {w:Str}(h:w.cps.toList= []):jq w=none:=by
 unfold jq;rcases pT w 61 with⟨e,_⟩ | ⟨a,b,h1,_⟩
 rw[gK,e,aC ⋯];rw[h] at h1;simp at h1
def L4 {r:Rd}{i:Int}(hi:i=mÜ+2):(Txt.split kı ϛ).filterMap jq=mŸ:=by
 have J4:i=mĴ:=by omega
 have h:=zC aŊ (lΗ+2);rw[<- J4,kx, <- List.drop_drop,List.drop_left,List.drop_succ_cons] at h;rw[ge];have hj:=bW kı cϨ;have hf:=StrLaws.split_free kı 32;have hn:=fh kı cϨ;cases e:r.2 with
 | nil=>
  rw[e] at h;generalize mâ=L at hj hf hn;match L,hj,hn with
  | [],_,hn=>show absurd rfl hn
  | [a],hj,_=>rw[show a=_ from hj,c7,CJ h];rfl
  | a::b::l,hj,_=>have:=congrArg iĮ hj;simp![mz] at this;rw[h] at this;simp at this
 | cons z l=>
  have hw:mâ=(z::l).map bR:=by
   exact pN (c:=32) hn Ň hf (cϩ) ?_;let⟨z,_,rfl⟩:=bĢ;have sg: mĳ:=λz=>by have:=f' z;omega
   unfold bR;rw[bD,bD,gK];intro w;obtain w | w:=aΞ;obtain w | w:=aΞ;show sg w;simp at w;show sg w;rw[hj, <- cf];exact aÛ;rw[h,e,show List.map bR (z::l)=bR z::List.map bR l from rfl,bY,ba,av,db];rfl
  rw[hw,List.filterMap_map];have:(jq ∘ bR)=λz:Ľ=>some mā:=by funext z;show Gx z
  rw[this,List.filterMap_eq_map']
def HP (r:Rd):(jł).length<=eĩ:=by rw[<- bx, <- bx,kx,aE];omega
theorem Ed {r:Rd}{z:Ľ}(hz:z∈r.2):eĂ<=eĩ:=gx (jQ r) _ (aJ _ (gΟ))
def Qo {r r':Rd}(hl:eĩ<=4000)(h:bE r=bE r'):r=r':=by have e:=jQ r;rw[h,jQ] at e;let⟨e1,e2⟩:=bB e;have h1:=congrArg iĮ e1;simp![bD] at h1;have h2:=eM (List.append_inj' h1 rfl).1;have hb:=HP r;exact Prod.ext (pz Ť h2.symm) (qS (λz hz=>by have:=Ed hz;omega) e2.symm)
theorem y7 (n:Int):bK jĽ:=fO.mpr λc hc=>by have:=f' hc;omega
theorem NH (z:Ľ):bK aŋ:=Nm.app (kĲ) (y7 _)
def KO (r:Rd):bK aŊ:=by rw[eE];exact qq ϙ cŞ;obtain rfl | hx:=bÎ;show kĲ;let⟨z,_,rfl⟩:=bċ;show NH z
universe WQ
namespace WQ
open PySem L2 WL WP
def Vm:iR:=λxs M q=> ∃x:Str,fE dź fķ jô (∀u,ŀ ->q aŁ (um M u (.lst ((dz x).map wi))))
def Vh:iR:=λxs M q=>cU λ bù=>dh dŜ cä (∀ (s:Str) (M':Mp),s.length=1 ->bK s ->ŕ ->bς ->q (ws s) M')
def pR {p:Int}{a:Pt}:iJ p a↔f8 p a:=by unfold iJ f8;rw[List.pairwise_map];symm;rintro⟨h1,h2⟩;show#[λz hz=>by have:=h2 z hz;omega,h1];rintro⟨h1,h2⟩;show#[h2,λz hz=>by have:=h1 z hz;omega]
def No (x:Str):eĪ<=x.length:=by unfold fC;split;show bĤ;show aA _
def Np {x:Str}(h:bK x):bK (fC x):=by unfold fC;split;show gl h;show h
def MI {x:Str}(h:¬(nĠ)):dz x= []:=by unfold dz;rw[aC h]
def Ad {x:Str}{v:Int}(h:nĠ)(hv:fϐ=â):dz x= [v]:=by unfold dz;rw[aF h,hv];rfl
def VH {x:Str}{j:Int}(h:0<=j):(Txt.slice x none (aą)).length<=j.toNat:=by let⟨b,rfl⟩:=b0 h;show Ft x b
def Jv {x:Str}{i:Int}(h:0<=i):(Txt.slice x bÇ none).length=gΡ:=by let⟨b,rfl⟩:=b0 h;show Fu x b
def Jw {x:Str}{i j:Int}(h:0<=i)(h2:i<=j):lÞ<=(j - i).toNat:=by let⟨a,rfl⟩:=b0 h;let⟨b,rfl⟩:=iå;have:=BG x (a:=a) (b:=b) Ť;omega
def Ei {x:Str}{i j:Int}(h:0<=i)(h2:i<=j):lÞ<=gΡ:=by let⟨a,rfl⟩:=b0 h;let⟨b,rfl⟩:=iå;rw[<- bx,tZ x Ť,bz,dy,bx];omega
def ND {M M2:Mp}{d l u:iB}(hD:bð)(hu:ŀ)(D2:Dr M2 d l)(b: ∀a,a≠d ->a≠u ->M2 a=M a): ∃M0,dh (Sm M0 M2) (Dr M0 d l) (NB d M M0):=by let⟨n1,n2⟩:=hD.ne hu;exact#[λa=>if a=u then none else M2 a,λa o e=> ?_,?_,λa h=> ?_];dsimp only at e;split at e;cases e;show e;let⟨ns,i,c,s,h1,h2,h3,h4⟩:=D2;show#[ns,i,c,s,by dsimp only;rw[aC (cE n1)];show h1,by dsimp only;rw[aC (cE n2)];show h2,h3,h4];dsimp only;split;rename_i e;rw[e];show hu.symm;rename_i e;show b a h e
def MD {M:Mp}{q:WK}{a b:Pt}(h:iŶ):LL (oB a) (oB b) M q:=by exact#[_,_, .inl (yQ a), .inl (yQ b),rfl,?_,by rw[Nw];show h];unfold ym;rw[va];have:=oN a;lia
theorem lU {M M1:Mp}{u:iB}{o:MO}(s:až):Sm cý (um M1 u o):=λb x e=>by by_cases h:b=u;subst h;rw[am] at e ⊢;show e;rw[aR h] at e ⊢;show s _ _ e
abbrev Zs:=eA (gΤ)
def Px (z:gΤ):W:= .tup [wr z.1.1,wr aÁ]
noncomputable def Bo (z:gΤ):Ľ:=((bĥ).headD 0,(dz aÂ).headD 0)
structure LP (M M':Mp)(ap:Addr)(zs:Zs):Prop where
 To:M' ap=iį
 sm:ę
 Yy: ∀z∈zs,oR (M' z.1.1=some (.lst (gę))) (M' aÁ=some (.lst (gĚ))) (z.1.1≠ap) (aÁ≠ap) (z.1.2.length<=500) (dŰ<=500)
def LP.step {M M':Mp}{ap v w:iB}{zs:Zs}{s t:Str}(h:eī)(hM:M ap=none)(hv:M' v=none)(hw:um M' v iæ w=none)(hs:eĬ)(ht:t.length<=500):LP M (um mĻ ap (.lst (bΥ++ [.tup [wr v,wr w]]))) ap (zs++ [((v,s),w,t)]):=by have s1:Sm M' mĻ:=eĭ (aN hw);have nv:v≠ap:=(dR h.To hv).symm;have nw:w≠ap:=(dR (aN hv _ _ h.To) hw).symm;exact#[by rw[am,aX];rfl,(h.sm.trans s1).um hM,ů];obtain hz | hz:=bĦ;let⟨h1,h2,h3,h4,h5,h6⟩:=h.Yy z hz;show#[by rw[aR h3];show s1 _ _ h1,by rw[aR h4];show s1 _ _ h2,h3,h4,h5,h6];rw[aZ.mp hz];show#[by rw[aR nv];show aN hw _ _ am,by rw[aR nw,am],nv,nw,hs,ht]
def yq {x:Str}(h:eĨ=1):dz x= [(dz x).headD 0]:=by
 cases e:dz x with
 | nil=>rw[e] at h;cases h
 | cons a l=>
  rw[e] at h;cases l with
  | nil=>rfl
  | cons b l=>simp at h
def MW (s a b:Str):Cp bħ [aĊ, aċ]=decide (s=a \/ s=b):=by
 change(hŎ || (hŏ || false))=_;have e: lđ:=λy=>by simp[qY];show eq_comm
 rw[Bool.or_false,eh,dE,c_,e,e]
def L_ {zs:Zs}{r:Rd}(hl:eĩ<=500)(h:jŅ=mŸ):mδ:=by
 have hb: ∀z∈r.2,dz (jŀ)= [z.1] /\ dz (jń)= [z.2]:=λz hz=>by
  have h1:=Ed hz;unfold bR at h1;rw[kX,kX] at h1;have e1:(jŀ).length<=500:=by change((dŤ:Str)).length<=500;omega
  have e2:(jń).length<=500:=by change((dť:Str)).length<=500;omega
  show#[Ce Ť,Ce Ť]
 symm;intro z hz;have hm:eĮ∈zs.map λz=>eĮ:=gΟ;rw[h] at hm;let⟨y,hy,e⟩:=aG.mp hm;let⟨b1,b2⟩:=hb y hy;rw[<- fļ.1, <- fļ.2,b1,b2];show bϱ;have e:bΦ=(jŅ).map λs=>kΡ:=by rw[ba];rfl
 rw[e,h,ba];have: ∀z∈r.2,((λs:Str×Str=>kΡ) ∘ λz:Ľ=>mā) z=id z:=λz hz=>by let⟨b1,b2⟩:=hb z hz;change((dz (jŀ)).headD 0,(dz (jń)).headD 0)=z;rw[b1,b2];rfl
 rw[d3 this,List.map_id]
universe WQ
namespace WL
open PySem L2
section
variable {K:jv}
def Hj:WM:=λx ys M q=>jD λa l i y=>GI Ĺ (ys= [wi i]) ϟ (0<=i) (i<Â) (cτ =õ) (lĒ)
instance:IM K Ii Hj where
 imp :=by rintro x v ys us M H q Q m r1 r2 ⟨a,l,i,y,rfl,rfl,hl,h0,h1,hy,h⟩ k;cases r1.eq;let⟨u,rfl,r⟩:=r2.one;cases r.eq;let⟨vs,hv,rr⟩:=ĺ;let⟨u,hu,ru⟩:=rr.at hy;have j9:=(bu.mp hu).1;exact#[a,vs,i,i.toNat,u,rfl,rfl,hv,by omega,by omega,?_,hu,k _ _ _ _ h aζ (m.putL hv ?_) (ru.ts aζ)];unfold seqIndex?;simp;omega;rw[List.eraseIdx_eq_take_drop_succ,List.eraseIdx_eq_take_drop_succ];show(rr.take _).append (rr.drop _)
theorem Hi {a:iB}{l:Æ}{i:Int}{y:W}{M:Mp}{q:WK}(hl:gò)(h0:0<=i)(h1:i<Â)(hy:cτ =õ)(h:lĒ):Hj aį [wi i] M q:=#[a,l,i,y,rfl,rfl,hl,h0,h1,hy,h]
universe e
universe WL
namespace WQ
open PySem L2 WL WP
def Ec {i:Int}(h0:0<=i)(h1:i<26):jC zm.cps.toList i=some (97+i.toNat):=by
 have h: ∀j:Nat,j<26 ->zm.cps.toList[j]? =some (97+j):=by decide+kernel
 show kW h0 (h i.toNat Ť)
def HB (c:Nat){n:Nat}(h:n=1 \/ n=2):(fN ŝ n).cps.toList=List.replicate n c:=by obtain rfl | rfl:=h;unfold fN;rfl;unfold fN;rfl
def CY (c:Nat):Prop:=fĽ
def Mz {c:Nat}(h:CY c):hϓ:=by
 unfold m9;rw[StrLaws.found_one];have: ∀j:Nat,j<26 ->(97+j)∈zm.cps.toList:=by decide+kernel
 have h2:=this (c - 97) (by unfold CY at h;omega);rw[show 97+(c - 97)=c by unfold CY at h;omega] at h2;simpa using h2
def FT {n:Str}(h: iν)(h1:cϓ)(h2:dŭ):Ŗ:=by unfold bG;rw[aÜ,aH h2,Bool.true_and,Bool.true_and,dJ];intro s hs;unfold oq at hs;let⟨c,hc,rfl⟩:=aG.mp hs;show Mz (h c hc)
def WW (cu:Nat)(Bg:Int)(n:Str)(k:Nat):Prop:=n.cps.toList[cu]? =some (kÔ)
def IP:iR:=λxs M q=>gh λ bù (m:Int)=>gX (xs= [wr d,wi m]) cä (0<=m) (m<=20) (∀ (u:iB) (ns:ê) (M':Mp),M' u=iİ ->(ns.length:Int)=m ->jϒ ->ns.Nodup ->u≠d ->u≠l ->ŕ ->cϪ)
def MB {ns:ê}{cu:Nat}{Bg:Int}(h20:ns.length<=20)(h: ∀ (j:Nat) (n:Str),e϶ ->WW cu Bg n j):ns.Nodup:=by rw[List.nodup_iff_pairwise_ne,List.pairwise_iff_getElem];intro i j hi hj hij e;have h1:=h i _ (aT hi);have h2:=h j _ (aÏ);unfold WW at h1 h2;rw[e,h2] at h1;have:=aÌ;omega
theorem Al (s:Str): ∀l:ê,Cp bħ dζ=decide (s∈l)
 | []=>by simp[Cp]
 | a ::l=>by
  have ih:=Al s l;unfold Cp at ih ⊢;rw[av,List.any_cons,ih];by_cases h:s=a;subst h;simp[qY];have:hŎ=false:=by simp[qY];show λe=>h e.symm
  rw[this];simp[h]
def Go {ss:ê}(h: kϜ): ∀c∈(lß).cps.toList,CY c:=by
 have e0:kī:=by decide+kernel
 cases ss with
 | nil=>intro c hc;rw[qU] at hc;cases hc
 | cons x ss=>
  intro c hc;rw[bY,aK] at hc;have one: ∀y∈x::ss,c∈y.cps.toList ->CY c:=λy hy hcy=>by let⟨d,rfl,hd⟩:=h y hy;rw[aZ.mp (show c∈ [d] from hcy)];show hd
  obtain hc | hc:=hc;show one x Ň hc;let⟨l,hl,hc⟩:=iÞ;let⟨y,hy,rfl⟩:=aG.mp hl;rw[e0,List.nil_append] at hc;show one y eā hc
def Ea {bo:Str}{cu Bg:Int}{w k:Nat}(hb: ∀c∈bo.cps.toList,CY c)(hl:bo.length<=10)(c0:0<=cu)(c1:cu<=bo.length)(hw:w<2): bG ný=true /\ WW cu.toNat Bg ný k:=by
 let⟨u,rfl⟩:=b0 c0;have e1:=wH bo u;have e2:=zC bo u;have e3:=HB (kÔ) (n:=1+w) Ť;have hlb:=bx bo;have e:(nĉ).cps.toList=bo.cps.toList.take u++List.replicate (1+w) (kÔ)++bo.cps.toList.drop u:=by rw[bD,bD,e1,e2,e3]
 have JZ:(nĉ).length=bo.length+(1+w):=by rw[<- bx,e];simp![aE,bz,List.length_replicate,dy];omega
 exact#[FT (cϖ) gĝ gĝ,?_];rw[e] at hc;obtain hc | hc:=bđ;obtain hc | hc:=bđ;show hb c iϮ;rw[(List.mem_replicate.mp hc).2];unfold CY;omega;show hb c (List.mem_of_mem_drop hc);unfold WW;rw[e,bn,bg (by rw[bz];omega),bz];rw[show((u:Int)).toNat - min u bo.cps.toList.length=0 by omega];rw[Nat.add_comm 1 w,List.replicate_succ];rfl
section
variable {B C d l b la lu lh now:iB}{M M':Mp}{p:Int}{pa un he:Í}{R:Rm}{T:Tm}{xs:eA (iB×ê)}
def gE {α:Type}{R:ż}{n:Str}{a:α}(h:n∉δ):bĐ=R++ [aÙ]:=by unfold fV;rw[aC];rw[Bool.not_eq_true,List.any_eq_false];intro z hz;show λe=>h (aG.mpr #[z,hz,bQ e])
universe e
universe WQ
namespace L2
open PySem PyProof.Rows PyProof.V PySem.Calls PySem.Spec
theorem n6:entryFor table fľ =some Builtin.«proto.unchain» :=entryFor_of_tree (by kernel_rfl)
section
variable {prog:pF}{w:World}{e:iB}{h0:Heap}{R:gř}{s:eY}
def tJ.at {o:iB}{n:Nat}(c:tJ h0 n o)(k: lω): ∃u vs v,s.heap.get? o=á /\ u.data= bϰ /\ eΟ /\ ((n=0 /\ v= .none) \/ ∃m b,n=m+1 /\ v= ö /\ tJ h0 m b):=by
 cases n with
 | zero=>let⟨u,vs,x,d,q⟩:=c;show#[u,vs,_,k _ _ x,d,q, .inl bϱ]
 | succ n=>let⟨u,vs,b,x,d,q,c'⟩:=c;show#[u,vs,_,k _ _ x,d,q, .inr #[n,b,rfl,rfl,c']]
def unchain (k: lω)(he:eϸ)(hR:R (.ok dη) s): ∀n m {o sl:iB} {tg:Bool} {A:Around},tJ h0 n o ->tJ h0 (n+m) sl ->codeAny Ι A (.builtin fľ #[[.ref e, .ref o, .ref sl, .bool tg],[]]) R s:=by
 intro n;induction n with
 | zero=>
  intro m o sl tg A c _;let⟨u,vs,v,hu,d,q,h⟩:=c.at k;have hv:v= .none:=by rcases h with⟨_,h⟩ | ⟨_,_,h,_⟩ <;>first | show h | show nomatch h
  subst hv;exact hϔ;unfold Builtin.«proto.unchain»;exact jú;rw[dś];show aV hR
 | succ n ih=>
  intro m o sl tg A c c';let⟨u,vs,v,hu,d,q,h⟩:=c.at k;let⟨b,rfl,cb⟩: ∃b,v= ö /\ tJ h0 n b:=by
   rcases h with⟨h,_⟩ | ⟨n',b,h,rfl,cb⟩
   show nomatch h
   cases h;show cϫ
  have Ng:aÄ:=λz=>by let⟨u',VW⟩:=cb.there;rw[z,he] at VW;cases VW
  exact hϔ;unfold Builtin.«proto.unchain»;exact jú;rw[dŢ,aC (by simp[Ng])];split;show aq (wpAny_rule (aV hR));change kϝ;split;let⟨u1,vs1,v1,lO,d1,q1,h1⟩:=c'.at k;let⟨b1,rfl,cb1⟩: ∃b,v1= ö /\ tJ h0 (n+m) b:=by
   rcases h1 with⟨h1,_⟩ | ⟨n',b,h1,rfl,cb⟩
   show absurd h1 Ť;have:n'=n+m:=by omega
   subst this;show cϫ
  show aq (wpAny_field lO d1 q1 (aV #[lî,ih m cb cb1]));show aq (aV (aV #[lî,ih (m+1) cb (by rw[show n+(m+1)=n+1+m by omega];show c')]))
universe e
section
variable {prog:pF}{w:World}{A:Around}{E:Ε}{env:Env}
variable {nm q:Str}{C N:iB}{bs bm:Ê}{hdct:Bool}{sn:ê}{sub:Ê}{ab:Bool}{col:gk Bool}{dd:Î}{k0 k1 k2 k3 k5:Ë}{newId:String}
def zM {α:Type}{ea e:iB}{s:eY}{h0:Heap}{n:Nat}{oe:Obj}{vs:Ġ}{Q:eū}(hh:iξ)(k: lω)(V':eϸ)(c:tJ h0 n ea) (he:s.heap.get? e=some oe) (hd:oe.data= bϰ) (hsz:2<vs.size) (h:E Ĳ {s with heap:=s.heap.update e (Obj.mapFields (fŸ 2 Ő))}):wpAny Ι A (raiseNew Ĳ:aï) Q E s:=by
 have kN:ea≠e:=λz=>by let⟨u',VW⟩:=c.there;rw[z,V'] at VW;cases VW
 unfold raiseNew;exact aq (wpAny_handled ?_);rw[hh];change kϝ;rw[aF (by simp[kN])];exact aq (cc (wpAny_runValue (unchain k V' ?_ n 0 c c)));exact aÆ;unfold updateField;exact aq (wpAny_load he ?_);rw[hd];change kϝ;rw[aF hsz];show wpAny_update he (wpAny_throw h)
def uk {ea:iB}{s:eY}{x cz:aî}{Q:Flow ->ň}(mG:lē)(hh:iξ)(hcz: ∀ (Q:Ε) E s,Q .none s ->wpAny Ι A cz Q E s) (h:wpAny Ι A x (λv s₁=> ∃e t h0 n,v= .ref e /\ s₁.heap.get? C=mΜ /\s₁.heap.get? e=some {cls:= ó,data:= .fields (List.toArray [aă, .none, .none, .none, .bool false, .none])} /\ (∀b u,bź=á ->fŽ=á) /\ eϸ /\ tJ h0 n ea /\∀h2,(∀b,aÄ ->bΨ=fŽ) ->nā ->E Ĳ {s₁ with heap:=h2}) E s): wpAny Ι A (raiseStmt env bÝ (some cz)) Q E s:=by
 have hcB:(cŷ::bm).contains ię=true:=by rw[List.contains_cons,mG,Bool.or_true]
 unfold raiseStmt;exact aq (bf h (λv s₁ h₁=> ?_) bϨ);let⟨e,t,h0,n,rfl,hC,he,k,V',c,hE⟩:=h₁;let⟨hp,g,d,tk,os⟩:=s₁;exact aq (cc (hcz _ _ _ (aq aŽ)));change wpAny _ _ (holding _ _ >>=_) _ _ _;repeat (first | with_reducible exact wpAny_loadPart_at he ?_ | with_reducible exact wpAny_loadPart_at hC ?_ | (with_reducible exact wpAny_isSubtype_exc hC ?_;rw[hcB]) | wp_step)
 have hCe:C≠e:=λz=>by subst z;rw[hC] at he;cases he
 have ot: ∀b,aÄ ->nĨ b=hp.get? b:=λb hb=>iÄ (ež);have he2:nĨ e=some {cls:= ó,data:= .fields (List.toArray [aă, .none, .none, .none, cÂ, .none])}:=df _ (df _ he rfl) rfl;exact wpAny_loadPart_at ((ot C hCe).trans hC) aŽ;rw[aF ļ];exact aV (aÆ);unfold setFlight;exact aq (wpAny_field he2 rfl (x:= .none) rfl ?_);rw[dŢ];exact aV (zM hh (λb u hb=>(ot b (λz=>by rw[z,V'] at hb;cases hb)).trans (k b u hb)) V' c he2 rfl (by change 2<6;decide) (hE _ (λb hb=>iÄ (ot b hb)) (df _ he2 rfl)))
universe e
section
variable {prog:pF}{w:World}{A:Around}{E:Ε}{s:eY}{env:Env}
variable {nm q:Str}{C N:iB}{bs bm bmB bmN:Ê}{hdct:Bool}{sn:ê}{sub:Ê}{ab:Bool}{col:gk Bool}{dd:Î}{k0 k1 k2 k3 k5:Ë}{B Bn newId nid Rt Ev:String}
def CS {ea:iB}{n:Nat}(Fn:ExcBaseFacts Bn newId Ev bmN)(hBn:bmB.contains (.type Bn)=true)(F:ExcBaseFacts B nid Rt bmB){mN:Ũ}{x tx:Str}{np dM pos p₁ p₂:Pos}{k₁ k₂:Nat}{Q:Flow ->ň} (mG:lē) (hh:iξ) (G7:mN bϴ =none) (hc:tJ s.heap n ea) (hC:s.heap.get? C=mΜ) (hN:s.heap.Ns N mN) (T:OwnTail s.heap bmB bm) (h:wpAny Ι A (eval dń env) (λf s₁=>f= ó /\ s₁=s) E s) (hE: ∀h' e v h2 tk,Heap.MadeExcOf s.heap h' e ī [v] ->(∀b,aÄ ->bΨ=bŎ) ->(∃t,nā) ->E Ĳ {s with heap:=h2,toks:=tk}): wpAny Ι A (exec (.Raise (some (.Call dń [jϓ] [] dM)) kδ pos) env) Q E s:=by rw[arm_exec_Raise];exact aq (wpAny_standAt (uk (C:=C) (nm:=nm) (q:=q) (N:=N) (bs:=bs) (bm:=bm) (hdct:=hdct) (sn:=sn) (sub:=sub) (ab:=ab) (col:=col) (dd:=dd) (k0:=k0) (k1:=k1) (k2:=k2) (k3:=k3) (k5:=k5) (newId:=newId) mG hh (λQ E s hq=>aq (Constant_none (aq (wpAny_standAt (aV hq))))) (aq (bf (wpAny_Call_ofName (bf h (λf s₁ h₁=> ?_) bϨ)) (λv s₃ h₃=>aq (wpAny_standAt (aV h₃))) bϨ))));let⟨rfl,rfl⟩:=h₁;unfold callWith;exact aq (cc (bf (Q:=λa s₂=> ∃v tk,a=bΑ /\ s₂= {s₁ with toks:=tk}) ?_ (λa s₂ h₂=>hύ) bϨ));exact Calls.evalArgs_plain (Calls.spliced_cons ?_);change wpAny _ _ (eval (jϓ) env) _ _ _;show Calls.Constant_str (Calls.spliced_nil eϹ);let⟨v,tk,rfl,rfl⟩:=h₂;let⟨hp,g,d,tk0,os⟩:=s₁;simp![show(backTo dM (starEach [Expr.Constant (.str tx) k₁ p₁] env)).any ç=false from rfl];exact aq (wpAny_keeperOf_exc hC ?_);exact aq (wpAny_call_exc_subU (hrest:=by change cω;decide) Fn hBn F T hC hN G7 λh' e hm=>aq (cc (wpAny_point aŽ)));let⟨t,ht,_,_⟩:=hm.there;show#[e,t,hp,n,rfl,hm.keeps _ _ hC,ht,hm.keeps,hm.new,hc,λh2 k2 e2=>hE h' e v h2 tk hm k2 #[t,e2]]
universe e
def NO (X:Cx)(E:XK):Prop:= ∀ (ag:Ÿ) (σ:St) (H:Hp) (s:eY) (ev:iB) (cls a0:eC) (h':Heap) (tk:Nat),Ω ->Heap.HeldW (jΤ) X.stack ev cls a0 X.env.locals h' ->hÇ ->s.heap.get? ev=none ->(∃n,tJ h' n ev) ->dŁ ->X.xe (.ref ev) jÏ
def Mq {P:pF}{w:World}{K:jv}{mg:Ũ}{base:Heap}{N:ê}{qual:Str}{scope:Scope}{f:iB}{cd:eC}{A:Around}{outer:è}{s:eY}{H:Hp}{E:XK}:NO (Ϻ) E:=by
 intro ag σ H3 s3 ev cls a0 h' tk I held up hn ⟨n,hc⟩ hE;have hB:lN P w H3 (mϻ):=nĺ;have nV:H3 ev=none:=by
  cases q:H3 ev with
  | none=>rfl
  | some o=>let⟨u,hu⟩:=(I.c9 ev o q).ex;rw[hn] at hu;cases hu
 have hex:mŗ:=rfl;have Jh: ∀b:iB,b∉(Ϻ).ex:=λb z=>by rw[hex] at z;show gŢ
 have kb: ∀b o,Ϥ ->ğ ->dľ ->nå=ä:=mĹ;have kt: ∀b o,Ϥ ->dľ -> ∃o',nå=aŦ:=λb o e hb=>by let⟨o1,e1⟩:=iϖ;show iϗ
 change wpAny _ _ (leaving _ (.ref ev)) _ _ _;unfold leaving;exact aq (wpAny_noteFrame_againW rfl held.2.2.2 (Cj held gΛ));have u0:Un (Į) [] H H3 s.heap s3.heap:=by have:=I.base;rw[hex] at this;show this
 show#[ev,cls,a0,_,H3,rfl,I.os,I.bare,kϚ,hB,nV,oY I.mH I.ok.G_ u0 Ka.1 (up.trans Zt) kb kt,kb,kt,#[n,hc.kp _k],hE]
def v9 {M:Model}{A:Around}{E:Ε}{s:eY}{B:Heap}{l:è}{ea L:iB}{cls a0:eC}{ce:Env}(hf:fİ)(hh:kŞ) (k: nĸ):cameBackBy M A ce E Ő s:=by
 let⟨st,hn,fr,oe,vs,T,oT,ts,he,hc,hd,h1,O6,R6,hT,J5,h3⟩:=hh;have Wl:=kϘ;have ot: nħ:=iã;have nr: mř:=λb o hb z q=>by rw[q,hT] at hb;cases hb;show z ts J5
 unfold cameBackBy setFlight;rw[hf];exact jθ;rw[dŢ];exact jθ;rw[dś];exact wpAny_setField hT J5 Wl nľ;rotate_left;intro b o vs v e d q;by_cases hb:b=T;subst hb;exact mû;rw[kΝ];show q;show jϏ;show nĈ
section
variable {X:Cx}{ag:Ÿ}{σ:St}{s':eY}
def AU {E0 E2:XK}{ev:eC}{H1:Hp}{s1:eY}{D:kZ}{x z tx:Str}{np zp dM mD Qu p₁ p₂:Pos}{k₁ k₂:Nat}{D' Cz:iB}(j8:hϮ)(lw:jΘ) (I:gÔ) (fl:kϖ) (hO:NO X E2) (hg:ì) (O:cϜ) (hgz:Gl X z) (Oz:cϬ) (k: ∀cls d H',cΩ -> ∃C,cΝ /\ kĀ=Ŏ /\ nò) (ni:ϰ:=by decide) (hdz:jϔ:=by decide): wpAny ϗ X.A hĺ (λ_ s₂=>wpAny ϗ X.A hÜ (λ_ s₃=>wpAny ϗ X.A (handleBy ev X.env nĵ) cĨ X.xe s₃) X.xe s₂) X.xe s':=by
 let⟨ea,cls,a0,B,H2,rfl,os,bare,fl,c9,nV,un,kb,kt,cŴ,hE⟩:=fl;let⟨C,rfl,hk,kk⟩:=cî;exact w5 iĖ lw (j8▸fl) λh₄ Aq LQ kp₄=> ?_;exact Cj Aq λh₅ CC LO kp₅=> ?_;rw[<- j8] at CC;let⟨I5,XJ⟩:=mĲ;let⟨ob,O5,Ao⟩:=CC.there;have O':=iÕ;exact nÅ;have matched: ∀ {A:Around} {Q:Bool ->ň} {E:Ε},Q true hĻ ->mϫ:=λ{A Q E} hq=>by by_cases Pe:C=D';subst Pe;let⟨bm,N,nm,qn,bs,hdct,sn,sub,ab,col,dd,k0,k1,k2,k3,k5,mN,hC,hN',G7,TL⟩:=hļ;show mű;show mÚ hq
 exact matched (iϡ);exact yF CC λh₆ Sd P' kp₆=> ?_;let⟨I6,ts⟩:=mξ;have RU:tJ h₆ nc ea:=hc.kp ((kp₄.trans kp₅).trans kp₆);have Oz':=kI I.ok.mod Oz.ns Oz.exc;let⟨tl,N,nm,q,bs,hdct,sn,sub,ab,col,dd,k0,k1,k2,k3,k5,mN,hC,hN,G7,T⟩:=(Oz'.keeps I6.bk).obj;exact wpAny_execs_cons (CS (C:=Cz) (nm:=nm) (q:=q) (N:=N) (bs:=bs) (bm:=tl) (hdct:=hdct) (sn:=sn) (sub:=sub) (ab:=ab) (col:=col) (dd:=dd) (k0:=k0) (k1:=k1) (k2:=k2) (k3:=k3) (k5:=k5) (ea:=ea) (n:=nc) dZ (bmB:=Tn) ϙ dZ (mN:=mN) iË rfl G7 RU hC hN T (pE I6 hgz Oz'.bound bϱ hdz) λh' e v h2 tk mk k2 JY=> ?_);let⟨t,JY⟩:=JY;have RS:h₆.get? e=none:=mk.new;have k6: ∀b o,h₆.get? b=ä ->bΨ=ä:=λb o hb=>(k2 b λz=>by rw[z,RS] at hb;cases hb).trans (mk.keeps b o hb);have Yq:kϞ=none:=by
  cases z:kϞ with
  | none=>rfl
  | some u=>have:=W.of_hideAll _ z;rw[RS] at this;cases this
 have Ct: mø:=lϭ;have ff6:h₆.FunFrames (jň) X.stack:=W.funFrames_hide I6.stack Ct;have ff2:h2.FunFrames (jň) (eţ):=by rw[<- j8];show ff6.of_keeps λb o hb _=>#[o,k6 b o hb,rfl]
 change wpAny _ _ jû _ _ _;have note:wpAny ϗ jĲ jû (λ_ s9=> ∃h8,s9= {s' with heap:=h8,toks:=tk} /\ Heap.NotedW (jň) (eţ) e (aΟ) bÆ (rawInt X.env.locals) h2 h8) Ν {s' with heap:=h2,toks:=tk}:=by unfold noteFrame;simp![lw];exact aq (wpAny_field JY rfl (x:= .none) rfl ?_);rw[dŢ];show wpAny_entryW (base:=jň) (oe:= {cls:= aΟ,data:= mΑ}) (a0:= aă) (by change X.A.frames=_;rw[I.ok.frames,j8]) ff2 lw JY (λb o hb=>k6 b o (W.of_hideAll _ hb)) Yq rfl (by change 1<6;decide) rfl λh8 nt=>#[h8,rfl,nt]
 exact bf (gw yR note) ?_ fĨ;rintro _ _ ⟨⟨h8,rfl,st8,ff8,tr8,up8⟩,kp8⟩;have aeE:h8.FunFrames (jň) X.stack:=by generalize jň=B8 at ff8 ⊢;rw[j8];show ff8
 exact v9 (B:=jň) (l:=X.stack) (L:=X.env.locals) (cls:= aΟ) (a0:= aă) lw #[st8,Yq,aeE,tr8] λh9 V8 k9 kp9=> ?_;have ch2:tJ h2 (nc+1) e:=#[_,_,ea,JY,rfl,rfl,RU.kp (vx.of k6)]
 show hO ag σ _ {s' with heap:=h₆} e (aΟ) bÆ h9 tk I6 V8 (λb o hb hn=>by let⟨sl,e8⟩:=up8 b o (k6 b o hb) hn;show#[sl,k9 b _ e8 hn]) RS #[_,ch2.kp (kp8.trans kp9)] (kk ea nV ts)
universe e
section
variable {X:Cx}
def Oj (K:jv)(tb:NK)(D' Cz:iB)(E2:XK):TS:=λD σ H=>tb D (λ_ H1 cls _ H'=> ∃C,dh (cΝ) (lõ) (nò)) σ H
def BR {E2:XK}{st:Stmt}{x z tx:Str}{np zp dM mD Qu p₁ p₂ pos:Pos}{k₁ k₂:Nat}{tb:NK}{D' Cz:iB}(hO:NO X E2)(j8:hϮ)(lw:jΘ)(hb:cϝ)(hg:ì)(O:cϜ)(hgz:Gl X z)(Oz:cϬ) (ni:ϰ:=by decide) (hdz:jϔ:=by decide): PS X (.Try [st] nĵ [] [] pos) (Oj X.K tb D' Cz E2):=by
 intro ag s σ H D I h;exact wpAny_Try_except (wpAny_execs_cons (bf ià (dϦ) λev s1 hϊ=>AU j8 lw I1 fl hO hg O hgz Oz (λcls d H' ⟨C,a,b,c⟩=>#[C,a,b,c]) ni hdz));cases f with
 | next=>show kΜ
 | brk=>show q
 | cont=>show q
 | ret u=>show q
universe e
section
variable {X:Cx}{k:Nat}{f C:iB}{fd:FuncData}{ps:ê}{sp:Sp}{E:XK}{x qual:Str}{st:Stmt}{p pos:Pos}{e:Expr}{es:Đ}{t:TA}
theorem FJ (hP:iÙ)(M:kþ)(F:mĊ)(hr:dĞ)(hg:ì) (ha:Μ) (ni:ϰ:=by decide) (he:ϻ:=by rfl) (nh:Ϲ:=by rfl): PE X kŭ (zx C sp [] E t):=DT M.mkr F hr hg M.at_ M.bd .nil hP ha ni he nh
universe e
universe L2
namespace WL
open PySem L2
section
variable {K:jv}
def NX (K:jv)(b:Ps)(D' Cz:iB)(e:WX):WS:=λD ρ M=>nû
instance {tb:NK}{b:Ps}{D' Cz:iB}{e:WX} [ib:IRS K tb b]:IS K (Oj K tb D' Cz Ŀ) (NX K b D' Cz e) where
 imp:=λρ M σ H D'' D o h p8=>ib.imp ρ M σ H D'' D _ _ o h p8 λC ρ' M' σ' H1 H' ⟨hk,h⟩ t1 en m=>#[C,rfl,hk,λea nV Zw=>#[Cz,gĎ,rfl,gď,jĹ]]
theorem LI {b:Ps}{D' Cz:iB}{e:WX}{D:fA}{ρ:dt}{M:Mp}:NX K b D' Cz e D ρ M=nû:=rfl
def Hm (C:iB)(p:fZ)(e:WX)(a:WA):WE:=λρ M q=>a ρ M λxs M1=> ∀x dx,bω ->cì ->aý ->p (bă) (iÚ) (jı) e
instance {C:iB}{p:fZ}{e:WX}{t:TA}{a:WA} [ia:ĸ]:IE K (zx C bü [] Ŀ t) (Hm C p e a) where
 imp:=λρ M σ H q Q o h k=>ia.imp ρ M σ H _ _ o h λxs M1 vs H1 h1 t1 m1 r1=>λx dx hx Gj kN=>by
  have JU:iϠ:=by rw[bH aτ];show hx
  have Up:a_ H1 hĜ:=fΡ;have LR:a_ hĜ lņ:=fΤ;exact#[bă,iÚ,jı,e,lϟ,kś,lÖ,?_,λC M' H' h m=>#[C,M',rfl,h,m]];rintro y M' u H' ⟨rfl,hq⟩ ts m' r';show mŒ
theorem Hl {C:iB}{p:fZ}{e:WX}{a:WA}{ρ:dt}{M:Mp}{q:WK}:Hm C p e a ρ M q=a ρ M λxs M1=> ∀x dx,bω ->cì ->aý ->AV p (bă) (iÚ) (jı) e:=rfl
open PyProof.Rows PyProof.V PySem.Calls PySem.Spec in
def ZS {P:pF}{w:World}{mg:Ũ}{base:Heap}{x qual:Str}{st:Stmt}{f:iB}{fd:FuncData}{N ps:ê}{k:Nat}{p:fZ}(F:hÁ)(S:fČ)(len: lŤ) (iF: ∀ (cdv:eC) (A:Around) (outer:è) (s:eY) (H:Hp) (E:XK) (e:WX),mĠ ->mΕ ->mϢ ->NO mĺ Ŀ ->nō): lύ:=by
 exact nċ;let⟨xs,M,q,e,r,m,h,k',kE⟩:=h;have hE: kϳ:=λc d H' hÔ=>by rw[ec];show fΘ
 have fm: mŬ:=λ{o H s ev s'} z=>by let⟨ea,cls,a0,B,H',r1,r2,r3,r4,r5,r6,r7,r8,r9,nc,r⟩:=z;show mĉ
 let⟨t,h1,w',h2,h3⟩:=iF cdv A outer s H E e hr mϞ mü (λag σ H3 s3 ev cls a0 h' tk I held up hn hc hE'=>Mq ag σ H3 s3 ev cls a0 h' tk I held up hn hc (hE _ _ _ hE'));exact nĂ;have:=r.length;simp[L2.start,this];have hl:=r.length;unfold L2.start;by_cases hi:cő;rw[bÅ,aD] at e;cases ex:aæ with
 | none=>rw[ex] at e;cases e
 | some y=>rw[ex] at e;cases e;let⟨v,hv,rv⟩:=aε;exact cÙ;rw[fς,aD,hv];rfl
 rw[bÄ,de] at e;split at e<;>cases e;rintro ρ' M' σ' H' ⟨M0,s,hq⟩ ts o;show kϒ;rintro x M' v H' ⟨M0,s,hq⟩ ts m' r';show kĪ
universe e
universe WL
namespace WQ
open PySem L2 WL WP PySem.W.KIN PySem.NumText PyProof.Rows Builtin.Str
open Classical in
noncomputable def ox (p:Int) (x:Str):gk Rd:=if h: ∃r:Rd,bĠ /\ aň then some h.choose else none
def hJ {p:Int}{x:Str}{r:Rd}(h:aŌ=aō):bĠ /\ aň:=by unfold ox at h;split at h;rename_i hx;cases h;show hx.choose_spec;cases h
def FF {p:Int}{x:Str}(h:aŌ=none): jŉ:=by unfold ox at h;split at h;cases h;rename_i hx;show λr g e=>hx #[r,g,e]
def sZ {p:Int}{x:Str}{r:Rd}(hl:eϺ)(g:bĠ)(e:aň):aŌ=aō:=by
 cases h:aŌ with
 | none=>show absurd e (FF h r g)
 | some r'=>rw[Qo hϕ (e.symm.trans bĨ)]
def EH (R:Rm)(c:Str):Tm ->ê ->gk Tm
 | T,[]=>some T
 | T,Ø=>match ft R T eį with
  | .ok T'=>EH R c T' ms
  | .bad _=>none
noncomputable def g_ (p:Int) (s:ań) (row:Str):cϭ:=match gĞ with
 | w ::Ù=>
  if w= "round" then(if Ŗ then(match hî with
  | aō=>if gF s.2 n r=true then none else hϖ
  | none=>none) else none)
  else if w= Ă then(match ft s.1 s.2 cþ with
  | .ok T=>(EH s.1 n T ms).map λT'=>(s.1,T')
  | .bad _=>none)
  else none
 | _=>none
def Bd (R:Rm)(T:Tm)(ms:ê):Prop:=dh (dθ) ms.Nodup (∀m∈ms, k϶)
open Classical in
noncomputable def jd (p:Int) (s:ań) (row:Str):cϭ:=match gĞ with
 | w ::Ù=>
  if w= "round" then(if Ŗ then(match hî with
  | aō=>if gğ \/ n∈s.1.map ç \/ s.2≠ [] then none else hϖ
  | none=>none) else none)
  else if w= Ă then(if Ŗ /\ n∉s.2.map ç /\ Bd s.1 s.2 ms then some (s.1,fV s.2 n ms) else none)
  else none
 | _=>none
def dI (f:jü):ań ->ê ->cϭ
 | s,[]=>some s
 | s,r::rs=>dι λs'=>dI f s' rs
theorem nk {f:jü}: ∀ {l l':ê} {s:ań},dI f s aη=(dI f s l).bind λs'=>dI f s' l'
 | [],l',s=>rfl
 | r::l,l',s=>by
  change dι _=(dι _).bind _;cases f s r with
  | none=>rfl
  | some s'=>show nk
structure lP (p:Int)(R:Rm)(T:Tm):Prop where
 rn:hł
 rk: ∀z∈R,cϮ
 rg: ∀z∈R,iJ p aÂ /\ hŃ
 tn:hņ
 tk: ∀z∈T,cϮ
 tm: ∀z∈T,dh (cø<=6) z.2.Nodup (∀m∈z.2, k϶)
theorem uX {p:Int}:lP p [] []:=#[List.nodup_nil,hϗ,hϗ,List.nodup_nil,hϗ,hϗ]
def J6 {α:Type}{l:ż}{n m:Str}{a:α}:dj (bĊ) m=if m=n then ë else dj l m:=by
 unfold fV;split;rename_i h;unfold dj;rw[List.find?_map];have e:((λz:aŹ=>eϻ) ∘ λz=>jĵ)=λz=>eϻ:=by funext z;change decide ((jĵ).1=m)=_;split<;>rfl
 rw[e];cases f:jŊ with
 | none=>rw[List.find?_eq_none] at f;rw[List.any_eq_true] at h;let⟨z,hz,hn⟩:=h;split;rename_i e';subst e';show absurd hn (f z hz);rfl
 | some z=>have hz:z.1=m:= iç;by_cases hm:m=n;rw[aF hm];simp[hz,hm];rw[aC hm];simp[hz,hm]
 rename_i h;rw[Bool.not_eq_true,List.any_eq_false] at h;unfold dj;rw[List.find?_append];cases f:jŊ with
 | none=>by_cases hm:m=n;subst hm;simp;rw[aC hm];simp[cE hm]
 | some z=>have hz:z.1=m:= iç;rw[aC λe=>h z (List.mem_of_find?_eq_some f) (by simp[hz,e])];rfl
theorem tw {n:Str}{l:ê}:aļ=decide (n∈l):=Al n l
def lP.put {p:Int}{R:Rm}{T:Tm}{n:Str}{r:Rd}(h:ł)(hn:Ŗ)(hg:bĠ)(hb:gF T n r=false):lP p (bĩ) T:=by
 unfold gF at hb;rw[Bool.or_eq_false_iff] at hb;exact#[BQ h.rn,ů,ů,h.tn,h.tk,ů];obtain h1 | rfl:=mY hz;show h.rk z h1;show hn;obtain h1 | rfl:=mY hz;show h.rg z h1;show#[hg,hb.1];let⟨h1,h2,h3⟩:=bΩ;exact#[h1,h2,cĢ];rw[J6];split;rename_i e;exact#[r,rfl,?_];have hu:Bw T n=true:=by unfold Bw;rw[List.any_eq_true];show#[z,hz,by rw[tw, <- e];show aH hm]
 rw[hu,Bool.true_and] at hb;show hb.2;show h3 m hm
def lP.Io {p:Int}{R:Rm}{T:Tm}{c:Str}{l:ê}(h:ł)(hc:bϊ)(hl:bĪ):lP p R (fV T c l):=by exact#[h.rn,h.rk,h.rg,BQ h.tn,ů,ů];obtain h1 | rfl:=mY hz;show h.tk z h1;show hc;obtain h1 | rfl:=mY hz;show h.tm z h1;show hl
def uo {α:Type}{l:ż}{n:Str}{a b:α}(h:n∉ž):fV (cϑ) n b=l++ [(n,b)]:=by unfold fV;rw[dś];rw[aX];congr 1;exact(d3 ů).trans (List.map_id l);rw[aC λe=>h (aG.mpr #[z,hz,e])];rfl;simp
def uW {α:Type}{l:ż}{n:Str}{a:α}(h:n∉ž):dj (cϑ) n=ë:=by rw[<- gE h,J6,å]
theorem yS {R:Rm}{T:Tm}:Bd R T []:=#[by simp,List.nodup_nil,hϗ]
theorem yP {R:Rm}{c:Str}{T:Tm}(hc:fϙ): ∀ {ms l:ê} {T':Tm},bĪ ->iı=some T' ->fÀ /\ T'=fĿ
 | [],l,T',hl,h=>by rw[cA];show#[hl,cΥ]
 | m ::ms,l,T',⟨h1,h2,h3⟩,h=>by
  unfold EH at h;unfold ft at h;simp![uW hc] at h;cases hg:aŎ with
  | none=>rw[hg] at h;cases h
  | some a=>
   rw[hg] at h;simp only at h;by_cases h4:Ev m l=true;rw[aF h4] at h;cases h;rw[aC h4] at h;by_cases h5:cϙ;rw[aF h5] at h;cases h;rw[aC h5] at h;by_cases h6:bΚ=true;rw[aF h6] at h;cases h;rw[aC h6,uo hc] at h;simp only at h;have:=yP hc (l:=aΡ) #[by simp;omega,by
    rw[List.nodup_append];show#[h2,by simp,λx hx y hy e=>h4 (by rw[tw];simp at hy;subst hy;subst e;show aH hx)],λm' qx=>by
    obtain z | z:=bī;show h3 m' z;rw[aZ.mp z];show#[a,hg, ⇑h6]] h
   rw[bn] at this;show this
theorem yO {R:Rm}{c:Str}{T:Tm}(hc:fϙ): ∀ {ms l:ê},fÀ ->iı=some (fĿ)
 | [],l,hl=>by rw[cA];rfl
 | Ø,l,h=>by
  have e:iè:=by simp
  let⟨h1,h2,h3⟩:=h;let⟨a,hg,hf⟩:=h3 m Ň;unfold EH ft;simp![uW hc,hg];rw[mϵ,iο,hϘ,uo hc];simp only;rw[yO hc (l:=aΡ) jϕ,e]
theorem iP {T:Tm}{c:Str}(h:ał=none):fϙ:=λz=>by let⟨y,hy,e⟩:=aG.mp z;let⟨a,ha⟩:=nj hy;rw[e,h] at ha;cases ha
def CA {α:Type}{T:ż}{c:Str}(h:fϙ):ał=none:=by
 cases e:ał with
 | none=>rfl
 | some a=>let⟨z,hz,e1,_⟩:=fg e;show absurd (aG.mpr #[z,hz,e1]) h
def yb {p:Int}{R R':Rm}{T T':Tm}{row:Str}(h:ł)(hr:jŋ):cÿ:=by unfold g_ at hr;split at hr;rename_i w n ms _;split at hr;split at hr;rename_i hn;split at hr;rename_i r Yd;simp only at hr;split at hr;cases hr;rename_i hb;cases hr;show h.put hn (hJ Yd).1 Ñ;cases hr;cases hr;split at hr;split at hr;rename_i T1 ho;unfold ft at ho;simp only at ho;split at ho;cases ho;rename_i hn;split at ho;cases ho;rename_i hg;cases ho;rw[Option.map_eq_some_iff] at hr;let⟨T2,he,e2⟩:=hr;cases e2;rw[cĀ] at he;let⟨h1,h2⟩:=yP (iP hg) yS he;rw[h2, <- cĀ];show h.Io ⇑hn h1;cases hr;cases hr;cases hr
def DG {p:Int}{R R':Rm}{T T':Tm}{row:Str}(h:ł)(hr:jŌ):cÿ:=by unfold jd at hr;split at hr;rename_i w n ms _;split at hr;split at hr;rename_i hn;split at hr;rename_i r Yd;simp only at hr;split at hr;cases hr;rename_i hb;cases hr;simp![not_or] at hb;exact h.put hn (hJ Yd).1 ?_;unfold gF;have:T= []:= ⇑hb.2.2;subst this;rw[Bool.or_eq_false_iff];show#[⇑hb.1,by simp[Bw]];cases hr;cases hr;split at hr;split at hr;rename_i hc;cases hr;show h.Io hc.1 aú;cases hr;cases hr;cases hr
theorem tD {p:Int}{f:jü}(hf: ∀ {R R' T T' row},ł ->f Ú row=dμ ->cÿ): ∀ {rows:ê} {R R' T T'},ł ->dI f Ú rows=dμ ->cÿ
 | [],R,R',T,T',h,e=>by cases e;show h
 | bĬ,R,R',T,T',h,e=>by
  unfold dI at e;cases h1:f Ú r with
  | none=>rw[h1] at e;cases e
  | some s=>rw[h1] at e;show tD hf (hf h (R':=s.1) (T':=s.2) h1) e
def Ri {c:Nat}(h:hϓ):CY c:=by
 unfold m9 at h;rw[StrLaws.found_one] at h;have: ∀j∈zm.cps.toList,97<=j /\ j<=122:=by decide+kernel
 show this c ⇑h
def hW {n:Str}(h:Ŗ):dh (cϓ) (dŭ) (iν):=by unfold bG at h;rw[cx,cx,dJ] at h;show#[bQ h.1.1,bQ h.1.2,λc hc=>Ri (h.2 _ (gΦ))]
theorem jy {n:Str}(h:Ŗ)(c:Nat)(hc:¬(fĽ)):c∉n.cps.toList:=λz=>by let⟨_,_,h3⟩:=hW h;show hc (h3 c z)
def jt {l:ê}(hn:aς)(c:Nat)(sep:Str)(hs:sep=ŝ)(h: iϯ):Txt.split (cϯ) sep=l:=by subst hs;exact pN (c:=c) bġ hn (StrLaws.split_free _ c) h ?_;rw[bW, <- cf]
theorem me {n:Int}{c:Nat}(h:c<45 \/ 57<c):c∉lÜ:=λz=>by have:=f' z;omega
def F5 (z:Ľ){c:Nat}(h:c<45):c∉gĘ:=by unfold bR;rw[bD,bD,gK];intro w;obtain w | w:=aΞ;obtain w | w:=aΞ;show me aϯ w;simp at w;omega;show me aϯ w
theorem tN (a:Rd){c:Nat}(h:c<45): ∀q∈(lÕ),fϚ:=λq hq=>by obtain rfl | hq:=Ł;rw[bD,h_];intro z;obtain z | z:=aΝ;show me aϯ z;simp at z;omega;let⟨z,_,rfl⟩:=bĢ;show F5 z h
def uf {R:Rm}{n:Str}{a:Rd}(hg:τ):aņ=glued ϛ (mŏ):=by
 unfold di;rw[hg];exact mX ?_;change((lϰ:Str).cps.toList)=_;rw[bY,eE,bD,bD,bD,bY];have e1:(hΩ).cps.toList=(Ϧ).cps.toList++jό:=by decide+kernel
 rw[e1];simp![av,db,bn]
def tW {R:Rm}{n:Str}{a:Rd}(hg:τ)(hn:Ŗ):Txt.split bĕ ϛ=mŏ:=by rw[uf hg];exact kĳ;obtain rfl | hq:=Ł;decide+kernel;obtain rfl | hq:=Ł;show jy hn 32 ⋯;show hŐ
def tX {T:Tm}{c:Str}{l:ê}(hg:υ)(hc:bϊ)(hl: gΧ):Txt.split bĖ ϛ=ϡ ::c::l:=by unfold eO;rw[hg];exact kĳ;obtain rfl | hq:=Ł;decide+kernel;obtain rfl | hq:=Ł;show jy hc 32 ⋯;show jy (hl q hq) 32 ⋯
def wJ {R:Rm}{n:Str}{a:Rd}(hg:τ):eĖ<=fĭ:=by unfold di;rw[hg];change _<=(lϰ:Str).length;rw[kX];omega
def Qv {p:Int}{R R0:Rm}{n:Str}{a:Rd}(hg:τ)(hn:Ŗ)(ha:kÕ)(hk:gĠ)(hl:hϙ):g_ p aΤ bĕ=ié:=by unfold g_;have h:=tW hg hn;rw[kϷ];simp only;rw[cā,aF hn,næ,jō];simp only;rw[aC (by unfold gF Bw;rw[ha.2];simp),gE hk]
def Qx {p:Int}{R R0:Rm}{n:Str}{a:Rd}(hg:τ)(hn:Ŗ)(ha:kÕ)(hk:gĠ)(hl:hϙ):jd p aΤ bĕ=ié:=by unfold jd;have h:=tW hg hn;rw[kϷ];simp only;rw[cā,aF hn,næ,jō];simp only;rw[aC (by rw[ha.2];simp[hk] at*),gE hk]
def Qw {p:Int}{R:Rm}{T T0:Tm}{c:Str}{l:ê}(hg:υ)(hc:bϊ)(hm: gΧ)(hl:bϋ)(hk:gĢ):g_ p aŏ bĖ=hϚ:=by unfold g_;have h:=cϰ;rw[kϸ];simp only;rw[aC ϙ,cā];unfold ft;simp only;rw[aC (by rw[hc];decide),CA hk];simp only;rw[gE hk,yO hk (l:= []) aÐ];rfl
def Qy {p:Int}{R:Rm}{T T0:Tm}{c:Str}{l:ê}(hg:υ)(hc:bϊ)(hm: gΧ)(hl:bϋ)(hk:gĢ):jd p aŏ bĖ=hϚ:=by unfold jd;have h:=cϰ;rw[kϸ];simp only;rw[aC ϙ,cā,aF #[hc,hk,hl],gE hk]
def yY {α:Type}(R:ż)(ns:ê):ż:=ns.filterMap λn=>(aĿ).map λa=>aÙ
def vv {α:Type}{R:ż}{n:Str}{ns:ê}{a:α}(h:τ):yY R (n::ns)=aÙ::aΥ:=by unfold yY;rw[c7,h];rfl
section
variable {p:Int}{f:jü}
theorem J9 {R:Rm}(hR: ∀ {R0:Rm} {n:Str} {a:Rd},τ ->mϰ): ∀ {ns:ê} {R0:Rm},(∀n∈ns,(∃a,τ) /\ gĠ /\ hϙ) ->ns.Nodup ->dI f aΤ (eĚ)=some (R0++aΥ,[])
 | [],R0,_,_=>by simp[dI,yY]
 | n ::ns,R0,h,nd=>by let⟨⟨a,hg⟩,hk,hl⟩:=h n aΜ;rw[d9] at nd;rw[av];unfold dI;rw[hR hg hk hl];change dI f gġ _=_;rw[J9 hR (cĢ) nd.2,vv hg];simp;let⟨h1,h2,h3⟩:=h m bΤ;exact#[h1,bÉ,h3];rw[aX] at z;obtain z | z:=aΝ;show h2 z;simp at z;subst z;show nd.1 hm
theorem J' {R:Rm}{T:Tm}(hC: ∀ {T0:Tm} {c:Str} {l:ê},υ ->gĢ ->f aŏ bĖ=hϚ): ∀ {cs:ê} {T0:Tm},(∀c∈cs,(∃l,υ) /\ gĢ) ->cs.Nodup ->dI f aŏ (eě)=some (R,T0++yY T cs)
 | [],T0,_,_=>by simp[dI,yY]
 | c ::cs,T0,h,nd=>by let⟨⟨l,hg⟩,hk⟩:=h c aΜ;rw[d9] at nd;rw[av];unfold dI;rw[hC hg hk];change dI f (R,dν) _=_;rw[J' hC (cĢ) nd.2,vv hg];simp;let⟨h1,h2⟩:=h m bΤ;exact#[h1,bÉ];rw[aX] at z;obtain z | z:=aΝ;show h2 z;simp at z;subst z;show nd.1 hm
universe e
theorem tG {α:Type}{R:ż}: ∀ {ns:ê} {n:Str},n∈ns ->dj (aΥ) n=aĿ
 | m :: ns,n,h=>by
  cases hg:aŎ with
  | none=>
   have e:yY R (m::ns)=aΥ:=by unfold yY;rw[c7,hg];rfl
   rw[e];obtain rfl | h:=ĕ;by_cases hm:n∈ns;show tG hm;rw[hg];exact CA bÉ;let⟨y,hy,e2⟩:=aG.mp z;unfold yY at hy;rw[List.mem_filterMap] at hy;let⟨x,hx,e3⟩:=hy;rw[Option.map_eq_some_iff] at e3;let⟨a,_,e4⟩:=e3;rw[<- e4] at e2;show hm iê;show tG h
  | some a=>rw[vv hg];unfold dj;rw[cT];by_cases e:m=n;subst e;rw[show decide ((m,a).1=m)=true from aH rfl];show hg.symm;rw[show decide ((m,a).1=n)=false from ay e];obtain rfl | h:=ĕ;show absurd rfl e;show tG h
theorem uV {c:Nat}{sep:Str}(hs:c∉sep.cps.toList): ∀ {l:ê},aς ->(iϯ) ->c∉iπ
 | [],h,_=>dđ
 | x ::l,_,h=>by rw[bY];intro z;obtain z | z:=aΝ;show h x aΜ z;let⟨y,hy,hz⟩:=List.mem_flatten.mp z;let⟨w,hw,rfl⟩:=aG.mp hy;obtain hz | hz:=bĦ;show hs hz;show h w (aJ _ hw) hz
def Cg:ϕ =⟨#[10]⟩:=by decide+kernel
def Fz {R:Rm}{n:Str}{a:Rd}(hg:τ)(hn:Ŗ):10∉(aņ).cps.toList:=by rw[uf hg];exact lŔ;obtain rfl | hq:=Ł;decide+kernel;obtain rfl | hq:=Ł;show jy hn 10 ⋯;show hŐ
def FD {T:Tm}{c:Str}{l:ê}(hg:υ)(hc:bϊ)(hl: gΧ):10∉(eO T c).cps.toList:=by unfold eO;rw[hg];exact lŔ;obtain rfl | hq:=Ł;decide+kernel;obtain rfl | hq:=Ł;show jy hc 10 ⋯;show jy (hl q hq) 10 ⋯
def iz (l:ê):(fw l).Perm l:=by
 have: ∃ns:ê,mĘ:=by
  have h:=List.pairwise_mergeSort (le:=λx y:Str=>decide (jĶ)) (λa b c h1 h2=>by
   have h1:=bQ h1;have h2:=bQ h2;show aH (List.not_lt.mpr (List.le_trans hï (List.not_lt.mp h2)))) (λa b=>by
   rw[dE,c_,c_,List.not_lt,List.not_lt];show List.le_total _ _) l
  show#[_,List.mergeSort_perm l _,h.imp λh=>bQ h]
 show(Classical.epsilon_spec (p:=mπ) this).1
section
variable {p:Int}{R:Rm}{T:Tm}
def lP.get (h:ł){n:Str}{a:Rd}(hg:τ):Ŗ /\ kÕ:=by let⟨z,hz,rfl,rfl⟩:=Ö;show#[h.rk z hz,h.rg z hz]
def lP.Wm (h:ł){c:Str}{l:ê}(hg:υ):dh (bϊ) (gΧ) (∀T0,bϋ):=by let⟨z,hz,rfl,rfl⟩:=Ö;have h3:=bΩ;exact#[h.tk z hz,cĢ,λT0=>h3];let⟨_,_,h4⟩:=h3;let⟨a,ha,_⟩:=h4 m hm;show dξ
def jw {α:Type}{R:ż}{n:Str}(h:n∈gČ): ∃a,τ:=by have:=(iz _).mem_iff.mp h;let⟨z,hz,rfl⟩:=aG.mp this;show nj hz
def GF (h:ł)(hp:iż):Txt.split cú Ϣ=nĐ:=by unfold gV;exact jt Ň 10 _ Cg cϩ;obtain rfl | hq:=Ł;obtain rfl | rfl | rfl | rfl:=hp <;>decide+kernel;obtain hq | hq:=aK.mp hq;let⟨n,hn,rfl⟩:=bĢ;let⟨a,ha⟩:=aÝ;show Fz ha dξ;let⟨c,hc,rfl⟩:=bĢ;let⟨l,hl⟩:=jw hc;let⟨h1,h2,_⟩:=h.Wm hl;show FD hl h1 h2
def canon {f:jü}(h:ł)(hl: lΑ) (hR: ∀ {R0:Rm} {n:Str} {a:Rd},τ ->Ŗ ->kÕ ->mϰ) (hC: ∀ {R1:Rm} {T0:Tm} {c:Str} {l:ê},υ ->bϊ ->(gΧ) ->Bd R1 T0 l ->gĢ ->f (R1,T0) bĖ=some (R1,dν)): dI f aΦ mŎ=mý:=by rw[nk,J9 (R0:= []) (λhg hk hl=>hR hg (h.get hg).1 (h.get hg).2 hk hl) (λn hn=>#[aÝ,by simp,hl n hn]) (hő h.rn),List.nil_append];change dI f (yY R (gČ),[]) _=_;rw[J' (T0:= []) (λ{T0 c l} hg hk=> ?_) (λc hc=>#[jw hc,by simp]) (hő h.tn),List.nil_append];let⟨h1,h2,h3⟩:=h.Wm hg;exact hC hg h1 h2 ?_ hk;let⟨g1,g2,g3⟩:=h3 T0;exact#[g1,g2,cĢ];let⟨a,ha,hf⟩:=g3 m hm;exact#[a,?_,hf];rw[tG,ha];let⟨z,hz,rfl,_⟩:=fg ha;show(iz _).mem_iff.mpr (gΟ)
universe e
def uh {p:Int}{x:Str}{r0:Str}{rows:ê}{R:Rm}{T:Tm}(hp:iż)(hl:eϺ)(hs:ϲ=bĭ)(hx:bė=x):ië=cĂ↔iì=cĂ:=by
 have main:ł ->ië=mý /\ iì=mý:=λh=>by
  have hb:=GF h hp;rw[hx,hs] at hb;let⟨e0,e1⟩:=bB hb;have ln: lΑ:=λn hn=>by
   have hw:=mŚ;rw[hs] at hw;have:fĭ<=((bĭ).map (bυ)).sum:=yE (aG.mpr #[_,aJ _ (by rw[e1];show List.mem_append_left _ (aG.mpr #[n,hn,rfl])),rfl]);have h2:1<=(bĭ).length:=by simp
   omega
  rw[e1];show#[canon h ln Qv Qw,canon h ln Qx Qy]
 symm;intro h;have g:=tD yb uX h;rw[bĮ.1] at h;rw[bĮ.2,h];intro h;have g:=tD DG uX h;rw[bĮ.2] at h;rw[bĮ.1,h]
universe WQ
namespace WQ
open PySem L2 WL WP
def QZ (B C:iB):iR:=λxs M q=>qu λ Ϡ=>jD λ Ě ϓ=>cU λ Ā ā=>dh dŲ ϶ (∀M' VG oH _e,Bk B C M' b VG oH _e p now [] [] [] R T ->Fs b M M' ->aδ)
def yM {M:Mp}{b u:iB}{x o I:MO}(hb:M b=à)(hu:ŀ):gX (Fs b M (um cý b I)) (um cý b I b=some I) (um cý b I u=ä) (u≠b) (∀a,M a≠none ->a≠u):=by
 have kN:u≠b:=λe=>by rw[e,hb] at hu;cases hu
 exact#[λa y e n=> ?_,am,?_,kN,λa h e=>h (by rw[e];show hu)];rw[aR n,aR λz=>by rw[z,hu] at e;cases e];show e;rw[aR kN];show am
theorem Av {b:iB}{M M1 M2:Mp}(h:Fs b M M1)(h':Fs b M1 M2):Fs b M M2:=λa o e n=>h' a o (h a o e n) n
universe WQ
namespace WQ
open PySem L2 WL WP Builtin.Str
def Bz (B C:iB)(M:Mp)(b la:iB)(p:Int)(R:Rm)(T:Tm)(k:Nat):Prop:=Yz λ(lu lh now:iB) ϓ=>fE ϶ (pa.length<=k) (R.length<=k) (T.length<=k)
structure SM (p:Int)(R:Rm)(T:Tm)(k:Nat)(row:Str):Prop where
 p4:iż
 gd:ł
 kl:fÃ<=850
 len:fŀ
 as:aő
def Fa (B C:iB)(SE:bŷ)(M:Mp)(b la:iB)(p:Int)(R:Rm)(T:Tm)(k:Nat)(row:Str)(q:WK)(e:WX):Prop:=(∀R' T' M',jŋ ->Bz B C M' b la p R' T' (fÃ) ->γ ->aδ) /\ (fÁ=none -> ∀C' M',SE C' ->γ ->e C' M')
def Vp (B C:iB)(SE:bŷ):fZ:=λxs M q e=>qu λ cϱ Ě aθ=>qu λ Ā ā aΘ cϲ bό=>oR gģ kε (ϳ=Ϧ ::Ù) (hϛ) fϛ kζ
def Vq (B C:iB)(SE:bŷ):fZ:=λxs M q e=>qu λ cϱ Ě aθ=>qu λ Ā ā aΘ cϲ bό=>oR gģ kε (ϳ=jŎ) (hϛ) fϛ kζ
def QU (B C:iB)(SE:bŷ):fZ:=λxs M q e=>gh λ(b la:iB) aθ=>jD λ Ě Ā ā bό=>fE (xs= [wr b,aŒ]) (hϛ) fϛ kζ
theorem iW (sep x:Str): ∀l:ê, ∃pre,(glued sep aĝ).cps.toList=pre++iπ
 | []=>#[(glued sep [x]).cps.toList,by have:jϖ:=rfl;rw[this,cA]]
 | y::l=>#[x.cps.toList++sep.cps.toList,by rw[bY,bY];simp]
def qD {row a n:Str}{ms:ê}(h:ϳ=a::Ù):(jŏ).length<=row.length /\ (aő ->bK (jŏ)):=by
 have hj:=bW row ϛ;rw[h, <- cf] at hj;let⟨p1,h1⟩:=kĄ;let⟨p2,h2⟩:=jý;have e:row.cps.toList=p1++(p2++(jŏ).cps.toList):=by rw[<- h2, <- h1,hj]
 symm;rw[<- bx, <- bx,e,aE,aE];omega;intro ha;rw[fO] at ha ⊢;intro c hc;show ha c (by rw[e];simp[hc])
def i8 {row:Str}{l:ê}(h:ϳ=l):l.length<=dο:=by have:=PyProof.Rows.split_le row ϛ;rw[h] at this;show this
theorem lP.rm {p:Int}{R:Rm}{T:Tm}(h:ł)(hl:eϦ):aľ:=#[h.rn,hl,λz hz=>#[hð,Nt cϳ.2 (hð),cϳ.2]]
theorem lP.XN {p:Int}{R:Rm}{T:Tm}(h:ł)(hl:eď):CQ T:=#[h.tn,hl,λz hz=>pD (h.tk z hz),λz hz=>by let⟨h1,_,_⟩:=bΩ;omega]
theorem lP.bko {p:Int}{R:Rm}{T:Tm}{pa:Í}(h:ł)(p4:iż)(h1:eϧ)(h2:R.length<=900)(h3:eď):cϚ:=#[p4,h1,h.rm Ť,h3]
theorem EG {R:Rm}{c:Str}{T:Tm}(hc:fϙ): ∀ {ms l rest:ê},fÀ ->EH R c eİ (ms++rest)=EH R c (fĿ) rest
 | [],l,rest,_=>by simp
 | Ø,l,rest,h=>by
  have e:iè:=by simp
  let⟨h1,h2,h3⟩:=h;let⟨a,hg,hf⟩:=h3 m Ň;rw[List.cons_append];conv=>lhs;unfold EH ft
  simp![uW hc,hg];rw[mϵ,iο,hϘ,uo hc];simp only;rw[EG hc (l:=aΡ) jϕ,e]
def Ny {R:Rm}{c m:Str}{T T':Tm}{l:ê}(hc:fϙ)(hl:bĪ)(h:ft R eİ eį= .ok T'):Bd R T (aΡ) /\ T'=T++ [(c,aΡ)]:=by exact yP hc (ms:= [m]) hl ?_;unfold EH;rw[h];rfl
def NA {R:Rm}{c m:Str}{T:Tm}{ms rest:ê}{r:Rf}(hc:fϙ)(hl:Bd R T ms)(h:ft R (T++ [(c,ms)]) eį= aŃ):EH R c fÄ (ms++m::rest)=none:=by rw[EG hc (l:= []) aÐ,List.nil_append];unfold EH;rw[h]
def xk {R:Rm}{T T1:Tm}{n:Str}(h:ft R T cþ= .ok T1):dh (Ŗ) (n∉dŴ) (T1=T++ [(n,[])]):=by unfold ft at h;simp only at h;split at h;cases h;rename_i hn;split at h;cases h;rename_i hg;cases h;show#[⇑hn,iP hg,cĀ]
def MH {R:Rm}{T:Tm}{c m:Str}{r:Rf}(h:ft R T eį= aŃ):mϤ:=by
 unfold ft at h;simp only at h;repeat' split at h
 all_goals first
 | (cases h;done)
 | (cases h;simp)
def P4 (p:Int):Prop:=iż
def o_ (p:Int):Str:=mÎ
def fU (l:ê):Nat:=(l.map λr=>bϺ).sum
def Vo (B C:iB)(SE:bŷ):fZ:=λxs M q e=>gh λ(u:iB) (r0:Str) (rs:ê)=>oR (xs= [wr u]) (M u=some iς) (∀r∈aœ,eı /\ bK r) (fU rs<=849) (∀p R T,È ->aΧ ->hŒ=cĂ -> ∀b la M',Bz B C M' b la p R T 850 ->ę ->bÜ ->bΞ ->cϴ) ((∀p R T,È ->aΧ ->hŒ≠cĂ) -> ∀C' M',SE C' ->ę ->e C' M')
def split_set {p:Int}:Txt.split (o_ p) ϛ= [iĲ,iϣ]:=by
 have e:o_ p=glued ϛ [iĲ,iϣ]:=by
  exact mX ?_;unfold o_;rw[bY,bD];have e1:(iι).cps.toList=(iĲ).cps.toList++jό:=by decide+kernel
  rw[e1];simp
 rw[e];exact kĳ;simp at hq;obtain rfl | rfl:=hq;decide+kernel;show me (.inl ⋯)
def sW (l l':ê):fU aη=fU l+fU l':=by unfold fU;rw[aX,List.sum_append]
def zr (l:ê)(i:Nat):fU (aϓ) <=fU l:=by have:=sW (aϓ) (aϕ);rw[bL] at this;omega
def xl {f:jü}{s s':ań}{l:ê}{r:Str}(h:fϜ):dI f s (l++ [r])=f s' r:=by rw[nk,h];change dI f s' [r]=_;unfold dI;cases f s' r<;>rfl
def EB {f:jü}{s s':ań}{l rest:ê}{r:Str}(h:fϜ)(hn:f s' r=none):dI f s (l++r::rest)=none:=by rw[nk,h];change dI f s' (r::rest)=_;unfold dI;rw[hn];rfl
def Bz.mono {B C:iB}{M:Mp}{b la:iB}{p:Int}{R:Rm}{T:Tm}{k k':Nat}(h:hϛ)(hk:k<=k'):Bz B C M b la p R T k':=by let⟨lu,lh,now,pa,un,he,h1,h2,h3,h4⟩:=h;show#[lu,lh,now,pa,un,he,h1,by omega,by omega,by omega]
def Qq {r0 x:Str}{n:Int}(h:ką= [iĲ,x])(hx:x=Ϭ):r0=o_ n:=by have h1:=bW r0 ϛ;have h2:=bW (o_ n) ϛ;rw[h] at h1;rw[split_set, <- hx] at h2;show h1.symm.trans h2
def wB {row w n:Str}{ms:ê}(h:ϳ=w::Ù):w.length+1+n.length<=row.length:=by have hw:=PyProof.Rows.split_weight row ϛ ϙ;rw[h] at hw;simp at hw;omega
def Nz {R:Rm}{c:Str}{T:Tm}(hc:fϙ){ms:ê}{T':Tm}(h:EH R c fÄ ms=some T'):T'.length=T.length+1:=by let⟨_,rfl⟩:=yP hc yS h;simp
def H_ {p:Int}{R R':Rm}{T T':Tm}{row:Str}(hr:jŋ):mś:=by
 unfold g_ at hr;split at hr;rename_i w n ms gC;have h2:=wB gC;split at hr;rename_i hw;split at hr;rename_i hn;let⟨Ta,_,_⟩:=hW hn;split at hr;simp only at hr;split at hr;cases hr;cases hr;have:w.length=5:=by rw[hw];decide+kernel
 show jϗ;cases hr;cases hr;split at hr;rename_i hw;split at hr;rename_i T1 ho;let⟨hn,hk,rfl⟩:=xk ho;let⟨Ta,_,_⟩:=hW hn;rw[Option.map_eq_some_iff] at hr;let⟨T2,he,e2⟩:=hr;cases e2;have:w.length=4:=by rw[hw];decide+kernel
 show#[by omega,by simp,by rw[Nz hk he];simp];cases hr;cases hr;cases hr
theorem fold_min {p:Int}: ∀ {rows:ê} {R R':Rm} {T T':Tm},dI (g_ p) Ú rows=dμ ->nÚ
 | [],R,R',T,T',h=>by cases h;show kÖ
 | bĬ,R,R',T,T',h=>by
  unfold dI at h;cases h1:g_ p Ú r with
  | none=>rw[h1] at h;cases h
  | some s=>
   rw[h1] at h;let⟨a1,a2,a3⟩:=H_ (R':=s.1) (T':=s.2) h1;let⟨b1,b2,b3⟩:=fold_min (R:=s.1) (T:=s.2) h;have e:kĆ:=by simp[fU]
   show mÏ
theorem lP.Ow {p:Int}{R:Rm}{T:Tm}(h:ł)(h1:eĘ)(h2:eę):bĔ:=#[h.rm Ť,h.XN Ť,λz hz=>pD (h.rk z hz),λz hz n hn=>by let⟨_,_,h4⟩:=bΩ;let⟨a,ha,_⟩:=h4 n hn;show pD dξ]
def RD (p:Int)(R:Rm)(T:Tm)(x:Str):Prop:=cU λ(r0:Str) (rs:ê)=>fE (ϲ=aœ) (aΧ) (hŒ=cĂ) (bė=x)
def zJ {x r0:Str}{rs:ê}(h:ϲ=aœ):fU (aœ) <=x.length+2:=by
 have hw:=mŚ;have hm:=PyProof.Rows.split_le x Ϣ;rw[h] at hw hm;have e: ∀l:ê,fU l=(l.map (bυ)).sum+l.length:=λl=>by
  induction l with
  | nil=>rfl
  | cons a l ih=>simp![fU,av,List.sum_cons,ax] at ih ⊢;omega
 rw[e];omega
theorem Mj {sep q:Str}{c:Nat}(hc:c∈q.cps.toList): ∀ {l:ê},q∈l ->c∈iπ
 | x::l,h=>by rw[bY];obtain rfl | h:=ĕ;show iϬ;show bi _ (List.mem_flatten.mpr #[_,aG.mpr #[q,h,rfl],bi _ hc])
theorem qF {x sep:Str}(ha:bK x): ∀q∈fŁ,bK q:=λq hq=>by have hj:=bİ;rw[<- cf] at hj;rw[fO] at ha ⊢;intro c hc;show ha c (by rw[<- hj];show Mj hc hq)
def xZ {p p':Int}(hp:È)(h:o_ p=o_ p'):p=p':=by have h1:=split_set (p:=p);rw[h,split_set] at h1;have h2:=(bB (bB h1).2).1;exact pz ?_ h2.symm;obtain rfl | rfl | rfl | rfl:=hp <;>decide+kernel
universe WQ
namespace L2
open PySem PyProof.Rows PyProof.V PySem.Calls PySem.Spec
def gu (val:bύ):Nat ->ê
 | 0=> []
 | i+1=>if fÅ (· ==Û) then bı else bı++ [Û]
theorem yB (val:bύ): ∀i,gĥ<=i
 | 0=>aA _
 | i+1=>by have:=yB val i;unfold gu;split;omega;rw[aE,List.length_singleton];omega
def z_ (val:bύ)(i:Nat)(k:Str):(dπ).any bĲ=(fÅ bĲ || decide (k=Û)):=by
 conv=>lhs;unfold gu
 split;rename_i h;by_cases e:k=Û;subst e;rw[h];simp;simp[e];rw[List.any_append];by_cases e:k=Û;subst e;simp;have hb:(Û==k)=false:=by simpa [beq_iff_eq] using(λh':Û=k=>e h'.symm)
 simp[hb,e]
section
variable {prog:pF}{w:World}{A:Around}{R:gř}{I:iB}{fp wr:Í}{G:eŦ ->eŦ ->Prop}{n:Nat}{P:Nat ->eC ->Prop}{St:fď}
def Fx (W:WalksS prog w A.in1 I fp wr G n P St)(S:iB)(Ym:S∉fp)(val:bύ)(_F: ∀i v,P i v -> ií)(hb:n+1<scanBound): ∀ (k i:Nat) (s:eY),n - i=k ->i<=n ->St i s ->s.heap.SetOf fϝ S kĴ gĥ ->(∀s',Moved (S::wr) G s s' ->s'.heap.SetOf fϝ S (λk'=>(bĳ).any bώ) gĦ ->R (.ok dη) s') ->codeAny Ι A (.builtin "set.update.loop" #[[.ref S, .ref I],[]]) R s:=by
 have hSw:S∉wr:=λh=>Ym (W.sub _ h);have up: ∀b∈wr,b∈S::wr:=λb hb=>aŧ;have kept: ∀ {s s':eY} {j:Nat},Moved wr G s s' ->s.heap.SetOf fϝ S kĵ għ ->s'.heap.SetOf fϝ S kĵ għ:=λhm ⟨o,es,ep,t,ho,rest⟩=>#[o,es,ep,t,hm.heap S _ hSw ho,rest]
 intro k;induction k with
 | zero=>
  intro i s hk hi j8 hS hR;obtain rfl:i=n:=by omega
  exact lŀ;rw[lΒ];show aq (W.done s _ _ j8 λs' hm=>aV (hR s' (hm.mono up) (kept hm hS)))
 | succ k ih=>intro i s hk hi j8 hS hR;exact lŀ;rw[lΒ];exact aq (W.item i s _ _ Ť j8 λv s' hP _J hm=> ?_);let⟨t,rfl⟩:=_F i v hP;change wpAny _ A.in1 (holding [Value.str (Û) t] (setAdd S (fÆ)) >>=_) _ _ s';exact aq (cc ?_);unfold setAdd;exact cc (aq ((fÇ).pyHash (k:=Û) hœ ?_));exact wpAny_setAddHashed_of (knd:=fÇ) (s:= {s' with toks:=s'.toks+1}) hœ rfl (show s'.heap.SetOf fϝ S kĴ gĥ from kept hm hS) (by have:=yB val i;omega) λh' O3 hS2=> ?_;have hS3:h'.SetOf fϝ S (λk'=>(dπ).any bώ) (dπ).length:=SetOf_congr hS2 (λk'=>(z_ val i k').symm) (by(conv=>rhs;unfold gu);split<;>simp[*]);exact aV #[plainId_quiet F.plain_set_update_loop _,ih Ð _ Ť Ť (W.frame _ s' _ _ _J (dϳ) λb hb o e=> ?_) hS3 λUW _X aag=> ?_];show(O3.2 b λh:b=S=>Ym (by rw[<- h];show hb)).trans e;show hR UW (Moved.trans W.gtrans ((hm.mono up).then_heap (dϳ) λb o hb e=>(O3.2 b λh:b=S=>hb (by rw[h];show bq)).trans e) _X) aag
universe e
section
variable {prog:pF}{w:World}{A:Around}{E:Ε}{s:eY}
set_option maxHeartbeats 6400000 in
def Fw {l:iB}{items:Ġ}{val:bύ}{Q:Ε}(hh:eŶ)(hl:hό)(hi: ∀ (i:Nat) (v:eC),items[i]? =â -> ií)(hb:items.size+1<scanBound) (h: ∀ (h':Heap) (tk:Nat),h'.SetOf fϝ s.heap.objs.size lĪ jþ ->(∀b o,gų ->lè) ->Q Ϫ jÏ): wpAny Ι A (call (cϵ) [ač]) Q E s:=by
 let⟨c,tl,afC⟩:=F.called_set.mro;have afk:=F.called_set.made;have afy:=F.called_set.sub;have h1:=F.called_set.notType;have h2:=F.called_set.canCreate;have hct:=F.typeCall_set_1 bÊ;have hS: ∀Bi,(mϠ).get? s.heap.objs.size=some mŹ:=λBi=>Ģ;exact wpAny_call (codeAny_of_tree ?_);change wpAny _ _ (callAny (cϵ) _) _ _ _;exact aV #[lî,codeAny_builtin F.entry_type_call ?_];rw[Around.under_plain (weight_type_call_type "set" [ač] []) rfl];repeat (any_goals (first | assumption | wp_step))
 exact codeAny_mono (code_set_new_1 bÊ (E:=E) (Q₁:=λobj s₁=> ∃Bi:Bool,obj= hŲ /\ s₁= nç) λBi=>#[Bi,rfl,rfl]) λr s₁ hr=> ?_;obtain e | fl:=r;show hr;obtain _ | _ | _ | obj:=fl;all_goals first | show False.elim hr | skip
 let⟨Bi,rfl,rfl⟩:=hr;have hT:Shared.TypeIs nç Ϫ "set" :=#[_,hS Bi,rfl]
 have hli:=F.called_set.init.lookup;have hbi:=F.called_set.init.bind Ϫ;repeat (any_goals (first | assumption | wp_step))
 let Done:Ε:=λr s₂=>r= .none /\ ∃h' tk,s₂= jÏ /\ h'.SetOf (hŔ) s.heap.objs.size lĪ jþ /\ ∀ (b:Nat) o,gų ->lè
 exact codeAny_mono (codeAny_call_builtin (R:=wants Done E) F.called_set.init.plain F.entry_set_init (check_set_init_1 hT ?_)) λr₂ s₂ _M=> ?_;rotate_left
 .obtain e | fl:=r₂;show _M;obtain _ | _ | _ | r:=fl;all_goals first | show False.elim _M | skip
  let⟨rfl,h',tk,rfl,hS',RN⟩:=_M;repeat (any_goals (first | assumption | wp_step))
  show h _ _ hS' RN
 let⟨⟨afw,Vt,afe,Q0⟩,Yf,iQ,nl,hdl⟩:=hl;simp only at iQ hdl;subst iQ;subst hdl;have _R:(mϠ).get? l=some {cls:= ŷ,dict:=Vt,data:= .seq items nl,slots:=Q0}:=ar _ Yf;have afz:=F.sub_list_set;have afA:=F.sub_list_frozenset;have kN:(Value.type æ ==Value.type aĀ)=false:=⋯
 have Yg:(mϠ).IsList l items:=#[_,_R,rfl,nl,rfl]
 unfold Builtin.«set.__init__» noKeywords Builtin.Frozenset.updateFrom;generalize hPI:pyIter=PI;wp_walk;subst hPI;exact wpAny_pyIter_list Yg ?_;exact aq (wpAny_runValue ?_);have hlS:gς:=aI Yf;have hh3:A.in1.in1.in1.handled=none:=by simp[hh]
 have hIl:l≠nÓ:=by rw[Heap.size_push];show be (Nat.lt_succ_of_lt hlS)
 have Ym:s.heap.objs.size∉ [nÓ,l]:=by rw[Heap.size_push];simp![au,cD,or_false,not_or];show#[iĊ,Nat.ne_of_gt hlS]
 exact Fx ((Walks.list hh3 _ l hIl items).toS) s.heap.objs.size Ym val hi hb (items.size - 0) 0 _ Ť (ν) #[hű,Yg.push _] ?_ ?_;show SetOf_congr ((setObjOf_fresh (knd:=hŔ) Bi).setOf (ar _ (hS Bi)) (by unfold scanBound;omega)) (aϹ) rfl;intro s' hm hS';let⟨h',g',d',tk',ZO⟩:=s';have eg:g'=s.gens:=hm.gens;have ed:d'=s.drawn:=hm.drawn;have eo:ZO=s.os:=hm.os;subst eg;subst ed;subst eo;exact aV ?_;change wpAny _ _ (ret Value.none) _ _ _;exact aV #[rfl,h',tk',rfl,hS',λb o hb e=>hm.heap b o ?_ (ar _ bÔ)];simp![au,cD,or_false,not_or];show#[be hb,by rw[Heap.size_push];show be (Nat.lt_succ_of_lt hb)]
universe e
def E9 (n:Nat)(a:iB)(h:Heap):Prop:= ∃o es ep t,fæ /\ gX o.ExactSet (o.data= .set es ep t) (es.size<scanBound) (t.fits es.size=true) (es.size=n)
def ml (l:ê):Nat:=(gu (fϞ) l.length).length
def OE:ϧ:=λxs H Q=>cU λ(p:iB) cù=>fE eγ (H p=some (.lst dζ)) fϟ (∀a,aϚ ->Q Ī (upd H a (.ext (E9 aŔ a))))
def OH:ϧ:=λxs H Q=>cU λ aĨ aŢ=>dh (xs= Ĭ) (H a=some (.ext (E9 n a))) eϬ
theorem Dq {bN:Ê}: ∀ {l:ê},cF (cϒ) bN -> ∀ (i:Nat) (v:eC),eϗ -> ∃t,v= .str (c϶) t
 | [],h,i,v,e=>by cases h;simp at e
 | x ::l,h,i,v,e=>by
  cases h with
  | cons r rs=>
   cases i with
   | zero=>let⟨t,rt⟩:=r;simp at e;show#[t,by rw[<- e,rt];rfl]
   | succ i=>simp![List.getElem?_cons_succ] at e;let⟨t,q⟩:=Dq rs i v e;show#[t,by rw[q];rfl]
section
variable {X:Cx}
def GB (hc:ũ):eN X (cϵ) OE:=by
 intro ag s σ H xs us Q I hv ⟨p,l,hx,hp,hl,k⟩;subst hx;cases hv with
 | cons r rs=>
  cases rs;obtain rfl:=r;let⟨h1,bN,n,vl,hg⟩:=I.c9 p _ hp;have eD:bN.length=l.length:=by rw[<- vl.length,af]
  have hi:s.heap.IsList p bN.toArray:=#[_,hg,rfl,n,rfl]
  exact Fw (val:=fϞ) ź hi (λi v e=>Dq vl i v ⇑e) (by rw[aM,eD];unfold scanBound;omega) λh' tk hS hk=> ?_;have keep: lι:=λb u e=>hk b u aë e;let⟨o,es,ep,t,ho,x1,x2,_,_,x3,x4,x5⟩:=hS;have sa:E9 aŔ s.heap.objs.size h':=#[o,es,ep,t,ho,x1,x2,x3,x4,by rw[x5];unfold ml;rw[aM,eD]]
  show#[hŲ,upd H s.heap.objs.size (.ext (E9 aŔ s.heap.objs.size)),I.laid (t':=tk) keep ï (show _ /\ _ /\ _ from#[sa,#[o,ho],λh1 h2 ⟨o1,e1,p1,t1,g1,g2⟩ kk=>#[o1,e1,p1,t1,kk o1 g1,g2]]),rfl,k _ gϱ]
def GD:eN X fŹ OH:=by
 intro ag s σ H xs us Q I hv ⟨a,n,hx,hp,k⟩;subst hx;cases hv with
 | cons r rs=>cases rs;obtain rfl:=r;let⟨⟨o,es,ep,t,ho,x1,x2,x3,x4,x5⟩,_⟩:=I.c9 a _ hp;exact call_len_set ho x1 x2 x4 (by unfold scanBound at x3;omega) ?_;show#[aĳ,H,bŢ,#[_,by rw[x5]],k]
universe e
universe L2
namespace WL
open PySem L2
section
variable {K:jv}
def Dd (a:WA):WE:=λρ M q=>nĕ
instance {t:TA}{a:WA} [ia:ĸ]:IE K (UF OH (Dm (UF OE t) Fo)) (Dd a) where
 imp:=λρ M σ H q Q o h k=>ia.imp ρ M σ H _ _ o h λxs M1 vs H1 ⟨p,l,ex,hp,hl,hq⟩ t1 m1 r1=>by subst ex;let⟨u,rfl,r⟩:=r1.one;cases r.eq;let⟨ks,hv,rr⟩:=bζ;cases rr.strs;exact#[p,l,rfl,hv,hl,cġ];show#[b,ml l,rfl,bX,k _ M1 _ _ hq (t1.trans (L2.fI.ts (bO hb))) (m1.new hb) WR.v]
theorem Fh {a:WA}{ρ:dt}{M:Mp}{q:WK}:Dd a ρ M q=nĕ:=rfl
universe e
universe WL
namespace WQ
open PySem L2 WL WP
theorem uG {val:bύ}: ∀n,gĦ=n↔(gι val).Nodup
 | 0=>by simp[gu]
 | n + 1=>by
  have ih:=uG (val:=val) n;have hle:=yB val n;have hm: ∀k,(bĳ).any bĲ=true↔k∈gι val:=by
   intro k;clear ih hle;induction n with
   | zero=>simp[gu]
   | succ n ih2=>rw[z_,dE,ih2,List.range_succ,aX,aK];simp
  rw[List.range_succ,aX,List.nodup_append];unfold gu;split;rename_i h;symm;intro e;omega;rintro⟨_,_,h3⟩;show absurd rfl (h3 _ ((hm _).mp h) (val n) Ň);rename_i h;rw[aE,List.length_singleton];symm;intro e;exact#[ih.mp Ť,by simp,λx hx y hy e2=> ?_];simp at hy;subst hy;show h ((hm _).mpr iê);rintro⟨h1,_,_⟩;rw[ih.mpr h1]
def uH {l:ê}:ml l=l.length↔l.Nodup:=by
 unfold ml;rw[uG];have:(List.range l.length).map (fϞ)=l:=by exact List.ext_getElem? λi=> ?_;rw[aD];by_cases h:i<l.length;rw[List.getElem?_range h,aT h];simp[List.getD_eq_getElem?_getD,aT h];rw[jÿ,jÿ];rfl
 rw[this]
universe WQ
namespace L2
open PySem PyProof.Rows PyProof.V PySem.Calls PySem.Spec
def OJ:ϧ:=λxs H Q=>cU λ aĶ fϊ=>dh eϣ hĽ (Q (.int kvs.length) H)
def CN {X:Cx}:eN X fŹ OJ:=by intro ag s σ H xs us Q I r ⟨d,kvs,hx,e,q⟩;subst hx;let⟨u,rfl,rx⟩:=Ĕ;obtain rfl:=rx;show Wv I aϷ λt s' I'=>#[ð,H,I',ĩ,q]
universe L2
namespace WL
open PySem PySem.Spec L2
variable {K:jv}
def Hn:y8:=λxs M q=>cU λd kvs=>dh dŜ hľ (iϰ)
instance:IC K OJ Hn where
 imp:=by rintro xs v M H q Q m r1 ⟨d,kvs,rfl,hd,h⟩ k;let⟨v,rfl,r⟩:=r1.one;cases r.eq;let⟨ks,e,rr⟩:=bĈ;show#[d,ks,rfl,e,k _ _ _ _ h (bθ) m (by rw[rr.length];show WR.v)]
def Xv {d:iB}{M:Mp}{q:WK}:Hn [.v (aĩ)] M q=mO (M d) λkvs=>iϰ:=by unfold Hn mO;apply propext;symm;rintro⟨_,kvs,e,h1,h⟩;cases e;show#[kvs,h1,h];rintro⟨kvs,h1,h⟩;show#[d,kvs,rfl,h1,h]
universe WL
namespace WQ
open PySem L2 WL WP Builtin.Str
def rC (k:Nat)(x:Str):Prop:= ∀b:ü,b<:+:x.cps.toList ->10∉b ->b.length<=k
def JP {b u v:ü}(h:b<:+:u++10::v)(hn:10∉b):b<:+:u \/ b<:+:v:=by
 let⟨t1,t2,e⟩:=h;rw[bn] at e;rcases kØ with⟨w,h1,h2⟩ | ⟨w,h1,h2⟩
 rcases kć with⟨z,h3,h4⟩ | ⟨z,h3,h4⟩
 show .inl iĳ;cases z with
 | nil=>show .inl #[t1,[],by rw[h1,h3];simp]
 | cons c z=>rw[List.cons_append] at h4;let⟨rfl,_⟩:=bB h4;show absurd (by rw[h3];simp) hn
 cases w with
 | nil=>
  cases b with
  | nil=>show .inl fł
  | cons c b=>rw[List.nil_append,List.cons_append] at h2;let⟨rfl,_⟩:=bB h2;show absurd Ň hn
 | cons c w=>rw[List.cons_append] at h2;show .inr #[w,t2,by rw[bn];show(bB h2).2.symm]
def Et {b u v:ü}(h:b<:+:u++v): ∃b1 b2,dh (b=b1++b2) (b1<:+:u) (b2<:+:v):=by
 let⟨t1,t2,e⟩:=h;rw[bn] at e;rcases kØ with⟨w,h1,h2⟩ | ⟨w,h1,h2⟩
 rcases kć with⟨z,h3,h4⟩ | ⟨z,h3,h4⟩
 show#[b,[],by simp,iĳ,#[[],v,by simp]];show#[w,z,h3,#[t1,[],by rw[h1];simp],#[[],t2,by rw[h4];simp]];show#[[],b,rfl,fł,#[w,t2,by rw[h2,bn]]]
theorem ui {k:Nat}: ∀ {l:ê},(∀r∈l,cϷ) ->rC k jϘ
 | [],_,b,hb,_=>by have e:(glued Ϣ []).cps.toList= []:=rfl;rw[e] at hb;have:=hb.length_le;rw[List.length_nil] at this;omega
 | [x],h,b,hb,_=>by rw[bY] at hb;have:=hb.length_le;rw[dw,List.flatten_nil,cA,bx] at this;have h1:=eĀ;omega
 | bĴ,h,b,hb,hn=>by
  have e:(kΤ).cps.toList=x.cps.toList++10::(kĶ).cps.toList:=by
   rw[bY,bY];have:(ϕ).cps.toList= [10]:=by decide+kernel
   simp[this]
  rw[e] at hb;obtain h2 | h2:=JP hb hn;have:=h2.length_le;have h1:=eĀ;rw[<- bx] at h1;omega;show ui (l:=y::l) (λr hr=>h r (aJ _ hr)) b h2 hn
theorem xh {sep q:Str}: ∀ {l:ê},q∈l ->q.cps.toList<:+:iπ
 | x ::l,h=>by rw[bY];obtain rfl | h:=ĕ;show(List.prefix_append ..).isInfix;let⟨l1,l2,rfl⟩:=List.append_of_mem h;simp![aX,av,List.flatten_append,db];show#[x.cps.toList++(l1.map kŚ).flatten++sep.cps.toList,(l2.map kŚ).flatten,by simp]
theorem DI {k:Nat}{x:Str}(h:aŕ): ∀r∈ϲ,cϷ:=λr hr=>by have hj:=iτ;rw[<- cf] at hj;have h1:=xh (sep:=ϕ) hr;rw[hj] at h1;rw[<- bx];exact h _ h1 ?_;rw[Cg] at hr;show jι
theorem uj {x y:Str}{a b:Nat}{s:ü}(hs:cϸ)(e:mċ){k:Nat}(h:aŕ):dς:=λw hw hn=>by rw[e] at hw;let⟨w1,w2,rfl,h1,h2⟩:=Et hw;let⟨w3,w4,rfl,h3,h4⟩:=Et h2;have a1:=h w1 (h1.trans (List.take_prefix ..).isInfix) iï;have a3:=h w4 (h4.trans (List.drop_suffix ..).isInfix) iï;have a2:=h3.length_le;simp![aE];omega
def UR {x:Str}{a:Int}(h:0<=a):(Txt.slice x none (ë)).cps.toList=x.cps.toList.take a.toNat:=by let⟨n,rfl⟩:=b0 h;show wH x n
def DF {x:Str}{a:Int}(h:0<=a):(Txt.slice x (ë) none).cps.toList=x.cps.toList.drop a.toNat:=by let⟨n,rfl⟩:=b0 h;show zC x n
def gS (row:Str):ê:=match ϳ with
 | w::Ù=>if w=Ϧ then mΩ else if w=ϡ then jŎ else []
 | _=> []
def Vi:iR:=λxs M q=> ∃row:Str,fE (xs= [aŒ]) (fŀ) (aő) (∀u,ŀ ->q aŁ (kĈ))
structure WF (R:Rm)(T:Tm):Prop where
 r6:cϹ
 t2:cϺ
 rr: ∀z∈R,fE fϠ (bK z.1) là lΚ
 tn:hņ
 tt: ∀z∈T,fE fϠ (bK z.1) (cø<=8) (∀m∈z.2,dτ /\ bK m)
def WF.n {R:Rm}{T:Tm}(h:WF R T):aŅ:=by exact#[ů,#[h.tn,az h.t2 ⋯,ů,ů],ů,λz hz n hn=> ?_];let⟨_,_,cϥ,h3⟩:=bϏ;show#[#[aP h1 ⋯,λy hy=>#[aP (h3 y hy).1 ⋯,aP (h3 y hy).2 ⋯]],by omega];let⟨h1,_⟩:=bϐ;omega;let⟨_,_,h1,_⟩:=bϐ;omega;let⟨h1,_⟩:=bϏ;omega;let⟨_,_,_,h1⟩:=bϐ;have:=(h1 n hn).1;omega
theorem i4 {sep:Str}(hs:sep.length=1): ∀ {l:ê},aς ->(cϯ).length+1=fU l
 | [x],_=>by rw[<- bx,bY];simp![fU,dw,List.flatten_nil,cA,av,List.sum_cons,List.sum_nil,bx,Nat.add_zero]
 | aΨ,_=>by have ih:=i4 hs (l:=y::l) Ň;rw[<- bx,bY] at ih ⊢;rw[<- bx] at hs;simp![fU,av,db,aE,List.sum_cons,bx] at ih hs ⊢;omega
theorem tO {k:Nat}: ∀ {l:ê},(∀x∈l,x.length<=k) ->fU l<=l.length*Ó
 | [],_=>by simp[fU]
 | x::l,h=>by
  have ih:=tO (l:=l) λy hy=>h y bų;have h1:=eĀ;have e:fU aĝ=că+fU l:=by simp[fU]
  rw[e,ax,Nat.add_mul];omega
def WF.text {p:Int}{R:Rm}{T:Tm}(hp:È)(h:WF R T):dh ((bė).length<=560) (bK cú) (rC 121 cú):=by
 have lf:jñ=1:=by decide+kernel
 have lb:ϯ:=by decide+kernel
 have l9:kΛ:=by decide+kernel
 have l6:kÑ=6:=by decide+kernel
 have l4:jμ=4:=by decide+kernel
 have le:jİ:=by decide+kernel
 have lc:jĸ:=by decide+kernel
 have hs:mĵ<=11 /\ bK (mÎ):=by exact#[?_,Nm.app ϙ (y7 _)];have:=gH (k:=1) (i:=p) ⋯ jĀ;rw[a8];omega
 have hR : ∀n∈gČ,fĭ<=48 /\ bK bĕ:=λn hn=>by
  let⟨a,hg⟩:=aÝ;let⟨z,hz,rfl,rfl⟩:=Ö;let⟨h1,h2,⟨h3,h4⟩,h5⟩:=bϏ;have er:mń:=by unfold di;rw[hg]
  rw[er];exact#[?_,Nm.app (Nm.app (Nm.app ϙ h2) ϙ) (KO _)];have e1:=gH (k:=3) (i:=aÁ) ⋯ h3;have MY:(bE z.2).length+1<=6+3*8:=by
   rw[eE,show(" " :Str)=ϒ from rfl,i4 lb Ň];have:fU (dυ) <=dŰ*8:=by have:=tO (k:=7) (l:=dυ) (λx hx=>by let⟨y,hy,rfl⟩:=bċ;have g1:=gH (k:=3) ⋯ (h5 y hy).1;have g2:=gH (k:=1) ⋯ (h5 y hy).2;unfold bR;rw[a8,a8];change _+iϟ+_<=7;omega);rw[af] at this;show this
   have e:fU ((kĸ)::dυ)=(kĸ).length+1+fU (dυ):=by simp[fU]
   rw[e,a8];have e2:(fÈ:Str).length=(Str.ofString (fÈ)).length:=rfl;have e3:(cĄ).length=iϤ:=rfl;omega
  rw[a8,a8,a8];omega
 have hC: ∀n∈gč,(eO T n).length<=121 /\ bK bĵ:=λn hn=>by
  let⟨a,hg⟩:=aÝ;let⟨z,hz,rfl,rfl⟩:=Ö;let⟨h1,h2,h3,h4⟩:=bϐ;have er:mŜ:=by unfold eO;rw[hg]
  rw[er];exact#[?_,qq ϙ cŞ];have e1:=i4 lb (l:=kÙ) Ň;have e2:=tO (k:=12) (l:=z.2) λx hx=>(h4 x hx).1;have e:fU (kÙ)=jμ+1+(cö+1+fU z.2):=by simp[fU]
  omega;obtain rfl | hx:=bÎ;decide+kernel;obtain rfl | hx:=bÎ;show h2;show(h4 x hx).2
 have ll1:jϙ:=by rw[fϡ,af];show h.r6
 have ll2:jϚ:=by rw[fϡ,af];show h.t2
 have all: ∀r∈nĐ,hϜ:=λr hr=>by obtain rfl | hr:=au.mp hr;show#[by omega,hs.2];obtain hr | hr:=bĶ;let⟨n,hn,rfl⟩:=bķ;show#[by have:=(hR n hn).1;omega,(hR n hn).2];let⟨n,hn,rfl⟩:=bķ;show hC n hn
 unfold gV;exact#[?_,qq ϙ λr hr=>(all r hr).2,ui λr hr=>(all r hr).1];have e1:=i4 lf (l:=nĐ) Ň;have e2:fU (nĐ)=mĵ+1+(fU (kÏ)+fU (kÐ)):=by simp[fU,List.sum_append]
 have e3:=tO (k:=48) (l:=kÏ) λr hr=>by let⟨n,hn,rfl⟩:=bķ;show(hR n hn).1
 have e4:=tO (k:=121) (l:=kÐ) λr hr=>by let⟨n,hn,rfl⟩:=bķ;show(hC n hn).1
 rw[af] at e3 e4;change(jŐ).length<=560;omega
def Fq (x:Str):fU (ϲ)=că:=by have hj:=iτ;rw[<- cf] at hj;rw[<- i4 (sep:=ϕ) ϙ (fh x Ϣ),hj]
theorem CU.k {a:Rd}(h:CU a):K0 500 a:=#[aP h.1 kÚ,λz hz=>#[aP cõ.1 kÚ,aP cõ.2 kÚ]]
def zL {p:Int}:ox p gþ=none:=by
 cases h:ox p gþ with
 | none=>rfl
 | some r=>have:=congrArg iĮ bĨ;simp![kx] at this;rw[show kī by decide+kernel] at this;simp at this
open Classical in
theorem FA {p:Int}{R:Rm}{T:Tm}{row:Str}(ha:aő): (cą /\ fÂ=none) \/(∃n x,fE (kη) kÛ (x.length<=row.length /\ bK x) (fÂ=if Ŗ then(match aŌ with
   | aō=>mϬ
   | none=>none) else none)) \/
  (∃n ms,fE (aŖ=jŎ) kÛ (ms.length<=dο /\ ∀m∈ms,m.length<=row.length /\ bK m) (fÂ=mϔ)):=by
 let⟨w0,ls,hw⟩: lϏ:=by
  cases e:ϳ with
  | nil=>show gĩ
  | cons a b=>show cĆ
 have Gd:=gx hw
 have _E:=iY ha hw
 have Rw:=i8 hw
 have Yb:=lſ
 cases ls with
 | nil=>exact .inl #[by unfold gS;rw[hw],?_];unfold jd;rw[kŠ]
 | cons n ms=>
  have e1:aŖ=if iĴ then mΩ else mŝ:=by unfold gS;rw[hw]
  have e2:fÂ=if iĴ then(if Ŗ then(match ox p (jŏ) with
  | aō=>mϬ
  | none=>none) else none)
  else if ið then(mϔ)
  else none:=by unfold jd;rw[kŠ];try rfl
  by_cases h1:iĴ
  rw[aÊ] at e1 e2
  by_cases h2:ms= []
  rw[aF h2] at e1
  exact .inl #[e1,?_]
  rw[e2,h2,show glued ϛ []=fġ from eM ϙ,zL]
  split<;>rfl
  rw[aC h2] at e1
  show .inr (.inl #[n,_,e1,kĹ,#[dχ.1,dχ.2 ha],e2])
  rw[aË] at e1 e2
  by_cases h2:ið
  rw[aF h2] at e1 e2
  show .inr (.inr #[n,ms,e1,kĹ,#[by simp at Rw;omega,λm hm=>#[Gd m eĲ,_E m eĲ]],e2])
  rw[aC h2] at e1 e2
  show .inl #[e1,e2]
def uO {α:Type}{T:ż}{n:Str}:(aŀ).isSome=decide (n∈dŴ):=by by_cases h:n∈dŴ;rw[aH h];let⟨z,hz,rfl⟩:=aG.mp h;let⟨a,ha⟩:=nj hz;rw[ha];rfl;rw[ay h,CA h];rfl
def Ia {p:Int}{R R':Rm}{T T':Tm}{row:Str}(hr:jŌ):mś:=by
 unfold jd at hr;split at hr;rename_i w n ms gC;have h2:=wB gC;split at hr;rename_i hw;split at hr;rename_i hn;let⟨Ta,_,_⟩:=hW hn;split at hr;simp only at hr;split at hr;cases hr;cases hr;have:w.length=5:=by rw[hw];decide+kernel
 show jϗ;cases hr;cases hr;split at hr;rename_i hw;split at hr;rename_i hc;let⟨Ta,_,_⟩:=hW hc.1;cases hr;have:w.length=4:=by rw[hw];decide+kernel
 show#[by omega,by simp,bį];cases hr;cases hr;cases hr
theorem qW {p:Int}: ∀ {rows:ê} {R R':Rm} {T T':Tm},dI aŐ Ú rows=dμ ->nÚ
 | [],R,R',T,T',h=>by cases h;show kÖ
 | bĬ,R,R',T,T',h=>by
  unfold dI at h;cases h1:jd p Ú r with
  | none=>rw[h1] at h;cases h
  | some s=>
   rw[h1] at h;let⟨a1,a2,a3⟩:=Ia (R':=s.1) (T':=s.2) h1;let⟨b1,b2,b3⟩:=qW (R:=s.1) (T:=s.2) h;have e:kĆ:=by simp[fU]
   show mÏ
def Qr {r0:Str}(h:nę): ∃p,È /\ aΧ /\ Txt.slice r0 (some 9) none=iϣ:=by obtain rfl | rfl | rfl | rfl:=h;show#[2, Ĥ,by decide+kernel,by decide+kernel];show#[3, .inr ř,by decide+kernel,by decide+kernel];show#[5, .inr (.inr ř),by decide+kernel,by decide+kernel];show#[7, .inr gĪ,by decide+kernel,by decide+kernel]
def SH {r0:Str}{p:Int}(hp:È)(h:aΧ):nę :=by subst h;obtain rfl | rfl | rfl | rfl:=hp;show .inl ϙ;show kÜ;show .inr (kÜ);show .inr (.inr (.inr ϙ))
def JQ (s a b c d:Str):Cp bħ [aĊ, aċ, .str c, .str d]=decide (s=a \/ s=b \/ s=c \/ s=d):=by
 change(hŎ || (hŏ || (qY (.str c) bħ || (qY (.str d) bħ || false))))=_;have e: lđ:=λy=>by simp[qY];show eq_comm
 rw[Bool.or_false,eh,dE,dE,dE,c_,e,e,e,e]
theorem FR {n:Str}{l:ê}{M:Mp}{a:iB}{q:WK}(ha:M a=iî)(h:q (wb (! aļ)) M):Zb true (ws n) aį M q:=#[.str n,cϒ,rfl, .inr #[a,rfl,by rw[ha,ba];rfl],rfl,xm l,h]
structure tI (M0 M:Mp)(d l nl r t:Addr)(ns:aϟ)(R:Rm)(T:Tm):Prop where
 dr:bð
 mr:hΥ
 mt:hΦ
 mn:M nl=iİ
 fs:Fs d M0 M
 ne:dh (r≠t) (r≠d) (t≠d)
 S4:dh (r≠l) (t≠l) (nl≠d)
 r0:M0 r=none
 t0:M0 t=none
section
variable {M0 M:Mp}{d l nl r t:iB}{ns:ê}{R:Rm}{T:Tm}
def tI.nb (h:iϵ){M':Mp}(D:ŕ)(b:bς):tI M0 M' d l nl r t ns R T:=by let⟨h1,h2,h3,h4,h5,⟨a1,a2,a3⟩,⟨a4,a5,a6⟩,h6,h7⟩:=h;show#[D,by rw[b _ a2];show h2,by rw[b _ a3];show h3,by rw[b _ a6];show h4,λa o e n=>by rw[b _ n];show h5 a o e n,#[a1,a2,a3],#[a4,a5,a6],h6,h7]
theorem tI.new (h:iϵ){u:iB}{o:MO}(hu:ŀ):kθ:=
 have s:=aN (o:=o) hu
 #[h.dr.put hu,s _ _ h.mr,s _ _ h.mt,s _ _ h.mn,h.fs.new hu,h.ne,h.S4,h.r0,h.t0]
def tI.upd (h:iϵ){u:iB}{o:MO}{x:Æ}(hx:M u=eĔ)(VV:M0 u=none)(hn:dh (u≠d) (u≠l) (u≠nl)):kθ:=by
 have h2:=h.mr;have h3:=h.mt;let⟨n1,n2,n3⟩:=hn;have nr:u≠r:=λz=>by rw[z,h2] at hx;cases hx
 have nt:u≠t:=λz=>by rw[z,h3] at hx;cases hx
 show#[h.dr.vP n1 n2,by rw[aR nr.symm];show h2,by rw[aR nt.symm];show h3,by rw[aR n3.symm];show h.mn,λa o e n=>by rw[aR λz=>by rw[z,VV] at e;cases e];show dψ,h.ne,h.S4,h.r0,h.t0]
def tI.ZL (h:iϵ)(R':Rm):tI M0 (um M r eĳ) d l nl r t ns R' T:=by
 have h4:=h.mn;have h2:=h.mr;let⟨a1,a2,a3⟩:=h.ne;let⟨a4,a5,a6⟩:=h.S4;have nr:nl≠r:=λz=>by rw[z,h2] at h4;cases h4
 show#[h.dr.vP a2 a4,am,by rw[aR a1.symm];show h.mt,by rw[aR nr];show h4,λa o e n=>by rw[aR λz=>by rw[z,h.r0] at e;cases e];show dψ,h.ne,h.S4,h.r0,h.t0]
def tI.Io (h:iϵ)(T':Tm):tI M0 (um M t (.dK aΩ)) d l nl r t ns R T':=by
 have h4:=h.mn;have h2:=h.mt;let⟨a1,a2,a3⟩:=h.ne;let⟨a4,a5,a6⟩:=h.S4;have nr:nl≠t:=λz=>by rw[z,h2] at h4;cases h4
 show#[h.dr.vP a3 a5,by rw[aR a1];show h.mr,am,by rw[aR nr];show h4,λa o e n=>by rw[aR λz=>by rw[z,h.t0] at e;cases e];show dψ,h.ne,h.S4,h.r0,h.t0]
universe e
def zX {n:Str}(h:Ŗ):dŭ /\ bK n:=by let⟨_,h2,h3⟩:=hW h;exact#[h2,fO.mpr cϖ];have:=h3 c hc;unfold CY at this;omega
def Km {p:Int}{g:Int}{ps:Pt}(hp:È)(h1: -202<=g)(h2:g<=202)(hl:fĝ <=3)(hz: ∀z∈ps, -202<=z.1 /\ z.1<=202):(g.natAbs<Â /\ fΒ<=3) /\ ∀y∈aπ,kķ:=by
 have p0:0<p /\ p<=7:=by unfold P4 at hp;omega
 have hP:f8 p bο:=pB Ť ps;exact#[#[by omega,az (MA p ps) Ť],cŉ];let⟨y',hy',e⟩:=Q8 hy;have h3:=hz y' hy';have h4:=hP.1 y hy;omega
def tI.free {M0 M:Mp}{d l nl r t:iB}{ns:ê}{R:Rm}{T:Tm}(h:iϵ){v:iB}(hv:M v=none):dh (M0 v=none) (v≠r) (dh (v≠d) (v≠l) (v≠nl)):=by
 let⟨h1,h2⟩:=h.dr.ne hv;exact#[?_,λz=>(by rw[z,h.mr] at hv;cases hv),h1,h2,λz=>(by rw[z,h.mn] at hv;cases hv)];cases e:M0 v with
 | none=>rfl
 | some o=>rw[h.fs v o e h1] at hv;cases hv
theorem sV: ∀ {L:ê} {i:Nat} {y:Str},fU cϻ+hŕ<=eĴ+(if i<L.length then 0 else hŕ)
 | [],i,y=>by simp[fU]
 | x::L,0,y=>by simp[fU];omega
 | x::L,i+1,y=>by have:=iĵ;simp![fU,List.set_cons_succ,av,List.sum_cons,List.getD_cons_succ,ax,Nat.add_lt_add_iff_right] at this ⊢;omega
def Br {L:ê}{i:Nat}{y:Str}{k:Nat}(hy:y.length<=k):fU cϻ <=fU L+k:=by have:=iĵ;split at this<;>omega
theorem wx: ∀ {L:ê} {i:Nat},fU fÉ <=fU L
 | [],i=>by simp
 | x::L,0=>by simp[fU]
 | x::L,i+1=>by have:=wx (L:=L) (i:=i);simp![fU,List.eraseIdx_cons_succ,av,List.sum_cons] at this ⊢;omega
def LF {L:ê}{i:Nat}{y:Str}:fU iĶ=eĴ+1:=by have h:=sW (bĸ) (bĹ);rw[bL] at h;rw[sW,h];simp[fU];omega
def Hf {L:ê}{i j:Nat}(hi:i<L.length)(hj:j<L.length):fU ((dω).set j L[i]) <=fU L:=by
 have h1:=sV (L:=L) (i:=i) (y:=L[j]);have h2:=sV (L:=dω) (i:=j) (y:=L[i]);rw[aF hi] at h1;rw[aF hó] at h2;have e1:dÀ =L[i]:=by rw[List.getD_eq_getElem?_getD,aT hi];rfl
 have e2:(dω).getD j "" =L[j]:=by rw[List.getD_eq_getElem?_getD,aT hó];simp![Option.getD_some,List.getElem_set];split<;>rfl
 rw[e1] at h1;rw[e2] at h2;omega
universe WQ
namespace WQ
theorem wY {α β:Type}(f:α ->β): ∀ (l:Ì) (i:Nat),hŖ=(dĩ).map f
 | [],_=>rfl
 | x::l,0=>rfl
 | x::l,i+1=>by change f x::hŖ=_;rw[wY f l i];rfl
universe WQ
namespace WQ
open PySem L2 WL WP Builtin.Str
theorem rC.mono {k k':Nat}{x:Str}(h:aŕ)(hk:k<=k'):rC k' x:=λb h1 h2=>az (h b h1 h2) hk
def RD.uniq {p p':Int}{R R':Rm}{T T':Tm}{x:Str}(hp:È)(h:cć)(h':RD p' R' T' x):dh (p'=p) (R'=R) (T'=T):=by let⟨r0,rs,e1,e2,e3,e4⟩:=h;let⟨r1,rs1,f1,f2,f3,f4⟩:=h';rw[e1] at f1;cases f1;obtain rfl:=xZ hp (e2.symm.trans f2);rw[e3] at f3;cases f3;show#[rfl,rfl,rfl]
universe WQ
namespace WQ
def HW (i:Nat):2*fŃ+2<=123*2 ^ Ð - 2:=by have h1:1<=2 ^ i:=Nat.one_le_two_pow;rw[Nat.pow_succ];omega
universe WQ
namespace L2
open PySem PySem.Spec PyProof.Rows
theorem wZ: ∀a b:ü,ltCps a b=true↔a<b
 | [],[]=>by simp[ltCps]
 | [],_::_=>by simp[ltCps]
 | _::_,[]=>by simp[ltCps]
 | a::r,b::t=>by rw[ltCps,dE,cx,List.cons_lt_cons_iff,wZ r t];simp
theorem wR: ∀ {l:ê} {p:Str},risingS p l=true ->(p::l).Pairwise kź
 | [],p,_=>by simp
 | x ::r,p,h=>by
  rw[risingS,cx] at h;have h1:¬x.cps.toList<p.cps.toList:=λz=>by have:=(wZ _ _).mpr z;rw[this] at h;show absurd h.1 ⋯
  have ih:=wR h.2;exact bT.mpr #[cŉ,ih];obtain rfl | hy:=bÒ;show h1;show List.not_lt.mpr (List.le_trans hï (List.not_lt.mp ((bT.mp ih).1 y hy)))
def BP {l:ê}(h:sortedS l=true):l.Pairwise kź:=by
 cases l with
 | nil=>show List.Pairwise.nil
 | cons x r=>show wR h
theorem ku {n:Nat}(h:n<=63):cŗ:=iĢ
section
variable {prog:pF}{w:World}{A:Around}{E:Ε}{s:eY}
theorem BF {a:iB}{vs:Ê}{ns:û}{n:Nat}{P:fĘ}(ho:lΛ) (hI:eÏ) (hsz:eĵ) (h: ∀ (out:Ġ) (Bh:û),IntsAre out.toList Bh ->Bh.Perm ns ->Bh.Pairwise (· <= ·) ->mŐ): mŦ:=list_sort_tree ho hI iķ h
def BE {a:iB}{vs:Ê}{ss:ê}{n:Nat}{P:fĘ}(ho:lΛ) (hI:StrsAre vs ss) (hsz:eĵ) (h: ∀ (out:Ġ) (UL:ê),StrsAre out.toList UL ->UL.Perm ss ->UL.Pairwise (kź) ->mŐ): mŦ:=by exact list_sort_treeK strKind_oneLt ho hI.keysOf (λv₁ v₂ rest e=>keyKind_strs (by rw[<- e];show hI)) iķ λDu hp hs=> ?_;let⟨UL,h1,h2,h3⟩:=sorted_out_str hI hp hs;show h _ UL h1 h2 (BP h3)
universe e
section
variable {X:Cx}
def wQ:ϧ:=λxs H Q=>gh λ aĶ fϊ (ks:û)=>gX eϣ hĽ kĉ fń (∀ (p:iB) (ns:û),İ ->cĈ ->iÔ ->Q ĭ (upd H p (.lst eπ)))
def wa (hc:ũ):eN X hô wQ:=by
 intro ag s σ H xs us Q I r h;let⟨d,kvs,ks,rfl,hd,hk,Pf,q⟩:=h;let⟨u,rfl,ru⟩:=Ĕ;cases ru;have hh:hĴ:=bϭ;let⟨hz,lo,vs,jl,dd⟩:=có;let⟨ep,Lw⟩:=dd.dictAt;have eD:hÅ:=by have e1:=iĸ;rw[af,af] at e1;rw[<- jl.length,e1]
 exact mϥ;unfold Builtin.«sorted»;exact lī;exact nį;have hl:jā:=by rw[Array.length_toList,Cw.1,eD]
 have hI:IntsAre gN.toList ks:=Er hl λj v e=>by
  let⟨k,x,hx,hki⟩:=lϡ;have J1:jν:=by
   have:jő:=by rw[aD,hx];rfl
   rw[<- jl.keys] at this;show this
  rw[hk,aD] at J1;cases e2:ks[j]? with
  | none=>rw[e2] at J1;cases J1
  | some n=>
   rw[e2] at J1;cases J1;have RM:rT (Sum.inl n) v=true:=hki;rcases d7 RM with⟨i,t,e3,e4⟩ | ⟨x,t,e3,e4⟩
   cases e3;show eĶ;cases e3
 exact lŪ;have ho:nø:=Ģ;exact aq (cc (wpAny_call_entry slot_list_sort cŋ entry_list_sort (BF (s:= mŧ) ho hI hõ kÝ) gΨ));let⟨ee,RX⟩:=jŒ;have I':lā:=hö;exact aV #[_,rfl, gà,_,I'.laid (t':=tk) (o:= .lst (Bh.map V.int)) fŅ ï ?_,rfl,kš];have j9:fÊ:=aI hb;rw[mς];show ar _ hb;exact#[?_,out.toList,ee,qB a1, ⇑RX];rw[af,a2.length_eq];show ku Pf
universe e
section
variable {X:Cx}{tg o e:Expr}{td ty:TE}{eK dM:Pos}
def wP:ϧ:=λxs H Q=>gh λ aĶ fϊ (ks:ê)=>gX eϣ hĽ kĊ fń (∀ (p:iB) (ns:ê),İ ->cĈ ->lϐ ->Q ĭ (upd H p (.lst eϤ)))
def fM (hc:ũ):eN X hô wP:=by
 intro ag s σ H xs us Q I r h;let⟨d,kvs,ks,rfl,hd,hk,Pf,q⟩:=h;let⟨u,rfl,ru⟩:=Ĕ;cases ru;have hh:hĴ:=bϭ;let⟨hz,lo,vs,jl,dd⟩:=có;let⟨ep,Lw⟩:=dd.dictAt;have eD:hÅ:=by have e1:=iĸ;rw[af,af] at e1;rw[<- jl.length,e1]
 exact mϥ;unfold Builtin.«sorted»;exact lī;exact nį;have hl:jā:=by rw[Array.length_toList,Cw.1,eD]
 have hI:StrsAre gN.toList ks:=Ds hl λj v e=>by
  let⟨k,x,hx,hki⟩:=lϡ;have J1:jν:=by
   have:jő:=by rw[aD,hx];rfl
   rw[<- jl.keys] at this;show this
  rw[hk,aD] at J1;cases e2:ks[j]? with
  | none=>rw[e2] at J1;cases J1
  | some n=>
   rw[e2] at J1;cases J1;have RM:rT (Sum.inr n) v=true:=hki;rcases d7 RM with⟨i,t,e3,e4⟩ | ⟨x,t,e3,e4⟩
   cases e3;cases e3;show eĶ
 exact lŪ;have ho:nø:=Ģ;exact aq (cc (wpAny_call_entry slot_list_sort cŋ entry_list_sort (BE (s:= mŧ) ho hI hõ kÝ) gΨ));let⟨ee,RX⟩:=jŒ;have I':lā:=hö;exact aV #[_,rfl, gà,_,I'.laid (t':=tk) (o:= .lst (Bh.map V.str)) fŅ ï ?_,rfl,kš];have j9:fÊ:=aI hb;rw[mς];show ar _ hb;exact#[?_,out.toList,ee,oX a1, ⇑RX];rw[af,a2.length_eq];show ku Pf
universe e
universe L2
namespace WL
open PySem PySem.Spec L2
section
variable {K:jv}
def Fg:y8:=λxs M q=>gh λ aĶ fϋ (ks:û)=>gX dŜ hľ kĉ fń (∀ (p:iB) (ns:û),Ĵ ->cĈ ->iÔ ->q þ (um M p (.lst cη)))
instance:IC K wQ Fg where
 imp:=by rintro xs v M H q Q m r1 ⟨d,kvs,ks,rfl,hd,hk,hl,h⟩ k;let⟨v,rfl,r⟩:=r1.one;cases r.eq;let⟨vs,hv,rr⟩:=bĈ;show#[d,vs,ks,rfl,hv,by rw[rr.keys];show hk,hl,λp ns hp h1 h2=>k _ _ _ _ jœ Ϛ (m.pC hp (cO.ofInts ns)) WR.v]
def Ff:y8:=λxs M q=>gh λ aĶ fϋ (ks:ê)=>gX dŜ hľ kĊ fń (∀ (p:iB) (ns:ê),Ĵ ->cĈ ->lϐ ->q þ (um M p gΥ))
instance:IC K wP Ff where
 imp:=by rintro xs v M H q Q m r1 ⟨d,kvs,ks,rfl,hd,hk,hl,h⟩ k;let⟨v,rfl,r⟩:=r1.one;cases r.eq;let⟨us,e,rr⟩:=bĈ;show#[d,us,ks,rfl,e,by rw[<- El rr];show hk,hl,λp ns hp h1 h2=>k _ _ _ _ jœ Ϛ (m.pC hp (zq ns)) WR.v]
universe e
universe WL
namespace WQ
open PySem L2 WL WP Builtin.Str
def bI (c:Nat)(x:Str):Nat:=hŗ
def fH (c:Nat)(l:ê):Nat:=(l.map (bI c)).sum
def gc {c:Nat}(a b:Str):bI c (a++b)=bI c a+bI c b:=by unfold bI;rw[bD,bS]
theorem mT {c:Nat}{x:Str}(h:fϓ):aŗ=0:=List.count_eq_zero.mpr h
def vo {c:Nat}{a b:ü}(h:a.Sublist b):a.count c<=b.count c:=by change a.countP _<=b.countP _;show h.countP_le
theorem EX {c:Nat}{x y:Str}(h:x.cps.toList<:+:y.cps.toList):aŗ<=bI c y:=vo h.sublist
def bZ {c:Nat}{x:Str}{l:ê}:fH c aĝ=aŗ+aŘ:=by simp[fH]
theorem f_ {c:Nat}{sep:Str}: ∀ {l:ê},bI c (cϯ) <=aŘ+(dĨ)*bI c sep
 | []=>by have e:jϖ:=rfl;unfold bI;rw[e];simp
 | [x]=>by unfold bI;rw[bY];simp[fH,bI]
 | bĴ=>by
  have ih:=f_ (c:=c) (sep:=sep) (l:=y::l);have e:mŭ:=by unfold bI;rw[bY,bY,bS,av,db,bS,bS,bS];omega
  rw[e,bZ];have:(aΨ).length - 1=(y::l).length - 1+1:=by simp
  rw[this,Nat.add_mul];omega
theorem vk {c:Nat}{sep:Str}: ∀ {l:ê},aŘ<=bI c (cϯ)
 | []=>by simp[bI,fH]
 | [x]=>by unfold bI;rw[bY];simp[fH,bI]
 | bĴ=>by
  have ih:=vk (c:=c) (sep:=sep) (l:=y::l);have e:mŭ:=by unfold bI;rw[bY,bY,bS,av,db,bS,bS,bS];omega
  rw[e,bZ];omega
def wO (x:Str):lĔ<=bI 10 x+1:=by
 have hj:=iτ;rw[<- cf] at hj;have key: ∀l:ê,l.length<=bI 10 jϘ+1:=λl=>by
  induction l with
  | nil=>simp
  | cons x l ih=>
   cases l with
   | nil=>simp
   | cons y l=>
    have e:bI 10 (kΤ)=bI 10 x+(bI 10 Ϣ+bI 10 (kĶ)):=by unfold bI;rw[bY,bY,bS,av,db,bS,bS,bS];omega
    have e1:bI 10 Ϣ=1:=by decide+kernel
    rw[ax,e];omega
 have:=key (ϲ);rw[hj] at this;show this
theorem NE {c:Nat}{x sep:Str}: ∀r∈fŁ,bI c r<=aŗ:=λr hr=>by have hj:=bİ;rw[<- cf] at hj;have h1:=xh (sep:=sep) hr;rw[hj] at h1;show EX h1
def vm {c:Nat}{x sep:Str}:fH c (fŁ) <=aŗ:=by have hj:=bİ;rw[<- cf] at hj;have:=vk (c:=c) (sep:=sep) (l:=fŁ);rw[hj] at this;show this
theorem xA: ∀l:ê,(l.filterMap jq).length<=fH 61 l
 | []=>by simp[fH]
 | w :: l =>by
  have ih:=xA l;rw[bZ,c7];cases h:jq w with
  | none=>simp only;omega
  | some z=>
   have h1:1<=bI 61 w:=by
    unfold jq at h;split at h;rename_i hf;rcases pT w 61 with⟨e,oK⟩ | ⟨a,b,e1,e2,e3⟩
    rw[gK] at hf;rw[e] at hf;omega;unfold bI;rw[e1];simp;omega;cases h
   simp![ax];omega
def HC {row a n:Str}{ms:ê}(h:ϳ=a::Ù):bI 61 (jŏ) <=bϑ:=by have hj:=bW row ϛ;rw[h, <- cf] at hj;let⟨p1,h1⟩:=kĄ;let⟨p2,h2⟩:=jý;exact EX #[p1++p2,[],?_];rw[<- hj,h1,h2];simp
def qk {x y:Str}{a b:Nat}{s:ü}(hs:cϸ)(Pc:a<=b)(e:mċ)(c:Nat):bI c y<=aŗ+2:=by
 unfold bI;rw[e,bS,bS];have h1:s.count c<=s.length:=List.count_le_length;have h2:(hò).count c<=jϛ:=by
  have:hò=(hì).drop (b - a):=by rw[List.drop_drop];congr 1;omega
  rw[this];show jĂ
 have h3:(hñ).count c+jϛ=hŗ:=by rw[<- bS,bL]
 omega
theorem EY {c:Nat}{l:ê}{r:Str}(h:r∈l):bI c r<=aŘ:=yE (aG.mpr #[r,h,rfl])
theorem qm {c:Nat}: ∀ {L:ê} {i:Nat} {y:Str},fH c cϻ <=fH c L+bI c y
 | [],i,y=>by simp[fH]
 | x::L,0,y=>by rw[List.set_cons_zero,bZ,bZ];omega
 | x::L,i+1,y=>by have:=qm (c:=c) (L:=L) (i:=i) (y:=y);rw[List.set_cons_succ,bZ,bZ];omega
theorem vn {c:Nat}: ∀ {L:ê} {i:Nat},fH c fÉ <=fH c L
 | [],i=>by simp
 | x::L,0=>by rw[List.eraseIdx_cons_zero,bZ];omega
 | x::L,i+1=>by have:=vn (c:=c) (L:=L) (i:=i);rw[List.eraseIdx_cons_succ,bZ,bZ];omega
def qo {c:Nat}(l l':ê):fH c aη=aŘ+fH c l':=by simp[fH]
def KA {c:Nat}{L:ê}{i:Nat}{y:Str}:fH c iĶ=fH c L+bI c y:=by have h:=qo (c:=c) (bĸ) (bĹ);rw[bL] at h;rw[qo,bZ,h];omega
def Lz (n:Str):Prop:=bK n /\ 10∉n.cps.toList /\ 61∉n.cps.toList
theorem qP {n:Str}(h:Ŗ):dŭ /\ Lz n:=#[(zX h).1,(zX h).2,jy h 10 ⋯,jy h 61 ⋯]
structure KY (R:Rm)(T:Tm):Prop where
 r6:cϹ
 t2:cϺ
 rr: nĚ
 tn:hņ
 tt: ∀z∈T,mύ
theorem KY.std {R:Rm}{T:Tm}(h:KY R T):WF R T:=#[h.r6,h.t2,λz hz=>by let⟨h1,h2,h3,h4⟩:=bϏ;show#[h1,h2.1,h3,h4],h.tn,λz hz=>by let⟨h1,h2,h3,h4⟩:=bϐ;show#[h1,h2.1,h3,λm hm=>#[(h4 m hm).1,(h4 m hm).2.1]]]
def KY.aeK {p:Int}{R:Rm}{T:Tm}(h:KY R T):bI 10 cú <=8 /\ bI 61 cú <=18:=by
 have nf: ∀ {n:Int} {c:Nat},dΑ ->bI c jĽ=0:=λ{n c} hc=>mT (me (by obtain rfl | rfl:=hc <;>omega));have s0: ∀ {c:Nat},dΑ ->bI c (mÎ)=0:=λ{c} hc=>by rw[gc,nf hc];obtain rfl | rfl:=hc <;>decide+kernel
 have O8: ∀z,bI 10 aŋ=0 /\ bI 61 aŋ=1:=λz=>by
  unfold bR;rw[gc,gc,gc,gc];have e1:=nf (n:=z.1) iχ;have e2:=nf (n:=z.2) iχ;have e3:=nf (n:=z.1) iψ;have e4:=nf (n:=z.2) iψ;have e5:bI 10 gΞ=0:=by decide+kernel
  have e6:bI 61 gΞ=1:=by decide+kernel
  show#[by change bI 10 (jŀ)+bI 10 gΞ+bI 10 (jń)=0;omega,by change bI 61 (jŀ)+bI 61 gΞ+bI 61 (jń)=1;omega]
 have G8: ∀l:eð,fH 10 (bģ)=0 /\ fH 61 (bģ)=l.length:=λl=>by
  induction l with
  | nil=>simp[fH]
  | cons z l ih=>rw[av,bZ,bZ,(O8 z).1,(O8 z).2,ih.1,ih.2];simp;omega
 have b10:bI 10 ϛ=0:=by decide+kernel
 have b61:bI 61 ϛ=0:=by decide+kernel
 have MY: ∀a:Rd,bI 10 aı=0 /\ bI 61 aı <=cå:=λa=>by
  rw[eE];have g1:=f_ (c:=10) (sep:=ϒ) (l:=lū);have g2:=f_ (c:=61) (sep:=ϒ) (l:=lū);rw[b10,bZ,(G8 a.2).1,gc] at g1;rw[b61,bZ,(G8 a.2).2,gc] at g2;have e1:=nf (n:=a.1) iχ;have e3:=nf (n:=a.1) iψ;have e5:bI 10 gΝ=0:=by decide+kernel
  have e6:bI 61 gΝ=0:=by decide+kernel
  have e7:bI 10 gΑ=0:=e1;have e8:bI 61 gΑ=0:=e3;have e9:bI 10 cĄ=0:=e5;have Yv:bI 61 cĄ=0:=e6;show#[by change bI 10 (jø)=0;omega,by change bI 61 (jø) <=_;omega]
 have hR: ∀n∈gČ,lá:=λn hn=>by
  let⟨a,hg⟩:=aÝ;let⟨z,hz,rfl,rfl⟩:=Ö;let⟨_,h2,⟨_,h4⟩,_⟩:=bϏ;have er:mń:=by unfold di;rw[hg]
  let⟨g1,g2⟩:=MY z.2;have e1:bI 10 (hΩ)=0:=by decide+kernel
  have e2:bI 61 (hΩ)=0:=by decide+kernel
  have e3:=mT h2.2.1;have e4:=mT h2.2.2;rw[er,gc,gc,gc,gc,gc,gc,b10,b61];omega
 have hC: ∀n∈gč,kϟ:=λn hn=>by
  let⟨a,hg⟩:=aÝ;let⟨z,hz,rfl,rfl⟩:=Ö;let⟨_,h2,_,h4⟩:=bϐ;have er:mŜ:=by unfold eO;rw[hg]
  have hm: ∀l:ê,(∀m∈l,Lz m) ->fH 10 l=0 /\ fH 61 l=0:=λl hl=>by
   induction l with
   | nil=>simp[fH]
   | cons m l ih=>have hm:=hl m Ň;rw[bZ,bZ,mT hm.2.1,mT hm.2.2,(jϜ).1,(jϜ).2];show bϱ
  have e1:bI 10 (ϡ)=0:=by decide+kernel
  have e2:bI 61 (ϡ)=0:=by decide+kernel
  have g1:=f_ (c:=10) (sep:=ϒ) (l:=kÙ);have g2:=f_ (c:=61) (sep:=ϒ) (l:=kÙ);rw[b10,bZ,bZ,e1,mT h2.2.1,jξ.1] at g1;rw[b61,bZ,bZ,e2,mT h2.2.2,jξ.2] at g2;rw[er];omega
 have ll1:jϙ:=by rw[fϡ,af];show h.r6
 have ll2:jϚ:=by rw[fϡ,af];show h.t2
 have Zy: ∀l:ê,(∀n∈l,lá) ->fH 10 fË=0 /\ fH 61 fË <=3*l.length:=λl hl=>by
  induction l with
  | nil=>simp[fH]
  | cons n l ih=>have h1:=hl n Ň;have h2:=jϜ;rw[av,bZ,bZ,ax];omega
 have Zz: ∀l:ê,(∀n∈l,kϟ) ->fH 10 fÌ=0 /\ fH 61 fÌ=0:=λl hl=>by
  induction l with
  | nil=>simp[fH]
  | cons n l ih=>have h1:=hl n Ň;have h2:=jϜ;rw[av,bZ,bZ];omega
 have q1:=Zy _ hR;have q2:=Zz _ hC;have _j:bI 10 Ϣ=1:=by decide+kernel
 have _i:jŔ:=by decide+kernel
 have g1:=f_ (c:=10) (sep:=ϕ) (l:=nĐ);have g2:=f_ (c:=61) (sep:=ϕ) (l:=nĐ);rw[_j,bZ,qo,s0 ř,q1.1,q2.1,ax,aE,af,af] at g1;rw[_i,bZ,qo,s0 (ĥ),q2.2] at g2;unfold gV;show#[by change bI 10 (jŐ) <=8;omega,by change bI 61 (jŐ) <=18;omega]
def QO:iR:=λxs M q=>gh λ aĨ Ě (ps:Pt)=>oR (xs= [Ç,wr a]) (M a=iĹ) (0<p) (Few ps) (ps.length<=63) (q (oB bο) M)
def IN (B C:iB):iR:=λxs M q=>qu λ Ϡ=>jD λ Ě ϓ=>cU λ Ā ā=>fE dŲ ϶ (dΒ) (∀ (u:iB) (ns:ê),ŀ ->iß ->m϶)
def IW (B C:iB):iR:=λxs M q=>qu λ Ϡ=>jD λ Ě ϓ=>cU λ Ā ā=>fE dŲ ϶ (dΔ) (∀ (u:iB) (ns:ê),ŀ ->ns.Perm (dŴ) ->m϶)
def BU (B C:iB):iR:=λxs M q=>qu λ Ϡ=>jD λ Ě ϓ=>cU λ Ā ā=>oR dŲ ϶ jå (bĔ) kÞ (hä)
def zQ:iR:=λxs M q=>qu λ Ě (r t:iB) Ā ā=>oR (xs= [Ç, fϣ]) lϑ jå (aŅ) kÞ (hä)
def ID (B C:iB):iR:=λxs M q=>XE7 λ(b la lu lh now r t:iB)=>jD λ Ě ϓ=>cU λ Ā ā=>GI (xs= [Ç,wr b, fϣ]) ϶ lϑ (aľ) (CQ T /\ iη) kÞ (eü)
def Mn:iR:=λxs M q=>cU λ Ě aΛ=>KQ gē (2<=p) (0<x.length) fķ jô (bI 61 x<=63) (∀r:Rd,bĠ ->aň -> ∀u,ŀ ->q aŁ (um M u (.lst [kF r]))) ((jŉ) -> ∀u,ŀ ->q aŁ (fϤ))
def IK:iR:=λxs M q=>gh λ Ě (r t:iB)=>gh λ Ā ā bό=>KQ (xs= [Ç, fϣ,aŒ]) (È) (r≠t) lϑ (ł /\ R.length<=700 /\ T.length<=700) (fŀ /\ aő /\ bϑ<=63) (∀R' T' M',jŌ ->M' r=some eĳ ->iĺ ->dÂ ->q (aγ) M') (fÂ=none -> ∀M',dÂ ->q cÕ M')
def QY:iR:=λxs M q=> ∃x:Str,GI dź fņ ař mã (lŬ /\ bI 61 x<=63) (∀p R T,È ->cć ->ł ->dΒ ->dΔ -> ∀u r t M',M' u=some (kϠ) ->iñ ->M' t=gĈ ->ę ->cϪ) (kß -> ∀u M',ę ->M' u=fÍ ->cϪ)
def IH (B C X:iB):fZ:=λxs M q e=> ∃x:Str,GI dź fņ ař mã (lŬ) (∀p R T,È ->cć -> ∀b la lu lh now M',lö ->ę ->cϴ) (kß -> ∀M',ę ->e X M')
def Vd (B C:iB):iR:=λxs M q=> ∃x:Str,GI dź fņ ař mã (lŬ) (∀p R T,È ->cć -> ∀b la lu lh now u M',lö ->ę ->M' u=some (.lst aĠ) ->cϪ) (kß -> ∀u M',ę ->M' u=some (lĕ) ->cϪ)
def Vg:iR:=λxs M q=>gh λ bù aΛ=>gX gī cä fņ ař (∀ (y:Str) (M':Mp),y.length<=că ->bK y ->(∀k,aŕ ->dς) ->(∀c,bI c y<=aŗ+2) ->kΦ)
def QQ:iR:=λxs M q=>gh λ bù aΛ=>GI gī cä (x.length<=560) ař (rC 121 x) (bI 10 x<=8 /\ bI 61 x<=18) (∀ (y:Str) (M':Mp),y.length<=684 ->bK y ->rC 121 y ->(bI 10 y<=9 /\ bI 61 y<=54) ->kΦ)
def QV:iR:=λxs M q=>qu λ(d l nl:iB) Ě (ns:ê)=>GI (xs= [wr d,Ç,wr nl]) cä (È) (M nl=iİ) (nl≠d) (ns.length=8 /\ ∀n∈ns,Ŗ) (∀ (r t:iB) (R:Rm) (T:Tm) (M':Mp),iñ ->M' t=gĈ ->KY R T ->ŕ ->Fs d M M' ->q (fϣ) M')
def FC {row x n:Str}(h:kη):bI 61 x<=bϑ:=by unfold gS at h;split at h;rename_i w n' ms hw;split at h;split at h;cases h;injection h with _ h;injection h with _ h;injection h with h _;rw[<- h];show HC hw;split at h;rename_i h1 h2;injection h with h3 _;show absurd h3 ϙ;cases h;cases h
universe WQ
set_option synthInstance.maxSize 100000
set_option synthInstance.maxHeartbeats 0
open PySem L2 WL WP WQ EN PyProof.Rows
local macro_rules | `(tactic| simp? [$xs,*]) => do let a <- ("_c aeG ZP aeR _t _u afj ZJ Zv _n _m YT YS YR YQ YO YN YM YL YK YJ Xm Xl Xk Xj Xi Xh Xg Xf Xe Xd Xc Xb Xa W_ afr ae0 aeX afq ae6 afp ae9 ae2 ae8 ae1 Xn Zm aeZ Y2 XD Y0 Xr ae5 Uc Y3 Xz YU Y4 Y' Y8 SU _v Xq aeY YY ae' XC Y6 Y5 Zo SV PH Y_ afa Zk SY SW Zi Tx Xx Xy Zh SX Ua XR XT ZF afc ZH UU ZG sX Zr XF Zp Zq Xp X6 _r ZQ X5 XA YI XE Xo ZB Zj Zd Zc ae4 ae3 XB Fh Xv YV Zg Ze YW YZ LK EN._q Zf XS _w _s Y9 YX Za SS Xu T_ X4 ae7 TQ Xt Ue TJ Ub".splitOn " ").toArray.mapM λs => `(Lean.Parser.Tactic.simpLemma| ↓ $(Lean.mkIdent s.toName):term); let b <- ("OW MP OV Lk MN MS Lm MQ JD Ll OU MK OT Lh MJ F7 En F6 Cn Em Lg JB Lf G3 JA MM Lj ML JC Li sl1 Fv sl3 sl4 sl0 List.map_cons List.map_nil List.length_cons List.length_nil Nat.zero_add List.cons_append List.nil_append List.set_cons_zero List.set_cons_succ am nL WB afn afm afl afh afg aff Bool.not_true Bool.not_false List.getElem?_cons_zero List.getElem?_cons_succ Option.join_some and_self and_true true_and Option.getD_some Option.getD_none XG nH".splitOn " ").toArray.mapM λs => `(Lean.Parser.Tactic.simpLemma| $(Lean.mkIdent s.toName):term); `(tactic| try simp only [$a,*, $b,*, Nat.reduceAdd, Nat.reduceSub, List.reduceReplicate, $xs,*])
local macro_rules | `(tactic| dsimp? [$xs,*]) => `(tactic| (simp? [↓fk, $xs,*]; repeat (with_reducible refine eZ ?_; simp? [↓fk, $xs,*])))
local macro_rules | `(tactic| trivial) => `(tactic| first | exact Or.inl rfl | exact Or.inr rfl)
local macro_rules | `(tactic| right) => `(tactic| decide +kernel)
local macro_rules | `(tactic| left) => `(tactic| (intro _ _ _ h; (repeat (cases h; rename_i h)); subst_vars; rfl))
set_option hygiene false
local macro_rules | `(tactic| exists $a, $n, $c) => `(tactic| (have nd : List.Nodup ($n : List Str) := (by decide +kernel); refine okS (N := $n) $a ⟨rfl, rfl, rfl, nd, rfl, by decide +kernel, by decide +kernel⟩ (by left) λcdv A' outer s H E hr => ?_; refine ⟨_, $c, ?_⟩; (try dsimp only [dW]); refine ⟨_, inferInstance, ?_⟩))
set_option hygiene true
set_option hygiene false
local macro_rules | `($a ∩ $b) => `(uu (show Tq _ (QC K) from MU) $a $b (λ_ _ => rfl))
local macro_rules | `($a ∪ $b) => `(uu (show Tq _ (QB K) from Rq) $a $b (λ_ _ => rfl))
local macro_rules | `($i \ $e) => `(QF (i := $i) nd rfl (by trivial) $e)
set_option hygiene true
namespace gB
open PySem L2 WL WP WQ EN PyProof.Rows
nonrec def top (i:Nat):Stmt:=PySem.Challenge.pw_duskround_k54_books_texts_refused.main.body.getD i (fΥ)
nonrec abbrev jG:Stmt:=top 24
nonrec abbrev rL:Stmt:=top 52
nonrec abbrev kB:Stmt:=top 63
nonrec abbrev pe:Stmt:=top 64
nonrec abbrev HU:Stmt:=jh (top 66) 0
nonrec abbrev BK:Stmt:=jh Ń 0
nonrec abbrev lj:Stmt:=jh Ń 1
nonrec abbrev l5:Stmt:=jh Ń 2
nonrec abbrev ou:Stmt:=jh Ń 3
nonrec abbrev ll:Stmt:=jh Ń 4
nonrec abbrev lm:Stmt:=jh Ń 5
nonrec abbrev l7:Stmt:=jh Ń 6
nonrec abbrev kC:Stmt:=jh Ń 12
nonrec abbrev jI:Stmt:=jh Ń 14
nonrec abbrev ju:Stmt:=jh Ń 20
nonrec abbrev pj:Stmt:=jh Ń 21
nonrec abbrev pk:Stmt:=jh Ń 22
nonrec abbrev iK:Stmt:=jh Ń 23
nonrec abbrev jc:Stmt:=jh Ń 24
nonrec abbrev DA:Stmt:=top 70
nonrec abbrev t_:Stmt:=top 71
nonrec abbrev BJ:Stmt:=top 72
nonrec abbrev BI:Stmt:=top 73
nonrec abbrev rN:Stmt:=top 74
nonrec abbrev jH:Stmt:=top 75
nonrec abbrev kA:Stmt:=top 76
nonrec abbrev x_:Stmt:=top 77
nonrec abbrev qI:Stmt:=top 78
nonrec abbrev lX:Stmt:=top 79
nonrec abbrev qH:Stmt:=top 81
nonrec abbrev zG:Stmt:=top 82
nonrec abbrev Oy:Stmt:=top 83
nonrec abbrev wN:Stmt:=top 84
nonrec abbrev zF:Stmt:=top 85
nonrec abbrev rJ:Stmt:=top 86
nonrec abbrev wM:Stmt:=top 87
nonrec abbrev wL:Stmt:=top 88
nonrec abbrev ud:Stmt:=top 89
nonrec abbrev rG:Stmt:=top 90
nonrec abbrev nP:Stmt:=top 91
nonrec abbrev rK:Stmt:=top 96
nonrec abbrev DC:Stmt:=top 97
nonrec abbrev pf:Stmt:=top 101
nonrec abbrev rH:Stmt:=top 102
nonrec abbrev jS:Stmt:=top 103
nonrec abbrev zH:Stmt:=top 104
nonrec abbrev uc:Stmt:=top 105
nonrec abbrev DB:Stmt:=top 106
nonrec abbrev lY:Stmt:=top 107
nonrec abbrev pi:Stmt:=top 108
nonrec abbrev ua:Stmt:=top 109
nonrec abbrev lZ:Stmt:=top 110
nonrec abbrev li:Stmt:=top 111
nonrec abbrev zE:Stmt:=top 112
nonrec abbrev HS:Stmt:=top 113
set_option genInjectivity false in
set_option genSizeOf false in
structure W9 where
 nW:Addr
 n8:FuncData
 si:Addr
 sA:FuncData
 pZ:Addr
 qe:FuncData
 pV:Addr
 qa:FuncData
 Kd:Addr
 Kr:FuncData
 Ke:Addr
 Ks:FuncData
 ly:Addr
 lD:FuncData
 mL:Addr
 mR:FuncData
 u9:Addr
 vg:FuncData
 lA:Addr
 lF:FuncData
 lB:Addr
 lG:FuncData
 sk:Addr
 sC:FuncData
 p6:Addr
 qg:FuncData
 nZ:Addr
 og:FuncData
 jz:Addr
 jA:FuncData
 p5:Addr
 qf:FuncData
 p7:Addr
 qh:FuncData
 lz:Addr
 lE:FuncData
 mM:Addr
 mS:FuncData
 EC:Addr
 ET:FuncData
 Aw:Addr
 AF:FuncData
 Kc:Addr
 Kq:FuncData
 Kb:Addr
 Kp:FuncData
 sj:Addr
 sB:FuncData
 nY:Addr
 n_:FuncData
 pY:Addr
 qd:FuncData
 EF:Addr
 EW:FuncData
 xt:Addr
 xz:FuncData
 rY:Addr
 sq:FuncData
 xr:Addr
 xy:FuncData
 Az:Addr
 AI:FuncData
 Pm:Addr
 Po:FuncData
 xq:Addr
 xx:FuncData
 Ay:Addr
 AH:FuncData
 se:Addr
 sv:FuncData
 xp:Addr
 xw:FuncData
 xo:Addr
 xv:FuncData
 u8:Addr
 vf:FuncData
 rZ:Addr
 sr:FuncData
 nX:Addr
 n9:FuncData
 sf:Addr
 sw:FuncData
 EE:Addr
 EV:FuncData
 pW:Addr
 qb:FuncData
 r_:Addr
 su:FuncData
 j_:Addr
 kf:FuncData
 AA:Addr
 AJ:FuncData
 u7:Addr
 ve:FuncData
 ED:Addr
 EU:FuncData
 mJ:Addr
 mP:FuncData
 pX:Addr
 qc:FuncData
 u4:Addr
 vd:FuncData
 mK:Addr
 mQ:FuncData
 lx:Addr
 lC:FuncData
 Ax:Addr
 AG:FuncData
 Pl:Addr
 Pn:FuncData
 kU:Addr
 i7:Addr
 dX:Addr
 kj:Addr
 ij:Addr
 c8:Addr
 tF:Addr
 ki:Addr
 ny:Addr
 ck:Addr
 bA:Addr
structure gY (K:PySem.W.Frag)(mg:gń)(A:W9):Prop where
 yX:mg dł =none
 xI:mg "abs" =none
 A1:mg "all" =none
 E6:mg "any" =none
 Sx:mg "bool" =none
 Sw:mg aĀ =none
 E5:mg "int" =none
 dG:mg dĜ =none
 e_:mg "len" =none
 mW:mg æ =none
 nA:mg aŤ =none
 Wz:mg "set" =none
 jj:mg bĺ =none
 A0:mg aÅ =none
 jB:mg aš =none
 Wy:mg "zip" =none
 lies_within:jr K mg "lies_within" lø jG A.nW A.n8
 fits_crew:jr K mg "fits_crew" aϊ rL A.si A.sA
 check_name:jr K mg "check_name" bĻ kB A.pZ A.qe
 with_thing:jr K mg "with_thing" i϶ pe A.pV A.qa
 Page:SN K mg "Page" "Page.__init__" iϷ HU A.ck A.Kd A.Kr
 Book:SN K mg "Book" "Book.__init__" dΕ BK A.bA A.Ke A.Ks
 iw:zk K cô "Book.settings" ń lj A.bA A.ly A.lD
 k7:zk K "turn_to" "Book.turn_to" fŇ l5 A.bA A.mL A.mR
 Bf:zk K "put" "Book.put" hϝ ou A.bA A.u9 A.vg
 jN:zk K "put_team" "Book.put_team" iò ll A.bA A.lA A.lF
 oh:zk K "enlisted" "Book.enlisted" fň lm A.bA A.lB A.lG
 rE:zk K aĻ "Book.team" ό l7 A.bA A.sk A.sC
 vE:zk K "found" "Book.found" ό kC A.bA A.p6 A.qg
 sF:zk K "enlist" "Book.enlist" ió jI A.bA A.nZ A.og
 lH:zk K dŮ "Book.begin_here" ń ju A.bA A.jz A.jA
 oV:zk K "names" "Book.names" ń pj A.bA A.p5 A.qf
 oW:zk K "crews" "Book.crews" ń pk A.bA A.p7 A.qh
 ix:zk K "round_of" "Book.round_of" fň iK A.bA A.lz A.lE
 k8:zk K "members" "Book.members" ό jc A.bA A.mM A.mS
 shown:jr K mg "shown" aϊ DA A.EC A.ET
 number:jr K mg "number" bļ t_ A.Aw A.AF
 lamp:jr K mg "lamp" dΖ BJ A.Kc A.Kq
 read:jr K mg "read" dΖ BI A.Kb A.Kp
 book_text:jr K mg "book_text" [ą] rN A.sj A.sB
 enter_round:jr K mg "enter_round" fϦ jH A.nY A.n_
 enter_crew:jr K mg "enter_crew" fϦ kA A.pY A.qd
 enter:jr K mg "enter" fÏ x_ A.EF A.EW
 entered:jr K mg "entered" ["rows"] qI A.xt A.xz
 read_book:jr K mg "read_book" bļ lX A.rY A.sq
 Eh:jr K mg "_law_begin" fŉ qH A.xr A.xy
 dL:jr K mg "_law_take" iϸ zG A.Az A.AI
 l_p:jr K mg "_law_p" eĹ Oy A.Pm A.Po
 Ef:jr K mg "_law_names" iϸ wN A.xq A.xx
 Ck:jr K mg "_law_tidy" [χ,dΗ] zF A.Ay A.AH
 xa:jr K mg "_law_pattern" mò rJ A.se A.sv
 Ee:jr K mg "_law_round" mŞ wM A.xp A.xw
 yG:jr K mg "_law_shown" [cĊ] wL A.xo A.xv
 pJ:jr K mg "_law_number" [dÅ] ud A.u8 A.vf
 w8:jr K mg "_law_reading" [χ,Ŵ] rG A.rZ A.sr
 mq:jr K mg "_law_book_text" [χ,dΘ] nP A.nX A.n9
 xb:jr K mg "_law_is_name" [dÆ] rK A.sf A.sw
 Ju:jr K mg "_law_far" kϹ DC A.EE A.EV
 uJ:jr K mg "_law_row_deed" [cċ] pf A.pW A.qb
 w_:jr K mg "_law_put_row" lù rH A.r_ A.su
 mw:jr K mg "_law_book_reading" [Ŵ] jS A.j_ A.kf
 Cm:jr K mg "_law_sign" eĹ zH A.AA A.AJ
 Ag:jr K mg "_law_spoilt" iϹ uc A.u7 A.ve
 Eg:jr K mg "_law_int" [dΚ] DB A.ED A.EU
 pK:jr K mg "_law_is_pattern" jο lY A.mJ A.mP
 uK:jr K mg "_law_is_round" jο pi A.pX A.qc
 Af:jr K mg "_law_stands" lĖ ua A.u4 A.vd
 pL:jr K mg "_law_draw_stand" lγ lZ A.mK A.mQ
 nU:jr K mg "_law_rows_spoilt" iϹ li A.lx A.lC
 Jt:jr K mg "_law_told" [Ŵ] zE A.Ax A.AG
 law:jr K mg aØ fŉ HS A.Pl A.Pn
 n_Book_held:fP K A.bA aĹ
 n_Book_now:fP K A.bA aÚ
 n_Book_p:fP K A.bA "p"
 n_Book_past:fP K A.bA aĸ
 n_Book_undone:fP K A.bA bĎ
 n_Page_rounds:fP K A.ck bč
 n_Page_teams:fP K A.ck aΗ
 oj: ∃t,mg "FARTHEST" =some (.int 200 t)
 tT: ∃t,mg "FARTHEST_END" =some (.int 8 t)
 qC: ∃t,mg "FARTHEST_PLACE" =some (.int 24 t)
 lR: ∃t,mg "LONGEST_NAME" =some (.int 12 t)
 lQ: ∃t,mg "MOST_MEMBERS" =some (.int 6 t)
 Fj: ∃t,mg "FIGURES" =some (.str dγ t)
 Fi: ∃t,mg "LETTERS" =some (.str jγ t)
 HE:SF K mg "COUNTS" [2,3,5,7]
 Rg:mg "BadCount" =some dÈ
 S7:mg "BadName" =some dÉ
 S6:mg "BadText" =some dÊ
 VF:mg "NoCrew" =some dË
 FW:mg "NoRound" =some dÌ
 vW:mg eĺ =some ŵ
 X3:mg "Taken" =some dÍ
 VE:mg "TooFar" =some dÎ
 S5:mg "TooMany" =some dÏ
 Bp:ko K "BadCount" A.kU
 Fd:ko K "BadName" A.i7
 eG:ko K "BadText" A.dX
 Hd:ko K "NoCrew" A.kj
 Fc:ko K "NoRound" A.ij
 vJ:ko K eĺ A.c8
 C_:ko K "Taken" A.tF
 tK:ko K "TooFar" A.ki
 Fb:ko K "TooMany" A.ny
 kM:PySem.W.kitOne K dÈ ŵ=Ŏ
 gT:PySem.W.kitOne K dÉ ŵ=Ŏ
 pO:PySem.W.kitOne K dÊ dÌ=Ŝ
 dm:PySem.W.kitOne K dÊ ŵ=Ŏ
 mC:PySem.W.kitOne K dÊ (.type dł)=Ŏ
 mB:PySem.W.kitOne K dË ŵ=Ŏ
 lK:PySem.W.kitOne K dÌ ŵ=Ŏ
 nD:PySem.W.kitOne K dÍ ŵ=Ŏ
 iE:PySem.W.kitOne K dÎ ŵ=Ŏ
 lJ:PySem.W.kitOne K dÏ ŵ=Ŏ
theorem nN:cX bĻ bĻ (aU kB):=ϸ
theorem Dz:cX dΕ dΕ (aU BK):=ϸ
theorem rF:cX hϝ hϝ (aU ou):=ϸ
theorem pd:cX ό ό (aU l7):=ϸ
theorem nO:cX ό ό (aU kC):=ϸ
theorem lW:cX [Ą,Ă,ă,aĻ,aÞ] ió (aU jI):=ϸ
theorem jR:cX fň fň (aU iK):=ϸ
theorem lg:cX ό ό (aU jc):=ϸ
theorem wK:cX jă bļ (aU t_):=ϸ
theorem Dy:cX ["p",aŚ,aό,"equals",bϒ,"pair"] dΖ (aU BJ):=ϸ
theorem Dx:cX lδ dΖ (aU BI):=ϸ
theorem lV:cX [ą,aϋ,ă] fϦ (aU jH):=ϸ
theorem nM:cX [ą,aϋ,Ă,ă] fϦ (aU kA):=ϸ
theorem zD:cX [ą,"row","word",aϋ] fÏ (aU x_):=ϸ
theorem t9:cX ["rows","word",aϋ,ą,"row"] ["rows"] (aU qI):=ϸ
theorem pc:cX [aŚ,ą] bļ (aU lX):=ϸ
theorem t8:cX fŉ fŉ (aU qH):=ϸ
theorem HR:cX [eĸ,ų,χ,gĬ,Ŵ,bĽ,"_law_due",fϧ] fŉ (aU HS):=ϸ
def Wx (A:W9):Rf ->iB
 | .BadName=>A.i7 | .NoRound=>A.ij | .NoCrew=>A.kj | .Taken=>A.tF | .TooMany=>A.ny | .TooFar=>A.ki | _=>A.dX
def SE (K:jv)(A:W9)(C:iB):Prop:=W.kitOne K ī ŵ=Ŏ
section
variable {P:pF}{w:World}{K:jv}{mg:Ũ}{base:Heap}{A:W9}
def B0 (T:ŗ):cB P w K mg base gR 1 A.xr A.xy fŉ (Dv K):=by
 exact T.Eh.fn.ok t8 (λvs H Q E h=> ?_) (λcdv A' outer s H vs Q E hr h=> ?_);let⟨a,ns,rfl,_⟩:=h;rfl;let⟨a,ns,rfl,hs,k⟩:=h;have nd:=t8.nd;exact#[_,(aw (bp (cY (aa (cQ ji ļ T.mW Boot.«list» (aa (bP gm Ć cI aύ) ah)) jĄ)))),?_];have ec: ∃ms:û,AQ eπ none (some 63)=dŝ:=by exact#[(ns.drop (kι)).take (HT.ue hϞ hϞ (some 63) - kι),?_];unfold AQ;rw[List.map_take,List.map_drop]
 let⟨ms,em⟩:=ec;exact#[_,rfl,_,rfl,_,_,rfl,hs,λp hp=>#[_,_,rfl, .inl (gg.of bX),λl hl=>#[by change cΒ;decide,λd hd=> ?_]]];have hld:l≠d:=λe=>by rw[e,bX] at hd;cases hd
 exact k d l ms _ hld.symm bX ?_;rw[bH hld,bX,em]
def b8 (T:ŗ):cB P w K mg base gR 1 A.Az A.AI iϸ (jF K Vf):=by
 exists T.dL.fn,[ų,dÃ,"_law_number_here","_law_got"],(ak (cq (jK (bh wT ψ ć Ĉ) (io (bh wT ψ (aW fŋ ļ T.e_ Boot.«len» (aa ψ ah)) Ĉ))).pt (ak (2\(ψ∩ψ)) (ak (gt (bV eJ ψ ao) gĭ) (ak (gt ao gĭ) (aw (cq (bh zR lϢ (bV Q1 ao ao) Ĉ) (aw (gt lϢ gĭ)) (aw (gt (bV oF (bV eJ (bV eJ iω (bV oE (bV oF ĉ ao) ao)) ao) ao) gĭ))))))) bv) (ak (cq (bh zR ψ ć Ĉ) (ak (3\(bV oF ψ ć)) (ak (gt (bV DZ ψ ć) gĭ) fϨ)) bv) (ak (gt (bV oF (bV eJ iω ao) ao) gĭ) (aw (bp (bV oF (bV DZ ψ ao) ć))))))
 rintro vs M q ⟨d,l,n,rfl,⟨ns,i,c,sd,hd,hl,hi,kN⟩,n0,n1,k⟩;exact JR (λρ M'=>qu λ dΛ (i' c' s':Int)=>fE (ρ= kċ) (M' d=some kČ) (bς) (0<=i')) ?_ λN hN=> ?_;rintro ρ M' ⟨o1,o2,i',c',s',rfl,h,nb,J4⟩;have j': ∀ (r c' s':Int),0<=r ->r<n -> ∃M0,Sm M0 (um M' d kČ) /\ q (wi r) M0:=λr c' s' h0 h1=>jm (k r _ h0 h1 #[ns,i',c',s',am,by rw[aR aτ,nb l aτ];show hl,J4,kN] (nb.trans NB.put));have cm3: ∀x,oU x 16807=True:=λx=>by simp[oU]
 have cd1: ∀x,Lc x n=True:=λx=>by simp[Lc,n0,n1]
 have cd2: ∀x,Lc x 64=True:=λx=>by simp[Lc]
 have z2:ją:=⋯
 dsimp? [h];exact iô;dsimp? [h,n0,cd1];show mČ;dsimp? [h,am,n0,cm3,cd2,z2];show mČ;have nx: ∀ (o1 o2:Å) (i' c' s':Int),0<=i' ->N kċ (um M d kČ):=λ_ _ _ _ _ h=>hN _ _ #[_,_,_,_,_,rfl,am,NB.put,h];have XY: ∀ (o1 o2:Å),N kċ M:=λ_ _=>hN _ _ #[_,_,_,_,_,rfl,hd,NB.refl d M,hi];have cp:SO 10 18=True:=by simp[SO]
 have cm: ∀x,oU x 48271=True:=λx=>by simp[oU]
 have cm2: ∀x,oU x 69621=True:=λx=>by simp[oU]
 have z1:(aů <2147483629)=True:=⋯
 have z2:ją:=⋯
 by_cases j9:i<ns.length;have hx:jC cη i=some (wi (ns[i.toNat]'∅)):=kW hi (by rw[aD,aT ∅];rfl);dsimp? [hd,hl,af];exact iϺ;exact iϺ;dsimp? [hd,hl,hx,am,aR kN.symm,cp];exact iô;dsimp? [am];show fϩ;dsimp? [am,cm,cm2,z1,z2];show fϩ;dsimp? [hd,hl,j9,af,decide_false];show eQ (dÐ) dÐ
def Q6 (T:ŗ):cB P w K mg base gR 2 A.Pm A.Po eĹ (jF K pP):=by
 exists T.l_p.fn,eĹ,(aw (bp mϱ))
 rintro vs M q ⟨d,l,rfl,hD,k⟩;simp? [↓d6];exact#[d,l,4,rfl,hD,⋯,⋯,iĻ];have VZ:r=0 \/ r=1 \/ r=2 \/ r=3:=by omega
 obtain rfl | rfl | rfl | rfl:=VZ <;> simp? [↓d6];show jm (k 2 _ ⋯ D1 b1);show jm (k 3 _ ⋯ D1 b1);show jm (k 5 _ ⋯ D1 b1);show jm (k 7 _ ⋯ D1 b1)
def uz (T:ŗ):cB P w K mg base gR 1 A.ED A.EU [dΚ] (jF K ZN):=by
 exists T.Eg.fn,[dΚ],(aw (bp (yj (aW fŌ ļ T.dG Boot.«isinstance» (aa Ć (aa (iV ļ T.E5 Boot.«int» (show RelV (.ty "int") _ from rfl)) ah))) (ur (Is (aW fŌ ļ T.dG Boot.«isinstance» (aa Ć (aa (iV ļ T.Sx Boot.«bool» (show RelV (.ty "bool") _ from rfl)) ah))))))))
 rintro vs M q ⟨i,rfl,k⟩;simp? [↓d6];show jm k
def wV (T:ŗ):cB P w K mg base gR 1 A.Ay A.AH [χ,dΗ] (jF K QO):=by
 exists T.Ck.fn,mŮ,(ak (2\jg) (ak (fX cG rfl (dF (K:=K) rfl ć) nÍ (aw (m6 ě ĉ Ċ (bV oF (bV eJ (Iw ě ĉ Ċ ao #[by rfl,by rfl,by rfl,by rfl]) Č) Ć) rfl))) (aw (bp (cQ iI ļ T.jB Boot.«tuple» (aa (fc rfl (dY.of (sc:=_) (N:= mŮ) (own:= [dΜ]) (fr:= [2]) (N':= [dΜ,dÑ])) (dF (K:=K) rfl (aW (wa rfl) ļ T.jj Boot.«sorted» Υ)) (λ_ _ _ _=>(bt (i:=0) (by change([dΜ,dÑ]:ê).Nodup;decide+kernel) rfl ε)) fL (λ_ _ _ _=>(Mc (bh pq lû ao Ĉ))) (λ_ _ _ _=>(fq (aa Ć (aa lû ah))))) ah))))))
 rintro vs M q ⟨a,p,ps,rfl,ha,p0,Pf,afG,k⟩;simp? [↓d6];intro d hd;have OP:a≠d:=dR ha hd;simp? [↓d6,aR OP,ha];exact iG (λi ρ M'=>gh λ dΛ (m:Pt)=>oR (ρ= [Ų,some aį,Ű,o1,o2]) (M'=um M d dΝ) (hı) (m.length<=i) (∀x,ľ=vM (ps.take i) x % p) (∀k∈ſ, ∃q∈ps,q.1=k)) #[none,none,[],rfl,rfl,List.nodup_nil,aA _,λx=>by simp[look,vM],by simp] ?_ ?_ ?_;rintro i ρ M' _ ⟨o1,o2,m,rfl,rfl,_⟩;rw[aR OP];show ha;rintro i x ρ M' hx ⟨o1,o2,m,rfl,rfl,hn,hl,ht,Ct⟩ N hN;let⟨z,hz,rfl⟩:=pairs_at hx;have Yi:=(bu.mp hz).1;have hs:((Ah m).length<sizeLine)=True:=by rw[Ah,af];show gϊ
 simp? [↓d6,dC,Nl,p0,hs,Mb];exact hN _ _ #[_,_,_,rfl,rfl,MF hn,az Jp Ť,bÚ,λk hk=>(Jl hk).elim (λe=>#[z,a7 hz,e.symm]) (Ct k)];rw[FX,cy,hz];change _=vM (ps.take i++ [z]) x % p;rw[zw];by_cases hx:x=z.1;subst hx;rw[å,å,ht,Int.emod_add_emod];rw[aÎ,aC (cE hx),Int.add_zero];show ht x;rintro ρ M' ⟨o1,o2,m,rfl,rfl,hn,hl,ht,Ct⟩;rw[af] at hl ht;rw[cr] at ht;simp? [↓d6];exact#[d,Ah m,ſ,rfl,am,Jx m,gĮ,λsp ns gC pQ JW=> ?_];have aab:d≠sp:=dR am gC;have Bl:ns.length<=bú:=by rw[pQ.length_eq,af];omega
 simp? [↓d6];exact CK ná (by rw[af];show big Bl) (λM3 s3=>s3 _ _ am) ?_ λt O1=> ?_;intro i x hx M3 N s3 hN;let⟨n,V0,rfl⟩:=JO hx;have hdM:M3 d=some dΝ:=s3 _ _ (by rw[aR aab,am]);have hnk:n∈ſ:=pQ.mem_iff.mp (a7 V0);simp? [↓d6,hdM,P8 hnk];have hge:0<=bø:=by rw[ht];show Int.emod_nonneg _ Ť
 exact ϩ;have h':¬bø=0:=by omega
 simp![h',eu] at hN;show hN;have h':bø=0:=by omega
 simp![h',if_true] at hN;show hN;simp? [↓d6];exact#[M,((Sm.um dÒ hd).trans (aN gC)).trans (aN O1),?_];have e:(ns.map wi).filterMap ná=(aπ).map dC:=by rw[<- L7 p0 hn ht pQ JW,List.filterMap_map];unfold UQ;rw[List.map_filterMap];congr 1;funext n;simp![Function.comp];split<;>rfl
 rw[e];show k
def yw (T:ŗ):cB P w K mg base gR 2 A.se A.sv mò (jF K IL):=by
 exists T.xa.fn,[ų,χ,dÄ,fŊ,dΗ,bĽ,dΜ],(ak dÓ (ak (fX cG rfl (i3 ļ T.nA (aa (aQ T.dL ċ hr (aa Ć (aa gį ah))) ah)) kď (ak (6\(bV yn (aQ T.dL ċ hr (aa Ć (aa (bV eJ (bV oE ao Ċ) ao) ah))) Ċ)) (aw (cN (dQ bj cW cV fK Č (aa (fq (aa č (aa (bV eJ ao (aQ T.dL ċ hr (aa Ć (aa (bV yn ć ao) ah)))) ah))) ah)))))) (aw (bp (aQ T.Ck (wV T) hr jĆ)))))
 rintro vs M q ⟨d,l,p,most,tE,rfl,hD,p2,p3,m0,m1,f0,f1,k⟩;simp? [↓fk];intro a ha;let⟨OP,nal⟩:=hD.ne ha;exact Ü;simp? [↓fk];exact#[d,l,most+1,rfl,hD.put ha,by omega,by omega,λn M1 n0 n1 D1 b1=> ?_];have Te:M1 a=fÍ:=by rw[b1 a OP,am]
 simp? [↓fk];exact#[hř,iG (λi ρ M'=>gh λ dΛ (ps:Pt)=>oR (ρ= [Ű,Ų,some (wi most),some (wi tE),some aį,o1,o2]) (ŕ) (M' a=iĹ) (ps.length=i) lϮ (∀b,aÒ ->b≠a ->M' b=M b)) #[none,none,[],rfl,D1,Te,rfl,by simp,λb h1 h2=>by rw[b1 b h1,aß]] iõ ?_ ?_];rintro i x ρ M' hx ⟨o1,o2,ps,rfl,D2,ha2,hl,hz,hb⟩ N hN;let⟨hi,rfl⟩:=jT hx;have cm: fϪ:=λx=>by simp[oU]
 simp? [↓fk,cm];exact#[d,l,2*tE+1,rfl,D2,by omega,by omega,iļ];simp? [↓fk];exact Ü;have ha3:M3 a=iĹ:=by rw[b3 a OP];show ha2
 simp? [↓fk,ha3];exact#[d,l,p - 1,rfl,D3,by omega,by omega,λs' M4 s0 s1 D4 b4=> ?_];have ha4:M4 a=iĹ:=by rw[b4 a OP];show ha3
 have hs:((ps.map dC).length<sizeLine)=True:=by rw[af];show gϊ
 simp? [↓fk,ha4,hs];exact hN _ _ #[_,_,ps++ [(r - tE,1+s')],rfl,D4.vP OP nal,?_,by simp[hl],λz gI=> ?_,λb h1 h2=> ?_];rw[am,aX];rfl;obtain gI | gI:=aK.mp gI;show hz z gI;rw[aZ.mp gI];show#[by change -tE<=r - tE;omega,by change r - tE<=tE;omega,by change 0<1+s';omega,by change 1+s'<p;omega];rw[aß,b4 b h1,b3 b h1,hb b h1 h2];rintro ρ M' ⟨o1,o2,ps,rfl,D2,ha2,hl,hz,hb⟩;rw[iZ] at hl;dsimp only;exact Ü;simp? [↓fk];exact#[a,p,ps,rfl,ha2,by omega,Nr Ť,by omega,?_];exact#[λb=>if b=a then none else M' b,dĴ,k ps _ Ť hz ?_ ?_];dsimp only at e;split at e;cases e;show e;let⟨ns,i,c,s',h1,h2,h3,h4⟩:=D2;show#[ns,i,c,s',by dsimp only;rw[aC (cE OP)];show h1,by dsimp only;rw[aC (cE nal)];show h2,h3,h4];intro b Yk;dsimp only;split;rename_i e;rw[e];show ha.symm;rename_i e;show hb b Yk e
def sK (T:ŗ):cB P w K mg base gR 2 A.mJ A.mP jο (jF K QS):=by
 exists T.pK.fn,[χ,dΚ,bĽ,"_law_pair"],(ak (cq nĲ η bv) (ak (fX cG rfl (i3 ļ T.nA (aa mļ ah)) kĐ (ak (3\(ć∪ĉ)) (ak (cq (fF (eX (eB (aW fŌ ļ T.dG Boot.«isinstance» (aa Ċ mώ)))) (fo (bh jX mĽ ao Ĉ))).pt η bv) (ak (cq (fF mÄ (fF mÄ (fo (eX (uq wT wT ao eĻ Ć))))).pt η bv) (aw (cq (jK (bh pq ĉ ao Ĉ) (io (bh zR ((ć∪(bV yn ĉ ao))∪ao) eĻ Ĉ))).pt η bv)))))) η))
 rintro vs M q ⟨p,DV,rfl,⟨h1,h2⟩,hl,k⟩;have J0:(DV.map dC).length=DV.length:=af _;simp? [↓d6,oB,J0];exact#[hř,iG (λi ρ M'=>cU λ dΛ=>ρ= [Ų,some (oB DV),o1,o2] /\ M'=M) hŚ iõ ?_ ?_];rintro i x ρ M' hx ⟨o1,o2,rfl,rfl⟩ N hN;let⟨hi,rfl⟩:=jT hx;have J4:i<DV.length:=by omega
 have ha:jC (DV.map dC) (bϔ)=some (dC DV[i]):=by rw[Int.zero_add];show gM (by rw[aD,aT J4];rfl)
 have hz:=h1 DV[i] (cw J4);simp? [↓d6,oB,ha,dC];exact dÁ;simp? [↓d6];exact dÁ;simp? [↓d6,hz.1,hz.2,decide_true];exact eQ (bĿ) λh=>hϟ;have hi1:i - 1<DV.length:=by omega
 have ha':jC (DV.map dC) (bϔ - 1)=some (dC DV[i - 1]):=by
  have:(bϔ - 1)=((i - 1:Nat):Int):=by omega
  rw[this];show gM (by rw[aD,aT hi1];rfl)
 have j9:=List.pairwise_iff_getElem.mp h2 (i - 1) i hi1 J4 Ť;simp? [↓d6,ha',dC];show eQ (λh=>by omega) λ_=>hϟ;rintro ρ M' ⟨o1,o2,rfl,rfl⟩;simp? [↓d6];show jm k
universe e
universe gB
open PySem L2 WL WP WQ EN PyProof.Rows
namespace gB
open PySem L2 WL WP WQ EN PyProof.Rows
section
variable {P:pF}{w:World}{K:jv}{mg:Ũ}{base:Heap}{A:W9}
def vS (T:ŗ):cB P w K mg base gR 3 A.pX A.qc jο (jF K IV):=by
 exists T.uK.fn,jο,(ak (cq (fF nĲ (fo (bh jX mļ ao Ĉ))).pt η bv) (aw (bp (yj (aQ T.Eg (uz T) hr hϠ) (ur (aQ T.pK (sK T) hr (aa Ć hϠ)))))))
 rintro vs M q ⟨p,a,rfl,hp,hl,k⟩;have e2:decide ((((0+1+1:Nat)):Int)=2)=true:=⋯
 have e2':decide (((2:Nat):Int)=2)=true:=⋯
 simp? [↓d6,kF,e2,e2'];exact dÁ;simp? [↓d6];show#[p,a.2,rfl,hp,az hl ⋯,jm k]
def nR (T:ŗ):cB P w K mg base ĳ 1 A.pZ A.qe bĻ (sY K (QW A.i7)):=by
 exact D0 T.check_name.fn nN (by rintro vs M q e ⟨n,rfl,_⟩;rfl) ϵ;have nd:=nN.nd;exact#[_,(aw (cq (fF (eX (uq rO rO ao lϣ mŨ)) (fo (eB (aW bŀ ļ T.E6 Boot.«any» (aa (fc rfl (dY.of (sc:=_) (N:= bĻ) (own:= bŁ) (fr:= []) (N':= bŁ)) (yh Ć) nÇ fL ύ (λ_ _ _ _=>(gq wS Ć (fR ļ T.Fi.choose_spec (show RelV (.str jγ) _ from ĩ)) ļ))) ah))))).pt (aw (dk hF rfl ļ T.Fd (aa (gp (cJ a9 (cJ (oA mŨ) cč))) ah))) bv)),?_];try dsimp only[dW]
 exact Ϩ;rintro vs M q ⟨n,rfl,ha,hl,kq,ke⟩;have hz:gϋ:=ω;have gI:(gϋ)=True:=aà;dsimp? [gI];by_cases h1:cϓ
 .have e1:jć=true:=Α;by_cases h2:dŭ
  .have e2:jπ=true:=Α;dsimp? [e1,e2,ha,bc];exact eU (λc=>wb (! aΖ)) lĬ fϫ ?_ Ŷ;intro c hc M3 N3 s3 rX;dsimp? [];show rX;exact#[u,iϻ,rfl,by rw[am,ba];rfl,?_];have e3:(iϻ).any id= !bG n:=by have d1:hŀ=true:=aÜ;have d2:hΤ=true:=aH h2;unfold bG;rw[d1,d2,List.any_map,Bool.true_and,Bool.true_and,List.not_all_eq_any_not];rfl
   rw[e3];dsimp? [];cases hn:bG n with
   | true=> dsimp? [bc];show#[M,Ý,kq hn]
   | false=> dsimp? [aY];(repeat (exact lü));show#[M,Ý,ke hn]
  .have e2:jπ=false:=ς;dsimp? [e1,e2,aY];(repeat (exact lü));show#[M,œ,ke (by unfold bG;rw[ay h2];simp)]
 .have e1:jć=false:=ς;dsimp? [e1];(repeat (exact lü));show#[M,œ,ke (by unfold bG;rw[aá];simp)]
def nQ (T:ŗ):cB P w K mg base gR 1 A.pV A.qa i϶ (jF K QN):=by
 exists T.with_thing.fn,["things",ă,"thing","changed"],(ak (3\(cQ CO ļ T.Sw Boot.«dict» Χ)) (ak (m6 ě Ċ ć ĉ rfl) fϨ))
 rintro vs M q ⟨d,kvs,n,x,rfl,hd,hl,k⟩;dsimp? [hd];intro u hu;have hs:hž=True:=gϊ;exact Ü; simp? [↓fk,hs];show jm (k u hu)
def yz (T:ŗ):cB P w K mg base gR 1 A.Kd A.Kr iϷ (jF K (Vk A.ck)):=by
 have cl:=dΞ;have n1:=gό;have n2:=gİ;exists T.Page.fn,iϷ,(ak iö (aw (iL Ć ĉ rfl)))
 rintro vs M q ⟨s,dx,r,t,rfl,hs,k⟩;have e1:iA bč (wr r) []= iΑ:=rfl;have e2:iA aΗ (wr t) iΑ=aĺ:=rfl;dsimp? [hs,cl,n1,n2,e1,e2,Nat.reduceLT];show jm k
def Mx (T:ŗ):cB P w K mg base ĳ 3 A.Ke A.Ks dΕ (sY K (QX A.bA A.ck A.kU)):=by
 have cl:=θ;have n1:=eĽ;have n2:=ώ;have n3:=fϬ;have n4:=gύ;have n5:=fϭ;exact D0 T.Book.fn Dz (by rintro vs M q e ⟨s,dx,p,rfl,_⟩;rfl) ϵ;have nd:=Dz.nd;exact#[_,(ak (cq (bh fō ć (Mi ļ T.HE) ļ) (aw (dk hF rfl ļ T.Bp ť)) bv) (ak iö (ak (iL Ć (ut T.Page (yz T) Β ļ gώ) rfl) mϲ))),?_];try dsimp only[dW]
 exact Ϩ;rintro vs M q ⟨s,dx,p,rfl,hs,k,ke⟩;dsimp? [];exact#[.int p,kİ,rfl, Ĥ,rfl,rfl,?_];by_cases hp:iż;rotate_left
 .have Ct:nĆ=true:=by rw[VO,ay hp];rfl
  rw[Ct];dsimp? [];(repeat (exact lü));show#[M,cÌ,ke hp]
 replace k:=k hp;have Ct:nĆ=false:=by obtain rfl | rfl | rfl | rfl:=hp <;>decide+kernel
 rw[Ct];have e1:iA "p" (Ç) []= [gı]:=rfl;dsimp? [hs,cl,n1,e1,Nat.reduceLT];intro r lL;dsimp? [];intro t ht;dsimp? [];intro pg qz vG Gj kN;exact#[pg,qz,r,t,rfl,am,rfl,?_];have h1:Fs s M kϡ:=Fs.self;have h2:=h1.new (o:= aĒ) lL;have h3:=h2.new (o:= aĒ) ht;have h4:=(h3.new (o:= fŎ) vG)
 have X0:s≠r:=dR am lL;have Z0:s≠t:=dR (by rw[aR X0];show am) ht;have nps:s≠pg:=dR (by rw[aR Z0,aR X0];show am) vG;have nrt:r≠t:=dR am ht;have nrp:r≠pg:=dR (by rw[aR nrt];show am) vG;have ntp:t≠pg:=bł;have f5:Fs s M nĞ:=by rw[nL];show h3.new vG
 have g1:nĞ s=some jŕ:=by rw[nL,aR nps,aR Z0,aR X0];show am
 have g2:nĞ r=eľ:=by rw[nL,aR nrp,aR nrt];show am
 have g3:nĞ t=eľ:=by rw[nL,aR ntp];show am
 have g4:nĞ pg=some iľ:=am;generalize nĞ=M4 at f5 g1 g2 g3 g4;clear h1 h2 h3 h4 lL ht vG Gj;have e2:iA aÚ (wr pg) [gı]= [gı,eĿ]:=rfl;dsimp? [g1,cl,n2,e2,ax,List.length_nil,Nat.reduceLT];intro la G9;have Le:s≠la:=dR am G9;have e3:iA aĸ (wr la) [gı,eĿ]= lϒ:=rfl;dsimp? [aR Le,cl,n3,e3,ax,List.length_nil,Nat.reduceLT];intro lu Gh;have Ra:s≠lu:=dR am Gh;have MC:la≠lu:=dR (by rw[cĎ];show am) Gh;have e4:iA bĎ (wr lu) lϒ= mŔ:=rfl;dsimp? [aR Ra,cl,n4,e4,ax,List.length_nil,Nat.reduceLT];intro lh RL;have S3:s≠lh:=dR am RL;have Rb:la≠lh:=dR (by rw[cĎ,aR MC,cĎ];show am) RL;have Q_:lu≠lh:=dR (by rw[cď];show am) RL;have e5:iA aĹ (wr lh) mŔ=fϮ:=rfl;dsimp? [aR S3,cl,n5,e5,ax,List.length_nil,Nat.reduceLT];have F:=((((((Fs.self (M:=M4) (s:=s)).new G9 (o:= Ė)).put (o:= .ins A.bA dx lϒ)).new Gh (o:= Ė)).put (o:= .ins A.bA dx mŔ)).new RL (o:= Ė)).put (o:= .ins A.bA dx (fϮ));exact jm (k _ la lu lh pg #[#[dx,am],?_,?_,?_,#[MC,Rb,Q_],qz,r,t,F _ _ g4 nps.symm,F _ _ g2 X0.symm,F _ _ g3 Z0.symm] (f5.trans F) ?_ ?_ ?_ Le.symm);rw[cĎ,aR Rb,cĎ,aR MC,cĎ];show am;rw[cď,aR Q_,cď];show am;rw[cĐ];show am;rw[cĎ] at G9;show f5.free G9 Le.symm;rw[cď,aR MC.symm,cď] at Gh;show f5.free Gh Ra.symm;rw[cĐ,aR Q_.symm,cĐ,aR Rb.symm,cĐ] at RL;show f5.free RL S3.symm
def hU (T:ŗ):cB P w K mg base gR 1 A.ly A.lD ń (jF K (FK A.bA A.ck)):=by
 have cl:=θ;have n1:=eĽ;exists T.iw.fn,ń,(aw (bp jĈ))
 rintro vs M q ⟨b,la,lu,lh,now,p,pa,un,he,R,T',rfl,hB,k⟩;let⟨dx,hb⟩:=hB.ob;dsimp? [hb,cl,n1,aeO];show jm k
def l_ (T:ŗ):cB P w K mg base gR 1 A.nW A.n8 lø (jF K IB):=by
 exists T.lies_within.fn,mó,(ak (gt Ć nÍ) (aw (bp (yj (gq rO (aW i6 ļ T.xI Boot.«abs» fÒ) ć Ĉ) (ur (aW bŃ ļ T.A1 Boot.«all» (aa (fc rfl (dY.of (sc:=aU jG) (N:= mó) (own:= hø) (fr:= [2]) (N':= kϢ)) (Ir Č) (λ_ _ _ _=>(iO (n:=2) rfl (cg (bt (i:=0) mΞ rfl ε) (cg (bt (i:=1) mΞ rfl ε) fB)))) iH ύ mϭ) ah)))))))
 rintro vs M q ⟨a,e,r,rfl,hl,k⟩;have sm: ∀u o,ŀ ->Sm M cý:=λu o h=>aN h;have ef:gA a e r= !(lŁ && mð):=rfl;dsimp? [kF,oB];cases h1:lŁ with
 | false=>rw[h1,Bool.false_and] at ef;rw[ef] at k;dsimp? [];show jm k
 | true=>rw[h1,Bool.true_and] at ef;rw[ef,Bool.not_not] at k;dsimp? [];exact nù;intro z hz M3 N3 s3 rX;dsimp? [dC];show rX;exact mϮ;rw[List.all_map];show dΟ
def px (T:ŗ):cB P w K mg base gR 2 A.si A.sA aϊ (jF K QT):=by
 exists T.fits_crew.fn,aϊ,(aw (bp (aQ T.lies_within (l_ T) hr (aa Ć (aa (fR ļ T.tT.choose_spec (show RelV (.int 8) _ from ĩ)) (aa (fR ļ T.qC.choose_spec (show RelV (.int 24) _ from ĩ)) ah))))))
 rintro vs M q ⟨a,rfl,hl,k⟩;dsimp? [];show#[a,8,24,rfl,hl,jm k]
def lr (T:ŗ):cB P w K mg base gR 1 A.mL A.mR fŇ (jF K (Vc A.bA A.ck)):=by
 have cl:=θ;have n2:=ώ;have n3:=fϬ;have n4:=gύ;exists T.k7.fn,fŇ,(ak (cN (dQ bj cW cV fK jĈ (aa jĈ ah))) (ak iĽ (aw iö)))
 rintro vs M q ⟨b,la,lu,lh,now,pg,p,pa,un,he,R,T',R',T1,rfl,hB,hP,hl,k⟩;let⟨dx,hb⟩:=hB.ob;have hs:((bΖ).length<sizeLine)=True:=jÀ;have ha:=hB.pa;have Z_:b≠la:=λz=>by subst z;rw[hb] at ha;cases ha
 dsimp? [hb,cl,n2,n3,n4,nJ,aeQ,ha,hs];intro oH hu;have _a:la≠oH:=bń;have nbu:b≠oH:=dR (by rw[aR Z_];show hb) hu;dsimp? [aR nbu,aR Z_,hb,cl,n2,n4,aeP,aeM,aeN];have VV:bΙ:=by rwa [aR _a.symm] at hu
 have F:sE b la M (um (um (um M la (.lst (bΖ++ [wr now]))) oH ŏ) b (.ins A.bA dx (fu p pg la oH lh))):=λa o h n1 n2=>by rw[aR n1,aR (dR h VV),aR n2];show h
 have hh:=hB.he;exact jm (k _ oH #[#[dx,am],?_,?_,F _ _ hh (λz=>by subst z;rw[hb] at hh;cases hh) hB.ne.2.1.symm,#[_a,hB.ne.2.1,(dR hh VV).symm],F.pg hb ha hP] F VV);rw[aR Z_.symm,aR _a,am,aX];rfl;rw[aR nbu.symm];show am
def qO (T:ŗ):cB P w K mg base gR 1 A.lB A.lG fň (jF K (FL A.bA A.ck)):=by
 have cl:=θ;have vH:=dΞ;have n2:=ώ;have n3:=gİ;exists T.oh.fn,fň,(aw (bp (aW bŀ ļ T.E6 Boot.«any» (aa (Mh (fc rfl (dY.of (sc:=_) (N:= fň) (own:= [aĻ]) (fr:= [1]) (N':= [aĻ,ă])) (Mf lΔ) (λ_ _ _ _=>(bt (i:=0) (by change([aĻ,ă]:ê).Nodup;decide+kernel) rfl ε)) fL ύ (λ_ _ _ _=>(gq fŏ ć Ć ļ)))) ah))))
 rintro vs M q ⟨b,la,lu,lh,now,p,pa,un,he,R,T',n,rfl,hB,hl,k⟩;let⟨dx,hb⟩:=hB.ob;let⟨qz,r,t,h1,h2,h3⟩:=hB.pg;dsimp? [];exact#[t,_,h3,?_];dsimp? [hb,h1,cl,vH,n2,n3,nJ,sI,h3];intro o ks;rw[HD];exact eU (λz=>wb (Ev n z.2)) fϯ (λM2 s2=>s2 _ _ am) ?_ Ŷ;intro z hz M3 N3 s3 rX;dsimp? [];show Eu rX;have ZY:t≠u:=bń;exact#[o,ks,_,by rw[aR ZY];show am,u,T'.map eČ,rfl,by rw[aR ZY.symm,am,ba];rfl,M,LV h3 hu,?_];rw[List.any_map];show k
def zV (T:ŗ):cB P w K mg base ĳ 4 A.u9 A.vg hϝ (sY K (ZM A.bA A.ck A.ki)):=by
 have cl:=θ;have vH:=dΞ;have n2:=ώ;have n3:=gİ;have n4:=gό;exact D0 T.Bf.fn rF (by rintro vs M q e ⟨b,la,lu,lh,now,p,pa,un,he,R,T',n,a,rfl,_⟩;rfl) ϵ;have nd:=rF.nd;exact#[_,(ak (cq (eX (eB (aQ T.lies_within (l_ T) hr (aa ĉ (aa mů (aa mů ah)))))) (aw (dk hF rfl ļ T.tK (aa (gp (cJ a9 (cJ (oA mů) cč))) ah))) bv) (ak (cq (jK (eB (gG T.oh (qO T) Β Ć Φ)) (io (eX (eB (aQ T.fits_crew (px T) hr Υ))))).pt (aw (dk hF rfl ļ T.tK ť)) bv) (aw (cN (gG T.k7 (lr T) Β Ć (aa (ut T.Page (yz T) Β ļ (aa nú mä)) ah)))))),?_];try dsimp only[dW]
 exact Ϩ;rintro vs M q ⟨b,la,lu,lh,now,p,pa,un,he,R,T',n,a,rfl,hB,hl,hlR,hlT,G9,kq,ke⟩;let⟨dx,hb⟩:=hB.ob;let⟨qz,r,t,h1,h2,h3⟩:=hB.pg;have up: iΒ:=iĿ
 dsimp? [];exact#[a,200,200,rfl,G9,?_];cases hf:dų with
 | true=>dsimp? [bc,aY];(repeat (exact lü));show up _ (ke (by unfold gF;rw[hf];rfl))
 | false=>
  dsimp? [bc,aY,hb,AY];exact#[b,la,lu,lh,now,p,pa,un,he,R,T',n,rfl,hB,hlT,?_];cases hu:Bw T' n with
  | false=>
   have RV:fŐ:=by unfold gF;rw[hf,hu];rfl
   dsimp? [hb,h1,cl,vH,n2,n3,n4,nJ,sI,vQ,oQ];rw[xQ];dsimp? [hb,h1,cl,vH,n2,n3,n4,nJ,sI,vQ];exact lε;have _U:=dR hb hu;have S_:=dR h1 hu;dsimp? [aR _U,aR S_,hb,h1,cl,vH,n2,n3,n4,nJ,sI,vQ];intro pg Kl vG Gj kN;rw[kG] at vG ⊢;exact jĉ;rw[nL];have s2:=mϏ;have Vv:=bł;show nĿ
  | true=>
   dsimp? [];exact#[a,rfl,G9,?_];cases Yj:bΚ with
   | true=>dsimp? [bc,aY];(repeat (exact lü));show up _ (ke (by unfold gF;rw[hu,Yj,hf];rfl))
   | false=>
    have RV:fŐ:=by unfold gF;rw[hf,hu,Yj];rfl
    dsimp? [bc,aY,hb,h1,cl,vH,n2,n3,n4,nJ,sI,vQ,oQ];rw[xQ];dsimp? [hb,h1,cl,vH,n2,n3,n4,nJ,sI,vQ];exact lε;have _U:=dR hb hu;have S_:=dR h1 hu;dsimp? [aR _U,aR S_,hb,h1,cl,vH,n2,n3,n4,nJ,sI,vQ];intro pg Kl vG Gj kN;rw[kG] at vG ⊢;exact jĉ;rw[nL];have s2:=mϏ;have Vv:=bł;show nĿ
def hV (T:ŗ):cB P w K mg base ĳ 1 A.lz A.lE fň (sY K (IF A.bA A.ck A.ij)):=by
 have cl:=θ;have vH:=dΞ;have n2:=ώ;have n4:=gό;exact D0 T.ix.fn jR mŲ ϵ;have nd:=jR.nd;exact#[_,(ak (cq mε (aw (dk hF rfl ļ T.Fc lė)) bv) nÁ),?_];try dsimp only[dW]
 exact Ϩ;rintro vs M q ⟨b,la,lu,lh,now,p,pa,un,he,R,T',n,rfl,hB,hl,kq,ke⟩;let⟨dx,hb⟩:=hB.ob;let⟨qz,r,t,h1,h2,h3⟩:=hB.pg;dsimp? [hb,h1,h2,cl,vH,n2,n4,nJ,vQ,f9];cases hg:aĿ with
 | some a=>dsimp? [d8,Option.isSome_some,bc];dsimp? [hb,h1,h2,cl,vH,n2,n4,nJ,vQ,f9,hg,d8];show dΤ
 | none=>dsimp? [Option.map_none,Option.isSome_none,aY];(repeat (exact nĎ));show hś
def nS (T:ŗ):cB P w K mg base gR 1 A.p5 A.qf ń (jF K (IN A.bA A.ck)):=by
 have cl:=θ;have vH:=dΞ;have n2:=ώ;have n4:=gό;exists T.oV.fn,ń,nþ
 rintro vs M q ⟨b,la,lu,lh,now,p,pa,un,he,R,T',rfl,hB,hl,k⟩;let⟨dx,hb⟩:=hB.ob;let⟨qz,r,t,h1,h2,h3⟩:=hB.pg;dsimp? [hb,h1,h2,cl,vH,n2,n4,nJ,vQ];show#[r,_,δ,rfl,h2,aś,by rw[af];omega,kϺ]
def nT (T:ŗ):cB P w K mg base gR 1 A.p7 A.qh ń (jF K (IW A.bA A.ck)):=by
 have cl:=θ;have vH:=dΞ;have n2:=ώ;have n4:=gİ;exists T.oW.fn,ń,nþ
 rintro vs M q ⟨b,la,lu,lh,now,p,pa,un,he,R,T',rfl,hB,hl,k⟩;let⟨dx,hb⟩:=hB.ob;let⟨qz,r,t,h1,h2,h3⟩:=hB.pg;dsimp? [hb,h1,h3,cl,vH,n2,n4,nJ,sI];show#[t,_,eŀ,rfl,h3,aś,by rw[af];omega,kϺ]
def py (T:ŗ):cB P w K mg base ĳ 1 A.sk A.sC ό (sY K (Ve A.bA A.ck A.kj)):=by
 have cl:=θ;have vH:=dΞ;have n2:=ώ;have n4:=gİ;exact D0 T.rE.fn pd mŲ ϵ;have nd:=pd.nd;exact#[_,(ak (cq mε (aw (dk hF rfl ļ T.Hd lė)) bv) nÁ),?_];try dsimp only[dW]
 exact Ϩ;rintro vs M q ⟨b,la,lu,lh,now,p,pa,un,he,R,T',n,rfl,hB,hl,kq,ke⟩;let⟨dx,hb⟩:=hB.ob;let⟨qz,r,t,h1,h2,h3⟩:=hB.pg;dsimp? [hb,h1,h3,cl,vH,n2,n4,nJ,sI,f9];cases hg:dj T' n with
 | some a=>dsimp? [d8,Option.isSome_some,bc];dsimp? [hb,h1,h3,cl,vH,n2,n4,nJ,sI,f9,hg,d8];show dΤ
 | none=>dsimp? [Option.map_none,Option.isSome_none,aY];(repeat (exact nĎ));show hś
def lv (T:ŗ):cB P w K mg base ĳ 2 A.mM A.mS ό (sY K (IQ A.bA A.ck A.kj)):=by
 exact D0 T.k8.fn lg mŲ ϵ;have nd:=lg.nd;exact#[_,(aw (bp (cQ ji ļ T.mW Boot.«list» (aa mô ah)))),?_];try dsimp only[dW]
 exact Ϩ;rintro vs M q ⟨b,la,lu,lh,now,p,pa,un,he,R,T',n,rfl,hB,hl,kq,ke⟩;let⟨dx,hb⟩:=hB.ob;dsimp? [hb,E3];exact#[b,la,lu,lh,now,p,pa,un,he,R,T',n,rfl,hB,hl,λa hg=> ?_,λhg=>hś];dsimp? [ja];show λu hu=>jm (kq a hg u hu)
def jY (T:ŗ):cB P w K mg base gR 3 A.lA A.lF iò (jF K (IJ A.bA A.ck)):=by
 have cl:=θ;have vH:=dΞ;have n2:=ώ;have n3:=gİ;have n4:=gό;exists T.jN.fn,iò,(aw (cN (gG T.k7 (lr T) Β Ć (aa (ut T.Page (yz T) Β ļ (aa lΔ (aa nú ah))) ah))))
 rintro vs M q ⟨b,la,lu,lh,now,p,pa,un,he,R,T',c,l,rfl,hB,hPa,hT,k⟩;let⟨dx,hb⟩:=hB.ob;let⟨qz,r,t,h1,h2,h3⟩:=hB.pg;dsimp? [hb,oQ];rw[xQ];dsimp? [hb,h1,cl,vH,n2,n3,n4,nJ,sI,vQ];exact#[t,_,c,_,rfl,h3,by rw[xT];omega,Ŷ];intro pg Kl vG Gj kN;rw[kG] at vG ⊢;exact#[pg,Kl,r,u,rfl,am,rfl,?_];rw[nL];have s2:=(aN hu (o:= .dK (xU ja (fV T' c l)))).trans (aN vG (o:= .ins A.ck Kl (oz r u)));have Vv:=bł;show#[b,la,lu,lh,now,pg,p,pa,un,he,R,T',R,_,rfl,bŅ,#[Kl,r,u,am,s2 _ _ h2,by rw[aR Vv];show am],by omega,λM' oH B' F Gh=>jm (k M' oH pg B' (F.sm s2) dΡ gĲ)]
def vU (T:ŗ):cB P w K mg base ĳ 4 A.p6 A.qg ό (sY K (DX A.bA A.ck (Wx A) Se)):=by
 have cl:=θ;have vH:=dΞ;have n2:=ώ;have n3:=gİ;exact D0 T.vE.fn nO (by rintro vs M q e ⟨b,la,lu,lh,now,p,pa,un,he,R,T',dd,ys,rfl,⟨c,rfl,_⟩,_⟩;rfl) ϵ;have nd:=nO.nd;exact#[_,(ak (cN (fJ hP T.check_name (nR T) Β ļ Φ)) (ak (cq (oy (yk ě ć lΔ)) (aw (dk hF rfl ļ T.C_ lė)) bv) (aw (cN (gG T.jN (jY T) Β Ć (aa ć (aa (fq ah) ah))))))),?_];try dsimp only[dW]
 exact Ϩ;rintro vs M q ⟨b,la,lu,lh,now,p,pa,un,he,R,T',dd,ys,rfl,⟨c,rfl,rfl⟩,hc,hB,hS,hT,kq,ke⟩;let⟨dx,hb⟩:=hB.ob;let⟨qz,r,t,h1,h2,h3⟩:=hB.pg;have iQ:=hc.len;have up: iΒ:=iĿ
 dsimp? [];exact#[c,rfl,hc.as,hc.len,λvZ=> ?_,λvZ=>up _ (ke .BadName (by rw[ft,aF vZ]))];have S_:¬bG c=false:=by rw[vZ];decide
 dsimp? [hb,h1,h3,cl,vH,n2,n3,nJ,sI,f9,Option.isSome_map];cases hg:dj T' c with
 | some l=>dsimp? [Option.isSome_some];(repeat (exact#[by first | decide | decide+kernel | show ω | show Wp Ŧ iQ | show Wo Ŧ iQ Ŧ,?_]));show up _ (ke .Taken hŜ)
 | none=>dsimp? [Option.isSome_none,hb,sD];show#[b,la,lu,lh,now,p,pa,un,he,R,T',c,[],rfl,hB,hS.pa,hS.t,λM' oH pg B' F h1 h2=>jm (kq _ hŜ M' oH pg B' F h1 h2)]
def uB (T:ŗ):cB P w K mg base ĳ 4 A.nZ A.og ió (sY K (DX A.bA A.ck (Wx A) Nu)):=by
 exact D0 T.sF.fn lW (by rintro vs M q e ⟨b,la,lu,lh,now,p,pa,un,he,R,T',dd,ys,rfl,⟨c,n,rfl,_⟩,_⟩;rfl) ϵ;have nd:=lW.nd;exact#[_,(ak (3\mô) (ak (4\(jW hP T.ix (hV T) Β Ć Υ)) (ak (cq (bh fŏ ĉ Ċ ļ) (aw (dk hF rfl ļ T.C_ (aa (gp (cJ (l8 ĉ) jŖ)) ah))) bv) (ak (cq (bh zR mĽ mş Ĉ) (aw (dk hF rfl ļ T.Fb (aa (gp (cJ a9 (cJ (oA mş) cč))) ah))) bv) (ak (cq (eX (eB (aQ T.fits_crew (px T) hr fÑ))) (aw (dk hF rfl ļ T.tK (aa (gp (cJ (l8 ĉ) cč)) ah))) bv) (aw (cN (gG T.jN (jY T) Β Ć (aa ć (aa (bV Mt Ċ (fq Υ)) ah)))))))))),?_];try dsimp only[dW]
 exact Ϩ;rintro vs M q ⟨b,la,lu,lh,now,p,pa,un,he,R,T',dd,ys,rfl,⟨c,n,rfl,rfl⟩,⟨hc,hn⟩,hB,hS,hT,kq,ke⟩;let⟨dx,hb⟩:=hB.ob;have iQ:=hc.len;have nE:=hn.len;have up: iΒ:=iĿ
 dsimp? [hb,E3];exact#[b,la,lu,lh,now,p,pa,un,he,R,T',c,rfl,hB,hc.len,λl hg=> ?_,λhg=>up _ (ke .NoCrew (by rw[ft,hg]))];dsimp? [hb,mV];exact#[b,la,lu,lh,now,p,pa,un,he,R,T',n,rfl,hB,hn.len,λa RP=> ?_,λRP=>up _ (ke .NoRound (by rw[ft,hg];dsimp only;rw[RP]))];dsimp? [];exact Eu ?_;let⟨z,hz,_,rfl⟩:=fg RP;cases hi:aļ with
 | true=>dsimp? [];exact#[ω,Wp Ŧ nE,jŗ,ω,kđ,kđ,?_];show up _ (ke .Taken (by rw[ft,hg];dsimp only;rw[RP];dsimp only;rw[aF hi]))
 | false=>
 have G7:¬aļ=true:=by rw[hi];decide
 dsimp? [ja,af];by_cases h6:cϙ
 .have e6:kŢ=true:=Α;dsimp? [e6];(repeat (exact lü));show up _ (ke .TooMany (by rw[ft,hg];dsimp only;rw[RP];dsimp only;rw[aC G7,aF h6]))
 .have e6:kŢ=false:=ς;dsimp? [e6];exact#[z.2,rfl,by have:=(hS.r.ok z hz).2.1;omega,?_];cases hf:dÔ with
  | true=>dsimp? [bc,aY];(repeat (exact#[by first | decide | decide+kernel | show ω | show Wp Ŧ nE | show jŗ,?_]));show up _ (ke .TooFar (by rw[ft,hg];dsimp only;rw[RP];dsimp only;rw[aC G7,aC h6,aF hf]))
  | false=>
   have hsz:((bČ).length+ [ws n].length<=sizeLine)=True:=aB (big (by rw[af];simp;omega));dsimp? [bc,aY,hb,sD];exact#[big gĮ,?_];have el:W.tup (bČ++ [ws n])=ja (l++ [n]):=by unfold ja;rw[aX];rfl
   rw[el];show#[b,la,lu,lh,now,p,pa,un,he,R,T',c,l++ [n],rfl,hB,hS.pa,hS.t,λM' oH pg B' F h1 h2=>jm (kq _ (by rw[ft,hg];dsimp only;rw[RP];dsimp only;rw[aC G7,aC h6,hϘ]) M' oH pg B' F h1 h2)]
def m8 (T:ŗ):cB P w K mg base ĳ 1 A.Aw A.AF bļ (sY K (Mm A.dX)):=by
 exact D0 T.number.fn wK lâ ϵ;have nd:=wK.nd;exact#[_,(ak (1\(Iv (eB (dQ aO PySem.F.slot_str_startswith PySem.F.type_str_startswith vV Ć ť)) jÁ Ć)) (ak (cq (fF (eX (qK ć)) (fo (eB (aW bŀ ļ T.E6 Boot.«any» (aa (fc rfl (dY.of (sc:=_) (N:= jă) (own:= bŁ) (fr:= []) (N':= bŁ)) (yh ć) nÇ fL ύ (λ_ _ _ _=>(gq wS Ć (fR ļ T.Fj.choose_spec (show RelV (.str dγ) _ from ĩ)) ļ))) ah))))).pt lĭ bv) (ak (2\lϤ) (ak (cq (bh jX (cQ kg ļ T.A0 Boot.«str» Υ) Ć Ĉ) lĭ bv) (aw (bp ĉ)))))),?_];try dsimp only[dW]
 exact Ϩ;rintro vs M q ⟨x,rfl,hl,ha,kq,ke⟩;have hz:gϏ:=ω;have gI:jÂ:=aà;have key: ∀f:Str,Tr x f ->f.length<=x.length ->f.cps.all bΕ=true ->hold (BL (S2 (Y1 (PL (Bs (fT 1))) (zu (Uf Uh (tP (Hr (MT (fT 1)) 1 [] (Di 0) PD (PK xP (fT 0) (wC (W.v (V.str (iϪ)))))) Bt)))) (xO A.dX e (tP (wC (W.v (V.str (Str.ofString "a number has figures alone, and perhaps a minus ahead")))) Bt)) DD) (BL (Qt (Uf N_ (tP (fT 0) Bt)) (Di 2)) (BL (S2 (zu (PK Xs (Uf Hg (tP (fT 2) Bt)) (fT 0))) (xO A.dX e (tP (wC (W.v (V.str (Str.ofString "a number has no needless signs")))) Bt)) DD) (Qs (fT 2)))) {nx:=λx M'=> iϛ,rt:=kŔ}) [dÕ,dÖ,none] M:=by
  intro f hf Nc V6;exact Ü;have JT:hŋ=True:=eŁ;dsimp? [Qe,JT];by_cases h0:f.length=0;have e0:hŌ=false:=by rw[h0];rfl
  dsimp? [e0,aY];show#[M,œ,ke λn e=>(hf.num e).2 (List.eq_nil_of_length_eq_zero ((bx f).trans h0))];have e0:hŌ=true:= ⇑h0;dsimp? [e0,bc,V6];exact eU (gϐ) lã fϫ ?_ Ŷ;intro c hc M3 N3 s3 rX;dsimp? [];show rX;exact#[u,jÃ,rfl,by rw[am,ba];rfl,?_];have Lx:Sm M (um M u (.lst ((oq f).map gϐ))):=Ý;by_cases hd:PySem.NumText.AllDigits f.cps.toList;have e3:kμ=false:=by rw[List.any_map,List.any_eq_false];intro c hc;unfold oq at hc;let⟨d,Cu,rfl⟩:=bĝ;simp[tf,hd d Cu]
  rw[e3];let⟨v,hv,V2⟩:=hf.int hd (λz=>h0 (by rw[<- bx,z];rfl)) hl;dsimp? [];exact jÄ;dsimp? [];exact#[V2,?_];by_cases hx:jŘ;have ex:kϣ=true:=aH hx;dsimp? [ex,bc];show#[M,Lx,kq v hx.symm];have ex:kϣ=false:=ay hx;dsimp? [ex,aY];exact#[M,Lx,ke λn en=>hx ?_];have h1:=jf (n:=n) (by rw[<- en];omega);rw[<- en,hv] at h1;rw[aÌ,en];have e3:kμ=true:=by have⟨c,hc,hn⟩: ∃c∈f.cps.toList,¬fϒ:=mϳ;rw[List.any_map,List.any_eq_true];exact hù;unfold oq;show gΦ;change(!m9 _ E_)=true;rw[tf,ay hn];rfl
  rw[e3];dsimp? [];show#[M,Lx,ke λn e=>hd (hf.num e).1]
 have has:=hú
 by_cases hm:kΞ=true;let⟨r,lL⟩:=(zA x).mp hm;simp? [↓fk,hm,gI];exact key _ (.inl (by rw[Dw lL];show lL)) (bĤ) (gl has);have qx:kΞ=false:=by simpa using hm
 simp? [↓fk,qx];exact key _ (.inr #[rfl,λr lL=>hm ((zA x).mpr #[r,lL])]) ï ha
def Mw (T:ŗ):cB P w K mg base ĳ 2 A.Kc A.Kq dΖ (sY K (Vl A.dX)):=by
 exact D0 T.lamp.fn Dy lĘ ϵ;have nd:=Dy.nd;exact#[_,(ak (gt (dQ aO PySem.F.slot_str_partition PySem.F.type_str_partition yA ć ť) (iO (n:=3) rfl (cg kĐ mΝ))) (ak (5\(fq (aa (fJ hP T.number aŜ Β ļ Υ) (aa (fJ hP T.number aŜ Β ļ fÑ) ah)))) (ak (cq (eX (uq rO wT ao (Ď∪ao) Ć)) lĭ bv) (aw (bp Ď))))),?_];try dsimp only[dW]
 exact Ϩ;rintro vs M q ⟨p,x,rfl,hl,ha,kq,ke⟩;have hz:gϏ:=ω;have gI:jÂ:=aà;have hq:(iϟ==0)=false:=by right
 have vF:=hú
 dsimp? [gI,hq];rcases Iz x 61 with⟨a,b,hx,Bm,hp⟩ | ⟨Bm,hp⟩
 rw [<- gK] at hp;rw[hp];have G9:=kX (a++cϧ) b;have hlb:=kX a cϧ;rw[<- hx] at G9;have asx:bK a /\ bK b:=by rw[hx] at vF;rw[fO] at vF ⊢;rw[fO];rw[bD,bD] at vF;show#[jĊ,jĊ]
 exact#[a,rfl,by omega,asx.1,cĢ,λoK=>#[M,œ,ke λa' b' _ _ z=>oK a' jÅ.1]];exact#[b,rfl,by omega,asx.2,dØ,λoK=>#[M,œ,ke λa' b' _ _ z=>oK b' jÅ.2]];dsimp? [];have hxx:x=mγ:=by rw[hx,hm,hn,gK]
 have bad:¬(1<=n /\ n<p) -> ∀a' b':Int,1<=b' ->b'<p ->x≠Str.ofString (toString a')++fΜ ++Str.ofString (toString b'):=λh a' b' h1 h2 z=>by have e:=jÅ.2;rw[hn] at e;have e1:=jf (n:=n) (by rw[<- hn];omega);have e2:=jf (n:=b') (by rw[<- e, <- hn];omega);rw[e,e2] at e1;cases e1;show h bÍ
 by_cases h1:1<=n;by_cases h2:n<p;dsimp? [aÜ,aH h2,bc];show#[M,œ,kq m n hxx h1 h2];dsimp? [aÜ,ay h2,aY];show#[M,œ,ke (bad λz=>h2 z.2)];dsimp? [aá];show#[M,œ,ke (bad λz=>h1 z.1)];rw[<- gK] at hp;rw[hp];have no: ní:=λa b _ _ z=>Bm (Js z);exact#[x,rfl,hl,ha,cĢ,jċ];show#[Str.empty,rfl,ν,by right,λn hn=>absurd hn Jb,jċ]
def Mv (T:ŗ):cB P w K mg base ĳ 3 A.Kb A.Kp dΖ (sY K (Vj A.dX bE)):=by
 exact ZT T.read.fn Dx lĘ λcdv A' outer s H E e hr hF hP hC=> ?_;have nd:=Dx.nd;exact#[_,(ak ně (ak (cq (eX (eB (dQ aO PySem.F.slot_str_endswith PySem.F.type_str_endswith zY ĉ ť))) lĭ bv) (ak (zO (i:=4) hC rfl nd rfl (Or.inl rfl) (dY.of (sc:=_) (N:= lδ) (own:= ["told"]) (fr:= [0]) (N':= dΥ)) iø (λ_ _ _ _=>(bt (i:=0) (by change(dΥ:ê).Nodup;decide+kernel) rfl ε)) fL ύ (λ_ _ _ _=>(yf T.lamp (Mw T) Β ļ (aa ć Χ))) rfl) (ak (BS (i:=5) rfl nd rfl (Or.inl rfl) (dY.of (sc:=_) (N:= lδ) (own:= hø) (fr:= []) (N':= hø)) iù nŉ iH ύ (λ_ _ _ _=>Ć) rfl) (ak (cq (eB (aW bŀ ļ T.E6 Boot.«any» (aa (fc rfl (dY.of (sc:=_) (N:= lδ) (own:= gĳ) (fr:= []) (N':= gĳ)) (QG rfl ļ T.Wy (aa Ď (aa (bP gm Ď aύ cI) ah))) (λ_ _ _ _=>(iO (n:=2) rfl (cg (bt (i:=0) mĂ rfl ε) (cg (bt (i:=1) mĂ rfl ε) fB)))) iH ύ (λ_ _ _ _=>(gq zR Ć ć Ĉ))) ah))) lĭ bv) (aw (bp (fq (aa (fJ hP T.number aŜ Β ļ (aa (bP eI ĉ cI (b_ (ON Hv ao))) ah)) (aa (cQ iI ļ T.jB Boot.«tuple» fÑ) ah)))))))))),?_];try dsimp only[dW]
 exact Ϩ;rintro vs M q ⟨p,x,rfl,hl,ha,kq,ke⟩;have hz:hŝ:=ω;have gI:jř:=aà;have hq:kϤ:=by right
 dsimp? [gI,hq];intro u hu;let⟨e0,ls,hw⟩: ∃e0 ls,kϵ:=by
  cases e:kÓ with
  | nil=>show gĩ
  | cons a b=>show cĆ
 rw[hw];have wl:=gx hw;have NV:=iY hú hw;exact#[u,ws e0,bϕ,rfl,am,dÙ];dsimp? [];by_cases hm:kξ=false;dsimp? [hm,aY];exact#[M,hϡ,ke λr _ z=> ?_];rw[bϖ.1,(AC _).mpr #[_,by rw[bD,h_]]] at hm;cases hm;replace hm:kξ=true:= ⇑hm;dsimp? [hm,bc,LK];have G8:ls.length<=502:=by have:=split_le x ϛ;rw[hw] at this;simp at this;omega
 have s1:Sm M (mč):=hϡ;have Ry:um kο v gϑ v=iŀ:=am;generalize mč=M1 at s1 Ry ⊢;exact#[aL gĮ,λt ht=>#[λi ys M'=> ∃zs:Pt,gX (ys=zs.map dC) (ls.take i=zs.map bR) (∀z∈zs,fĺ) (bÿ) (M' t=eΑ),#[[],rfl,by simp,by simp,aN ht,am],?_,?_,?_]];rintro i ys M' hi ⟨zs,rfl,rV,JT,sm,rW⟩;exact#[sm _ _ Ry,rW,?_];have:=congrArg List.length rV;simp at this ⊢;omega;rintro i y ys M' hy ⟨zs,rfl,rV,JT,sm,rW⟩;rw[aD] at hy;cases el:ls[i]? with
 | none=>rw[el] at hy;cases hy
 | some l=>rw[el] at hy;cases hy;have hm1:l∈aŇ:=aJ _ (a7 el);dsimp? [Hh,sX];rw[cā];exact#[p,l,rfl,by have:=wl l hm1;omega,NV l hm1,λa b Lu h1 h2=>#[rW,zs++ [(a,b)],by simp,?_,?_,sm.um ht,trivial],λoK=>#[M,dÚ,fő]];rw[cy,el,rV,aX,Lu];rfl;intro z hz;obtain h | h:=bĦ;show JT z h;rw[aο];show bÍ;have hm2:=a7 el;rw[bϖ.2] at hm2;let⟨z',gI,e'⟩:=aG.mp hm2;show oK z'.1 z'.2 dÛ.1 dÛ.2 e'.symm
 rintro ys M' ⟨zs,rfl,rV,JT,sm,rW⟩;rw[af,cr] at rV;have s2:=dÚ;clear sm Ry s1;exact Ü;dsimp? [rW];have VS:fÕ:=by rw[rV,af] at G8;show G8
 exact eU (λz:Ľ=>wi z.1) (ω) (λM2 UN=>UN _ _ rW) ?_ cŉ;intro z hz M3 N3 s3 rX;dsimp? [dC];show rX;have X9:um M' y (jÆ) y=some (jÆ):=am;have An:um M' y (jÆ) t=some (.lst (zs.map dC)):=aN hy _ _ rW;replace s2:=s2.trans (aN (o:= jÆ) hy);generalize um M' y (jÆ)=M2 at X9 An s2 ⊢;dsimp? [X9];intro w' MX;have hc1:oO hŞ bě none=jŚ:=(aŝ).trans (List.map_drop ..).symm;rw[hc1];exact#[y,_,w',_,rfl,aN MX _ _ X9,am,?_];have ez:EN.sG hŞ (jŚ)=iμ λz=> .tup [wi z.1.1,wi aÁ]:=by unfold EN.sG;rw[List.zip_map,ba];rfl
 rw[ez];have X8:=aN (o:= kπ) MX _ _ X9;have Cr:=aN (o:= kπ) MX _ _ An;have zj:um M2 w' (kπ) w'=some (kπ):=am;replace s2:=s2.trans (aN (o:= kπ) MX);generalize um M2 w' (kπ)=M3 at X8 Cr zj s2 ⊢;exact eU (λz:(Ľ)× (Ľ)=>wb (hϐ)) (aL (by rw[List.length_zip];omega)) (λM4 sm4=>#[sm4 _ _ X8,sm4 _ _ zj]) ?_ λo ho=> ?_;intro z hz M4 N4 s4 hN4;dsimp? [];show hN4;exact#[o,mÃ,rfl,by rw[am,ba];rfl,?_];have Rz:=aN (o:= mŅ) ho _ _ Cr;replace s2:=s2.trans (aN (o:= mŅ) ho);generalize um M3 o (mŅ)=M4 at Rz s2 ⊢;cases R5:mģ with
 | true=>dsimp? [];exact#[M,s2,fő];have er:zs=r.2:=qS (λz' gI=>by have:=wl (bR z') (aJ _ (by rw[rV];show aG.mpr #[z',gI,rfl]));omega) (rV.symm.trans bϖ.2);rw[(ug zs).mpr (by rw[er];show g.1)] at R5;cases R5
 | false=>dsimp? [];let⟨E0,Yo⟩:=(AC e0).mp hm;have G5:=LZ Yo;have hle:=wl e0 aΜ;exact ϣ;exact#[_,rfl,az (dP e0 _ _) Ť,gl (NV e0 aΜ),dØ,λoK=>#[M,s2,ke λr g z=>oK r.1 ?_]];dsimp? [Rz];exact#[M,s2,kq (n,zs) #[(ug zs).mp R5,JT] ?_];have he:e0=(toString n:Str)++ ":" :=eM (by rw[Yo, <- G5,hn,bD,h_]);have hj:=bW x ϛ;rw[hw,he,rV, <- cf] at hj;rw[eE];show hj.symm;exact aÛ;rw[G5];have e1:=bϖ.1;rw[e1,bD,h_] at Yo;show(List.append_inj_left' Yo rfl).symm
def I_ (T:ŗ):cB P w K mg base gR 1 A.EC A.ET aϊ (jF K QP):=by
 exists T.shown.fn,iŁ,(ak (gt Ć (iO (n:=2) rfl mΟ)) (aw (bp (bV ei (gp (cJ (oA ć) cč)) (dQ aO cC cL jς a9 (aa (fc rfl (dY.of (sc:=_) (N:= iŁ) (own:= hø) (fr:= []) (N':= hø)) (yg (K:=K) rfl ĉ) nŉ iH ύ (λ_ _ _ _=>(gp (cJ a9 (cJ (oA Ć) (cJ a9 (cJ (oA ć) iN))))))) ah))))))
 rintro vs M q ⟨a,rfl,hl,⟨hn,hz⟩,k⟩;have l1:=ip hn;have lc:jĸ:=by right
 have lb:ϯ:=by right
 have le:jİ:=by right
 have l0:jð:=by right
 dsimp? [kF,oB,aB (m_ hn),EI];exact ϣ;dsimp? [];exact jČ;dsimp? [];exact jČ;dsimp? [];exact eU (λz=>ws (" " ++bR z)) fϯ fϫ ?_ dÝ;intro z Cq M3 N3 s3 rX;have rV:=aϑ;have n1:=ip rV.1;have n2:=ip rV.2;simp? [↓d6,dC,EI];exact ϣ;simp? [↓d6,dC,aB (m_ rV.1),dΦ];exact jČ;simp? [↓d6];exact jϝ;simp? [↓d6,dΦ];exact kĺ;simp? [↓d6];exact kĺ;rw[show ϒ ++jŀ++fΜ ++jń=ϒ ++bR z by rw[bR,rA,rA,rA]];show rX;have eD: mę:=λx hx=>by let⟨z,Cq,rfl⟩:=bċ;have:=Ae (aϑ);rw[a8];omega
 have O7:(kϥ).length*(124+iθ) <=200000:=by rw[af,l0];omega
 have hsz:(200000:Nat) <=sizeLine:=by rw[cP];decide
 exact kL (ss:=kϥ) (c:=124) (by rw[am,ba];rfl) eD (az O7 hsz) ?_;have hgl:=gJ gþ (kϥ) eD;dsimp? [];exact#[az (m:=300000) gċ gπ,?_];show#[M,aN ht,k]
def uw (T:ŗ):cB P w K mg base gR 1 A.xo A.xv [cĊ] (jF K Ml):=by
 exists T.yG.fn,[cĊ,dΧ],(ak (1\(cY (aa (bV ei (cQ kg ļ T.A0 Boot.«str» hϢ) a9) ah))) (ak (cN (dQ bj PySem.F.slot_list_extend PySem.F.type_list_extend qQ ć (aa (fc rfl (dY.of (sc:=_) (N:= [cĊ,dΧ]) (own:= jϞ) (fr:= []) (N':= jϞ)) jϟ nŋ iH ύ (λ_ _ _ _=>(bV ei (bV ei lϥ a9) (cQ kg ļ T.A0 Boot.«str» Φ)))) ah))) mź))
 rintro vs M q ⟨a,rfl,hl,⟨hn,hz⟩,k⟩;have l1:=gH (k:=500) ⋯ hn;have lc:jĸ:=by right
 have lb:ϯ:=by right
 have le:jİ:=by right
 dsimp? [kF,oB,aB (uC hn)];exact ϣ;intro t ht;dsimp? [];exact eU (fÖ) fϯ fϫ ?_ Ŷ;intro z Cq M3 N3 s3 rX;have rV:=aϑ;have n1:=gH (k:=500) ⋯ rV.1;have n2:=gH (k:=500) ⋯ rV.2;have g1:=aB (uC rV.1);have g2:=aB (uC rV.2);dsimp? [dC,g1,g2];exact ϣ;dsimp? [g2];exact jČ;show rX;have htu:t≠u:=bń;have V3:(1+(iú).length<=sizeLine)=True:=kς;dsimp? [aR htu,V3];have hsm:Sm M (um (um (um M t mě) u (.lst (iú))) t (.lst ([ws lΙ]++iú))):=λc o e=>by
  have nt:=dR e ht;have h2:um M t mě c=ä:=by rw[aR nt];show e
  rw[aR nt,aR (dR h2 hu)];show h2
 have eD: ∀x∈lϱ,x.length<=1100:=λx hx=>by obtain rfl | hx:=bÎ;rw[a8];omega;let⟨z,Cq,rfl⟩:=bċ;have:=FZ (k:=500) ⋯ (aϑ);omega
 exact kL (ss:=lϱ) (c:=1100) ?_ eD ?_ ?_;rw[am,av,ba];rfl;exact az (m:=2000000) ?_ gπ;rw[ax,af,lb];omega;rw[<- eE];show#[M,hsm,k]
def yy (T:ŗ):cB P w K mg base gR 3 A.sj A.sB [ą] (jF K (BU A.bA A.ck)):=by
 have ik:=kϦ;have iS:=kϧ;exists T.book_text.fn,fŒ,(ak (1\(cY (aa (gp (cJ a9 (cJ (oA kϻ) iN))) ah))) (ak (cN (dQ bj PySem.F.slot_list_extend PySem.F.type_list_extend qQ ć (aa (fc rfl (dY.of (sc:=_) (N:= fŒ) (own:= bĻ) (fr:= [0]) (N':= [ă,ą])) (dF (K:=K) rfl (gy T.oV (nS T) Β Ć)) (λ_ _ _ _=>(bt (i:=0) (by change([ă,ą]:ê).Nodup;decide+kernel) rfl ε)) fL ύ (λ_ _ _ _=>(gp (cJ a9 (cJ (l8 Ć) (cJ a9 (cJ (l8 (aQ T.shown (I_ T) hr (aa (gG T.ix ik Β ć Χ) ah))) iN))))))) ah))) (ak (cN (dQ bj PySem.F.slot_list_extend PySem.F.type_list_extend qQ ć (aa (fc rfl (dY.of (sc:=_) (N:= fŒ) (own:= [Ă]) (fr:= [0]) (N':= [Ă,ą])) (dF (K:=K) rfl (gy T.oW (nT T) Β Ć)) (λ_ _ _ _=>(bt (i:=0) (by change([Ă,ą]:ê).Nodup;decide+kernel) rfl ε)) fL ύ (λ_ _ _ _=>(QJ (K:=K) rfl aO cC cL (Jk (K:=K) rfl) a9 (aa (bV BW (cY (aa a9 Χ)) (gG T.k8 iS Β ć Χ)) ah)))) ah))) mź)))
 rintro vs M q ⟨b,la,lu,lh,now,p,pa,un,he,R,T',rfl,hB,hp,hS,⟨Yg,Lu⟩,k⟩;let⟨dx,hb⟩:=hB.ob;have pn:=hŇ;have pl:=hş;have l9:kΛ:=by right
 have l6:kÑ=6:=by right
 have l1:ϯ:=by right
 dsimp? [EI];exact ϣ;dsimp? [hb,mU];exact#[b,la,lu,lh,now,p,pa,un,he,R,T',rfl,hB,?_];dsimp? [aB pl];exact#[hń,hń,?_];dsimp? [];intro w hw;have s1:Sm M (mΒ):=aN hw;have G4:nİ:=am;change mϯ;generalize mΒ=M1 at s1 G4 ⊢;have Td:=s1 _ _ hb;have R9:=hB.sm s1;dsimp? [G4,Td,AX];exact#[b,la,lu,lh,now,p,pa,un,he,R,T',rfl,R9,by omega,hϣ];have hMw:M w=none:=hw;have s2:Sm M1 (jś):=aN nE;have v6:må:=am;generalize jś=M2 at s2 v6 ⊢;have Z9:=np.length_eq;rw[af] at Z9;dsimp? [v6];exact eU (fϏ) fϯ (λM' s=>s _ _ v6) ?_ Ŷ;intro n hn M3 N3 s3 rX;let⟨z,hz,rfl⟩:=aG.mp (np.mem_iff.mp hn);have nE:=bΛ;let⟨a,hg⟩:=nj hz;have hB3:=R9.sm eł;have hb3:=eł _ _ Td;let⟨y,hy,_,rfl⟩:=Ö;have vZ:=D8 Ť fØ.1 fØ.2.2;have G5:=qG vZ fØ.2.1;dsimp? [EI];exact ϣ;dsimp? [];exact ϣ;dsimp? [];exact jČ;dsimp? [];exact jϝ;dsimp? [hb3,mV];exact xY #[b,la,lu,lh,now,p,pa,un,he,R,T',_,rfl,hB3,dÞ,λa uU=> ?_,λuU=>by rw[hg] at uU;cases uU];rw[hg] at uU;cases uU;dsimp? [];exact#[_,rfl,by have:=fØ.2.1;omega,vZ,?_];dsimp? [];exact#[iX Ť,?_];dsimp? [];exact kĻ;dsimp? [];exact kĻ;have er:lý:=by unfold di;rw[hg]
 rw[er] at rX;show rX;have s3:=s2.trans (aN hu (o:= kà));have zj:=s3 _ _ G4;have JV:um M2 u (kà) u=some (kà):=am;generalize um M2 u (kà)=M3 at s3 zj JV ⊢;have z1:(1+kļ<=sizeLine)=True:=kς;dsimp? [zj,JV,z1];have f4: ∀a o,cÎ ->um M3 w nÌ a=ä:=λa o h=>by rw[eŃ];show s3 _ _ (s1 _ _ h)
 have Ew:um M3 w nÌ w=some nÌ:=am;generalize um M3 w nÌ=M4 at f4 Ew ⊢;have Wf:=f4 _ _ hb;have Tg:=hB.sm f4;dsimp? [Ew,Wf,AZ];exact#[b,la,lu,lh,now,p,pa,un,he,R,T',rfl,Tg,by omega,iû];have s5:Sm M4 (jŜ):=aN iQ;have Tc:um M4 cl gϒ cl=iŃ:=am;generalize jŜ=M5 at s5 Tc ⊢;have cln:=cp.length_eq;rw[af] at cln;dsimp? [Tc];exact Kx (gĴ) fϯ (λM' s=>s _ _ Tc) ?_ λv M7 hv s7 hv7=> ?_;intro n hn M6 N6 s6 hN6;let⟨z,hz,rfl⟩:=aG.mp (cp.mem_iff.mp hn);have nE:=eĝ;have hg:=eń;have Yq:=Tg.sm eŅ;have hb6:=eŅ _ _ Wf;have er:mÅ:=by unfold eO;rw[hg]
 dsimp? [];intro x1 Rv;have hb7:um M6 x1 (iń) b=_:=aN Rv _ _ hb6;dsimp? [hb7,vq];exact xY #[b,la,lu,lh,now,p,pa,un,he,R,T',_,rfl,Yq.sm (aN Rv),dÞ,λa uU x2 JU=> ?_,λuU=>by rw[hg] at uU;cases uU];rw[hg] at uU;cases uU;have VB:x1≠x2:=dR am JU;have zl:=eņ;have z2:jϠ:=aB fϯ;dsimp? [am,aR VB,af,z2];intro x3 _D;dsimp? [];exact nđ;rw[er] at hN6;show hN6 _ (((aN Rv).trans (aN JU)).trans (aN _D));have hw7:=s7 _ _ (s5 _ _ Ew);have z2:(kļ+1+(cs.map gĴ).length<=sizeLine)=True:=aB (by rw[af,af];show fÔ);dsimp? [hw7,hv7,ax,z2];exact xC hp (hS.n Ť) hř np Z1 cp csr am ?_;show#[M,λa o h=>by rw[eŃ];show s7 _ _ (s5 _ _ (f4 _ _ h)),k]
def md (T:ŗ):cB P w K mg base gR 2 A.nX A.n9 [χ,dΘ] (jF K zQ):=by
 exists T.mq.fn,[χ,dΘ,dß,dÆ,dà],(ak (2\(cY (aa (bV ei a9 lϥ) ah))) (ak (fX cG rfl mϜ kč (aw (cN (dQ bj cW cV fK ĉ (aa (bV ei (bV ei (bV ei a9 Ċ) a9) (aQ T.yG (uw T) hr (aa (iU ě eļ Ċ ζ) ah))) ah))))) (ak (fX cG rfl mϜ kĎ (aw (cN (dQ bj cW cV fK ĉ (aa (dQ aO cC cL jς a9 (aa (bV BW (cY (aa a9 fÑ)) (cQ ji ļ T.mW Boot.«list» (aa (iU ě eļ Č ζ) ah))) ah)) ah))))) mŻ)))
 rintro vs M q ⟨p,r,t,R,T',rfl,⟨lL,ht⟩,hp,hS,⟨Yg,Lu⟩,k⟩;have pn:=hŇ;have pl:=hş;have l9:kΛ:=by right
 have l6:kÑ=6:=by right
 have l1:ϯ:=by right
 dsimp? [aB pl];exact ϣ;intro w hw;have s1:Sm M (mΒ):=aN hw;have G4:nİ:=am;change mϯ;generalize mΒ=M1 at s1 G4 ⊢;dsimp? [];exact#[r,_,δ,rfl,s1 _ _ lL,aś,by rw[af];omega,hϣ];have Z9:=np.length_eq;rw[af] at Z9;have nwl:nl≠w:=λz=>by subst z;rw[G4] at nE;cases nE
 have s2:=s1.trans (aN nE (o:= fϘ));have O0:=aN nE (o:= fϘ) _ _ G4;have v6:må:=am;generalize jś=M2 at s2 O0 v6 ⊢;dsimp? [v6];exact iG (λi ρ M'=> ∃o1:Å,fE (ρ= [Ų,iŅ,dá,o1,none]) (M' w=some (.lst (mă::kĽ))) (M' nl=iİ) (ę)) #[none,rfl, ⇑O0,v6,s2] mÆ ?_ ?_;rintro i x ρ M3 hx ⟨o1,rfl,zj,RK,s3⟩ N hN;let⟨n,hn,rfl⟩:=mh hx;let⟨z,hz,rfl⟩:=aG.mp (np.mem_iff.mp (a7 hn));have nE:=bΛ;let⟨a,hg⟩:=nj hz;let⟨y,hy,_,rfl⟩:=Ö;have vZ:=dâ.1;have G5:=qG vZ dâ.2;have M_:=s3 _ _ lL;have er:lý:=by unfold di;rw[hg]
 have c1:(kÑ+cö<=sizeLine)=True:=gϔ;have c2:((hΩ ++z.1).length+iϥ<=sizeLine)=True:=aB (hń);dsimp? [c1,c2,M_,f9,hg,d8,zj];exact#[_,rfl,by have:=dâ.2;omega,vZ.k,?_];have c3:((hΩ ++z.1++ϒ).length+(bE y.2).length<=sizeLine)=True:=aB (iX hŅ);have c4:((kĽ).length+1<sizeLine)=True:=aB (nI (by rw[af,bz];omega));dsimp? [c3,c4,zj,ax];have et:ns.take Ð=ns.take i++ [z.1]:=by rw[cy,hn];rfl
 exact kτ;rw[am,et,aX,av,dw,er];rw[aR nwl];show RK;rw[dΨ];show s3 _ _ h;rintro ρ M3 ⟨o1,rfl,zj,RK,s3⟩;rw[af,cr] at zj;clear G4 O0 v6 s1 s2 RK nE;dsimp? [];exact#[t,_,eŀ,rfl,s3 _ _ ht,aś,by rw[af];omega,iû];have cln:=cp.length_eq;rw[af] at cln;have nwc:cl≠w:=λz=>by subst z;rw[zj] at iQ;cases iQ
 have s4:=s3.trans ká;have Ew:=aN iQ (o:= fϰ) _ _ zj;have Pb:um M3 cl gϒ cl=iŃ:=am;generalize um M3 cl gϒ=M4 at s4 Ew Pb ⊢;dsimp? [Pb];exact iG (λi ρ M'=> ∃o2:Å,fE (ρ= [Ų,iŅ,dá,o1,o2]) (M' w=some (.lst (mă::((ił)++kţ)))) (M' cl=iŃ) (ę)) #[none,rfl, ⇑Ew,Pb,s4] mÆ ?_ ?_;rintro i x ρ M5 hx ⟨o2,rfl,Ge,Tc,s5⟩ N hN;let⟨n,hn,rfl⟩:=mh hx;let⟨z,hz,rfl⟩:=aG.mp (cp.mem_iff.mp (a7 hn));have nE:=eĝ;have hg:=eń;have ht5:=s5 _ _ ht;have er:mÅ:=by unfold eO;rw[hg]
 have zl:=eņ;dsimp? [Ge];intro x1 Rv;have ht6:=aN Rv (o:= iń) _ _ ht5;dsimp? [ht6,f9,hg,d8,ja];intro x2 JU;have VB:x1≠x2:=dR am JU;have z2:jϠ:=aB fϯ;dsimp? [am,aR VB,af,z2];intro x3 _D;dsimp? [];exact nđ;have sx:=((aN Rv (o:= iń)).trans (aN JU (o:= gĵ))).trans (aN _D (o:= .lst (gϓ++z.2.map ws)));have hw6:=sx _ _ Ge;have RU:=sx _ _ Tc;have s6:=s5.trans sx;have c4:((iϦ++kţ).length+1<sizeLine)=True:=aB (nI (by rw[aE,af,af,bz];omega));dsimp? [];exact#[_,hw6,?_];dsimp? [c4,ax];have et:cs.take Ð=cs.take i++ [z.1]:=by rw[cy,hn];rfl
 exact kτ;rw[am,et,aX,av,dw,er,bn];rw[aR nwc];show RU;rw[dΨ];show s6 _ _ h;rintro ρ M5 ⟨o2,rfl,Ge,Tc,s5⟩;rw[af,cr] at Ge;dsimp? [];exact xC hp hS hř np Z1 cp csr Ge ?_;show#[M,s5,k]
def oG (T:ŗ):cB P w K mg base gR 1 A.jz A.jA ń (jF K (QZ A.bA A.ck)):=by
 have cl:=θ;have n3:=fϬ;have n4:=gύ;have n5:=fϭ;exists T.lH.fn,ń,mϲ
 rintro vs M q ⟨b,la,lu,lh,now,p,pa,un,he,R,T',rfl,hB,k⟩;let⟨dx,hb⟩:=hB.ob;dsimp? [hb,cl,n3,n4,n5];intro u1 h1;have e1:=aN (o:= Ė) h1 _ _ hb;have f1:iA aĸ (wr u1) (gĆ)=gĶ:=rfl;have l1:lÚ:=jδ;dsimp? [e1,cl,n3,n4,n5,l1,f1];let⟨F1,b1,v1,ne1,_⟩:=yM (o:= Ė) (I:= kľ) hb h1;generalize um (um M u1 ŏ) b (kľ)=M1 at F1 b1 v1 ⊢;intro u2 h2;have e2:=aN (o:= Ė) h2 _ _ b1;have f2:iA bĎ (wr u2) (gĶ)=gķ:=rfl;have l2:((gĶ).length<Â)=True:=jδ;dsimp? [e2,cl,n3,n4,n5,l2,f2];let⟨F2,b2,v2,ne2,_⟩:=yM (o:= Ė) (I:= kĿ) b1 h2;generalize um (um M1 u2 ŏ) b (kĿ)=M2 at F2 b2 v2 ⊢;intro u3 h3;have e3:=aN (o:= Ė) h3 _ _ b2;have f3:iA aĹ (wr u3) (gķ)=gĸ:=rfl;have l3:((gķ).length<Â)=True:=jδ;dsimp? [e3,cl,n3,n4,n5,l3,f3];let⟨F3,b3,v3,ne3,_⟩:=yM (o:= Ė) (I:= kŀ) b2 h3;generalize um (um M2 u3 ŏ) b (kŀ)=M3 at F3 b3 v3 ⊢;have F:=Av (Av F1 F2) F3;have w1:M2 u1=fÍ:=F2 _ _ v1 ne1;exact jm (k M3 u1 u2 u3 #[#[dx,b3],F3 _ _ w1 ne1,F3 _ _ v2 ne2,v3,#[dR v1 h2,dR w1 h3,dR v2 h3],?_] F);let⟨qz,r,t,g1,g2,g3⟩:=hB.pg;have Z2:now≠b:=λe=>by rw[e,hb] at g1;injection g1 with g;injection g with _ _ g;show absurd (congrArg List.length g) (by change ¬(5=2);decide)
 show#[qz,r,t,F _ _ g1 Z2,F _ _ g2 λe=>(by rw[e,hb] at g2;cases g2),F _ _ g3 λe=>(by rw[e,hb] at g3;cases g3)]
def uA (T:ŗ):cB P w K mg base ĳ 6 A.nY A.n_ fϦ (sY K (Vp A.bA A.ck bŇ)):=by
 have cl:=θ;exact D0 T.enter_round.fn lV mĶ ϵ;have nd:=lV.nd;exact#[_,(ak (2\eŇ) (ak (cN (fJ hP T.check_name (nR T) Β ļ Υ)) (aw (cN (jW hP T.Bf (zV T) Β Ć (aa ĉ (aa (fJ hP T.read (Mv T) Β ļ (aa kϻ mϷ)) ah))))))),?_];try dsimp only[dW]
 exact Ϩ;rintro vs M q ⟨b,la,u,p,k,R,T',n,ms,row,rfl,hu,gC,hB,hO,kq,ke⟩;let⟨lu,lh,now,pa,un,he,Gn,g1,g2,g3⟩:=hB;have wl:=gx gC;have NV:=dã;have eD:=hO.len;have hkl:=hO.kl;have nw:n.length<=490:=az (wl n Ň) eD;have up: ∀C,(C=A.i7 \/ C=A.dX \/ C=A.ki) -> ∀M',hŠ ->γ ->WL.up e C M':=λC hC M' h F=>#[M',cđ,ke h C M' (by obtain rfl | rfl | rfl:=hC <;>first | show T.gT | show T.dm | show T.iE) F]
 have rp:fœ=(if Ŗ then(match ox p (Builtin.Str.glued " " ms) with
 | aō=>if gF T' n r=true then none else some (bĩ,T')
 | none=>none) else none):=by
  unfold g_
  rw[kŤ]
  simp only
  rw[cā]
  try rfl
 have F0:dä:=fÙ;dsimp? [hu];exact#[n,rfl,NV n Ň,by omega,λvZ=> ?_,λvZ=>up _ ř M (by rw[rp,aC (by rw[vZ];decide)]) F0];rw[aF vZ] at rp;let⟨dx,hb⟩:=Gn.ob;dsimp? [hu,hb,cl,Ss,mU];exact#[b,la,lu,lh,now,p,pa,un,he,R,T',rfl,Gn,?_];dsimp? [hu];intro v hv;have Cv:lŭ:=aŝ;rw[Cv];have hm:=i8 gC;simp![ax] at hm;let⟨tl,ta⟩:=qD gC;exact kL am (c:=490) (λx hx=>az (wl x eķ) eD) (by rw[show ϯ from by right];have:ms.length<=490:=Ť;show az (Nat.mul_le_mul_right 491 this) Ŧ) ?_;have s1:Sm M (jÈ):=aN hv;have F1:sE b la M (jÈ):=hϤ;generalize jÈ=M1 at s1 F1 ⊢;dsimp? [];exact#[p,_,rfl,by omega,ta hO.as,λr hr hx=> ?_,λoK=>up _ (.inr ř) M1 ?_ F1];rw[sZ Ť hr hx] at rp;simp only at rp;dsimp? [];have R9:=Gn.sm s1;have hrl:r.2.length<=1000000:=by have h1:=i8 (jQ r);rw[<- hx] at h1;simp at h1;omega
 exact#[b,la,lu,lh,now,p,pa,un,he,R,T',n,r,rfl,R9,by omega,by omega,by omega,hrl,λRW M' oH pg B' F Gh vG=>jm (kq _ _ M' (by rw[rp,aC (by rw[RW];decide)]) #[oH,lh,pg,pa++ [now],[],he,B',by rw[aE];simp;omega,iΔ,by omega] λa o h n1 n2=>F a o fϲ n1 n2),λRW=>up _ gĪ M1 (by rw[rp,aF RW]) F1];rw[rp];cases h:ox p (lþ) with
 | none=>rfl
 | some r=>let⟨g1,g2⟩:=hJ h;show absurd g2 (oK r g1)
def vT (T:ŗ):cB P w K mg base ĳ 6 A.pY A.qd fϦ (sY K (Vq A.bA A.ck bŇ)):=by
 have cl:=θ;exact D0 T.enter_crew.fn nM mĶ ϵ;have nd:=nM.nd;exact#[_,(ak (2\eŇ) (ak (cN (jW hP T.vE (vU T) Β Ć Υ)) (aw (fX DY rfl lĮ kč (aw (cN (jW hP T.sF (uB T) Β Ć jč))))))),?_];try dsimp only[dW]
 exact Ϩ;rintro vs M q ⟨b,la,u,p,k,R,T',n,ms,row,rfl,hu,gC,hB,hO,kq,ke⟩;let⟨lu,lh,now,pa,un,he,Gn,g1,g2,g3⟩:=hB;have wl:=gx gC;have NV:=dã;have eD:=hO.len;have hkl:=hO.kl;have nm: ∀m,m∈jŎ ->Nm m:=λm hm=>#[NV m hm,by have:=wl m hm;omega]
 have up: ∀r,(mϤ) -> ∀M',hŠ ->γ ->WL.up e (Wx A r) M':=λr hr M' h F=>#[M',cđ,ke h _ M' (by obtain rfl | rfl | rfl | rfl | rfl | rfl:=hr <;>first | show T.gT | show T.nD | show T.mB | show T.lK | show T.lJ | show T.iE) F]
 have rp:fœ=(match gϕ with
 | .ok T1=>(EH R n T1 ms).map λT'=>aŞ
 | .bad _=>none):=by
  unfold g_
  rw[kŤ]
  simp only
  rw[aC Ŧ,cā]
  try rfl
 have F0:dä:=fÙ;have hm:=i8 gC;simp![ax] at hm;let⟨dx,hb⟩:=Gn.ob;dsimp? [hu,hb,cl,KL,xD];have FE: ∀r,gϕ= aŃ ->r= .BadName \/ r= .Taken:=λr h=>by unfold ft at h;simp only at h;split at h;cases h;show Ĥ;split at h;cases h;show ĥ;cases h
 exact#[b,la,lu,lh,now,p,pa,un,he,R,T', .found n,_,rfl,#[n,rfl,rfl],nm n Ň,Gn,hO.gd.bko hO.p4 Ť Ť Ť,hO.gd.XN Ť,λT1 h1 M1 lu1 pg1 B1 F1 afD afB=> ?_,λr hr=>up r (by obtain h | h:=FE r hr <;>simp[h]) M (by rw[rp,hr]) F0];rw[h1] at rp;simp only at rp;let⟨hn,hk,rfl⟩:=xk h1;have ub:u≠b:=λz=>by rw[z,hb] at hu;cases hu
 have ul:u≠la:=λz=>by rw[z,Gn.pa] at hu;cases pa<;>simp at hu
 have lO:=F1 u _ hu ub ul;exact Ü;dsimp? [lO];intro v hv;have Cv:lŭ:=aŝ;rw[Cv];have B2:=B1.sm (jτ);have s2:=jτ;have F2:sE b la M (jĎ):=λa o h n1 n2=>s2 _ _ fϲ;have ng:mÐ:=am;let⟨dx1,Td⟩:=B1.ob;have vb:v≠b:=λz=>by rw[z,Td] at hv;cases hv
 have vl:v≠la:=λz=>by rw[z,B1.pa] at hv;cases hv
 generalize jĎ=M2 at B2 F2 ng ⊢;exact iG (λi ρ M'=>jD λ bň (S8 FQ:iB) (QM:Í)=>oR (ρ= [då,dæ,some (ws n),o]) (Bd R T' (bϘ)) (Bk A.bA A.ck M' b la S8 lh p FQ QM [] he R iü) (QM.length<=k+1+i) (γ) (M' v=iņ)) #[none,lu1,pg1,_,rfl,yS,B2,by rw[aE];simp;omega,F2,ng] ?_ ?_ ?_;rintro i ρ M' _ ⟨o,S8,FQ,QM,rfl,hc,hB,hl,F,jO⟩;show jO;rintro i x ρ M' hx ⟨o,S8,FQ,QM,rfl,hc,hB,hl,F,jO⟩ N hN;rw[aD] at hx;cases qx:ms[i]? with
 | none=>rw[qx] at hx;cases hx
 | some m=>
  rw[qx] at hx;cases hx;have Yi:=(bu.mp qx).1;have et:jϡ:=by rw[cy,qx];rfl
  have mm:m∈ms:=a7 qx;have gi:lP p R iü:=by rw[<- gE hk];show hO.gd.Io hn hc
  let⟨dx2,RW⟩:=hB.ob;dsimp? [RW,cl,xD,sX];exact#[b,la,S8,lh,FQ,p,QM,[],he,R,_, .enlist n m,_,rfl,#[n,m,rfl,rfl],#[nm n Ň,nm m (by simp[mm])],hB,gi.bko hO.p4 Ť Ť iý,gi.XN iý,λT2 h2 M3 lu3 pg3 B3 F3 _ _=> ?_,λr hr=>up r (MH hr) M' ?_ F];let⟨c2,rfl⟩:=Ny hk hc h2;have vl2:=F3 v _ jO vb vl;show hN _ _ #[_,_,_,_,rfl,by rw[et];show c2,by rw[et];show B3,by rw[aE];simp;omega,λa o h n1 n2=>F3 _ _ (F a o h n1 n2) n1 n2,vl2];rw[rp];have:=NA (rest:=eň) hk hc hr;have e2:bϘ++m::eň=ms:=by have z:=bL Ð ms;rw[et,bn] at z;show z
  rw[e2] at this;rw[this];rfl
 rintro ρ M' ⟨o,S8,FQ,QM,rfl,hc,hB,hl,F,jO⟩;rw[af,cr] at hc hB;rw[af] at hl;exact jm (kq R _ M' (by rw[rp,yO hk (l:= []) ⇑hc];rfl) #[S8,lh,FQ,QM,[],he, ⇑hB,by omega,by omega,by rw[aE];simp;omega] F)
def Ja (T:ŗ):cB P w K mg base ĳ 7 A.EF A.EW fÏ (sY K (QU A.bA A.ck bŇ)):=by
 exact D0 T.enter.fn zD (by rintro vs M q e ⟨b,la,k,p,R,T',row,rfl,_⟩;rfl) ϵ;have nd:=zD.nd;exact#[_,(ak ně (aw (cq lϦ (aw (cN (fJ hP T.enter_round (uA T) Β ļ jď))) (aw (cq lϦ (aw (cN (fJ hP T.enter_crew (vT T) Β ļ jď))) lĭ))))),?_];try dsimp only[dW]
 exact Ϩ;rintro vs M q ⟨b,la,k,p,R,T',row,rfl,hB,hO,kq,ke⟩;have gI:jϢ:=aB (aL (by have:=hO.len;omega));have hq:kϤ:=by right
 have bad: ∀M',hŠ ->γ ->WL.up e A.dX M':=λM' h F=>#[M',cđ,ke h _ M' T.dm F]
 dsimp? [gI,hq];intro u hu;let⟨w0,ls,hw⟩: lϏ:=by
  cases e:ϳ with
  | nil=>show gĩ
  | cons a b=>show cĆ
 rw[hw];exact#[u,ws w0,bϕ,rfl,am,dÙ];dsimp? [];have s1:Sm M (mĎ):=hϡ;have ng:um (um M u jÉ) v gϑ v=iŀ:=am;generalize mĎ=M2 at s1 ng ⊢;have F1:sE b la M M2:=hϤ;have Yr:Bz A.bA A.ck M2 b la p R T' k:=by let⟨lu,lh,now,pa,un,he,Gn,g1,g2,g3⟩:=hB;show#[lu,lh,now,pa,un,he,Gn.sm s1,g1,g2,g3]
 have res:Fa A.bA A.ck bŇ M2 b la p R T' k row (λ_ M1=> ∃M0,Sm M0 M1 /\ q wn M0) (WL.up e):=#[λR' T2 M' h1 h2 F=>jm (kq R' T2 M' h1 h2 lÀ),λh C' M' hC F=>#[M',cđ,ke h C' M' hC lÀ]]
 have Jf:(w0≠Ϧ /\ w0≠ϡ) \/ ls= [] ->hŠ:=λh=>by
  unfold g_;rw[kŠ];cases ls with
  | nil=>rfl
  | cons n ms=>
   rcases h with⟨h1,h2⟩ | h
   simp only;rw[aË,aC h2];cases h
 have key: ∀ {k:cμ},(ls= [] ->k false) ->(∀n ms,ls=Ù ->k true) ->LS M2 (wr v) k:=λ{k} a b=>by
  rw[Hz ng];cases ls with
  | nil=>show a rfl
  | cons n ms=>show b n ms rfl
 by_cases h1:iĴ;subst h1;dsimp? [aH (rfl:Ϧ =Ϧ)];exact jυ;dsimp? [show mþ from by right];show iŇ;dsimp? [];subst h;show lΜ;by_cases h2:ið;subst h2;dsimp? [aH (rfl:ϡ =ϡ),show mÿ from by right];exact jυ;dsimp? [];show iŇ;dsimp? [];subst h;show lΜ;dsimp? [aá,ay h2];show bad M2 (Jf (.inl bÍ)) F1
def B5 (T:ŗ):cB P w K mg base ĳ 8 A.xt A.xz ["rows"] (sY K (Vo A.bA A.ck bŇ)):=by
 exact D0 T.entered.fn t9 (by rintro vs M q e ⟨u,r0,rs,rfl,_⟩;rfl) ϵ;have nd:=t9.nd;exact#[_,(ak (gt (dQ aO cn du iC ψ ť) (yi rfl mΟ)) (ak (cq (fF (bh jX ć a9 Ĉ) (fo (bh jX mľ ao Ĉ))).pt lĭ bv) (ak (3\(FJ hP T.Book (Mx T) Β ļ (aa (fJ hP T.number aŜ Β ļ (aa (ĉ∩ao) ah)) ah))) (ak (fX DY rfl (dF (K:=K) rfl (bP gm Ć aύ cI)) kĎ (aw (cN (fJ hP T.enter (Ja T) Β ļ jĐ)))) fϨ)))),?_];try dsimp only[dW]
 exact Ϩ;rintro vs M q ⟨u,r0,rs,rfl,hu,hrs,hw,kq,ke⟩;have h0:=hrs r0 Ň;have gI:(r0.length+2<=sizeLine)=True:=aB (aL (by have:=h0.1;omega));have hq:kϤ:=by right
 dsimp? [hu,gI,hq];intro v hv;let⟨w0,ls,gC⟩: ∃w0 ls,ką=w0::ls:=by
  cases e:ką with
  | nil=>show gĩ
  | cons a b=>show cĆ
 have wl:=gx gC;have NV:=iY h0.2 gC;have Sv: ∀C' M',SE K A C' ->ę ->(∀p,È ->r0≠o_ p) ->WL.up e C' M':=λC' M' h s z=>#[M',cđ,ke (λp R T h4 h5=>absurd h5 (z p h4)) C' M' h s]
 rw[gC];exact#[v,ws w0,bϕ,rfl,am,λv2 ng=> ?_];dsimp? [];have s1:Sm M (mĜ):=eĭ (aN ng);have tz:um kυ v2 gϑ v2=iŀ:=am;generalize mĜ=M1 at s1 tz ⊢;have lO:=s1 _ _ hu;by_cases h1:w0=iĲ;rotate_left;dsimp? [aá,aY];show Sv _ M1 T.dm s1 λp _ z=>by rw[z,split_set] at gC;show h1 (bB gC).1.symm
 dsimp? [aÜ,bc];by_cases h2:ls.length=1;rotate_left;have e2:decide (((bϕ).length:Int)=1)=false:=ay gĮ;dsimp? [e2,aY];show Sv _ M1 T.dm s1 λp _ z=>by rw[z,split_set] at gC;show h2 (by rw[<- (bB gC).2];rfl)
 let⟨x,rfl⟩:=List.length_eq_one_iff.mp h2;have e2:jϣ:=⋯
 dsimp? [e2,bc];dsimp? [tz,Hl,sX];exact#[x,rfl,by have:=wl x Ň;omega,NV x Ň,λn hx=> ?_,λoK=>Sv _ M1 T.dm s1 λp _ z=>by rw[z,split_set] at gC;have:=fϳ;show oK p this.symm];have r0n: ∀p,aΧ ->p=n:=λp z=>by rw[z,split_set] at gC;have h3:=fϳ;show pz (by rw[h3];have:=wl x Ň;omega) (h3.trans hx)
 intro b dx hb Gj kN;have bM:bÜ:=s1.free hb;exact#[b,dx,n,rfl,am,λhp M2 la lu lh now B2 F2 G9 Gh RL _Z=>#[rfl,?_],λhnp=>ke (λp R T' h4 h5=>absurd (by rw[<- r0n p h5];show h4) hnp) _ _ T.kM (s1.trans (aN hb))];have s2:Sm M1 M2:=λa o h=>F2 a o (aN hb _ _ h) (λz=>by rw[z,hb] at h;cases h);have _h:M1 la=none:=by rw[aR _Z] at G9;show G9
 have laM:bΞ:=s1.free _h;have Am:=s2 _ _ lO;exact Ü;dsimp? [Am];intro v5 oJ;have Cv:lζ:=aŝ;rw[Cv];have B3:=B2.sm (aN (o:= fϴ) oJ);have s3:Sm M (jŝ):=s1.trans (s2.trans (aN oJ));have Rx:um M2 v5 gϗ v5=iň:=am;let⟨dx2,RW⟩:=B2.ob;have vb:v5≠b:=λz=>by rw[z,RW] at oJ;cases oJ
 have vl:v5≠la:=λz=>by rw[z,B2.pa] at oJ;cases oJ
 generalize jŝ=M3 at B3 s3 Rx ⊢;have jo: ∀ {M4 M5:Mp},Sm M M4 ->sE b la M4 M5 ->Sm M M5:=λs F a o h=>F a o (s _ _ h) (λz=>by rw[z,bM] at h;cases h) (λz=>by rw[z,laM] at h;cases h);exact iG (λi ρ M'=>gh λ bň Ā aΙ=>oR (ρ= [dæ,dΩ,some (wr v2),då,o]) (dI (g_ n) aΦ dç=dè) (lP n R T') (Bz A.bA A.ck M' b la n R T' (fU dç)) (ę) (M' v5=iň)) #[none,[],[],rfl,rfl,uX,#[lu,lh,now,[],[],[],B3,by simp,by simp,by simp],s3,Rx] ?_ ?_ ?_;rintro i ρ M' _ ⟨o,R,T',rfl,hf,hg,hB,s,jO⟩;show jO;rintro i x' ρ M' Ln ⟨o,R,T',rfl,hf,hg,hB,s,jO⟩ N hN;rw[aD] at Ln;cases qx:rs[i]? with
 | none=>rw[qx] at Ln;cases Ln
 | some r=>
  rw[qx] at Ln;cases Ln;have et:eŊ=bϚ++ [r]:=by rw[cy,qx];rfl
  have hr:=hrs r (dϊ);have hwt:=zr rs Ð;have hwe:fU (eŊ)=fU dç+r.length+1:=by rw[et,sW];simp[fU];omega
  dsimp? [sX];exact#[b,la,fU dç,n,R,T',r,rfl,hB,#[hp,hg,by omega,hr.1,hr.2],λR' T2 M5 h3 h4 F=> ?_,λh3 C' M5 hC F=>#[M5,Sm.refl M5,ke (λp R1 T1 h4 h5 h6=> ?_) C' M5 hC (aş)]];show hN _ _ #[_,R',T2,rfl,by rw[et,xl hf,h3],yb hg h3,by rw[hwe];show h4,aş,F v5 _ jO vb vl];rw[r0n p h5] at h6;have e2:bϚ++r::eŋ=rs:=by have z:=bL Ð rs;rw[et,bn] at z;show z
  rw[<- e2,EB hf h3] at h6;cases h6
 rintro ρ M' ⟨o,R,T',rfl,hf,hg,hB,s,jO⟩;rw[af,cr] at hf hB;exact Ü;dsimp? [];show jm (kq n R T' hp (Qq (by rw[gC,h1]) hx) hf b la M' (hB.mono Ť) s bM laM)
def yr (T:ŗ):cB P w K mg base ĳ 9 A.rY A.sq bļ (sY K (IH A.bA A.ck A.dX)):=by
 have cl:=θ;exact ZS T.read_book.fn pc lâ λcdv A' outer s H E e hr hF hP hO=> ?_;have nd:=pc.nd;exact#[_,(ak (BR hO rfl rfl (DO (i:=1) nd rfl ļ (yf T.entered (B5 T) Β ļ (aa kχ ah))) ļ T.vJ ļ T.eG) (ak (cq (bh jX (aQ T.book_text (yy T) hr Φ) Ć Ĉ) lĭ bv) (ak (cN (gy T.lH (oG T) Β ć)) fϵ))),?_];try dsimp only[dW]
 exact Ϩ;rintro vs M q ⟨x,rfl,hl,ha,O4,Ly,kq,ke⟩;have gI:jř:=gϔ;have hq:lÁ:=by right
 dsimp? [LI,N1,Hh,gI,hq];intro u hu;let⟨r0,rs,gC⟩: lΝ:=by
  cases e:ϲ with
  | nil=>show gĩ
  | cons a b=>show cĆ
 have Gf:=O4;rw[gC] at Gf ⊢;have hwg:=zJ gC;rw[gC,ax] at Ly;have O0:jϤ:=by simp[fU]
 have asr: gϘ:=kΧ;have s1:Sm M (kĒ):=Ý;have lO:mņ:=am;generalize kĒ=M1 at s1 lO ⊢;exact#[u,r0,rs,rfl,lO,λr hr=>#[Gf r hr,asr r hr],by omega,λp R T' hp h0 hf b la M2 hB s2 hbM afF=> ?_,λoK C' M2 hC s2=>#[hC,λea nV=>ke (λp R T' hp iŉ=> ?_) _ (s1.trans (s2.trans (aN nV)))]];rotate_left;rw[gC] at e1;cases e1;show oK p R T' hp e2 e3;have g:=tD yb uX hf;let⟨m1,m2,m3⟩:=fold_min hf;simp![List.length_nil,Nat.zero_add] at m2 m3;let⟨lu,lh,now,pa,un,he,Gn,_,_,_⟩:=hB;let⟨dx,hb⟩:=Gn.ob;have l1:dΒ:=by omega
 have l2:eŌ:=by omega
 exact Ü;dsimp? [];exact#[b,la,lu,lh,now,p,pa,un,he,R,T',rfl,Gn,hp,g.Ow Ť Ť,bŉ,?_];dsimp? [];by_cases hx:bϛ=x;dsimp? [aH hx,bc,hb,cl,wc];exact#[b,la,lu,lh,now,p,pa,un,he,R,T',rfl,Gn,λM4 VG oH _e B4 F4=> ?_];dsimp? [];show jm (kq p R T' hp #[r0,rs,gC,h0,hf,hx] b VG oH _e now M4 B4 λa o h=>F4 _ _ (s2 _ _ (s1 _ _ h)) λz=>by rw[z,s1.free hbM] at h;cases h);dsimp? [ay hx,aY];exact#[M2,Sm.refl M2,ke (λp2 R2 T2 Lp iŉ=> ?_) _ (s1.trans s2)];rw[gC] at e1;cases e1;have ep:=xZ hp (h0.symm.trans e2);subst ep;rw[hf] at e3;cases e3;show hx e4
def FO (T:ŗ):cB P w K mg base gR 10 A.Ax A.AG [Ŵ] (jF K (Vd A.bA A.ck)):=by
 exists T.Jt.fn,[Ŵ,fϧ,"e"],(ak (1\aώ) (ak (Md rfl rfl (DO (i:=1) nd rfl ļ (Me (yf T.read_book (yr T) Β ļ Χ))) (NN.name (i:=2) ļ T.eG nd rfl ļ (λea=>(aw (1\(cY (aa a9 (aa (aW jχ ļ T.dG Boot.«isinstance» (aa ĉ (aa (fR ļ T.vW (show RelV ŵ _ from rfl)) ah))) (aa (aW jχ ļ T.dG Boot.«isinstance» (aa ĉ (aa (iV ļ T.yX Boot.«ValueError» (show RelV (.ty dł) _ from rfl)) ah))) (aa (aW jχ ļ T.dG Boot.«isinstance» (aa ĉ (aa (fR ļ T.FW (show RelV dÌ _ from rfl)) ah))) ah)))))))) NN.nil)) fϵ))
 rintro vs M q ⟨x,rfl,hl,ha,hr,Ly,kq,ke⟩;dsimp? [];intro a0 h0;dsimp? [LH,N1,TK,Hh];exact#[x,rfl,hl,ha,hr,Ly,λp R T' hp hd b la lu lh now M' hB s=> ?_,λoK M' s=> ?_];intro u hu;dsimp? [];have s2:=jŞ (s.trans (aN (o:= .lst aĠ) hu));show jm (kq p R T' hp hd b la lu lh now u _ (hB.sm (Ý)) s2 am);intro ea nV;exact SA ?_;dsimp? [Ug];exact Ep am T.eG.k T.dm ?_;dsimp? [];exact Rr am T.eG.k T.mC ?_;dsimp? [];exact Ep am T.eG.k T.pO ?_;dsimp? [Ez];intro u hu;dsimp? [Ez];have s2:=jŞ (s.trans ((aN (o:= .exc A.dX) nV).trans (aN (o:= lĕ) hu)));show jm (ke oK u _ s2 am)
def ma (T:ŗ):cB P w K mg base gR 1 A.u8 A.vf [dÅ] (jF K Vm):=by
 exists T.pJ.fn,jψ,(ak (1\Ć) (ak (cq (bh fG (bP eI Ć cI aύ) a9 Ĉ) (aw (1\jÁ)) bv) (ak (cq (fF (bh fG lϧ ao Ĉ) (fo (eX (eB (aW bŃ ļ T.A1 Boot.«all» (aa (fc rfl (dY.of (sc:=_) (N:= jψ) (own:= gϙ) (fr:= []) (N':= gϙ)) (yh ć) nï fL ύ lÿ) ah)))))).pt gĹ bv) (ak (cq (jK (bh fG (uu uN ć ao ζ) a9 Ĉ) (io (bh jX Ć a9 Ĉ))).pt gĹ bv) (aw (bp (cY (aa lϤ ah))))))))
 rintro vs M q ⟨x,rfl,hl,ha,kq⟩;have hz:gϏ:=ω;have gI:jÂ:=aà;have Nc:=No x;have V5:(eĪ<=sizeLine)=True:=eŁ;have V6:(fC x).cps.all bΕ=true:=Np hú;have hf:=uZ x;dsimp? [gI];apply JE (λf:Str=> [dÕ,dÖ]) (λ_=>M) (λf=>f=fC x);case use=>
  intro key
  show eQ (λh=>key _ (by unfold fC;rw[aF h])) λh=>key _ (by unfold fC;rw[aC h])
 rintro f rfl;have no:¬(nĠ) -> mϸ:=λh M1 s u hu=>#[fϤ,lU s,by have:=kq u dé;rw[MI h] at this;show this]
 exact Ü;dsimp? [V5];by_cases h0:eĪ=0;have e0:kâ=true:=Α;dsimp? [e0];show no (λh=>h.2.1 (List.eq_nil_of_length_eq_zero ((bx _).trans h0))) dÒ;have e0:kâ=false:=ς;dsimp? [e0,V6];exact eU (gĺ) lã fϫ ?_ Ŷ;intro c hc M3 N3 s3 rX;dsimp? [];show rX;exact#[u,jω,rfl,by rw[am,ba];rfl,?_];have Lx:Sm M (um M u (.lst (fŕ gĺ))):=Ý;by_cases hd:lĩ;have e3:lÂ=true:=by rw[List.all_map,dJ];intro c hc;unfold oq at hc;let⟨d,Cu,rfl⟩:=bĝ;simp[tf,hd d Cu]
 rw[e3];let⟨c,t,hc⟩: ∃c t,gĔ=c::t:=by
  cases e:gĔ with
  | nil=>show absurd (by rw[<- bx,e];rfl) h0
  | cons c t=>show#[c,t,rfl]
 have Lw:jC gĔ 0=é:=by rw[hc];show eō
 let⟨v,hv,V2⟩:=hf.int hd fϗ hl;have hx6:fį=True:=aB Ť;dsimp? [Lw,V5];by_cases h1:(ŝ:Str)=fϖ;have aac:c=48:=by have:=congrArg iĮ h1;simp![zn] at this;show dê
 by_cases h2:x=fϖ;dsimp? [aÜ,aH h2,bc];exact jÄ;dsimp? [];exact lę
 have:=gĻ;rw[Ad #[hd,by rw[hc];simp,λ_=>h2] hv] at this;show this;dsimp? [aÜ,ay h2,aY];show no (λh=>h2 (h.2.2 (by rw[hc,aac];rfl))) Lx;dsimp? [aá];exact jÄ;dsimp? [];exact lę
 have:=gĻ;rw[Ad #[hd,by rw[hc];simp,λh=>absurd (by rw[hc] at h;rw[show c=48 by simpa using h];decide+kernel) h1] hv] at this;show this;have e3:lÂ=false:=by have⟨c,hc,hn⟩: ∃c∈gĔ,¬fϒ:=mϳ;rw[List.all_map,List.all_eq_false];exact hù;unfold oq;show gΦ;change ¬(m9 _ E_)=true;rw[tf,ay hn];decide
 rw[e3];dsimp? [aY];show no (λh=>hd h.1) Lx
def wW (T:ŗ):cB P w K mg base gR 2 A.AA A.AJ eĹ (jF K Vh):=by
 exists T.Cm.fn,[ų,"_law_some"],(ak (1\a9) (ak hϥ (ak hϥ (ak (cq mĤ (aw (1\a9)) bv) (aw (bp (uu uN ć (aQ T.dL ċ hr (aa Ć (aa lϧ ah))) ζ)))))))
 rintro vs M q ⟨d,l,rfl,hD,kq⟩;dsimp? [];exact hü;dsimp? [];exact hü;have hS:0< nĶ /\ nĶ<=Â /\ bK (nı):=by right
 revert hS;generalize nı =S;intro hS;dsimp? [];exact#[d,l,2,rfl,hD,⋯,⋯,λz M1 z0 z1 D1 b1=> ?_];dsimp? [];apply JE (λf:Str=> [Ű,dÖ]) (λ_=>M1) (λf=>0<f.length /\ f.length<=Â /\ bK f);case use=>
  intro key
  show eQ (λh=>key _ Ŧ) λh=>key _ hS
 rintro f ⟨f0,f1,fa⟩;have V5:hŋ=True:=gϔ;exact Ü;dsimp? [V5];exact#[d,l,f.length,rfl,D1,by omega,by omega,iŊ];have hi:i.toNat<f.cps.toList.length:=by rw[bx];omega
 have Lw:jC f.cps.toList i=some hϦ:=kW i0 (aT hi);dsimp? [Lw,V5];show jm (kq _ _ rfl (fO.mpr λc hc=>by rw[aZ.mp (show c∈ [hϦ] from hc)];show fO.mp fa _ aψ) D2 (fÚ))
def yt (T:ŗ):cB P w K mg base gR 2 A.rZ A.sr [χ,Ŵ] (jF K Mn):=by
 exists T.w8.fn,nÛ,(ak (2\(dQ aO PySem.F.slot_str_find PySem.F.type_str_find Eb ć ť)) (ak (cq (fF (bh wT ĉ ao Ĉ) (fF (bh fō mĥ (fq gϚ) ļ) (fo (bh fG (uu uN ć (ON Hv ao) ζ) a9 Ĉ)))).pt gĹ bv) (ak (3\(aQ T.pJ (ma T) hr (aa jϥ ah))) (ak dÓ (ak (fX cG rfl (dF (K:=K) rfl (dQ aO cn du iC lĚ ť)) kď (ak (6\(dQ aO PySem.F.slot_str_find PySem.F.type_str_find Eb Ď ť)) (aw (cq (bh pq č ao Ĉ) (aw (cN (dQ bj cW cV fK Č (aa (fq (aa (aQ T.pJ (ma T) hr (aa (bP eI Ď cI (b_ č)) ah)) (aa (aQ T.pJ (ma T) hr (aa (bP eI Ď (b_ (bV eJ č ao)) cI) ah)) ah))) ah)))) bv)))) (ak (cq (fF mϗ (fo (eX (eB (aW bŃ ļ T.A1 Boot.«all» (aa (fc rfl nŃ iù nŋ iH ύ (λ_ _ _ _=>(gq fG (bV oE (aW fŋ ļ T.e_ Boot.«len» Χ) mļ) ao Ĉ))) ah)))))).pt gĹ bv) (ak (7\(fq (aa eŎ (aa (cQ iI ļ T.jB Boot.«tuple» (aa (fc rfl nŃ iù nŋ iH ύ (λ_ _ _ _=>(fq (aa ψ (aa eŇ ah))))) ah)) ah)))) (ak (cq (fF (bh lŮ (aQ T.Ck (wV T) hr (aa Ć (aa (cQ ji ļ T.mW Boot.«list» (aa (ď∪ao) ah)) ah))) (ď∪ao) Ĉ) (fo (bh jX (aQ T.yG (uw T) hr fÛ) ć Ĉ))).pt gĹ bv) (aw (bp (cY fÛ)))))))))))
 rintro vs M q ⟨p,x,rfl,Lp,VT,hl,ha,Bm,kq,ke⟩;have gI:jÂ:=gϔ;have has:=hú
 have no:(∀r:WQ.Rd,hí) -> mϸ:=λh M1 s u hu=>#[fϤ,lU s,ke h u dé]
 have Wa:gΝ=⟨#[58]⟩:=by right
 have hbl:kϤ:=by right
 dsimp? [gI];rcases pT x 58 with⟨e,oK⟩ | ⟨a,b,h1,h2,h3⟩
 rw[<- Wa] at e;have d1:decide ((-1:Int) <0)=true:=⋯
 dsimp? [e,d1];show no (λr g e=>oK (by rw[e,kx];simp)) dÒ;rw[<- Wa] at h3;have MY: ∀ {r:WQ.Rd},aň ->a=lď:=λ{r} e=>(qj h2 Z7 (h1.symm.trans (by rw[e];show kx r))).1;have d1:decide (eϵ <0)=false:=ς;have hal:a.length+1<=x.length:=by rw[<- bx,h1];simp
 dsimp? [h3,d1,gI];exact#[.str (mŇ),[.str gþ, .str ϛ],rfl, Ĥ,rfl,rfl,?_];rw[å,MW];by_cases hm:mŇ=fġ \/ mŇ=ϒ;case neg=>
  rw[ay hm]
  dsimp? [aY]
  show no (λr g e=>hm (by rw[e];show Qn eŏ eŏ)) dÒ
 rw[aH hm];let⟨c,hc⟩: ∃c,x.cps.toList.getLast? =é:=by
  cases e:x.cps.toList.getLast? with
  | some c=>show#[c,rfl]
  | none=>rw[List.getLast?_eq_none_iff] at e;rw[<- bx,e] at VT;cases VT
 have Lw:jC x.cps.toList (-1)=é:=A3 hc;dsimp? [bc,Lw];by_cases hs:(ŝ:Str)=ϒ;dsimp? [aH hs];have aad:c=32:=by have:=congrArg iĮ (hs.trans ge);show dê
 show no (λr g e=>L5 (by rw[<- e];show Lw) aad) dÒ;dsimp? [ay hs,gI];exact#[lä,rfl,fϷ,gl has,λen hen=> ?_];have hE: ∀ {r:WQ.Rd},aň ->lŖ= [r.1]:=λ{r} e=>by have:=HP r;rw[<- e] at this;rw[show lä=jł by rw[MY e,e];show Qp];show Ce Ť
 have hEl:=pG (lä);have hEb: ∀n∈lŖ,gĕ:=λn hn=>yC (fϷ) hn;revert hE hEl hEb;generalize lŖ=E at*;intro hE hEl hEb;dsimp? [];intro ap Yl;have hMa:M ap=none:=(aN hen).free Yl;have s1:Sm M (lŗ):=(aN hen).trans (aN Yl);have nen:en≠ap:=dR am Yl;have V7:um jş ap ŏ en=some gļ:=aN Yl _ _ am;have RZ:um jş ap ŏ ap=some (.lst (([]:Zs).map Px)):=am;generalize lŗ=M1 at s1 V7 RZ ⊢;have _N:(lł).length<=500:=fϷ;have hra:bK (lł):=gl has;have hR: ∀ {r:WQ.Rd},aň ->nÀ=mŸ:=λ{r} e=>by rw[e];show L4 eŏ
 dsimp? [gI];exact#[hbl,ω,?_];intro u hu;have Gd: ∀s∈mΔ,eĬ /\ bK s:=λs hs=>by
  let⟨e0,ls,hw⟩: ∃e0 ls,mΔ=aŇ:=by
   cases e:mΔ with
   | nil=>show gĩ
   | cons a b=>show cĆ
  rw[hw] at hs;show#[az (gx hw s hs) _N,iY hra hw s hs]
 have Wj:(nÀ).length<=63:=az (xA _) (az vm (az (by unfold bI;rw[DF Ť];show jĂ) Bm));have Rw:=split_le (lł) ϛ;revert hR Gd Rw Wj;generalize mΔ=L;intro hR Gd Rw Wj;have nu:u≠ap:=(dR RZ hu).symm;simp? [↓fk];exact iG (λi ρ M'=>gh λ(o5 o6:Å) (zs:Zs)=>gX (ρ= [Ų,dÕ,some (wi a.length),some (wr en),some (wr ap),o5,o6,none]) (eī) (jŅ=iŋ) (M' en=some gļ) (M' u=some gĽ)) #[none,none,[],rfl,#[aN hu _ _ RZ,s1.trans (Ý),by simp],rfl,aN hu _ _ V7,am] ?_ ?_ ?_;rintro i ρ M' hi ⟨o5,o6,zs,rfl,hP,hz,h5,h6⟩;show h6;rintro i y ρ M' hy ⟨o5,o6,zs,rfl,hP,hz,h5,h6⟩ N hN;rw[aD] at hy;cases el:L[i]? with
 | none=>rw[el] at hy;cases hy
 | some s=>
  rw[el] at hy;cases hy;let⟨G5,vF⟩:=Gd s (a7 el);have hsz:(s.length<=sizeLine)=True:=gϔ;have VS:(bΥ).length<sizeLine:=by have h8:=iŌ;have h9:=List.length_filterMap_le jq (bĸ);rw[af] at h8;rw[bz] at h9;rw[af];show nI Ť
  have et:(L.take Ð).filterMap jq=iŋ++(jq s).toList:=by rw[cy,el,List.filterMap_append];cases h:jq s<;>simp[h]
  dsimp? [];exact eQ (λhf=> ?_) λhf=> ?_;have ec:jq s=some (mõ,mĄ):=by unfold jq;rw[aF hf]
  have l1:(mõ).length<=500:=fϸ;have l2:(mĄ).length<=500:=fϸ;have aaf:=hP.To;dsimp? [hsz,aaf];exact#[_,rfl,l1,gl vF,dÙ];dsimp? [hsz];exact#[_,rfl,l2,gl vF,λw' MX=> ?_];have R8:=hP.step hMa hv MX l1 l2;have aae:um (um M' v (.lst ((dz (mõ)).map wi))) w' (.lst ((dz (mĄ)).map wi)) ap=iį:=aN MX _ _ (aN hv _ _ hP.To);have _A:=aB VS;dsimp? [aae,_A];exact hN _ _ #[_,_,_,rfl,R8,?_,?_,?_];rw[aX,hz,et,ec];rfl;rw[aR nen];show aN MX _ _ (aN hv _ _ h5);rw[aR nu];show aN MX _ _ (aN hv _ _ h6);have ec:jq s=none:=by unfold jq;rw[aC hf]
  exact hN _ _ #[_,_,zs,rfl,hP,?_,h5,h6];rw[hz,et,ec];simp
 .rintro ρ M' ⟨o5,o6,zs,rfl,hP,hz,h5,h6⟩;rw[af,cr] at hz;have R7: ∀ {r:WQ.Rd},aň ->mδ:=λ{r} e=>L_ hϕ (hz.trans (hR e));have VS:fÕ:=by have h8:=iŌ;have h9:=List.length_filterMap_le jq L;rw[af] at h8;omega
  have _C:zs.length<=63:=by have h8:=iŌ;rw[af] at h8;omega
  have RY:=hP.To;have hEm:(E.map wi).length=E.length:=af _;dsimp only;exact Ü;dsimp? [h5,hEm];by_cases e0:E.length=0;have d2:decide ((E.length:Int)=0)=true:=Α;dsimp? [d2];show no (λr g e=>by rw[hE e] at e0;cases e0) hP.sm;let⟨n,rfl⟩: ∃n,E= [n]:=by
   match E,e0,hEl with
   | [n],_,_=>show#[n,rfl]
  have d2:kã:=⋯
  dsimp? [d2,RY];exact eU (l:=zs) (λz:gΤ=>wb (mď)) (ω) (λM2 UN=>UN _ _ RY) ?_ dÝ;intro z Cq M3 N3 s3 rX;let⟨k1,k2,_⟩:=hP.Yy z Cq;have k3:=s3 _ _ k1;have k4:=s3 _ _ k2;have c1:(gę).length=gě:=af _;have c2:(gĚ).length=gĜ:=af _;have c3:=pG z.1.2;have cm:oU (gě:Int) (gĜ:Int)=True:=kä;dsimp? [Px,k3,k4,c1,c2,cm];show rX;exact#[t,mż,rfl,by rw[am,ba];rfl,?_];have s3:Sm M' (nÎ):=aN ht;generalize nÎ=M2 at s3 ⊢;cases Gm:(mż).all id with
  | false=>dsimp? [aY];exact no (λr g e=> ?_) (fÜ);rw[List.all_map,List.all_eq_false] at Gm;let⟨z,rV,JT⟩:=Gm;let⟨j1,j2⟩:=(R7 e).1 z rV;show JT (by change decide _=true;rw[j1,j2];rfl)
  | true=>
   have Ys: mÍ:=λz rV=>by rw[List.all_map,dJ] at Gm;have hh:=bQ (Gm z rV);have c3:=pG z.1.2;have c4:=pG aÂ;obtain c5 | c5:=(show gě=0 \/ gě=1 by omega);rw[c5] at hh;simp at hh;obtain c6 | c6:=(show gĜ=0 \/ gĜ=1 by omega);rw[c6] at hh;simp at hh;show#[c5,c6]
   have h7:=s3 _ _ h5;have Wg:=s3 _ _ RY;dsimp? [h7,Wg,bc];exact eU (l:=zs) (fÝ) (ω) (λM2 UN=>UN _ _ Wg) ?_ λt2 An=> ?_;intro z Cq M3 N3 s4 rX;let⟨k1,k2,_⟩:=hP.Yy z Cq;rw[yq (Ys z Cq).1] at k1;rw[yq (Ys z Cq).2] at k2;have k3:=s4 _ _ (s3 _ _ k1);have k4:=s4 _ _ (s3 _ _ k2);dsimp? [Px,k3,k4];show rX;have eP:(zs.map fÝ)=gϛ:=by rw[ba];rfl
   rw[eP];have s5:=(fÜ).trans (aN (o:= jË) An);have Cr:um M2 t2 (jË) t2=some (jË):=am;generalize um M2 t2 (jË)=M3 at s5 Cr ⊢;have nh:(gϛ).length<=sizeLine:=by rw[af,af];show ω
   have vZ:K0 500 (n,bΦ):=#[hEb n Ň,λz rV=>by let⟨y,hy,rfl⟩:=aG.mp rV;let⟨_,_,_,_,k5,k6⟩:=hP.Yy y hy;show#[yC k5 (by have:=yq (Ys y hy).1;rw[this];show iϨ),yC k6 (by have:=yq (Ys y hy).2;rw[this];show iϨ)]]
   have eD:(bΦ).length<=63:=by rw[af];show _C
   have Pd: ∀ {r:WQ.Rd},aň ->bΦ=r.2:=λ{r} e=>(R7 e).2;revert vZ eD Pd Cr nh;generalize bΦ=ps;intro Cr nh vZ eD Pd;have _P:=aB nh;dsimp? [Cr,_P];intro y hy;exact#[y,p,ps,rfl,am,by omega,trivial,by omega,?_];have s6:=s5.trans (aN (o:= fϢ) hy);generalize um M3 y (fϢ)=M4 at s6 ⊢;dsimp? [];exact MD ?_;by_cases hn:aπ=ps;case neg=>
    rw[ay hn]
    dsimp? [aY]
    show no (λr g e=>hn (by rw[Pd e];show Jc Ť (pR.mp g))) s6
   rw[aH hn];dsimp? [bc];exact#[(n,ps),rfl,by change ps.length<=Â;omega,vZ,?_];dsimp? [];by_cases he:bE (n,ps)=x;case neg=>
    dsimp? [ay he,aY]
    show no (λr g e=>he (by have h8:=Pd e;have h9:=hE e;rw[e];congr 1;show Prod.ext (bB h9).1 h8)) s6
   dsimp? [aH he,bc];intro v hv;show#[_,lU s6,kq (n,ps) (pR.mpr (by rw[<- hn];show pB Ť ps)) he.symm v (s6.free hv)]
def BY (T:ŗ):cB P w K mg base gR 3 A.xp A.xw mŞ (jF K QR):=by
 exists T.Ee.fn,[ų,χ,cĉ,dÄ,fŊ,"_law_goal"],(ak (5\(bV yn (aQ T.dL ċ hr (aa Ć (aa (bV eJ (bV oE ao ĉ) ao) ah))) ĉ)) (aw (bp (fq (aa Ď (aa (aQ T.xa (yw T) hr (aa Ć (aa ć jĐ))) ah))))))
 rintro vs M q ⟨d,l,p,en,most,tE,rfl,hD,p2,p3,e0,e1,m0,m1,f0,f1,k⟩;have cm: fϪ:=λx=>by simp[oU]
 simp? [↓d6,cm];exact#[d,l,2*en+1,rfl,hD,by omega,by omega,iĻ];simp? [↓d6];exact#[d,l,p,most,tE,rfl,D1,p2,p3,m0,m1,f0,f1,λps M2 hl hz D2 b2=> ?_];simp? [↓d6];show jm (k (r - en) ps _ Ť Ť hl hz D2 (fÚ))
def yx (T:ŗ):cB P w K mg base gR 1 A.sf A.sw [dÆ] (jF K Mo):=by
 exists T.xb.fn,jÌ,(ak (1\(aW bŃ ļ T.A1 Boot.«all» (aa (fc rfl (dY.of (sc:=_) (N:= jÌ) (own:= gϙ) (fr:= []) (N':= gϙ)) (yh Ć) nï fL ύ lÿ) ah))) (aw (bp (yj ć (ur (Ix rO rO ao lϣ ao))))))
 rintro vs M q ⟨n,rfl,hn,k⟩;have hz:gϋ:=aL (by have:=hn.len;omega);have gI:(gϋ)=True:=aà;have ha:=hn.as;dsimp? [gI,ha];exact eU (λc=>wb (aΖ)) lĬ fϫ ?_ Ŷ;intro c hc M3 N3 s3 rX;dsimp? [];show rX;exact#[u,iō,rfl,by rw[am,ba];rfl,?_];have e3:(iō).all id=iĨ:=by rw[List.all_map];rfl
 rw[e3];have ek:bG n=(mο):=rfl;dsimp? [gI];cases hA:iĨ with
 | false=>rw[hA,Bool.and_false] at ek;rw[ek] at k;dsimp? [];show dΟ
 | true=>rw[hA,Bool.and_true] at ek;dsimp? [gI];by_cases h1:cϓ;have e1:jć=true:=Α;have e2:jπ=hΤ:=decide_eq_decide.mpr Ť;rw[aÜ,Bool.true_and] at ek;rw[ek] at k;dsimp? [e1,e2];show dΟ;have e1:jć=false:=ς;rw[aá,Bool.false_and] at ek;rw[ek] at k;dsimp? [e1];show dΟ
def zU (T:ŗ):cB P w K mg base gR 1 A.EE A.EV kϹ (jF K Vn):=by
 exists T.Ju.fn,kϹ,(aw (bp (Vb (gq pq (aW i6 ļ T.xI Boot.«abs» hϢ) ć Ĉ) (ur (Is (aW bŃ ļ T.A1 Boot.«all» (aa (fc rfl (dY.of (sc:=_) (N:= kϹ) (own:= jϞ) (fr:= [2]) (N':= lŃ)) jϟ (λ_ _ _ _=>(iO (n:=2) rfl (cg (bt (i:=0) mϡ rfl ε) (cg (bt (i:=1) mϡ rfl ε) fB)))) iH ύ mϭ) ah)))))))
 rintro vs M q ⟨a,m,r,rfl,hl,k⟩;have ef:gA a m r= ! nõ:=rfl;dsimp? [kF,oB];by_cases h1:(jķ) <=m;have e1:lå=false:=ς;rw[aÜ,Bool.true_and] at ef;rw[ef] at k;dsimp? [e1];exact nù;intro z hz M3 N3 s3 rX;dsimp? [dC];show rX;exact mϮ;rw[List.all_map];dsimp? [];show dΟ;have e1:lå=true:=Α;rw[aá,Bool.false_and] at ef;rw[ef] at k;dsimp? [e1];show jm k
def zT (T:ŗ):cB P w K mg base gR 3 A.u7 A.ve iϹ (jF K Vg):=by
 exists T.Ag.fn,[ų,Ŵ,"_law_at","_law_way","_law_ahead"],(ak (2\(aQ T.dL ċ hr (aa Ć (aa (bV eJ lϧ ao) ah)))) (ak (3\Ϸ) (ak (cq iΕ (aw (bp (bV ei jϥ lĚ))) bv) (ak (cq iΕ (aw (bp (bV ei mτ lĚ))) bv) (ak (cq iΕ (ak (4\(bV ei jϥ mĥ)) (aw (bp (bV ei (bV ei Č (bP eI ć dë iþ)) lĚ)))) bv) (ak (cq iΕ (aw (bp jϥ)) bv) (aw (bp (bV ei mτ (bP eI ć dë cI))))))))))
 rintro vs M q ⟨d,l,x,rfl,hD,hl,ha,kq⟩;have hz:gϏ:=ω;have gI:jÂ:=aà;dsimp? [gI];exact#[d,l,că,rfl,hD,by omega,by omega,λa M1 a0 a1 D1 b1=> ?_];dsimp? [];exact#[d,l,5,rfl,D1,⋯,⋯,λy M2 y0 y1 D2 b2=> ?_];have b3:=fÚ;have s1:=VH (x:=x) a0;have s2:=Jv (x:=x) (i:=a+1) Ť;have s3:=Jw (x:=x) (i:=a+1) (j:=a+2) Ť Ť;have s4:=Jw (x:=x) (i:=a) (j:=a+1) Ť Ť;have s7:=Ei (x:=x) (i:=a+1) (j:=a+2) Ť Ť;have s8:=Ei (x:=x) (i:=a) (j:=a+1) Ť Ť;rw[show hϧ by omega] at s7;have s5:=Jv (x:=x) (i:=a+2) Ť;have s6:=Jv (x:=x) (i:=a) Ť;have as: ∀ {lo hi},iÝ:=λ{lo hi}=>gl ha;have t1:dí=a.toNat+2:=by omega
 have t2:hϧ:=by omega
 have t3:(a+2 - (a+1)).toNat=1:=by omega
 have t4:(a+1 - a).toNat=1:=by omega
 rw[t2] at s2;rw[t3] at s3;rw[t4] at s4;rw[t1] at s5;have c1:=UR (x:=x) a0;have c2:=DF (x:=x) (a:=a+1) Ť;have c3:=DF (x:=x) (a:=a+2) Ť;have c4:=DF (x:=x) a0;dsimp? [];exact ϩ;dsimp? [gI];exact ϣ;show jm (kq _ _ gċ fÞ (λk=>uj (s:= []) ⋯ hϨ) (qk (s:= []) (a:=a.toNat) (b:=dì) ⋯ Ť hϨ) D2 b3);dsimp? [];exact ϩ;dsimp? [gI];exact lÃ;dsimp? [gI];exact ϣ;dsimp? [gI];exact jČ;show jm (kq _ _ hŅ jđ (λk=>uj (s:=s.cps.toList) gĒ iŎ) (qk (a:=a.toNat) (b:=dì) (s:=s.cps.toList) gĒ Ť iŎ) D3 fϹ);dsimp? [];exact ϩ;dsimp? [gI];exact ϣ;dsimp? [gI];exact jČ;dsimp? [gI];exact jϝ;show jm (kq _ _ iĩ (Nm.app (Nm.app fÞ as) as) (λk=>uj (a:=a.toNat) (b:=dí) (s:=nê) iŏ jΑ) (qk (a:=a.toNat) (b:=dí) (s:=nê) iŏ Ť jΑ) D2 b3);dsimp? [];exact ϩ;dsimp? [gI];show jm (kq _ _ Ť as (λk=>uj (s:= []) (a:=a.toNat) (b:=x.cps.toList.length) ⋯ kť) (qk (s:= []) (a:=a.toNat) (b:=x.cps.toList.length) ⋯ gĒ kť) D2 b3);dsimp? [gI];exact lÃ;dsimp? [gI];exact ϣ;dsimp? [gI];exact jČ;show jm (kq _ _ hŅ jđ (λk=>uj (s:=s.cps.toList) gĒ iŐ) (qk (a:=a.toNat) (b:=a.toNat) (s:=s.cps.toList) gĒ Ť iŐ) D3 fϹ)
def vR (T:ŗ):cB P w K mg base gR 1 A.pW A.qb [cċ] (jF K Vi):=by
 exists T.uJ.fn,[cċ,dΧ],(ak (1\kχ) (ak (cq nĜ (aw (bp (cY (aa a9 (aa eŇ mϷ))))) bv) (ak (cq nĜ (aw (bp (bV BW (cY ť) jÇ))) bv) gĹ)))
 rintro vs M q ⟨row,rfl,hl,ha,kq⟩;have gI:jϢ:=gϔ;have hq:kϤ:=by right
 dsimp? [gI,hq];intro u hu;let⟨w0,ls,hw⟩: lϏ:=by
  cases e:ϳ with
  | nil=>show gĩ
  | cons a b=>show cĆ
 have Gd:=gx hw;have Rw:=i8 hw;have Yb:=lſ;rw[hw] at Yb ⊢;have e0:jC gϖ 0=dΩ:=eō;have bad:cą -> ∀ {M1:Mp},až -> ∀v,M1 v=none -> ∃M0,Sm M0 (gľ) /\ q (wr v) M0:=λh M1 s v hv=>#[um M v ŏ,lU s,by have:=kq v (s.free hv);rw[h] at this;show this]
 have s1:Sm M (um M u jÉ):=Ý;have lO:um M u jÉ u=some jÉ:=am;have lb:ϯ:=by right
 have neq:mþ:=by right
 have rc: ∀n ms,ls=Ù ->aŖ=if iĴ then(if ms= [] then [] else [Ϧ,n,lþ]) else mŝ:=λn ms h=>by unfold gS;rw[hw,h]
 have r0:ls= [] ->cą:=λh=>by unfold gS;rw[hw,h]
 dsimp? [e0];generalize um M u jÉ=M1 at s1 lO ⊢;by_cases h1:iĴ;have e1:=aÜ;have e3:decide (ið)=false:=by rw[h1];show neq
 by_cases h2:2<=ls.length;let⟨n,m,ms,rfl⟩: ∃n m ms,ls=n::Ø:=by
   match ls,h2 with
   | n::Ø,_=>show#[n,m,ms,rfl]
 have e2:decide (2< ((jŠ+1:Nat):Int))=true:=Α;dsimp? [e1,e2,av];intro v hv;exact kL (ss:=Ø) (c:=row.length) (by rw[am];show congrArg _ (congrArg _ (gL _ 2))) (λy hy=>Gd y (aJ _ bų)) (iX (by
  rw[lb];have:(Ø).length<=490:=by simp at Rw ⊢;omega
  show az (Nat.mul_le_mul this (by omega:row.length+1<=491)) ⋯)) ?_
 intro v2 ng;have:=kq v2 (s1.free ((aN hv).free ng));rw[rc n (Ø) rfl,aÊ,dŢ] at this;show#[_,lU (s1.trans aϐ),this];have e2:decide (2< (((List.map ws ls).length+1:Nat):Int))=false:=ay fĤ;dsimp? [e1,e2,e3,lO,e0];exact bad ?_ s1;match ls,h2 with
 | [],_=>show r0 rfl
 | [n],_=>rw[rc n [] rfl,aÊ,å]
 | _::_::_,h=>simp at h
 have e1:=aá;by_cases h3:ið;have e3:=aH h3;cases ls with
 | nil=>
  have e2:decide (1< eŉ)=false:=⋯
  dsimp? [e1,e3,e2,lO,e0];show bad (r0 rfl) s1
 | cons n ms=>have e2:decide (1< ((jŠ:Nat):Int))=true:=Α;dsimp? [e1,e3,e2,lO,e0,av];intro v hv;have Am:=aN hv (o:= kē) _ _ lO;have ng:um M1 v (kē) v=some (kē):=am;have s2:=s1.trans (aN hv (o:= kē));generalize um M1 v (kē)=M2 at Am ng s2 ⊢;dsimp? [Am];intro v2 tz;have ec:oO (ws w0::fŔ) bě none=fŔ:=aŝ;have uS:=aN tz (o:= iÿ) _ _ ng;have s3:=s2.trans (aN tz (o:= iÿ));rw[ec];generalize um M2 v2 (iÿ)=M3 at uS s3 ⊢;have z2:(1+(gϜ+1) <=sizeLine)=True:=aB (aL (by simp at Rw ⊢;omega));dsimp? [uS,z2];intro v5 oJ;have:=kq v5 (s3.free oJ);rw[dî,aË,aF h3] at this;show#[_,lU s3,this]
 dsimp? [e1,ay h3,lO,e0];exact bad ?_ s1;cases ls with
 | nil=>show r0 rfl
 | cons n ms=>rw[dî,aË,aC h3]
def yu (T:ŗ):cB P w K mg base gR 3 A.r_ A.su lù (jF K IK):=by
 exists T.w_.fn,[χ,dΘ,cċ,"_law_deed",cĊ,fß,dÆ],(ak (3\(aQ T.uJ (vR T) hr Υ)) (ak (cq (fF mϗ (fo (eX (eB (aQ T.xb (yx T) hr hϩ))))).pt η bv) (ak (cq (bh fG eŎ a9 Ĉ) (ak dÓ (ak (cq (bh jX eŎ a9 Ĉ) (aw (4\(aQ T.w8 (yt T) hr (aa Ć hϩ)))) bv) (ak (cq (fF (bh fG (aW fŋ ļ T.e_ Boot.«len» fÑ) ao Ĉ) (fF (eB (aQ T.Ju (zU T) hr (aa (Č∩ao) gΩ))) (fF lη (fo (bh pq (aW CN ļ T.e_ Boot.«len» hϠ) ao Ĉ))))).pt η bv) (ak (m6 ě eļ eŎ (Č∩ao) rfl) η)))) bv) (ak (5\(bP gm Ċ aύ cI)) (ak (cq (fF (bh pq mĿ ao Ĉ) (fF (bh jX (aW GD ļ T.e_ Boot.«len» (aa (cQ (GB rfl) ļ T.Wz Boot.«set» fà) ah)) mĿ Ĉ) (fo lη))).pt η bv) (ak (fX cG rfl (dF (K:=K) rfl Ď) kĔ (aw (cq (fF (oy (qM ě č eļ)) (fo (eB (aQ T.Ju (zU T) hr (aa (iU ě eļ č ζ) gΩ))))).pt η bv))) (ak (m6 ě eļ eŎ (cQ iI ļ T.jB Boot.«tuple» fà) rfl) η)))))))
 rintro vs M q ⟨p,r,t,R,T',row,rfl,hp,Yc,⟨lL,ht⟩,⟨hg,hRl,hTl⟩,⟨hl,ha,Bm⟩,kq,ke⟩;dsimp? [];exact#[row,rfl,hl,ha,Ŷ];have nur:u≠r:=λz=>by rw[z,lL] at hu;cases hu
 have ZY:u≠t:=λz=>by rw[z,ht] at hu;cases hu
 have s1:Sm M (kĈ):=Ý;have lO:um M u iυ u=some iυ:=am;generalize kĈ=M1 at s1 lO ⊢;have hr1:=s1 _ _ lL;have ht1:=s1 _ _ ht;have no:jd p aŞ row=none -> ∀ {M2:Mp},Sm M M2 -> ∃M0,Sm M0 M2 /\ q cÕ M0:=λh M2 s=>#[M2,Sm.refl _,ke h M2 λa o h _ _=>s a o h]
 rcases FA (p:=p) (R:=R) (T:=T') ha with⟨ed,el⟩ | ⟨n,x,ed,⟨nE,_V⟩,⟨hxl,X'⟩,el⟩ | ⟨n,ms,ed,⟨nE,_V⟩,Ls,el⟩
 rw[ed] at lO;have e1:jϧ:=⋯
 dsimp? [lO,e1,dw];show no el s1
 .rw [ed] at lO;have e1:decide (eŐ=0)=false:=⋯
  dsimp? [lO,e1,av,dw];exact jĒ;cases hn:bG n with
  | false=>dsimp? [aY];show no (by rw[el,aC (by rw[hn];decide)]) s1
  | true=>
   rw[aF hn] at el;dsimp? [lO,decide_true,bc,av,dw];intro v hv;have ng:um M1 v ŏ v=fÍ:=am;have s2:=s1.trans (aN hv (o:= Ė));have Am:=aN hv (o:= Ė) _ _ lO;have Bj:=aN hv (o:= Ė) _ _ hr1;have An:=aN hv (o:= Ė) _ _ ht1;generalize gľ=M2 at ng s2 Am Bj An ⊢;have e0:jϧ:=⋯
   by_cases hx:x=fġ;dsimp? [Am,aH hx,bc,av,dw,ng,e0];show no (by rw[el,hx,zL]) s2;have VT:0<x.length:=by obtain h | h:=Nat.eq_zero_or_pos x.length;show absurd (eM (by rw[List.eq_nil_of_length_eq_zero ((bx x).trans h),show kī by right])) hx;show h
   dsimp? [Am,ay hx,aY,av,dw,ng,e0];exact#[p,x,rfl,by unfold P4 at hp;omega,VT,by omega,X',az (FC ed) Bm,λa Lv hxe v3 tz=> ?_,λoK v3 tz=> ?_];rotate_left;have uS:um M2 v3 ŏ v3=fÍ:=am;have s3:=s2.trans (aN tz (o:= Ė));dsimp? [uS,e0];exact no ?_ s3;rw[el];cases h:aŌ with
   | none=>rfl
   | some a=>show absurd bĨ (oK a (hJ h).1)
   have hrl:cå<=502:=by have h1:=split_le aı ϛ;rw[jQ, <- hxe] at h1;simp at h1;omega
   rw[sZ Ť Lv hxe] at el;simp only at el;have uS:um M2 v3 (dï) v3=some (dï):=am;have s3:=s2.trans (aN tz (o:= dï));have JV:=aN tz (o:= dï) _ _ Am;have M_:=aN tz (o:= dï) _ _ Bj;have Cr:=aN tz (o:= dï) _ _ An;generalize um M2 v3 (dï)=M3 at uS s3 JV M_ Cr ⊢;have e2:kã:=⋯
   have e3:jC [kF a] 0=some aī:=rfl;dsimp? [JV,uS,e2,e3,M_,Cr];exact#[a,200,200,rfl,by omega,?_];dsimp? [JV,uS,e2,e3,M_,Cr];rw[show iy aĽ bĉ=_ from f9 kF R n,Option.isSome_map];rw[uO];cases hf:dų with
   | true=>dsimp? [];show no (by rw[el,aF (.inl hf)]) s3
   | false=>
   dsimp? [];by_cases hk:n∈δ;dsimp? [aH hk];show no (by rw[el,aF (.inr (aũ))]) s3;dsimp? [ay hk];by_cases hT0:T'= []
   rotate_left;have e5:decide (aů < (fá:Int))=true:=aH (by have:iΖ:=af _;have:T'.length≠0:=λz=>hT0 (List.eq_nil_of_length_eq_zero z);omega);dsimp? [e5];show no (by rw[el,aF (.inr (.inr hT0))]) s3;subst hT0;rw[aC (by rw[hf];simp[hk])] at el;have e5:decide (aů < ((wF []).length:Int))=false:=⋯
   have e6:jϨ:=mÑ;dsimp? [e5,JV,uS,e3,M_,e6];rw[show qJ aĽ bĉ aī=_ from kG kF R n a];show jm (kq _ _ _ el am (by rw[aR Yc.symm];show Cr) λb o h n1 n2=>by rw[aR n1];show s3 _ _ h)
 .rw [ed] at lO;have e1:decide (((gϜ+1+1:Nat):Int)=0)=false:=ς;dsimp? [lO,e1,av];exact jĒ;cases hn:bG n with
  | false=>dsimp? [aY];show no (by rw[el,aC (by rw[hn];simp)]) s1
  | true =>
   have ee:mÿ:=by right
   dsimp? [lO,ee,bc,av];intro v hv;have ec:oO (ws (ϡ)::fŔ) (some 2) none=bϗ:=gL _ 2;rw[ec];have ng:mÐ:=am;have s2:=s1.trans (aN hv (o:= fϱ));have Am:=aN hv (o:= fϱ) _ _ lO;have Bj:=aN hv (o:= fϱ) _ _ hr1;have An:=aN hv (o:= fϱ) _ _ ht1;generalize jĎ=M2 at ng s2 Am Bj An ⊢;have O7:jΒ:=af _;dsimp? [Am,ng,Bj,An,O7,Fh];by_cases h6:dθ;rotate_left;dsimp? [show kψ=true from Α];show no (by rw[el,aC (λh=>by let⟨_,_,h,_⟩:=h;show h6 h)]) s2;dsimp? [show kψ=false from ς];exact#[v,ms,rfl,ng,by omega,?_];by_cases Nb:ms.Nodup;rotate_left;dsimp? [show kϨ=false from ay (λh=>Nb (uH.mp Ť)),aY];show no (by rw[el,aC (λh=>by let⟨_,_,_,h,_⟩:=h;show Nb h)]) s2;dsimp? [show kϨ=true from aH (by have:=uH.mpr Nb;omega),bc];rw[show iy aΩ bĉ=_ from f9 ja T' n,Option.isSome_map,uO];by_cases hk:n∈eŀ;dsimp? [aH hk];show no (by rw[el,aC (λh=>h.2.1 hk)]) s2;dsimp? [ay hk,ng];exact iG (λi ρ M'=> ∃o:Å,dh (ρ= [Ų,iŅ,some (aŒ),dæ,none,some (wr v),o]) (M'=M2) (∀m∈bϘ, k϶)) #[none,rfl,rfl,by simp] ?_ ?_ ?_;rintro i ρ M' _ ⟨o,rfl,rfl,_⟩;show ng;rintro i y ρ M' hy ⟨o,rfl,rfl,hm⟩ N hN;rw[aD] at hy;cases qx:ms[i]? with
   | none=>rw[qx] at hy;cases hy
   | some m=>
    rw[qx] at hy;cases hy;have et:jϡ:=by rw[cy,qx];rfl
    dsimp? [Bj];rw[lě];have mm:m∈ms:=a7 qx;cases Lv:aŎ with
    | none=>dsimp? [Option.map_none,Option.isSome_none,aY];show no (by rw[el,aC (λh=>by let⟨_,_,_,_,h⟩:=h;let⟨a,h,_⟩:=h m mm;rw[Lv] at h;cases h)]) s2
    | some a=>
     dsimp? [d8,Option.isSome_some,bc];let⟨z,hz,_,rfl⟩:=fg Lv;exact#[z.2,8,24,rfl,by have:=((hg.rm Ť).ok z hz).2.1;omega,?_];dsimp? [];cases hf:dÔ with
     | true=>dsimp? [];show no (by rw[el,aC (λh=>by let⟨_,_,_,_,h⟩:=h;let⟨a,h,h2⟩:=h m mm;rw[Lv] at h;cases h;rw[hf] at h2;cases h2)]) s2
     | false=>dsimp? [];exact hN _ _ #[_,rfl,rfl,λm' h=> ?_];rw[et] at h;obtain h | h:=aK.mp h;show hm m' h;rw[aο];show#[z.2,Lv,hf]
   rintro ρ M' ⟨o,rfl,rfl,hm⟩;rw[af,cr] at hm;have e6:kå:=mæ;dsimp? [Am,ng,An,e6];rw[show qJ aΩ bĉ gϝ=_ from kG ja T' n ms];show jm (kq _ _ _ (by rw[el,aF #[hn,hk,h6,Nb,hm]]) (by rw[aR Yc];show Bj) am λb o h n1 n2=>by rw[aR n2];show s2 _ _ h)
def pw (T:ŗ):cB P w K mg base gR 4 A.j_ A.kf [Ŵ] (jF K QY):=by
 exists T.mw.fn,[Ŵ,dß,χ,dΘ,cċ],(ak (1\kχ) (ak (cq (bh fō eŇ (fq (aa a9 (aa a9 gϚ))) ļ) gĹ bv) (ak (2\(cQ rq ļ T.E5 Boot.«int» (aa (bP eI eŇ aύ cI) ah))) (ak (3\(fq gώ)) (ak (fX cG rfl lĮ kĎ (aw (cq (eX (eB (aQ T.w_ (yu T) hr (aa ĉ jĐ)))) gĹ bv))) (ak (cq (bh jX (aQ T.mq (md T) hr jč) Ć Ĉ) gĹ bv) (aw (bp (cY (aa (fq jč) ah))))))))))
 rintro vs M q ⟨x,rfl,hl,ha,O4,⟨Ly,Bm⟩,kq,ke⟩;have gI:jř:=gϔ;have hq:lÁ:=by right
 dsimp? [gI,hq];intro u hu;let⟨r0,rs,gC⟩: lΝ:=by
  cases e:ϲ with
  | nil=>show gĩ
  | cons a b=>show cĆ
 have Gf:=O4;rw[gC] at Gf ⊢;have hwg:=zJ gC;have _O: ∀r∈aœ,bI 61 r<=63:=λr hr=>az (NE r hû) Bm;rw[gC,ax] at Ly;have O0:jϤ:=by simp[fU]
 have asr: gϘ:=kΧ;have s1:Sm M (kĒ):=Ý;have lO:mņ:=am;have Am:ŀ:=hu;generalize kĒ=M1 at s1 lO ⊢;have e0:jC gĤ 0=some (ws r0):=eō;have no:kß -> ∀ {M2:Mp},Sm M M2 -> ∀v,M2 v=none -> ∃M0,Sm M0 (um M2 v ŏ) /\ q (wr v) M0:=λh M2 s v hv=>#[_,Sm.refl _,ke h v _ (s.trans aϐ) am]
 dsimp? [lO,e0];exact#[.str r0,[.str (iϱ), .str (iϲ), .str (iϳ), .str (iϴ)],rfl, Ĥ,rfl,rfl,?_];rw[å,JQ];by_cases hm:nę;case neg=>
  rw[ay hm]
  dsimp? [aY]
  exact no (λp R T hp iŉ=> ?_) s1
  rw[gC] at e1
  cases e1
  show hm (SH hp e2)
 rw[aH hm];let⟨p,hp,h0,G5⟩:=Qr hm;have _N:(r0.length<=sizeLine)=True:=aB (aL (by have:=Gf r0 Ň;omega));have pn:=ip (i:=p) jĀ;dsimp? [lO,e0,_N,bc];exact#[_,p,rfl,by rw[G5];show jf Ť,by rw[G5];omega,?_];dsimp? [];intro r hr t ht;have Bj:=aN ht (o:= aĒ) r _ (am (M:=M1) (o:= aĒ));have An:um gϞ t ı t=eľ:=am;have s2:Sm M1 (kŁ):=(aN hr).trans (aN ht);have Yc:r≠t:=λz=>by rw[z,am] at Bj;rw[z] at ht;rw[am] at ht;cases ht
 have rM:bď:=s1.free hr;have tM:M t=none:=s1.free (fŘ);generalize kŁ=M2 at Bj An s2 ⊢;have JV:=s2 _ _ lO;dsimp? [JV];intro v hv;have Cv:lζ:=aŝ;rw[Cv];have s3:Sm M (jē):=s1.trans (s2.trans aϐ);have M_:=aN hv (o:= fϴ) _ _ Bj;have Cr:=aN hv (o:= fϴ) _ _ An;have tz:um M2 v gϗ v=iň:=am;have ZW:v≠r:=λz=>by rw[z,Bj] at hv;cases hv
 have nvt:v≠t:=λz=>by rw[z,An] at hv;cases hv
 generalize jē=M3 at s3 M_ Cr tz ⊢;have jo: ∀ {M4 M5:Mp},Sm M M4 ->sE r t M4 M5 ->Sm M M5:=λs F a o h=>F a o (s _ _ h) (λz=>by rw[z,rM] at h;cases h) (λz=>by rw[z,tM] at h;cases h);have alike: ∀ {p':Int} {R:Rm} {T':Tm},P4 p' ->RD p' R T' x ->p'=p /\ dI aŐ aΦ rs=dè /\ bϛ=x:=λ{p' R T'} Lq iŉ=>by rw[gC] at e1;cases e1;obtain rfl:=xZ Lq (e2.symm.trans h0);show#[rfl,(uh Lq Ť gC e4).mp e3,e4]
 exact iG (λi ρ M'=>gh λ bň Ā aΙ=>GI (ρ= [dÕ,dæ,Ų,iŅ,o]) (dI aŐ aΦ dç=dè) (lP p R T') (iñ) (iĺ) (ę) (M' v=iň)) #[none,[],[],rfl,rfl,uX,M_,Cr,s3,tz] ?_ ?_ ?_;rintro i ρ M' _ ⟨o,R,T',rfl,hf,hg,h1,h2,s,jO⟩;show jO;rintro i y ρ M' hy ⟨o,R,T',rfl,hf,hg,h1,h2,s,jO⟩ N hN;rw[aD] at hy;cases qx:rs[i]? with
 | none=>rw[qx] at hy;cases hy
 | some row=>
  rw[qx] at hy;cases hy;have et:eŊ=bϚ++ [row]:=by rw[cy,qx];rfl
  have rm:row∈aœ:=dϊ;let⟨m1,m2,m3⟩:=qW hf;have wt:=zr rs i;simp![List.length_nil,Nat.zero_add] at m2 m3;dsimp? [];exact#[p,r,t,R,T',row,rfl,hp,Yc,bÍ,#[hg,by omega,by omega],#[Gf row rm,asr row rm,_O row rm],λR2 T2 M4 Lu g1 g2 F=> ?_,λoK M4 F=> ?_];dsimp? [bc];show hN _ _ #[_,R2,T2,rfl,by rw[et,xl hf,Lu],DG hg Lu,g1,g2,aş,F _ _ jO ZW nvt];dsimp? [aY];exact no iő (aş);let⟨rfl,h5,_⟩:=dð;have e2:bϚ++row::eŋ=rs:=by have z:=bL Ð rs;rw[et,bn] at z;show z
  rw[<- e2,EB hf oK] at h5;cases h5
 rintro ρ M' ⟨o,R,T',rfl,hf,hg,h1,h2,s,jO⟩;rw[af,cr] at hf;let⟨m1,m2,m3⟩:=qW hf;simp![List.length_nil,Nat.zero_add] at m2 m3;have l1:dΒ:=by omega
 have l2:eŌ:=by omega
 exact Ü;dsimp? [];exact#[p,r,t,R,T',rfl,bÍ,hp,(hg.Ow Ť Ť).n jĀ,bŉ,?_];dsimp? [];by_cases hx:bϛ=x;dsimp? [aH hx,bc];intro y hy;have sy:=aN hy (o:= kϠ);show jm (kq p R T' hp #[r0,rs,gC,h0,(uh hp Ť gC hx).mpr hf,hx] hg l1 l2 y r t _ am (sy _ _ h1) (sy _ _ h2) (s.trans sy));dsimp? [ay hx,aY];exact no iő s;let⟨rfl,h5,h6⟩:=dð;rw[hf] at h5;cases h5;show hx h6
def BZ (T:ŗ):cB P w K mg base gR 2 A.xq A.xx iϸ (jF K IP):=by
 exists T.Ef.fn,nĒ,(ak (2\a9) (ak (3\(dQ aO cC cL jς a9 (aa (fc rfl (dY.of (sc:=_) (N:= nĒ) (own:= [bĽ]) (fr:= [2,0]) (N':= lÄ)) (i3 ļ T.nA (aa Ϸ ah)) (λ_ _ _ _=>(bt (i:=0) (by change(lÄ:ê).Nodup;decide+kernel) rfl ε)) fL ύ (λ_ _ _ _=>(uu uN ć (aQ T.dL ċ hr (aa ĉ cČ)) ζ))) ah))) (ak (4\(aQ T.dL ċ hr (aa Ć (aa (bV eJ (aW i5 ļ T.e_ Boot.«len» fÒ) ao) ah)))) (ak (5\Ϸ) (ak (6\aώ) (ak (fX cG rfl (i3 ļ T.nA Φ) kĕ (ak (8\(bV Mr (uu uN ĉ (bV oF (bV eJ Ď (bV oE ao ď)) ao) ζ) (bV eJ ao Ϸ))) (aw (cN (dQ bj cW cV fK č (aa (bV ei (bV ei (bP eI Ċ cI (b_ Č)) aŠ) (bP eI Ċ (b_ Č) cI)) ah)))))) (aw (bp č))))))))
 rintro vs M q ⟨d,l,m,rfl,hD,m0,m1,k⟩;have hLz:(zm.length<=sizeLine)=True:=aB Ŧ;dsimp? [];exact#[d,l,11,rfl,hD,⋯,⋯,λj M1 j0 j1 D1 b1=> ?_];dsimp? [];exact#[hř,Sq (by rw[iZ];show fÔ) Ŷ];let⟨Ld,nul⟩:=D1.ne hu;exact#[λi ys M'=> ∃ss:ê,gX (ys=bχ) (ss.length=i) (kϜ) (M' u=eΑ) (ŕ),#[[],rfl,rfl,by simp,am,D1.put hu],?_,?_,?_];rintro i ys M' _ ⟨ss,rfl,hl,_,hM,_⟩;show#[trivial,hM,by rw[af];omega];rintro i x ys M' hx ⟨ss,rfl,hl,hs,hM,D2⟩ N hN;let⟨hi,rfl⟩:=jT hx;dsimp? [];exact#[d,l,26,rfl,D2,⋯,⋯,iļ];have hc:=Ec r0 r1;dsimp? [hLz,hc];exact#[by rw[b3 u Ld];show hM,hN _ _ #[ss++ [⟨#[97+r.toNat]⟩],by rw[aX];rfl,by simp[hl],cŞ,by rw[am],D3.vP Ld nul]];obtain h | h:=bĘ;show hs x h;rw[aο];show#[_,rfl,by unfold CY;omega];rintro ys M' ⟨ss,rfl,hl,hs,hM,D2⟩;rw[iZ] at hl;have h1: ∀x∈ss,x.length=1:=λx hx=>by let⟨c,rfl,_⟩:=hs x hx;rfl
 exact kL hM (c:=1) (λx hx=>by rw[h1 x hx];show aA _) (aL (by
  have:jð:=by right
  rw[this];omega)) ?_
 have hb0:(lß).length<=10:=az (gJ _ ss (c:=1) λx hx=>by rw[h1 x hx];show aA _) (by
  have:jð:=by right
  rw[this];omega)
 have Te:=Go hs;have ha0:bK (lß):=fO.mpr λc hc=>by have:=Te c hc;unfold CY at this;omega
 generalize lß=bo at hb0 ha0 Te;have hbz:(bo.length<=sizeLine)=True:=gϔ;clear hM h1 hs hl hu b1 D1;dsimp? [hbz];exact#[d,l,_,rfl,D2,by omega,by omega,λcu M3 c0 c1 D3 b3=> ?_];dsimp? [];exact#[d,l,26,rfl,D3,⋯,⋯,λBg M4 s0 s1 D4 b4=> ?_];dsimp? [];intro v hv;let⟨Q7,ZX⟩:=D4.ne hv;dsimp? [];exact#[hř,iG (λi ρ M'=>gh λ dΛ (ns:ê)=>gX (ρ= [Ű,some (wi m),some (ws zm),some (ws bo),some (wi cu),some (wi Bg),some (wr v),o1,o2]) (ns.length=i) jϒ (M' v=iİ) (ŕ /\ ∀ (j:Nat) (n:Str),e϶ ->WW cu.toNat Bg n j)) #[none,none,[],rfl,rfl,by simp,am,D4.put hv,by simp] iõ ?_ ?_];rintro i x ρ M5 hx ⟨o1,o2,ns,rfl,hl,Bl,hM,D5,hk⟩ N hN;let⟨hi,rfl⟩:=jT hx;have cm:oU 7 (bϔ)=True:=kä;have h26:(aů <26)=True:=aB ⋯;have hc:=Ec (i:=(Bg+7*(bϔ)) % 26) Ť Ť;rw[Int.zero_add] at hc cm;generalize Wb:97+((Bg+7*aΔ) % 26).toNat=c at hc;dsimp? [cm,h26,hLz,hc,Int.zero_add];exact#[d,l,2,rfl,D5,⋯,⋯,λr M6 r0 r1 D6 b6=> ?_];dsimp? [];let⟨w,rfl⟩:=b0 r0;exact#[ŝ,1+w,rfl,by push_cast;rfl,by omega,by change 1<=Â;decide,?_];have tl:=Fm (x:=ŝ) (n:=1+w);have tl':jΔ<=2:=az tl (by change(1+w)*1<=2;omega);have l1:=dP bo none bΧ;have l2:=dP bo bΧ none;have z1:((jņ).length+jΔ<=sizeLine)=True:=gϔ;have z2:(((jņ)++(hý)).length+(jŇ).length<=sizeLine)=True:=aB (hń);have hM6:M6 v=iİ:=by rw[b6 v Q7];show hM
 have G8:((ns.map ws).length<sizeLine)=True:=jÀ;dsimp? [hbz,z1,z2,hM6,G8];exact hN _ _ #[_,_,ns++ [jņ++hý++jŇ],rfl,by simp[hl],dØ,by rw[am,aX];rfl,D6.vP Q7 ZX,λj n hj=> ?_];obtain h | h:=aK.mp hn;show Bl n h;rw[aο];exact#[#[Nm.app (Nm.app (gl ha0) (KN ?_)) (gl ha0),by rw[a8,a8];omega],?_];show fO.mpr λd hd=>by rw[aZ.mp (show d∈ [c] from hd)];omega
 rw[<- Wb];show kϩ.1;by_cases hjl:j<ns.length;rw[bb hjl] at hj;show hk j n hj;rw[bg Ť] at hj;obtain rfl:j=i:=by have:=(bu.mp hj).1;simp at this;omega
 rw[show j - ns.length=0 by omega] at hj;cases hj;rw[<- Wb];show kϩ.2;rintro ρ M5 ⟨o1,o2,ns,rfl,hl,Bl,hM,D5,hk⟩;rw[iZ] at hl;dsimp? [];show jm (k v ns M5 hM Ť Bl (MB Ť hk) Q7 ZX D5)
def zS (T:ŗ):cB P w K mg base gR 4 A.u4 A.vd lĖ (jF K (ID A.bA A.ck)):=by
 have ik:=kϦ;have iS:=kϧ;exists T.Af.fn,[χ,dÇ,dΘ,gĬ,dό,dÆ,cĊ,dà,fß],(ak (3\(gy T.oV (nS T) Β ć)) (ak (4\(gy T.oW (nT T) Β ć)) (ak (cq (fF (eX (eB (aW fŌ ļ T.dG Boot.«isinstance» (aa Ċ mΡ)))) (fo (bh lŮ Ċ mŕ Ĉ))).pt η bv) (ak (cq (fF (eX (eB (aW fŌ ļ T.dG Boot.«isinstance» (aa Č mΡ)))) (fo (bh lŮ Č mŕ Ĉ))).pt η bv) (ak (fX cG rfl iø kď (ak (6\(gG T.ix ik Β ć fà)) (aw (cq (fF (eX (eB (aQ T.uK (vS T) hr (aa Ć fã)))) (fo (bh lŮ č (iU ě eŒ Ď ζ) Ĉ))).pt η bv)))) (ak (fX cG rfl iù kĕ (ak (8\(gG T.k8 iS Β ć fÛ)) (ak (cq (fF (eX (eB (aW fŌ ļ T.dG Boot.«isinstance» (aa aŠ mΡ)))) (fo (bh lŮ aŠ (cQ ji ļ T.mW Boot.«list» (aa (iU ě eŒ ď ζ) ah)) Ĉ))).pt η bv) (aw (cN (dQ bj PySem.F.slot_list_insert PySem.F.type_list_insert wX aŠ (aa ao ť))))))) (ak (cN (Iy bj PySem.F.slot_list_clear PySem.F.type_list_clear zZ Ċ)) (ak (cN (Iy bj PySem.F.slot_list_clear PySem.F.type_list_clear zZ Č)) η))))))))
 rintro vs M q ⟨b,la,lu,lh,now,r,t,p,pa,un,he,R,T',rfl,hB,⟨lL,ht⟩,hR,⟨hT,eD⟩,⟨h63,t63⟩,k⟩;let⟨dx,hb⟩:=hB.ob;have hRl:=hR.len;dsimp? [hb,AX];exact#[b,la,lu,lh,now,p,pa,un,he,R,T',rfl,hB,h63,λnl ns nE pQ JW=> ?_];have s1:Sm M (jĔ):=aN nE;have R9:=hB.sm s1;have Ta:um M nl gΥ nl=iİ:=am;generalize jĔ=M1 at s1 R9 Ta;have Td:=s1 _ _ hb;dsimp? [Td,AZ];exact#[b,la,lu,lh,now,p,pa,un,he,R,T',rfl,R9,t63,λcl cs iQ Ye RC=> ?_];have s2:=s1.trans ká;have Yr:=bŅ;have v6:um M1 cl gϒ nl=iİ:=aN iQ _ _ Ta;have Nf:um M1 cl gϒ cl=iŃ:=am;generalize um M1 cl gϒ=M2 at s2 Yr v6 Nf;dsimp? [v6,Nf];exact#[r,_,δ,rfl,s2 _ _ lL,aś,by rw[af];omega,λv Bh hv Lq yK=> ?_];have en:=tY Lq pQ yK JW;subst en;exact B6 (DR.list rf (by rw[aR (dR v6 hv)];show v6)) fř (CG _) rfl ?_;have s3:=s2.trans (aN hv (o:= fϺ));have hB3:=hB.sm s3;have RK:=aN hv (o:= fϺ) _ _ v6;have Wc:=aN hv (o:= fϺ) _ _ Nf;generalize um M2 v (fϺ)=M3 at s3 hB3 RK Wc;dsimp? [RK,Wc];exact#[t,_,eŀ,rfl,s3 _ _ ht,aś,by rw[af];omega,λv2 Ti ng Lp MZ=> ?_];have ec:=tY Lp Ye MZ RC;subst ec;exact B6 (DR.list rf (by rw[aR (dR Wc ng)];show Wc)) fř (CG _) rfl ?_;have s4:=s3.trans (aN ng (o:= fϻ));have Tg:=hB.sm s4;have Lr:=aN ng (o:= fϻ) _ _ RK;have Pb:=aN ng (o:= fϻ) _ _ Wc;generalize um M3 v2 (fϻ)=M4 at s4 Tg Lr Pb;have VZ:=s4 _ _ lL;have Wf:=s4 _ _ hb;dsimp? [Lr];exact iG (λi ρ M'=>cU λ dΛ=>ρ= [Ų,då,iŅ,dύ,dώ,o1,o2,none,none] /\ M'=M4) hŚ (by rintro i ρ M' _ ⟨o1,o2,rfl,rfl⟩;show Lr) ?_ ?_;rintro i x ρ M' hx ⟨o1,o2,rfl,rfl⟩ N hN;let⟨nm,vZ,rfl⟩: ∃nm,Bh[i]? =some nm /\ x=ws nm:=by
  rw[aD] at hx;cases e:Bh[i]? with
  | none=>rw[e] at hx;cases hx
  | some y=>rw[e] at hx;cases hx;show dϏ
 have Ct:nm∈δ:=pQ.mem_iff.mp (a7 vZ);let⟨z,hz,rfl⟩:=aG.mp Ct;let⟨a,hg⟩:=nj hz;let⟨z2,JT,_,rfl⟩:=Ö;dsimp? [Wf,mV];exact xY ?_;exact#[b,la,lu,lh,now,p,pa,un,he,R,T',z.1,rfl,Tg,az (eD z hz) ⋯,λa' uU=> ?_,λuU=>by rw[hg] at uU;cases uU];have ea:a'=z2.2:=by rw[hg] at uU;show dϐ
 subst ea;dsimp? [];exact#[p,z2.2,rfl,eœ.1,by have:=eœ.2.1;omega,?_];dsimp? [VZ,f9,hg,d8];exact Vx rfl ?_;dsimp? [];show hϟ;rintro ρ M5 ⟨o1,o2,rfl,rfl⟩;dsimp? [Pb];have Rz:=s4 _ _ ht;exact iG (λi ρ M'=>cU λ(o3 o4:Å)=>ρ= [Ų,då,iŅ,dύ,dώ,o1,o2,o3,o4] /\ Sm M5 M') #[none,none,rfl,Sm.refl M5] (by rintro i ρ M' _ ⟨o3,o4,rfl,s5⟩;show s5 _ _ Pb) ?_ ?_;rintro i x ρ M6 hx ⟨o3,o4,rfl,s5⟩ N hN;let⟨nm,vZ,rfl⟩: ∃nm,Ti[i]? =some nm /\ x=ws nm:=by
  rw[aD] at hx;cases e:Ti[i]? with
  | none=>rw[e] at hx;cases hx
  | some y=>rw[e] at hx;cases hx;show dϏ
 have Ct:nm∈eŀ:=Ye.mem_iff.mp (a7 vZ);let⟨z,hz,rfl⟩:=aG.mp Ct;have hg:=CB hT.nd hz;have hb6:=s5 _ _ Wf;have ht6:=s5 _ _ Rz;dsimp? [hb6,vq];exact xY ?_;exact#[b,la,lu,lh,now,p,pa,un,he,R,T',z.1,rfl,Tg.sm s5,az (hT.key z hz) ⋯,λa' uU u hu=> ?_,λuU=>by rw[hg] at uU;cases uU];have ea:a'=z.2:=by rw[hg] at uU;show dϐ
 subst ea;have s6:=s5.trans (aN hu (o:= gĵ));have VU:um M6 u (gĵ) u=some (gĵ):=am;have ht7:=s6 _ _ Rz;have aah:M5 u=none:=s5.free hu;generalize um M6 u (gĵ)=M7 at s6 VU ht7;dsimp? [VU,ht7,f9,hg,d8,ja];intro v hv;exact B6 (DR.list rf (by rw[aR (dR VU hv)];show VU)) fř (CG _) rfl ?_;have s7:=s6.trans (aN hv (o:= gĵ));have _H:=aN hv (o:= gĵ) _ _ VU;generalize um M7 v (gĵ)=M8 at s7 _H;dsimp? [_H];exact#[u,_,ws "zz",0,rfl,rfl,_H,nI (by rw[af];have:=hT.mem z hz;omega),ν,?_];show hN _ _ #[_,_,rfl,s7.um aah];rintro ρ M6 ⟨o3,o4,rfl,s5⟩;have hn6:=s5 _ _ Lr;have RU:=s5 _ _ Pb;have s6:=s4.trans s5;dsimp? [hn6,RU];by_cases hcn:cl=nl;subst hcn;dsimp? [am];show#[M,s6.um dϑ,k];dsimp? [aR hcn,RU];show#[M,(s6.um nE).um dϑ,k]
def sL (T:ŗ):cB P w K mg base gR 4 A.mK A.mQ lγ (jF K QV):=by
 exists T.pL.fn,[ų,χ,gĬ,"_law_rounds",dό,dÆ,dà,fß,bĽ],(ak (3\jg) (ak (4\jg) (ak (fX cG rfl (dF (K:=K) rfl (bP gm ĉ cI lΞ)) kď (aw (m6 ě Ċ Ď (aQ T.Ee (BY T) hr (aa Ć (aa ć (aa mϱ (aa ao (aa mϱ ah)))))) rfl))) (ak (fX cG rfl (dF (K:=K) rfl (bP gm (bP gm ĉ lΞ cI) cI lΞ)) kĔ (ak (7\aώ) (ak (fX cG rfl (i3 ļ T.nA (aa ((fq jĄ)∪Ϸ) ah)) (bt (i:=8) nd rfl ε) (ak (5\(ĉ∩Ϸ)) (aw (cq (jK (bh fō Ď ď ļ) (io (fF (oy (yk ě Ď Ċ)) (fo mĤ)).pt)).pt (aw (cN (dQ bj cW cV fK ď fà))) bv)))) (ak (cq (jK (bh pq mŀ ao Ĉ) (io mĤ)).pt (aw (cN (dQ bj cW cV fK ď (aa eŔ ah)))) bv) (aw (m6 ě Č č (cQ iI ļ T.jB Boot.«tuple» fÛ) rfl)))))) (aw (bp (fq jĐ)))))))
 rintro vs M q ⟨d,l,nl,p,ns,rfl,hD,hp,nE,Z8,⟨hln,Bl⟩,kq⟩;have nml:=(jĀ:2<=p /\ aħ)
 let⟨nlz,hDl⟩:=aeF hD;dsimp? [];intro r hr;dsimp? [];intro t ht;have EJ:tI M (kĖ) d l nl r t ns [] []:=by
  have S':bď:=hr;have O1:M t=none:=fŘ;let⟨a1,a2⟩:=hD.ne S';let⟨a3,a4⟩:=hD.ne O1;have rt:r≠t:=λz=>by rw[z,am] at ht;cases ht
  have nlr:nl≠r:=λz=>by rw[<- z,nE] at S';cases S'
  have nlt:nl≠t:=λz=>by rw[<- z,nE] at O1;cases O1
  show#[(hD.put hr).put ht,by rw[aR rt];show am,am,by rw[aR nlt,aR nlr];show nE,λa o e n=>by rw[aR (dR e O1),aR (dR e S')];show e,#[rt,a1,a3],#[a2,a4,Z8],S',O1]
 have O1:=EJ.t0;have S':=EJ.r0;generalize kĖ=M1 at EJ ⊢;dsimp? [];exact#[d,l,7,rfl,EJ.dr,⋯,⋯,λz M2 z0 z1 D2 b2=> ?_];replace EJ:=EJ.nb D2 b2;have v6:=EJ.mn;dsimp? [v6];intro v hv;rw[AN _ _ z0, <- List.map_take];have Ry:um M2 v (kė) v=some (kė):=am;let⟨hv0,ZW,Q7,ZX,nvn⟩:=EJ.free hv;have nvt:v≠t:=λz=>by rw[z,EJ.mt] at hv;cases hv
 replace EJ:=EJ.new hv (o:= kė);generalize um M2 v (kė)=M3 at EJ Ry ⊢;have tl:(fŚ).length<=6:=by rw[bz];omega
 have inn: ∀ {k:Nat} {n:Str},(fŚ)[k]? =aē ->Ŗ:=λ{k n} h=>Bl n (List.mem_of_mem_take (a7 h));exact iG (λi ρ M'=>cU λ bň Ā=>oR (ρ= [Ű,Ų,dύ,cϔ,cϕ,o,none,none,none]) (tI M M' d l nl r t ns R []) (M' v=some (kė)) (R.length<=i) (i<=6) (nĚ)) #[none,[],rfl,EJ,Ry,by simp,by omega,by simp] ?_ ?_ ?_;rintro i ρ M' _ ⟨o,R,rfl,ds,jO,_⟩;show jO;rintro i y ρ M' hy ⟨o,R,rfl,ds,jO,hR,hi,hz⟩ N hN;let⟨n,hn,rfl⟩:=mh hy;have Yi:=(bu.mp hn).1;let⟨VB,nas⟩:=qP (inn hn);have Bj:=ds.mr;dsimp? [Bj];exact#[d,l,4,rfl,ds.dr,⋯,⋯,λa M4 a0 a1 D4 b4=> ?_];replace ds:=dñ;have uS:M4 v=_:=(b4 v Q7).trans jO;dsimp? [];exact s_ lů a0 (by change a< eŕ;omega) eĜ ?_;simp![au,cD,or_false] at hx;obtain h | h | h | h:=hx <;>show iΗ;rintro _ ⟨en,rfl,e0,e1⟩;dsimp? [];exact#[d,l,4,rfl,ds.dr,⋯,⋯,λc M5 c0 c1 D5 b5=> ?_];replace ds:=dò;have oJ:M5 v=_:=(b5 v Q7).trans uS;dsimp? [];exact s_ lů c0 (by change c< eŕ;omega) eĜ ?_;simp![au,cD,or_false] at hx;obtain h | h | h | h:=hx <;>show iΗ;rintro _ ⟨fa,rfl,f0,f1⟩;dsimp? [];exact#[d,l,p,en,3,fa,rfl,ds.dr,nml.1,nml.2,e0,by omega,⋯,⋯,f0,by omega,λg ps M6 ga gb lp gI D6 b6=> ?_];replace ds:=dó;have Rx:M6 v=_:=(b6 v Q7).trans oJ;have hr6:=ds.mr;have e6:jϨ:=mÑ;dsimp? [hr6,e6];rw[show qJ aĽ bĉ (kF cΘ)=_ from kG kF R n cΘ];exact hN _ _ #[_,fV R n cΘ,rfl,ds.ZL _,by rw[aR ZW];show Rx,iΔ,by omega,cŉ];obtain h | rfl:=mY hy;show hz y h;let⟨h1,h2⟩:=Km hp (g:=g) (ps:=ps) Ť Ť lp (λz hz=>by have:=gI z hz;omega);show#[VB,nas,h1,h2];rintro ρ M' ⟨o,R,rfl,ds,jO,hR,hi,hz⟩;rw[af] at hR;clear EJ Ry hv b2 D2 jO;dsimp only;exact Ü;have Lr:=ds.mn;dsimp? [];exact#[d,l,5,rfl,ds.dr,⋯,⋯,λz2 M4 y0 y1 D4 b4=> ?_];replace ds:=dñ;have Lr:=ds.mn;dsimp? [Lr];intro v2 ng;rw[show z2=((z2.toNat:Nat):Int) by omega,gL, <- List.map_drop];have tz:um M4 v2 (kł) v2=some (kł):=am;let⟨g0,g1,g2,g3,g4⟩:=ds.free ng;replace ds:=ds.new ng (o:= kł);generalize um M4 v2 (kł)=M5 at ds tz ⊢;dsimp? [];exact#[d,l,3,rfl,ds.dr,⋯,⋯,λz3 M6 y2 y3 D6 b6=> ?_];replace ds:=dó;have Rx:M6 v2=_:=(b6 v2 g2).trans tz;dsimp? [Rx];intro v3 uS;rw[AN _ _ y2, <- List.map_take];have hcs: ∀c∈kŃ,c∈ns:=λc hc=>List.mem_of_mem_drop iϮ;have iQ:(kŃ).length<=2:=by rw[bz];omega
 generalize kŃ=cs at hcs iQ ⊢;have oJ:um M6 v3 gϒ v3=iŃ:=am;let⟨j0,j1,j2,j3,j4⟩:=ds.free uS;have j5:v3≠t:=λz=>by rw[z,ds.mt] at uS;cases uS
 replace ds:=ds.new uS (o:= fϰ);generalize um M6 v3 gϒ=M7 at ds oJ ⊢;clear Rx b6 D6 b4 D4 ng tz Lr uS;exact iG (λi ρ M'=>qu λ(o5 o6 o7 o8:Å) aΙ=>GI (ρ= [Ű,Ų,dύ,cϔ,cϕ,o5,o6,o7,o8]) jΕ kĘ (T'.length<=i) (i<=2) ((eŀ).Nodup) (∀z∈T',mύ)) #[_,none,none,none,[],rfl,ds,oJ,by simp,by omega,by simp,by simp] ?_ ?_ ?_;rintro i ρ M' _ ⟨o5,o6,o7,o8,T',rfl,ds,jO,_⟩;show jO;rintro i y ρ M' hy ⟨o5,o6,o7,o8,T',rfl,ds,jO,hT,hi,Nb,rW⟩ N hN;let⟨c,hc,rfl⟩:=mh hy;have Yi:=(bu.mp hc).1;let⟨c12,cas⟩:=qP (Bl c (hcs c (a7 hc)));simp? [↓fk];intro w hw;have G4:um M' w ŏ w=some (.lst (([]:ê).map ws)):=am;let⟨w0,w1,SR⟩:=ds.free hw;have _G:=aN hw (o:= Ė) _ _ jO;have wv:w≠v3:=λz=>by rw[z,jO] at hw;cases hw
 have wt:w≠t:=λz=>by rw[z,ds.mt] at hw;cases hw
 replace ds:=ds.new hw (o:= Ė);generalize um M' w ŏ=M8 at ds G4 _G ⊢;exact Ü;simp? [↓fk];exact#[d,l,3,rfl,ds.dr,⋯,⋯,λa M9 a0 a1 D9 b9=> ?_];replace ds:=ds.nb D9 b9;have O0:M9 w=_:=(b9 w SR.1).trans G4;have hv9:M9 v3=_:=(b9 v3 j2).trans _G;simp? [↓fk];exact s_ (λx=> ∃e:Int,dh bŋ (0<=e) (e<=7)) a0 (by change a< eŐ;omega) eĜ ?_;simp![au,cD,or_false] at hx;obtain h | h | h:=hx <;>show iΗ;rintro _ ⟨k,rfl,k0,k1⟩;simp? [↓fk];exact#[hř,iG (λj ρ M'=>gh λ(o5 o8:Å) cϲ=>GI në jΕ kĘ (M' w=iņ) (ms.length<=j) (j<=7) kń) #[_,_,[],rfl,ds,hv9,O0,by simp,by omega,by simp] iõ ?_ ?_];rintro j y ρ M3 X8 ⟨o5,o8,ms,rfl,ds,tz,zj,O7,hj,Ls⟩ N2 Tf;let⟨hjl,rfl⟩:=jT X8;simp? [↓fk];exact#[d,l,8,rfl,ds.dr,⋯,⋯,λe M4 e0 e1 D4 b4=> ?_];replace ds:=dñ;have Ew:M4 w=_:=(b4 w SR.1).trans zj;have uS:M4 v3=_:=(b4 v3 j2).trans tz;have Lr:=ds.mn;have j9:e.toNat<ns.length:=by omega
 have ae:jC cϐ e=some (ws dõ):=kW e0 (by rw[aD,aT j9];rfl);have nm:=qP (Bl _ (cw j9));generalize dõ=m at ae nm;simp? [↓fk,Lr,ae];exact Ü;have skip: ∀M5,jĕ ->M5 v3=iŃ ->M5 w=iņ ->N2 nē M5:=λM5 h1 h2 h3=>Tf _ _ #[_,_,ms,rfl,h1,h2,h3,by omega,by omega,Ls];have add: ∀M5,jĕ ->M5 v3=iŃ ->M5 w=iņ ->N2 nē (um M5 w (.lst (bϗ++ [ws m]))):=λM5 h1 h2 h3=>Tf _ _ #[_,_,ms++ [m],rfl,h1.upd h3 w0 SR,by rw[aR wv.symm];show h2,by rw[am,aX];rfl,by simp;omega,by omega,λm' qx=>by obtain h | h:=bī;show Ls m' h;rw[aο];show nm];have G8:(gϜ<sizeLine)=True:=jÀ;have VZ:=ds.mr;dsimp? [];exact FR Ew ?_;cases Ct:Ev m ms with
 | true=>dsimp? [bc];show skip M4 ds uS Ew
 | false=>
  dsimp? [aY,VZ];rw[lě,Option.isSome_map];cases hs:(aŎ).isSome with
  | true=>dsimp? [Ew,G8];show add M4 ds uS Ew
  | false=>dsimp? [];exact#[d,l,8,rfl,ds.dr,⋯,⋯,iŒ];replace ds:=dò;have Ge:M5 w=_:=gĿ Ew;have oJ:M5 v3=_:=gÁ uS;dsimp? [];exact ϩ;dsimp? [Ge,G8];show add M5 ds oJ Ge;dsimp? [];show skip M5 ds oJ Ge
 rintro ρ M3 ⟨o5,o8,ms,rfl,ds,tz,zj,O7,hj,Ls⟩;rw[iZ] at O7 hj;have hm7:ms.length<=7:=by omega
 clear G4 O0 _G hv9 b9 D9 hw;dsimp only;exact Ü;exact JR (λρ M4=>cU λ(o5:Å) cϲ=>oR në (tI M M4 d l nl r t ns R T') (M4 v3=iŃ) (M4 w=iņ) (ms.length<=8) kń) ?_ λN2 Tf=> ?_;rintro ρ M4 ⟨o5,ms,rfl,ds,uS,Ew,O7,Ls⟩;have Rz:=ds.mt;have e6:kå:=mæ;dsimp? [Ew,Rz,e6];rw[show qJ aΩ (.inr c) gϝ=_ from kG ja T' c ms];exact hN _ _ #[_,_,_,_,fV T' c ms,rfl,ds.Io _,by rw[aR j5];show uS,iΔ,by omega,BQ Nb,cŉ];obtain h | rfl:=mY hy;show rW y h;show#[c12,cas,O7,Ls];have Lu:jΒ:=af _;dsimp? [zj,Lu];exact eQ (λmD=> ?_) λmD=> ?_;dsimp? [];exact#[d,l,12,rfl,ds.dr,⋯,⋯,iŒ];replace ds:=dò;have Ge:M5 w=_:=gĿ zj;have oJ:M5 v3=_:=gÁ tz;dsimp? [];exact ϩ;let⟨m,ms,rfl⟩: ∃m l,ms=m::l:=by
  match ms,mD with
  | [],h=>simp at h
  | m::l,_=>show#[m,l,rfl]
 have e0:jC (ws m::bϗ) 0=dö:=eō;have G8:(gϜ+1<sizeLine)=True:=aB (nI (by rw[af];simp at hm7;omega));dsimp? [Ge,e0,G8];exact Tf _ _ #[_,(Ø)++ [m],rfl,ds.upd Ge w0 SR,by rw[aR wv.symm];show oJ,?_,by simp at hm7 ⊢;omega,λm' qx=> ?_];rw[am,aX];rfl;obtain h | h:=bī;show Ls m' h;rw[aο];show Ls m Ň;dsimp? [];show Tf _ _ #[_,ms,rfl,ds,oJ,Ge,by omega,Ls];show Tf _ _ #[_,ms,rfl,ds,tz,zj,by omega,Ls];rintro ρ M' ⟨o5,o6,o7,o8,T',rfl,ds,jO,hT,hi,Nb,rW⟩;rw[af] at hT;exact Ü;dsimp? [];show jm (kq r t R T' M' ds.mr ds.mt #[by omega,by omega,hz,Nb,rW] ds.dr ds.fs)
def qN (T:ŗ):cB P w K mg base gR 2 A.lx A.lC iϹ (jF K QQ):=by
 exists T.nU.fn,[ų,Ŵ,dß,cĊ,"_law_other","_law_way","_law_kept"],(ak (2\kν) (ak (3\nó) (ak (4\nó) (ak (5\Ϸ) (ak (6\(ĉ∩Ċ)) (ak (cq iΘ (ak lŰ (aw (gt č (kH ĉ Č gD)))) (aw (cq iΘ (aw lŰ) (aw (cq iΘ (aw (cN (dQ bj PySem.F.slot_list_insert PySem.F.type_list_insert wX ĉ (aa Č fã)))) (aw (cq iΘ (aw (cN (dQ bj PySem.F.slot_list_pop PySem.F.type_list_pop Jj ĉ fÒ))) bv))))))) mŻ))))))
 rintro vs M q ⟨d,l,x,rfl,hD,hl,ha,hR,⟨c10,c61⟩,kq⟩;have gI:jř:=gϔ;have hq:lÁ:=by right
 dsimp? [gI,hq];intro u hu;have RA:=Fq x;have Lo:=DI hR;have vF:=qF (sep:=ϕ) ha;have G5:=split_le x Ϣ;have hs9:=wO x;have _L:=vm (c:=61) (x:=x) (sep:=ϕ);have lw: ∀r∈ϲ,bϜ:=λr hr=>mT (by rw[Cg] at hr;show jι);have kN:=fh x Ϣ;generalize ϲ=L at RA Lo vF G5 kN hs9 _L lw ⊢;have hLp:0<L.length:=List.length_pos_iff.mpr kN;have lO:um M u gĽ u=some gĽ:=am;let⟨Ld,nul⟩:=hD.ne hu;have nb1: ∀a,a≠d ->a≠u ->um M u gĽ a=M a:=λa h1 h2=>aß;have D1:Dr (um M u gĽ) d l:=hD.put hu;generalize um M u gĽ=M1 at lO nb1 D1 ⊢;have JZ:(bŊ).length=L.length:=af _;dsimp? [lO,JZ];exact#[d,l,L.length,rfl,D1,by omega,by omega,iŊ];have Am:M2 u=_:=(b2 u Ld).trans lO;dsimp? [Am,JZ];exact#[d,l,L.length,rfl,D2,by omega,by omega,λj M3 j0 j1 D3 b3=> ?_];have JV:M3 u=_:=(b3 u Ld).trans Am;dsimp? [];exact#[d,l,12,rfl,D3,⋯,⋯,λw M4 w0 w1 D4 b4=> ?_];have Ya:M4 u=_:=(b4 u Ld).trans JV;have VA: ∀a,a≠d ->a≠u ->M4 a=M a:=λa h1 h2=>by rw[b4 a h1,b3 a h1,b2 a h1,nb1 a h1 h2]
 have hi:i.toNat<L.length:=by omega
 have hj:j.toNat<L.length:=by omega
 have ai:jC (bŊ) i=some (ws cĒ):=kW i0 hΙ;have aj:jC (bŊ) j=some (ws cē):=kW j0 (by rw[aD,aÏ];rfl);have xi:vY L.length i=dĢ:=by unfold vY;split<;>simp<;>omega
 have xj:vY L.length j=some j.toNat:=by unfold vY;split<;>simp<;>omega
 have ri:=Lo _ aψ;have rj:=Lo _ aϒ;have lf:jñ=1:=by right
 have _j:bI 10 Ϣ=1:=by right
 have _i:jŔ:=by right
 have j' : ∀ (L':ê) (M5:Mp),(L'.length<=10 /\ fH 61 L'<=54 /\ ∀r∈L',bϜ) ->M5 u=some (.lst (L'.map ws)) ->(∀r∈L',hϜ) ->fU L'<=fU L+122 ->L'.length<=600 ->Dr M5 d l ->(∀a,a≠d ->a≠u ->M5 a=M a) ->De (ws Ϣ) [wr u] M5 kŔ:=λL' M5 h0 h1 h2 h3 h4 D5 nb5=>by
  have hL : (Builtin.Str.glued Ϣ L').length<=684:=by
   cases L' with
   | nil => have:(Builtin.Str.glued Ϣ []).length=0:=rfl
            omega
   | cons a b=>have:=i4 lf (l:=a::b) Ň;omega
  refine kL (ss:=L') (c:=121) h1 (hþ) (iX (by rw[lf];omega)) ?_;let⟨M0,m1,m2,m3⟩:=ND hD hu D5 nb5;show #[M0,m1,kq _ _ hL (qq Ŧ λr hr=>(h2 r hr).2) (ui hþ) (by
   have g1:=f_ (c:=10) (sep:=ϕ) (l:=L');have g2:=f_ (c:=61) (sep:=ϕ) (l:=L');have g3:fH 10 L'=0:=by
    have: ∀l:ê,hš ->fH 10 l=0:=λl h=>by
     induction l with
     | nil=>rfl
     | cons r l ih=>rw[bZ,h r Ň,ih λx hx=>h x eķ]
    show this L' h0.2.2
   rw[_j,g3] at g1;rw[_i] at g2;have:=h0.1;have:=h0.2.1;omega) m2 m3]
 have Sc: ∀ {l:ê} {k:Nat} {y:Str},hš ->bI 10 y=0 -> ∀r∈l.set k y,bϜ:=λ{l k y} h1 h2 r hr=>by obtain h | rfl:=jΖ;show h1 r h;show h2
 have fi:=lw _ aψ;have fj:=lw _ aϒ;have ci:=EY (c:=61) aψ;have cj:=EY (c:=61) aϒ;have all: ∀r∈L,hϜ:=λr hr=>#[Lo r hr,vF r hr]
 have mi:=all _ aψ;have mj:=all _ aϒ;have Sy: ∀ {l:ê} {k:Nat} {y:Str},(∀r∈l,hϜ) ->(eŖ /\ bK y) -> ∀r∈l.set k y,hϜ:=λ{l k y} h1 h2 r hr=>by obtain h | rfl:=jΖ;show h1 r h;show h2
 have wii: ∀ (y:Str),eŖ ->fU (L.set i.toNat y) <=fU L+121:=λy hy=>Br hy;dsimp? [Ya,ai,aj,JZ,xi];exact ϩ;have _K:(læ).length=L.length:=by rw[d_,JZ]
 have hu5:um M4 u lΟ u=some lΟ:=am;dsimp? [hu5,_K,xj];exact j' ((iΙ).set j.toNat cĒ) _ #[by rw[d_,d_];omega,by have g1:=lΕ;have g2:=qm (c:=61) (L:=iΙ) (i:=j.toNat) (y:=cĒ);omega,Sc (Sc lw fj) fi] (by rw[am,List.map_set,List.map_set]) (Sy dø mi) (by have:=Hf hi hj;omega) (by rw[d_,d_];omega) fä λa h1 h2=>by rw[aß];show cĔ
 dsimp? [];exact ϩ;dsimp? [];exact j' (iΙ) _ #[by rw[d_];omega,by have g1:=lΕ;omega,Sc lw fj] (by rw[am,List.map_set]) dø (by have:=wii _ mj.1;omega) (by rw[d_];omega) fä λa h1 h2=>by rw[aß];show cĔ
 dsimp? [];exact ϩ;exact#[u,bŊ,ws cĒ,j.toNat,rfl,by rw[show j=((j.toNat:Nat):Int) by omega];rfl,Ya,nI gĝ,by rw[JZ];omega,?_];dsimp? [];exact j' (L.take j.toNat++cĒ::L.drop j.toNat) _ #[by simp;omega,by rw[KA];omega,λr hr=>by obtain h | h:=bĶ;show lw r iΚ;obtain rfl | h:=ĕ;show fi;show lw r iΛ] (by rw[am];simp[List.map_take,List.map_drop]) (λr hr=> ?_) (by rw[LF];omega) fĤ fä λa h1 h2=>by rw[aß];show cĔ
 obtain h | h:=bĶ;show all r iΚ;obtain rfl | h:=ĕ;show mi;show all r iΛ;dsimp? [];exact ϩ;exact Hi Ya i0 Ť hΙ ?_;dsimp? [];exact j' (L.eraseIdx i.toNat) _ #[by have:=kŦ;omega,by have:=vn (c:=61) (L:=L) (i:=i.toNat);omega,λr hr=>lw r jϩ] (by rw[am,wY]) (λr hr=>all r jϩ) (by have:=wx (L:=L) (i:=i.toNat);omega) (by have:=kŦ;omega) fä λa h1 h2=>by rw[aß];show cĔ
 dsimp? [];show j' L _ #[by omega,by omega,lw] Ya all Ť Ť D4 VA
def Q5 (T:ŗ):cB P w K mg base gR 11 A.Pl A.Pn fŉ (zB K):=by
 have cl:=θ;exact Vs T.law.fn HR ⋯ λcdv A' outer s H E hr=> ?_;have nd:=HR.nd;exact#[_,(ak (1\(aQ T.Eh (B0 T) hr Χ)) (ak (2\(aQ T.l_p (Q6 T) hr Φ)) (ak (3\(aQ T.Ef (BZ T) hr iĀ)) (ak (4\(aQ T.nU (qN T) hr (aa ć (aa (aQ T.mq (md T) hr (aa ĉ (aa (aQ T.pL (sL T) hr (aa ć jč)) ah))) ah)))) (ak (fX cG rfl (i3 ļ T.nA (aa (lú∪(aQ T.dL ċ hr iĀ)) ah)) kď (aw (4\(aQ T.Ag (zT T) hr jĆ)))) (ak (6\(aQ T.mw (pw T) hr fÑ)) (ak (7\(aQ T.Jt (FO T) hr fÑ)) (ak (cq (bh fG (aW fŋ ļ T.e_ Boot.«len» fã) ao Ĉ) (aw (bp (gq (show jE _ _ (QE K) from Q2 fŖ) ď (cY (aa a9 (aa gj (aa gj (aa gj ah))))) Ĉ))) bv) (ak (cq (fF (bh jX mŀ ao Ĉ) (fo (bh jX (gy T.iw (hU T) Β eŔ) hŢ Ĉ))).pt η bv) (aw (bp (aQ T.Af (zS T) hr (aa hŢ (aa eŔ (aa hŢ ah))))))))))))))),?_];try dsimp only[dW]
 exact Ϩ;intro d l M hD;dsimp? [];exact#[d,l,rfl,hD,λp M1 hp D1 _=> ?_];dsimp? [];exact#[d,l,8,rfl,D1,⋯,⋯,λnl ns M2 nE hln Bl Nb Z8 nnl D2=> ?_];dsimp? [];exact#[d,l,nl,p,ns,rfl,D2,hp,nE,Z8,#[by omega,λn hn=>(Bl n hn).2],λr t R T' M3 hr ht j8 D3 F3=> ?_];dsimp? [];exact#[p,r,t,R,T',rfl,#[hr,ht],hp,j8.std.n,#[by have:=j8.r6;omega,by have:=j8.t2;omega],?_];let⟨tx1,tx2,tx3⟩:=j8.std.text hp;let⟨q1,q2⟩:=j8.aeK (p:=p);dsimp? [];exact#[d,l,bϛ,rfl,D3,tx1,tx2,tx3,#[q1,q2],λx M4 hx X' hxr hxc D4 b4=> ?_];dsimp? [];exact#[d,l,4,rfl,D4,⋯,⋯,λk M5 k0 k1 D5 b5=> ?_];dsimp? [];exact s_ (λx=> ∃e:Int,dh bŋ (0<=e) (e<=2)) k0 (by change k< eŕ;omega) eĜ ?_;simp![au,cD,or_false] at hx;obtain h | h | h | h:=hx <;>show iΗ;rintro _ ⟨m,rfl,m0,m1⟩;dsimp? [];exact#[hř,iG (λi ρ M'=>cU λ(o5:Å) (y:Str)=>GI (ρ= [none,Ű,Ų,dύ,some aĮ,o5,none,none]) (bI 10 y<=9+2*i /\ bI 61 y<=54+2*i) (ŕ) (y.length<=684+i) (i<=2) (bK y) (rC fŃ y)) #[none,x,rfl,by omega,D5,by omega,by omega,X',hxr] iõ ?_ ?_];rintro i y ρ M' hy ⟨o5,s,rfl,RC,D6,hs,hi,vF,Lo⟩ N hN;let⟨Yi,rfl⟩:=jT hy;dsimp? [];exact#[d,l,s,rfl,D6,by omega,vF,λy M7 hy hya hyr hyc D7 b7=> ?_];dsimp? [];show hN _ _ #[_,y,rfl,by have g1:=hyc 10;have g2:=hyc 61;omega,D7,by omega,by omega,hya,(hyr _ Lo).mono (HW i)];rintro ρ M' ⟨o5,s,rfl,RC,D6,hs,hi,vF,Lo⟩;rw[iZ] at hs hi Lo RC;have Ly:(kę).length<=14:=by have:=wO s;omega
 have Bm:bI 61 s<=63:=by omega
 have hl:s.length<=690:=by omega
 have O4: ∀r∈kę,eı:=DI (Lo.mono (by have:2 ^ m.toNat<=2 ^ 2:=Nat.pow_le_pow_right ⋯ hi;omega));clear Lo hs hi RC b4 b5 D5 hx X' hxr hxc tx1 tx2 tx3 q1 q2;dsimp only;exact Ü;by_cases hex: ∃p R T,È /\ RD p R T s;let⟨p2,R2,T2,Lp,R7⟩:=hex;dsimp? [];exact#[s,rfl,hl,vF,O4,#[Ly,Bm],λp3 R3 T3 hp3 Pd hg l1 l2 u r2 t2 M7 hu Bj An s7=> ?_,jϪ];let⟨rfl,rfl,rfl⟩:=R7.uniq Lp Pd;dsimp? [];exact#[s,rfl,hl,vF,O4,Ly,λp4 R4 T4 hp4 hR4 b la lu lh now v M8 hB s8 hv=> ?_,jϪ];let⟨rfl,rfl,rfl⟩:=R7.uniq Lp hR4;let⟨dx,hb⟩:=hB.ob;have X_:=s8 _ _ hu;have e1:kã:=⋯
 have e2:jϣ:=⋯
 have e3:jC aĠ 0=då:=rfl;have e4:jC [W.tup jš] 0=some (.tup jš):=rfl;dsimp? [X_,hv,e1,e2,e3,e4,hb,cl,mU];exact#[b,la,lu,lh,now,p4,[],[],[],R4,T4,rfl,hB,?_];dsimp? [X_,hv,e3,e4,decide_true,bc];show#[b,la,lu,lh,now,r2,t2,p4,[],[],[],R4,T4,rfl,hB,#[s8 _ _ Bj,s8 _ _ An],hg.rm Ť,#[hg.XN Ť,λz hz=>pD (hg.rk z hz)],bŉ,rfl];have oK: ∀p R T,È ->¬RD p R T s:=λp R T h1 h2=>hex #[p,R,T,h1,h2];dsimp? [];exact#[s,rfl,hl,vF,O4,#[Ly,Bm],λp3 R3 T3 hp3 Pd=>absurd Pd (oK _ _ _ hp3),λ_ u M7 s7 hu=> ?_];dsimp? [];exact#[s,rfl,hl,vF,O4,Ly,λp4 R4 T4 hp4 hR4=>absurd hR4 (oK _ _ _ hp4),λ_ v M8 s8 hv=> ?_];have X_:=s8 _ _ hu;have e1:jϧ:=⋯
 dsimp? [X_,e1];intro y hy;show Sh (d:= .lst [.str (Str.ofString "bad"), aϭ, aϭ, bŖ]) (.inr #[_,_,_,rfl,aN hy _ _ hv,rfl,rfl]) (.inr #[_,_,_,rfl,am,rfl,rfl]) ⋯ rfl rfl
universe e
universe gB
namespace gB
open PySem L2 WL WQ PyProof.Rows
theorem walk {l:W.OpenLaw}{q:pF}{rP:ê}{XP:jĝ}{YP:gϻ}{d:DefRec}{K:cš}(hn:l.most=some 63)(V_:hδ) (hY: lϖ) (nm:d.name= aØ) (F: ∀ (w:World) (mg:Ũ) (h:Heap),fċ h ->hÀ -> ∃A,gY (cÃ) mg A): mĸ:=L2.LG (n:=63) (k:=11) (x:= eĸ) (CX:=λ_=>gR) (sp:=λw=>zB (cÃ)) hn ⋯ V_ #[rfl,⋯,⋯] hY (λw mg fa h X G e=>(F w mg h X G).elim λ_ T=>Rk T.law (nm▸e) (λ_ _ _ _ _ _ _=>rfl) λ_=>Q5 T) (λ_ _ a ns hl _ hS=>#[a,ns,rfl,hS,aϹ]) λ_ _ _ _ _ z=>z
universe gB
end
end
def PySem.W.Fast.tw4968157863785900369:Nat:=0
def PySem.W.Fast.tw309136956963816966:Nat:=0
def PySem.W.Fast.tw3335894225038531184:Nat:=0
def PySem.W.Fast.tw8270760627101731266:Nat:=0
def PySem.W.Fast.tw12553386178806467597:Nat:=0
def PySem.W.Fast.tw11847707134377826833:Nat:=0
def PySem.W.Fast.tw15862908221702943369:Nat:=0
def PySem.W.Fast.tw10199239103353022759:Nat:=0
def PySem.W.Fast.tw14830880337928987616:Nat:=0
def PySem.W.Fast.tw5099617019452486929:Nat:=0
def PySem.W.Fast.tw15998395487820218238:Nat:=0
def PySem.W.Fast.tw4776310472846038392:Nat:=0
def PySem.W.Fast.tw6699268033259930380:Nat:=0
def PySem.W.Fast.tw1832816926390369183:Nat:=0
def PySem.W.Fast.tw13479660566831500388:Nat:=0
def PySem.W.Fast.tw4200942863322226630:Nat:=0
def PySem.W.Fast.tw17054750960427872115:Nat:=0
def PySem.W.Fast.tw11009358751044150729:Nat:=0
def PySem.W.Fast.tw3464410259448511131:Nat:=0
def PySem.W.Fast.tw2194176880871663165:Nat:=0
def PySem.W.Fast.tw8913817634810819996:Nat:=0
def PySem.W.Fast.tw11740171631420129385:Nat:=0
def PySem.W.Fast.tw4632207396137908787:Nat:=0
def PySem.W.Fast.tw10137127339612169710:Nat:=0
def PySem.W.Fast.tw16434310029303669063:Nat:=0
def PySem.W.Fast.tw4142333752344283360:Nat:=0
def PySem.W.Fast.tw5405712658246867675:Nat:=0
def PySem.W.Fast.tw7607450234257463565:Nat:=0
def PySem.W.Fast.tw78239836500767134:Nat:=0
def PySem.W.Fast.tw18424609448840506540:Nat:=0
def PySem.W.Fast.tw9943981702053124558:Nat:=0
def PySem.W.Fast.tw2177919205072506039:Nat:=0
def PySem.W.Fast.tw10450300467283245324:Nat:=0
def PySem.W.Fast.tw16523937301642143860:Nat:=0
def PySem.W.Fast.tw16745709947298536918:Nat:=0
def PySem.W.Fast.tw2890452781853475777:Nat:=0
def PySem.W.Fast.tw2959281319784783769:Nat:=0
def PySem.W.Fast.tw9206117281805946796:Nat:=0
def PySem.W.Fast.tw8722835881946484222:Nat:=0
def PySem.W.Fast.tw13134348593896710841:Nat:=0
def PySem.W.Fast.tw6944941091157320592:Nat:=0
def PySem.W.Fast.tw3871814979994627662:Nat:=0
def PySem.W.Fast.tw16439408975781066908:Nat:=0
def PySem.W.Fast.tw10522262244920936244:Nat:=0
def PySem.W.Fast.tw6357867303380644777:Nat:=0
def PySem.W.Fast.tw14113818272235953307:Nat:=0
def PySem.W.Fast.tw4903308562736968573:Nat:=0
def PySem.W.Fast.tw13412048986291938754:Nat:=0
def PySem.W.Fast.tw18254797047901728350:Nat:=0
def PySem.W.Fast.tw4705299999628840303:Nat:=0
def PySem.W.Fast.tw3925480325795484113:Nat:=0
def PySem.W.Fast.tw5739228608563625209:Nat:=0
def PySem.W.Fast.tw6795376407401675869:Nat:=0
def PySem.W.Fast.tw16825375890473468515:Nat:=0
def PySem.W.Fast.tw2797592573727344337:Nat:=0
def PySem.W.Fast.tw816491344656135255:Nat:=0
def PySem.W.Fast.tw15526757534956314316:Nat:=0
def PySem.W.Fast.tw5488252335839225463:Nat:=0
def PySem.W.Fast.tw13751489410675848452:Nat:=0
def PySem.W.Fast.tw11271737434556730481:Nat:=0
def PySem.W.Fast.tw6599983893084156002:Nat:=0
def PySem.W.Fast.tw12668527546934591009:Nat:=0
def PySem.W.Fast.tw7935233703780532919:Nat:=0
def PySem.W.Fast.tw12576461670639320497:Nat:=0
def PySem.W.Fast.tw4198101861419463384:Nat:=0
def PySem.W.Fast.tw16481763804554474069:Nat:=0
def PySem.W.Fast.tw15380809890542988086:Nat:=0
def PySem.W.Fast.tw10193439117030058196:Nat:=0
def PySem.W.Fast.tw5764513099550571551:Nat:=0
def PySem.W.Fast.tw4132597533329004059:Nat:=0
def PySem.W.Fast.tw360024405571735289:Nat:=0
def PySem.W.Fast.tw3866034927201723867:Nat:=0
def PySem.W.Fast.tw2087405784925377626:Nat:=0
def PySem.W.Fast.tw916419749475863887:Nat:=0
def PySem.W.Fast.tw3995283633441705357:Nat:=0
def PySem.W.Fast.tw7165179298950059301:Nat:=0
def PySem.W.Fast.tw16914591782754741930:Nat:=0
def PySem.W.Fast.tw4794737928246624135:Nat:=0
def PySem.W.Fast.tw10629281215189436781:Nat:=0
def PySem.W.Fast.tw12631621457088972974:Nat:=0
def PySem.W.Fast.tw16783046192576822974:Nat:=0
def PySem.W.Fast.tw5830215016386096641:Nat:=0
def PySem.W.Fast.tw14012608751734411618:Nat:=0
def PySem.W.Fast.tw1006272321181724908:Nat:=0
def PySem.W.Fast.tw2376674753362018514:Nat:=0
def PySem.W.Fast.tw1040121069207805035:Nat:=0
def PySem.W.Fast.tw9839465041521462699:Nat:=0
def PySem.W.Fast.tw12754460779408644949:Nat:=0
def PySem.W.Fast.tw16111335027611070515:Nat:=0
def PySem.W.Fast.tw14849434724839020881:Nat:=0
def PySem.W.Fast.tw5740816572467887544:Nat:=0
def PySem.W.Fast.tw1255372062062041596:Nat:=0
def PySem.W.Fast.tw15783928503412344009:Nat:=0
def PySem.W.Fast.tw13367680202719093845:Nat:=0
def PySem.W.Fast.tw15787935395966362393:Nat:=0
def PySem.W.Fast.tw4547460437829766021:Nat:=0
def PySem.W.Fast.tw13470571588524649499:Nat:=0
def PySem.W.Fast.tw891191305186241173:Nat:=0
def PySem.W.Fast.tw9695957529143806675:Nat:=0
def PySem.W.Fast.tw8912593492545923014:Nat:=0
def PySem.W.Fast.tw10675962099392095584:Nat:=0
def PySem.W.Fast.tw13792587673151661634:Nat:=0
def PySem.W.Fast.tw16694501534199376293:Nat:=0
def PySem.W.Fast.tw16063595765426604506:Nat:=0
def PySem.W.Fast.tw10849683884136931692:Nat:=0
def PySem.W.Fast.tw14507615838440064640:Nat:=0
def PySem.W.Fast.tw8360750584724672247:Nat:=0
def PySem.W.Fast.tw2610360305587317114:Nat:=0
def PySem.W.Fast.tw16633885061020240310:Nat:=0
def PySem.W.Fast.tw9797424644241584582:Nat:=0
def PySem.W.Fast.tw13183263062340113833:Nat:=0
def PySem.W.Fast.tw1509153223270220944:Nat:=0
def PySem.W.Fast.tw9922076393924313794:Nat:=0
def PySem.W.Fast.tw6321671730702440941:Nat:=0
def PySem.W.Fast.tw15555717832623811120:Nat:=0
def PySem.W.Fast.tw17115377256113944208:Nat:=0
def PySem.W.Fast.tw9855621509815334756:Nat:=0
def PySem.W.Fast.tw10691111512089267100:Nat:=0
def PySem.W.Fast.tw875961603815317993:Nat:=0
def PySem.W.Fast.tw13428267864662201342:Nat:=0
def PySem.W.Fast.tw5648462854241196107:Nat:=0
def PySem.W.Fast.tw11914385806240932694:Nat:=0
def PySem.W.Fast.tw4106918075747061147:Nat:=0
def PySem.W.Fast.tw15129597731126986646:Nat:=0
def PySem.W.Fast.tw15104632066030229105:Nat:=0
def PySem.W.Fast.tw3086450417050755948:Nat:=0
def PySem.W.Fast.tw10918640531185129338:Nat:=0
def PySem.W.Fast.tw16427112144841253341:Nat:=0
def PySem.W.Fast.tw17906159020283053283:Nat:=0
def PySem.W.Fast.tw11751181671084700264:Nat:=0
def PySem.W.Fast.tw10600468510678139170:Nat:=0
def PySem.W.Fast.tw5636185860891264852:Nat:=0
def PySem.W.Fast.tw15859894834455009831:Nat:=0
def PySem.W.Fast.tw2088233528834405974:Nat:=0
def PySem.W.Fast.tw2244024634900129905:Nat:=0
def PySem.W.Fast.tw2293698595584814851:Nat:=0
def PySem.W.Fast.tw10751769694999472684:Nat:=0
def PySem.W.Fast.tw17070297846490076092:Nat:=0
def PySem.W.Fast.tw16347769980591694483:Nat:=0
def PySem.W.Fast.tw12465392095084027011:Nat:=0
def PySem.W.Fast.tw1073506842745574356:Nat:=0
def PySem.W.Fast.tw1280974128710720259:Nat:=0
def PySem.W.Fast.tw13519703149198049076:Nat:=0
def PySem.W.Fast.tw7670982778550575861:Nat:=0
def PySem.W.Fast.tw541039819826431517:Nat:=0
def PySem.W.Fast.tw4253307849090198850:Nat:=0
def PySem.W.Fast.tw3355100077115017334:Nat:=0
def PySem.W.Fast.tw16906139602681026956:Nat:=0
def PySem.W.Fast.tw16905543900438851866:Nat:=0
def PySem.W.Fast.tw10812865341513809233:Nat:=0
def PySem.W.Fast.tw4505994813978432988:Nat:=0
def PySem.W.Fast.tw12639108399336043080:Nat:=0
def PySem.W.Fast.tw13778616065735415738:Nat:=0
def PySem.W.Fast.tw16733823452667498992:Nat:=0
def PySem.W.Fast.tw12769076907764147188:Nat:=0
def PySem.W.Fast.tw16929202768243090904:Nat:=0
def PySem.W.Fast.tw5198600777549768572:Nat:=0
def PySem.W.Fast.tw2605158749837186690:Nat:=0
def PySem.W.Fast.tw8120908340005949782:Nat:=0
def PySem.W.Fast.tw4368936339749834972:Nat:=0
def PySem.W.Fast.tw12954687525867541285:Nat:=0
def PySem.W.Fast.tw8161284168839680710:Nat:=0
def PySem.W.Fast.tw13753543677562340579:Nat:=0
def PySem.W.Fast.tw17093621021648836555:Nat:=0
def PySem.W.Fast.tw4114598010644417031:Nat:=0
def PySem.W.Fast.tw4991190400989723500:Nat:=0
def PySem.W.Fast.tw15680140477740759638:Nat:=0
def PySem.W.Fast.tw5187346441863839325:Nat:=0
def PySem.W.Fast.tw12458818368814381589:Nat:=0
def PySem.W.Fast.tw17474277111502823646:Nat:=0
def PySem.W.Fast.tw12806210332461413426:Nat:=0
def PySem.W.Fast.tw958488779083204802:Nat:=0
def PySem.W.Fast.tw8321616141022128966:Nat:=0
def PySem.W.Fast.tw15168187383473293395:Nat:=0
def PySem.W.Fast.tw11699971753312146673:Nat:=0
def PySem.W.Fast.tw5854500603083123648:Nat:=0
def PySem.W.Fast.tw15140778510174564840:Nat:=0
def PySem.W.Fast.tw8888171500091705444:Nat:=0
def PySem.W.Fast.tw1370618822913840460:Nat:=0
def PySem.W.Fast.tw10892324485604594705:Nat:=0
def PySem.W.Fast.tw9165097934547066383:Nat:=0
def PySem.W.Fast.tw16372466555822873885:Nat:=0
def PySem.W.Fast.tw10199874291618193701:Nat:=0
def PySem.W.Fast.tw53194540209712548:Nat:=0
def PySem.W.Fast.tw11305064511367637849:Nat:=0
def PySem.W.Fast.tw8226487519125794042:Nat:=0
def PySem.W.Fast.tw5264118443332150033:Nat:=0
def PySem.W.Fast.tw10716677310045206301:Nat:=0
def PySem.W.Fast.tw6145776280249660256:Nat:=0
def PySem.W.Fast.tw9925888480718131300:Nat:=0
def PySem.W.Fast.tw16676571140378714228:Nat:=0
def PySem.W.Fast.tw10804973404033086772:Nat:=0
def PySem.W.Fast.tw17397039763929016755:Nat:=0
def PySem.W.Fast.tw13662264342718478532:Nat:=0
def PySem.W.Fast.tw1532820642355935183:Nat:=0
def PySem.W.Fast.tw550743248090707762:Nat:=0
def PySem.W.Fast.tw10917342612215969952:Nat:=0
def PySem.W.Fast.tw13341860491883023022:Nat:=0
def PySem.W.Fast.tw5164380025163849546:Nat:=0
def PySem.W.Fast.tw347269384360908290:Nat:=0
def PySem.W.Fast.tw12463677195123050640:Nat:=0
def PySem.W.Fast.tw3683634901477980295:Nat:=0
def PySem.W.Fast.tw9235473827801949705:Nat:=0
def PySem.W.Fast.tw4944042025094884386:Nat:=0
def PySem.W.Fast.tw777143142080758917:Nat:=0
def PySem.W.Fast.tw15265667283423351458:Nat:=0
def PySem.W.Fast.tw7837793756308420171:Nat:=0
def PySem.W.Fast.tw14938127010985200121:Nat:=0
def PySem.W.Fast.tw16783495132887402009:Nat:=0
def PySem.W.Fast.tw11196117515543331463:Nat:=0
def PySem.W.Fast.tw5536483439950867498:Nat:=0
def PySem.W.Fast.tw14193716399373565995:Nat:=0
def PySem.W.Fast.tw4136925515334478524:Nat:=0
def PySem.W.Fast.tw17762373130131669243:Nat:=0
def PySem.W.Fast.tw11441259102501366677:Nat:=0
def PySem.W.Fast.tw2784917010828661016:Nat:=0
def PySem.W.Fast.tw4228345143787586809:Nat:=0
def PySem.W.Fast.tw4826589600283257025:Nat:=0
def PySem.W.Fast.tw3718008199028520867:Nat:=0
def PySem.W.Fast.tw6528306723361201730:Nat:=0
def PySem.W.Fast.tw13237157065278919126:Nat:=0
def PySem.W.Fast.tw1033636397394062737:Nat:=0
def PySem.W.Fast.tw8304957314764165391:Nat:=0
def PySem.W.Fast.tw6845826027564950422:Nat:=0
def PySem.W.Fast.tw140136578510976516:Nat:=0
def PySem.W.Fast.tw8386557398016222604:Nat:=0
def PySem.W.Fast.tw2536335554459562586:Nat:=0
def PySem.W.Fast.tw5177348534904114452:Nat:=0
def PySem.W.Fast.tw2332018927860251909:Nat:=0
def PySem.W.Fast.tw12132859862094388626:Nat:=0
def PySem.W.Fast.tw3367904086671218669:Nat:=0
def PySem.W.Fast.tw8423830822679804902:Nat:=0
def PySem.W.Fast.tw459908014231170125:Nat:=0
def PySem.W.Fast.tw16188390080369888251:Nat:=0
def PySem.W.Fast.tw13258941619197064056:Nat:=0
def PySem.W.Fast.tw8575270438652318475:Nat:=0
def PySem.W.Fast.tw8010947341149824950:Nat:=0
def PySem.W.Fast.tw13697313422215433654:Nat:=0
def PySem.W.Fast.tw463756921234140547:Nat:=0
def PySem.W.Fast.tw18008354697592026066:Nat:=0
def PySem.W.Fast.tw5962811896810588739:Nat:=0
def PySem.W.Fast.tw17350280108971873600:Nat:=0
def PySem.W.Fast.tw15829999873643283651:Nat:=0
def PySem.W.Fast.tw3791557630985131538:Nat:=0
def PySem.W.Fast.tw16028068467511917691:Nat:=0
def PySem.W.Fast.tw1755848084860114332:Nat:=0
def PySem.W.Fast.tw1091609665727601167:Nat:=0
def PySem.W.Fast.tw10235754264365335734:Nat:=0
def PySem.W.Fast.tw13711866370245058050:Nat:=0
def PySem.W.Fast.tw14715865351806391373:Nat:=0
def PySem.W.Fast.tw10064835268188437053:Nat:=0
def PySem.W.Fast.tw2725727283600743320:Nat:=0
def PySem.W.Fast.tw11996743240957430381:Nat:=0
def PySem.W.Fast.tw10031410593864987917:Nat:=0
def PySem.W.Fast.tw12023946480063378081:Nat:=0
def PySem.W.Fast.tw13781854844764496560:Nat:=0
def PySem.W.Fast.tw13994591443029045050:Nat:=0
open PySem PySem.W PyProof.Rows L2
set_option maxRecDepth 100000 in
set_option maxHeartbeats 0 in
theorem PySem.Challenge.cw_duskround_k54_books_texts_refused_holds : PySem.Challenge.rw_duskround_k54_books_texts_refused.Holds := by
 w_on;o_law;k_head;(case hw=>w_witness2)
 k_fill
 refine gB.walk (l:=PySem.Challenge.rw_duskround_k54_books_texts_refused) rfl rfl (λw h Y=>PySem.W.kIn_of Y) rfl λw mg h X G=> ?_
 have' wm:=cK (x:= "lies_within") (ps:= ["one","farthest_end","farthest_place"]) (st:=gB.jG) X G ?g17 ?g18 ?g19 ?g20;(case g17 | g18 | g19 | g20=>k_is);have' Ba:=cK (x:= "fits_crew") (ps:= ["one"]) (st:=gB.rL) X G ?g21 ?g22 ?g23 ?g24;(case g21 | g22 | g23 | g24=>k_is);have' ze:=cK (x:= "check_name") (ps:= ["name"]) (st:=gB.kB) X G ?g25 ?g26 ?g27 ?g28;(case g25 | g26 | g27 | g28=>k_is);have' za:=cK (x:= "with_thing") (ps:= ["things","name","thing"]) (st:=gB.pe) X G ?g29 ?g30 ?g31 ?g32;(case g29 | g30 | g31 | g32=>k_is);have' C2:=KD (x:= "Page") (ps:= ["self","rounds","teams"]) (st:=gB.HU) X G ?g33 ?g34 ?g35 ?g36 ?g37 ?g38 ?g39 ?g40 ?g41 ?g42 ?g43 ?g44;(case g33 | g34 | g35 | g36 | g37 | g38 | g39 | g40 | g41 | g42 | g43 | g44=>k_is);have' fD:=KD (x:= "Book") (ps:= ["self","p"]) (st:=gB.BK) X G ?g45 ?g46 ?g47 ?g48 ?g49 ?g50 ?g51 ?g52 ?g53 ?g54 ?g55 ?g56;(case g45 | g46 | g47 | g48 | g49 | g50 | g51 | g52 | g53 | g54 | g55 | g56=>k_is);have' sR:=hX (m:= "settings") (ps:= ["self"]) (st:=gB.lj) fD ?g57 ?g58 ?g59 ?g60 ?g61;(case g57 | g58 | g59 | g60 | g61=>k_is);have' vB:=hX (m:= "turn_to") (ps:= ["self","page"]) (st:=gB.l5) fD ?g62 ?g63 ?g64 ?g65 ?g66;(case g62 | g63 | g64 | g65 | g66=>k_is);have' C3:=hX (m:= "put") (ps:= ["self","name","one"]) (st:=gB.ou) fD ?g67 ?g68 ?g69 ?g70 ?g71;(case g67 | g68 | g69 | g70 | g71=>k_is);have' sT:=hX (m:= "put_team") (ps:= ["self","crew","team"]) (st:=gB.ll) fD ?g72 ?g73 ?g74 ?g75 ?g76;(case g72 | g73 | g74 | g75 | g76=>k_is);have' sU:=hX (m:= "enlisted") (ps:= ["self","name"]) (st:=gB.lm) fD ?g77 ?g78 ?g79 ?g80 ?g81;(case g77 | g78 | g79 | g80 | g81=>k_is);have' Bc:=hX (m:= "team") (ps:= ["self","crew"]) (st:=gB.l7) fD ?g82 ?g83 ?g84 ?g85 ?g86;(case g82 | g83 | g84 | g85 | g86=>k_is);have' zg:=hX (m:= "found") (ps:= ["self","crew"]) (st:=gB.kC) fD ?g87 ?g88 ?g89 ?g90 ?g91;(case g87 | g88 | g89 | g90 | g91=>k_is);have' wu:=hX (m:= "enlist") (ps:= ["self","crew","name"]) (st:=gB.jI) fD ?g92 ?g93 ?g94 ?g95 ?g96;(case g92 | g93 | g94 | g95 | g96=>k_is);have' qv:=hX (m:= "begin_here") (ps:= ["self"]) (st:=gB.ju) fD ?g97 ?g98 ?g99 ?g100 ?g101;(case g97 | g98 | g99 | g100 | g101=>k_is);have' zf:=hX (m:= "names") (ps:= ["self"]) (st:=gB.pj) fD ?g102 ?g103 ?g104 ?g105 ?g106;(case g102 | g103 | g104 | g105 | g106=>k_is);have' zh:=hX (m:= "crews") (ps:= ["self"]) (st:=gB.pk) fD ?g107 ?g108 ?g109 ?g110 ?g111;(case g107 | g108 | g109 | g110 | g111=>k_is);have' sS:=hX (m:= "round_of") (ps:= ["self","name"]) (st:=gB.iK) fD ?g112 ?g113 ?g114 ?g115 ?g116;(case g112 | g113 | g114 | g115 | g116=>k_is);have' vC:=hX (m:= "members") (ps:= ["self","crew"]) (st:=gB.jc) fD ?g117 ?g118 ?g119 ?g120 ?g121;(case g117 | g118 | g119 | g120 | g121=>k_is);have' NQ:=cK (x:= "shown") (ps:= ["one"]) (st:=gB.DA) X G ?g122 ?g123 ?g124 ?g125;(case g122 | g123 | g124 | g125=>k_is);have' K6:=cK (x:= "number") (ps:= ["text"]) (st:=gB.t_) X G ?g126 ?g127 ?g128 ?g129;(case g126 | g127 | g128 | g129=>k_is);have' SK:=cK (x:= "lamp") (ps:= ["p","text"]) (st:=gB.BJ) X G ?g130 ?g131 ?g132 ?g133;(case g130 | g131 | g132 | g133=>k_is);have' SJ:=cK (x:= "read") (ps:= ["p","text"]) (st:=gB.BI) X G ?g134 ?g135 ?g136 ?g137;(case g134 | g135 | g136 | g137=>k_is);have' Bb:=cK (x:= "book_text") (ps:= ["book"]) (st:=gB.rN) X G ?g138 ?g139 ?g140 ?g141;(case g138 | g139 | g140 | g141=>k_is);have' wq:=cK (x:= "enter_round") (ps:= ["book","words"]) (st:=gB.jH) X G ?g142 ?g143 ?g144 ?g145;(case g142 | g143 | g144 | g145=>k_is);have' zd:=cK (x:= "enter_crew") (ps:= ["book","words"]) (st:=gB.kA) X G ?g146 ?g147 ?g148 ?g149;(case g146 | g147 | g148 | g149=>k_is);have' NT:=cK (x:= "enter") (ps:= ["book","row"]) (st:=gB.x_) X G ?g150 ?g151 ?g152 ?g153;(case g150 | g151 | g152 | g153=>k_is);have' GW:=cK (x:= "entered") (ps:= ["rows"]) (st:=gB.qI) X G ?g154 ?g155 ?g156 ?g157;(case g154 | g155 | g156 | g157=>k_is);have' A6:=cK (x:= "read_book") (ps:= ["text"]) (st:=gB.lX) X G ?g158 ?g159 ?g160 ?g161;(case g158 | g159 | g160 | g161=>k_is);have' GV:=cK (x:= "_law_begin") (ps:= ["_law_script"]) (st:=gB.qH) X G ?g162 ?g163 ?g164 ?g165;(case g162 | g163 | g164 | g165=>k_is);have' K9:=cK (x:= "_law_take") (ps:= ["_law_draw","_law_many"]) (st:=gB.zG) X G ?g166 ?g167 ?g168 ?g169;(case g166 | g167 | g168 | g169=>k_is);have' W6:=cK (x:= "_law_p") (ps:= ["_law_draw"]) (st:=gB.Oy) X G ?g170 ?g171 ?g172 ?g173;(case g170 | g171 | g172 | g173=>k_is);have' GU:=cK (x:= "_law_names") (ps:= ["_law_draw","_law_many"]) (st:=gB.wN) X G ?g174 ?g175 ?g176 ?g177;(case g174 | g175 | g176 | g177=>k_is);have' K8:=cK (x:= "_law_tidy") (ps:= ["_law_p_here","_law_pairs"]) (st:=gB.zF) X G ?g178 ?g179 ?g180 ?g181;(case g178 | g179 | g180 | g181=>k_is);have' A9:=cK (x:= "_law_pattern") (ps:= ["_law_draw","_law_p_here","_law_most","_law_far_here"]) (st:=gB.rJ) X G ?g182 ?g183 ?g184 ?g185;(case g182 | g183 | g184 | g185=>k_is);have' GS:=cK (x:= "_law_round") (ps:= ["_law_draw","_law_p_here","_law_end","_law_most","_law_far_here"]) (st:=gB.wM) X G ?g186 ?g187 ?g188 ?g189;(case g186 | g187 | g188 | g189=>k_is);have' GR:=cK (x:= "_law_shown") (ps:= ["_law_one"]) (st:=gB.wL) X G ?g190 ?g191 ?g192 ?g193;(case g190 | g191 | g192 | g193=>k_is);have' C1:=cK (x:= "_law_number") (ps:= ["_law_word"]) (st:=gB.ud) X G ?g194 ?g195 ?g196 ?g197;(case g194 | g195 | g196 | g197=>k_is);have' A7:=cK (x:= "_law_reading") (ps:= ["_law_p_here","_law_text"]) (st:=gB.rG) X G ?g198 ?g199 ?g200 ?g201;(case g198 | g199 | g200 | g201=>k_is);have' wo:=cK (x:= "_law_book_text") (ps:= ["_law_p_here","_law_stand"]) (st:=gB.nP) X G ?g202 ?g203 ?g204 ?g205;(case g202 | g203 | g204 | g205=>k_is);have' A_:=cK (x:= "_law_is_name") (ps:= ["_law_name"]) (st:=gB.rK) X G ?g206 ?g207 ?g208 ?g209;(case g206 | g207 | g208 | g209=>k_is);have' NS:=cK (x:= "_law_far") (ps:= ["_law_one","_law_most","_law_reach"]) (st:=gB.DC) X G ?g210 ?g211 ?g212 ?g213;(case g210 | g211 | g212 | g213=>k_is);have' zb:=cK (x:= "_law_row_deed") (ps:= ["_law_row"]) (st:=gB.pf) X G ?g214 ?g215 ?g216 ?g217;(case g214 | g215 | g216 | g217=>k_is);have' A8:=cK (x:= "_law_put_row") (ps:= ["_law_p_here","_law_stand","_law_row"]) (st:=gB.rH) X G ?g218 ?g219 ?g220 ?g221;(case g218 | g219 | g220 | g221=>k_is);have' rD:=cK (x:= "_law_book_reading") (ps:= ["_law_text"]) (st:=gB.jS) X G ?g222 ?g223 ?g224 ?g225;(case g222 | g223 | g224 | g225=>k_is);have' K':=cK (x:= "_law_sign") (ps:= ["_law_draw"]) (st:=gB.zH) X G ?g226 ?g227 ?g228 ?g229;(case g226 | g227 | g228 | g229=>k_is);have' C0:=cK (x:= "_law_spoilt") (ps:= ["_law_draw","_law_text"]) (st:=gB.uc) X G ?g230 ?g231 ?g232 ?g233;(case g230 | g231 | g232 | g233=>k_is);have' NR:=cK (x:= "_law_int") (ps:= ["_law_thing"]) (st:=gB.DB) X G ?g234 ?g235 ?g236 ?g237;(case g234 | g235 | g236 | g237=>k_is);have' vz:=cK (x:= "_law_is_pattern") (ps:= ["_law_p_here","_law_thing"]) (st:=gB.lY) X G ?g238 ?g239 ?g240 ?g241;(case g238 | g239 | g240 | g241=>k_is);have' zc:=cK (x:= "_law_is_round") (ps:= ["_law_p_here","_law_thing"]) (st:=gB.pi) X G ?g242 ?g243 ?g244 ?g245;(case g242 | g243 | g244 | g245=>k_is);have' CZ:=cK (x:= "_law_stands") (ps:= ["_law_p_here","_law_book","_law_stand"]) (st:=gB.ua) X G ?g246 ?g247 ?g248 ?g249;(case g246 | g247 | g248 | g249=>k_is);have' vA:=cK (x:= "_law_draw_stand") (ps:= ["_law_draw","_law_p_here","_law_names_here"]) (st:=gB.lZ) X G ?g250 ?g251 ?g252 ?g253;(case g250 | g251 | g252 | g253=>k_is);have' sQ:=cK (x:= "_law_rows_spoilt") (ps:= ["_law_draw","_law_text"]) (st:=gB.li) X G ?g254 ?g255 ?g256 ?g257;(case g254 | g255 | g256 | g257=>k_is);have' K7:=cK (x:= "_law_told") (ps:= ["_law_text"]) (st:=gB.zE) X G ?g258 ?g259 ?g260 ?g261;(case g258 | g259 | g260 | g261=>k_is);have' W5:=cK (x:= "law") (ps:= ["_law_script"]) (st:=gB.HS) X G ?g262 ?g263 ?g264 ?g265;(case g262 | g263 | g264 | g265=>k_is);have' A5:=uF fD "held" ?n_Book_held;(case n_Book_held=>k_is);have' CV:=uF fD "now" ?n_Book_now;(case n_Book_now=>k_is);have' K1:=uF fD "p" ?n_Book_p;(case n_Book_p=>k_is);have' A4:=uF fD "past" ?n_Book_past;(case n_Book_past=>k_is);have' we:=uF fD "undone" ?n_Book_undone;(case n_Book_undone=>k_is);have' wd:=uF C2 "rounds" ?n_Page_rounds;(case n_Page_rounds=>k_is);have' y_:=uF C2 "teams" ?n_Page_teams;(case n_Page_teams=>k_is);have' CW:=kS (x:= "BadCount") X G ?g275;(case g275=>k_is);have' GP:=kS (x:= "BadName") X G ?g276;(case g276=>k_is);have' GO:=kS (x:= "BadText") X G ?g277;(case g277=>k_is);have' K4:=kS (x:= "NoCrew") X G ?g278;(case g278=>k_is);have' GN:=kS (x:= "NoRound") X G ?g279;(case g279=>k_is);have' wg:=kS (x:= "StreetError") X G ?g280;(case g280=>k_is);have' NP:=kS (x:= "Taken") X G ?g281;(case g281=>k_is);have' K3:=kS (x:= "TooFar") X G ?g282;(case g282=>k_is);have' GL:=kS (x:= "TooMany") X G ?g283;(case g283=>k_is);have' C6:=kr (x:= "BadCount") X ?g284 ?g285 ?g286 ?g287 ?g288 ?g289 ?g290 ?g291;(case g284=>k_is);(case g285=>k_exc);(case g286 | g287 | g288 | g289 | g290 | g291=>k_is);have' G0:=kr (x:= "BadName") X ?g292 ?g293 ?g294 ?g295 ?g296 ?g297 ?g298 ?g299;(case g292=>k_is);(case g293=>k_exc);(case g294 | g295 | g296 | g297 | g298 | g299=>k_is);have' GZ:=kr (x:= "BadText") X ?g300 ?g301 ?g302 ?g303 ?g304 ?g305 ?g306 ?g307;(case g300=>k_is);(case g301=>k_exc);(case g302 | g303 | g304 | g305 | g306 | g307=>k_is);have' La:=kr (x:= "NoCrew") X ?g308 ?g309 ?g310 ?g311 ?g312 ?g313 ?g314 ?g315;(case g308=>k_is);(case g309=>k_exc);(case g310 | g311 | g312 | g313 | g314 | g315=>k_is);have' GY:=kr (x:= "NoRound") X ?g316 ?g317 ?g318 ?g319 ?g320 ?g321 ?g322 ?g323;(case g316=>k_is);(case g317=>k_exc);(case g318 | g319 | g320 | g321 | g322 | g323=>k_is);have' ww:=kr (x:= "StreetError") X ?g324 ?g325 ?g326 ?g327 ?g328 ?g329 ?g330 ?g331;(case g324=>k_is);(case g325=>k_exc);(case g326 | g327 | g328 | g329 | g330 | g331=>k_is);have' NU:=kr (x:= "Taken") X ?g332 ?g333 ?g334 ?g335 ?g336 ?g337 ?g338 ?g339;(case g332=>k_is);(case g333=>k_exc);(case g334 | g335 | g336 | g337 | g338 | g339=>k_is);have' K_:=kr (x:= "TooFar") X ?g340 ?g341 ?g342 ?g343 ?g344 ?g345 ?g346 ?g347;(case g340=>k_is);(case g341=>k_exc);(case g342 | g343 | g344 | g345 | g346 | g347=>k_is);have' GX:=kr (x:= "TooMany") X ?g348 ?g349 ?g350 ?g351 ?g352 ?g353 ?g354 ?g355;(case g348=>k_is);(case g349=>k_exc);(case g350 | g351 | g352 | g353 | g354 | g355=>k_is)
 refine' ⟨⟨_,_,_,_,_,_,_,_,_,_,_,_,_,_,_,_,_,_,_,_,_,_,_,_,_,_,_,_,_,_,_,_,_,_,_,_,_,_,_,_,_,_,_,_,_,_,_,_,_,_,_,_,_,_,_,_,_,_,_,_,_,_,_,_,_,_,_,_,_,_,_,_,_,_,_,_,_,_,_,_,_,_,_,_,_,_,_,_,_,_,_,_,_,_,_,_,_,_,_,_,_,_,_,_,_,_,_,_,_,_,_,_,_,_,_,_,_,_,_,_,_⟩,bJ X G ?g1,bJ X G ?g2,bJ X G ?g3,bJ X G ?g4,bJ X G ?g5,bJ X G ?g6,bJ X G ?g7,bJ X G ?g8,bJ X G ?g9,bJ X G ?g10,bJ X G ?g11,bJ X G ?g12,bJ X G ?g13,bJ X G ?g14,bJ X G ?g15,bJ X G ?g16,wm,Ba,ze,za,C2,fD,sR,vB,C3,sT,sU,Bc,zg,wu,qv,zf,zh,sS,vC,NQ,K6,SK,SJ,Bb,wq,zd,NT,GW,A6,GV,K9,W6,GU,K8,A9,GS,GR,C1,A7,wo,A_,NS,zb,A8,rD,K',C0,NR,vz,zc,CZ,vA,sQ,K7,W5,A5,CV,K1,A4,we,wd,y_,uQ X G ?g266,uQ X G ?g267,uQ X G ?g268,uQ X G ?g269,uQ X G ?g270,HL X G ?g271,HL X G ?g272,Qa X G ?g273 ?g274,CW,GP,GO,K4,GN,wg,NP,K3,GL,C6,G0,GZ,La,GY,ww,NU,K_,GX,?g356,?g357,?g358,?g359,?g360,?g361,?g362,?g363,?g364,?g365⟩
 (case g1 | g2 | g3 | g4 | g5 | g6 | g7 | g8 | g9 | g10 | g11 | g12 | g13 | g14 | g15 | g16 | g266 | g267 | g268 | g269 | g270 | g271 | g272 | g273 | g274=>k_is);(case g356 | g357 | g358 | g359 | g360 | g361 | g362 | g363 | g364 | g365=>kit_is)
