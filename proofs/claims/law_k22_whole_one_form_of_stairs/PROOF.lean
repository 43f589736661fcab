import PyProof.Rows.All
import Wide.All
import OpenK.AllK
import Wide.FinOn
import Lean
import PyProof.EqAt
import PyProof.EqKinds
import PyProof.TupleCall
import PyProof.NeKinds
import PyProof.SumAny
import PyProof.ConsumeS
import PyProof.WalkInts
import PyProof.Draws
import PyProof.EnumMake
import PyProof.Rows.Range3
import PyProof.MeetsStr
import KE.KDictLaws
import PyProof.Rows.CallKwBuiltin
import PyProof.DictItems
import KE.KPairComp
import PyProof.AttrMissHeap
import KE.KDictOf
import KE.KItemsList
import PySem.Challenge.RW_duskround_k22_whole_one_form_of_stairs
set_option Elab.async false
set_option linter.all false
set_option maxRecDepth 100000
def aa:=@List.length_map
def ae:=@List.getElem?_eq_getElem
def af:=@List.mem_map
def ag:=@List.getElem?_eq_some_iff
def ah:=@List.mem_singleton
def ai:=@List.mem_of_getElem?
def aj:=@if_neg
def ak:=@if_pos
def ao:=@PySem.wpAny_bind
def aq:=@Nat.le_refl
def ar:=@PySem.Heap.get?_push_of_some
def au:=@Decidable.byContradiction
def av:=@List.mem_cons
def aw:=@List.mem_cons_of_mem
def ax:=@List.mem_append
def ay:=@Bool.false_eq_true
def az:=@PyProof.Rows.wpS_bind
def aA:=@List.getElem?_map
def aB:=@PySem.Heap.lt_size
def aD:=@List.map_map
def aE:=@List.mem_cons_self
def aF:=@PyProof.Rows.wpS_pure
def aG:=@List.length_cons
def aH:=@List.map_cons
def aL:=@List.length_append
def aM:=@PySem.wpAny_pure
def aN:=@List.map_append
def aO:=@List.size_toArray
def aP:=@List.mem_filter
def aS:=@PySem.Heap.get?_push_size
def aT:=@List.mem_append_right
def aU:=@List.getElem?_append_right
def aV:=@Int.le_refl
def aW:=@Bool.false_ne_true
def aX:=@Nat.ne_of_lt
def aZ:=@Int.mul_le_mul_of_nonneg_left
def a4:=@Nat.le_trans
def a5:=@Ne.symm
def a6:=@List.length_take
def a7:=@eq_true
def a8:=@List.take_append_drop
def a9:=@List.getElem?_append_left
def bf:=@if_false
def bg:=@Int.mul_le_mul_of_nonneg_right
def bj:=@List.pairwise_iff_getElem
def br:=@Option.some.inj
def bu:=@Int.add_zero
def bw:=@List.nodup_cons
def bA:=@List.mem_iff_getElem?
def bD:=@List.take_add_one
def bE:=@Nat.lt_of_lt_of_le
def bF:=@List.map_congr_left
def bG:=@Int.zero_mul
def bH:=@Int.add_emod
def bI:=@List.getD_eq_getElem?_getD
def bJ:=@PySem.wpAny_mono
def bK:=@Int.mul_comm
def bN:=@if_true
def bO:=@PyProof.Rows.callWith_type1
def bP:=@Int.zero_add
def bR:=@List.append_assoc
def bS:=@PySem.W.mg_none_of
def bT:=@List.pairwise_cons
def bW:=@List.getElem_mem
def bY:=@List.pairwise_map
def bZ:=@Int.mul_emod
def cb:=@Nat.lt_irrefl
def cc:=@Int.emod_eq_emod_iff_emod_sub_eq_zero
def cg:=@Array.toList_append
def cn:=@List.take_length
def cq:=@decide_eq_true_eq
def cw:=@PySem.PassesOwn.never
def cx:=@List.pairwise_append
def cz:=@Int.emod_lt_of_pos
def cB:=@PyProof.Rows.wpS_forRange
def cC:=@PySem.sizeLine_eq
def cD:=@PySem.W.kia_one
def cE:=@Int.emod_emod
def cI:=@List.length_eq_zero_iff
def cM:=@List.find?_cons
def cN:=@Int.emod_nonneg
def cT:=@Array.length_toList
def cU:=@Nat.zero_le
def cV:=@List.length_range
def cW:=@Int.emod_eq_of_lt
def cY:=@List.length_singleton
def cZ:=@List.getElem?_eq_none
def c7:=@List.mem_range
def dc:=@decide_eq_false
def de:=@Int.mul_zero
def df:=@PySem.wpAny_truthy_bool
def du:=@PySem.Calls.spliced_cons
def dw:=@decide_eq_true
def dy:=@List.getElem?_set
def dz:=@Int.mul_nonneg
def dA:=@PySem.mem_of_lookup
def dH:=@List.drop_eq_getElem_cons
def dJ:=@List.perm_append_comm
def dM:=@PySem.Heap.get?_update_other
def dQ:=@List.getElem?_drop
def dR:=@List.filter_cons
def dU:=@Nat.lt_or_ge
def dW:=@Int.mul_assoc
def dX:=@Int.lt_or_le
def d6:=@Nat.lt_succ_of_lt
def d7:=@List.getElem?_replicate
def d8:=@List.getElem?_cons_succ
def d9:=@PySem.wpAny_holding
def eB:=@List.map_nil
def eE:=@Int.zero_emod
def eI:=@Nat.lt_succ_self
def eM:=@List.mem_flatMap
def eR:=@List.length_filter_le
def eT:=@List.Perm.append_left
def ff:=@List.mem_or_eq_of_mem_set
def fh:=@Int.emod_add_emod
def fi:=@Int.add_mul
def fk:=@PySem.Heap.size_push
def fm:=@PyProof.Rows.wpS_mono
def fD:=@beq_eq_false_iff_ne
def fF:=@List.getElem?_range
def fG:=@List.filterMap_cons
def fL:=@List.length_drop
def fM:=@PySem.Calls.spliced_nil
def fN:=@PyProof.Rows.wpS_modify
def fU:=@Int.one_mul
def f7:=@List.length_set
def f9:=@PySem.F.plain_min_loop
def gg:=@Int.add_assoc
def gh:=@Bool.not_true
def gj:=@List.length_replicate
def gk:=@Array.getElem?_toList
def gr:=@PySem.wpAny_rule
def gv:=@PySem.Calls.callWith_builtin
def gy:=@PySem.wpAny_passesOwn
def gF:=@List.mem_iff_getElem
def gG:=@Int.mul_one
def gH:=@Int.mul_neg
def gK:=@Bool.and_eq_true
def gZ:=@PySem.F.slot_tuple_iterator_next
def hU:=@PySem.Around.under_plainId
def iy:=@List.foldl_cons
def iz:=@List.append_nil
def iG:=@Array.size_extract
def iJ:=@decide_true
def iL:=@PySem.F.slot_dict_items
def iM:=@PySem.F.plainAttrs_dict
def iN:=@Int.mul_add
def iS:=@PySem.wpAny_standAt
def iV:=@decide_false
def iW:=@Nat.ne_of_gt
def iX:=@Nat.lt_trichotomy
def iY:=@Nat.le_of_lt
def iZ:=@Nat.le_of_eq
def jd:=@PySem.wpAny_Call_Name_kw
def jC:=@List.eq_replicate_iff
def jF:=@List.cons_append
def jI:=@Nat.add_assoc
def jK:=@PySem.wpAny_tryCatch
def jL:=@PySem.wpAny_seqItems
def jM:=@PySem.wpAny_newObj_type
def jX:=@List.mem_of_mem_take
def jY:=@List.mem_append_left
def jZ:=@Int.sub_mul
def kc:=@List.dropLast_concat_getLast
def ke:=@Bool.eq_iff_iff
def kF:=@List.map_eq_nil_iff
def kG:=@List.length_pos_iff
def kH:=@PySem.Heap.get?_update_self
def kL:=@Nat.succ.inj
def kQ:=@PySem.plainId_quiet
def lg:=@List.nodup_nil
def lj:=@List.map_singleton
def lq:=@List.getElem?_take
def lr:=@List.drop_take
def lu:=@Int.sub_eq_add_neg
def ly:=@Bool.not_false
def lz:=@Array.perm_iff_toList_perm
def lF:=@PySem.codeAny_builtin
def lG:=@List.mem_of_find?_eq_some
def lH:=@List.extract_eq_take_drop
def lZ:=@List.take_sublist
def l3:=@List.nodup_append
def l4:=@Int.lt_trichotomy
def l5:=@Array.toList_push
def mL:=@PySem.call_meetsIn
def mO:=@Option.isSome_iff_exists
def mP:=@List.map_take
def mQ:=@List.Pairwise.imp_of_mem
def mY:=@PyProof.Rows.wpS_get
def mZ:=@PySem.tupleKind_room_in1
def nq:=@PySem.F.plainAttrs_list
def nr:=@Int.eq_ofNat_of_zero_le
def n8:=@beq_iff_eq
def n9:=@Nat.add_zero
def oe:=@List.take_of_length_le
def og:=@List.sum_replicate_nat
def oh:=@List.drop_eq_nil_of_le
def oi:=@PySem.F.slot_tuple_getattribute
def pK:=@Option.map_some
def pL:=@Nat.not_lt_zero
def pM:=@List.length_nil
def pW:=@PySem.F.slot_dict_get
def pX:=@List.pairwise_and_iff
def pY:=@Int.emod_add_mul_ediv
def qz:=@PySem.wpAny_call_entry
def qS:=@Nat.mul_le_mul_right
def qT:=@List.getElem?_set_ne
def qU:=@List.getElem?_append
def qW:=@Int.emod_emod_of_dvd
def qX:=@Array.toList_reverse
def qY:=@Array.toList_extract
def rT:=@PySem.codeAny_mono
def rV:=@List.reverse_append
def rX:=@PySem.wpAny_execs_nil
def tP:=@List.map_drop
def tV:=@List.mem_filterMap
def tW:=@List.find?_eq_none
def tX:=@List.filterMap_map
def vD:=@PySem.W.kitx_list
def vE:=@Option.some.injEq
def vF:=@Nat.lt_trans
def vG:=@List.map_set
def vH:=@List.drop_sublist
def vI:=@Int.toNat_natCast
def vJ:=@Int.sub_zero
def vL:=@PySem.Calls.evalArgs_plain
def xE:=@List.not_mem_nil
def xF:=@List.lookup_cons
def xG:=@List.all_eq_true
def zl:=@PySem.Paired.length
def zC:=@PySem.F.slot_dict_setdefault
def zE:=@List.sum_append
def zF:=@List.of_mem_zip
def zG:=@List.find?_some
def A3:=@Int.add_mul_emod_self_right
def A9:=@PySem.wpAny_pyIter_list
def Ba:=@PySem.wpAny_pyIter_enum
def C5:=@List.drop_drop
def C8:=@Bool.and_false
def Dd:=@PyProof.Rows.wpS_lift
def Ey:=@PySem.F.slot_dict_delitem
def Ez:=@PySem.F.args_dict_items_1
def EW:=@PySem.F.type_list_append
def EX:=@PySem.F.slot_list_append
def EY:=@PySem.F.entry_dict_items
def EZ:=@List.sum_cons
def E1:=@List.length_filterMap_le
def E2:=@List.length_erase_of_mem
def E3:=@List.getElem?_take_of_lt
def E4:=@List.any_cons
def E6:=@PySem.F.entry_min_loop
def Fc:=@PySem.wpAny_letGo
def Fd:=@PySem.wpAny_field
def Iu:=@decide_eq_false_iff_not
def Jd:=@PySem.F.type_dict_items
def Je:=@PySem.F.args_dict_get_3
def Jf:=@Nat.add_sub_cancel_left
def Jh:=@PySem.IsRange.new
def Jq:=@PySem.wpAny_updateSeq
def JE:=@getElem?_pos
def JK:=@PySem.SeqAt.EqAt.same
def JM:=@PySem.W.cellsFrom_some
def JN:=@PySem.F.entry_dict_get
def JO:=@PyProof.noPylong_small
def JP:=@Nat.sub_self
def JQ:=@Nat.add_comm
def JR:=@List.length_pos_of_mem
def JS:=@List.getElem?_set_self
def JT:=@List.any_map
def JU:=@List.Perm.append_right
def JV:=@Int.sub_emod
def JW:=@Int.ediv_eq_zero_of_lt
def JX:=@Int.dvd_refl
def JY:=@PySem.F.args_tuple_iterator_next_1
def LW:=@List.filterMap_append
def L5:=@PySem.F.entry_tuple_iterator_next
def L9:=@PySem.wpAny_letOwnedTupleGo_enum
def NY:=@PySem.call_meets
def N6:=@Sum.inl.inj
def N9:=@Nat.le_succ
def Oa:=@List.range_eq_range'
def Ob:=@List.mem_erase_of_ne
def Oc:=@List.map_id
def Oe:=@Int.sub_neg
def Of:=@Int.neg_mul
def Oh:=@PySem.Calls.Name_function_global
def O9:=@PyProof.Rows.pairsOf_size
def QQ:=@PySem.evalArgs_none
def QS:=@List.modify_toArray
def QT:=@List.mergeSort_perm
def QU:=@List.mem_map_of_mem
def QV:=@List.length_flatMap
def QW:=@List.filter_sublist
def Q2:=@PySem.Calls.call_function_entry
def Q4:=@PySem.wpAny_newList
def Q5:=@PySem.wpAny_comprehension_free
def RM:=@PySem.SeqAt.RcAt.lists_lengths
def RN:=@PySem.W.kitx_tuple
def RO:=@PySem.W.callWith_K
def RP:=@Option.isSome_some
def RQ:=@Nat.lt_of_le_of_lt
def RS:=@Nat.add_sub_cancel
def RT:=@List.map_filterMap
def RU:=@List.filter_append
def RV:=@Int.lt_or_eq_of_le
def RX:=@Array.append_assoc
namespace TS
open PySem PyProof.Rows
def LE (less:Keyed ->Keyed ->Bool)(x y:Keyed):Prop:=less y x=false
structure Ord (less:Keyed ->Keyed ->Bool):Prop where
 Vo: ∀x y,less x y=true ->less y x=false
 trans: ∀x y z,LE less x y ->LE less y z ->LE less x z
section
variable {less:Keyed ->Keyed ->Bool}
theorem Ord.refl (O:Ord less)(x:Keyed):LE less x x:=by
 unfold LE;cases h:less x x with
 | false=>rfl
 | true=>exact(O.Vo x x h).symm.trans h▸rfl
theorem Ord.le (O:Ord less){x y:Keyed}(h:less x y=true):LE less x y:=O.Vo x y h
theorem Ord.T5 (O:Ord less){x y z:Keyed}(h:LE less x y)(h':less y z=true):less x z=true:=by
 cases e:less x z with
 | true=>rfl
 | false=>have:=O.trans z x y e h;unfold LE at this;rw[h'] at this;cases this
end
def cG (xs:Array Keyed)(i:Nat):Keyed:=(xs[i]?).getD (.none, .none)
theorem IY {xs:Array Keyed}{i:Nat}(h:i<xs.size):xs[i]? =some (cG xs i):=by unfold cG;rw[JE xs i h];rfl
theorem kx {xs ys:Array Keyed}{i j:Nat}(h:xs[i]? =ys[j]?):cG xs i=cG ys j:=by unfold cG;rw[h]
theorem xm {xs:Array Keyed}{i:Nat}(h:i<xs.size):cG xs i∈xs.toList:=by unfold cG;rw[JE xs i h];simp
def Sg (less:Keyed ->Keyed ->Bool)(xs:Array Keyed)(lo hi:Nat):Prop:= ∀i j,lo<=i ->i<=j ->j<hi ->LE less (cG xs i) (cG xs j)
def Ng (less:Keyed ->Keyed ->Bool)(xs:Array Keyed)(lo hi:Nat):Prop:= ∀i j,lo<=i ->i<=j ->j<hi ->LE less (cG xs j) (cG xs i)
structure SB (kd:SortKind)(a₀:Array Keyed)(st:SortSt):Prop where
 perm:(arrOf st).Perm a₀
 kd:kindOf st=kd
 fl:failedOf st=none
theorem SB.size {kd:SortKind}{a₀:Array Keyed}{st:SortSt}(h:SB kd a₀ st):(arrOf st).size=a₀.size:=h.perm.size_eq
theorem SB.mem {kd:SortKind}{a₀:Array Keyed}{st:SortSt}(h:SB kd a₀ st){i:Nat}(hi:i<a₀.size):cG (arrOf st) i∈a₀.toList:=(lz.mp h.perm).mem_iff.mp (xm (by rw[h.size];exact hi))
theorem SB.arr {kd:SortKind}{a₀:Array Keyed}{st:SortSt}(h:SB kd a₀ st){xs:Array Keyed}(hp:xs.Perm (arrOf st)):SB kd a₀ (setArr st xs):=⟨hp.trans h.perm,h.kd,h.fl⟩
def jJ (prog:Program)(w:World)(A:Around)(E:Value ->Shared ->Prop)(s:Shared)(kd:SortKind)(a₀:Array Keyed)(less:Keyed ->Keyed ->Bool):Prop:=∀ (x y:Keyed) (st:SortSt) (Q:Option Bool ->SortSt ->Prop),x∈a₀.toList ->y∈a₀.toList ->kindOf st=kd ->Q (some (less x y)) st ->wpS (model prog w) A E s (lt' x y) Q st
section
variable {prog:Program}{w:World}{A:Around}{E:Value ->Shared ->Prop}{s:Shared}{kd:SortKind}{a₀:Array Keyed}{less:Keyed ->Keyed ->Bool}
theorem wp_elem {xs:Array Keyed}{i:Nat}{Q:Keyed ->SortSt ->Prop}{st:SortSt}(hi:i<xs.size)(h:Q (cG xs i) st):wpS (model prog w) A E s (elem' xs i) Q st:=by rw[elem'_eq,IY hi];exact aF h
theorem wp_lt (L:jJ prog w A E s kd a₀ less){st:SortSt}{i j:Nat}{Q:Option Bool ->SortSt ->Prop}(B:SB kd a₀ st)(hi:i<a₀.size)(hj:j<a₀.size) (h:Q (some (less (cG (arrOf st) i) (cG (arrOf st) j))) st):wpS (model prog w) A E s (ltAt' i j) Q st:=by rw[ltAt'_eq];refine az (mY ?_);exact az (wp_elem (by rw[B.size];exact hi) (az (wp_elem (by rw[B.size];exact hj) (L _ _ _ _ (B.mem hi) (B.mem hj) B.kd h))))
theorem wp_rev {st:SortSt}{i j:Nat}{Q:Unit ->SortSt ->Prop}(h:Q () (setArr st (mirror (arrOf st) i j ((j - i) / 2)))):wpS (model prog w) A E s (reverseSlice' i j) Q st:=by rw[reverseSlice'_eq];exact fN h
theorem eN {xs:Array Keyed}{i j:Nat}(hj:j<=xs.size)(k:Nat):cG (mirror xs i j ((j - i) / 2)) k=if i<=k /\ k<j then cG xs (i+j - 1 - k) else cG xs k:=by
 have e:=getElem?_mirror_all (i:=i) hj k;by_cases c:i<=k /\ k<j
 ·rw[ak c] at e ⊢;exact kx e
 ·rw[aj c] at e ⊢;exact kx e
theorem nV {xs:Array Keyed}{src d:Nat}(hs:src<xs.size)(hd:d<=src)(k:Nat):cG (bubble xs src d) k=if k=src - d then cG xs src else if src - d<k /\ k<=src then cG xs (k - 1) else cG xs k:=by
 have e:=getElem?_bubble hs d hd k;by_cases c:k=src - d
 ·rw[ak c] at e ⊢;exact kx e
 ·rw[aj c] at e ⊢;by_cases c':src - d<k /\ k<=src
  ·rw[ak c'] at e ⊢;exact kx e
  ·rw[aj c'] at e ⊢;exact kx e
def I0 (lo a dC:Nat):StateT SortSt Sem AscSt:=forIn [a:dC] ((none,a):AscSt) λ_ c=>do
 let x <- ltAt' (lo+c.snd) (lo+c.snd - 1)
 match x with
 | some b=>if b=true then pure (ForInStep.done (none,c.snd)) else pure (ForInStep.yield (none,c.snd+1))
 | _=>pure (ForInStep.done (some none,c.snd))
def xO (lo n dC:Nat):StateT SortSt Sem (Option Nat):=do
 reverseSlice' lo (lo+n)
 let c <- I0 lo n dC
 match c.fst with
 | some r=>pure r
 | none=>pure (some c.snd)
def CD (lo n dC:Nat):StateT SortSt Sem DescSt:=forIn [n:dC] ((none,n,0):DescSt) λ_ c=>do
 let x <- ltAt' (lo+c.snd.fst) (lo+c.snd.fst - 1)
 match x with
 | some b=>
  if b=true then
   if c.snd.snd >0 then do
    reverseSlice' (lo+c.snd.fst - (c.snd.snd+1)) (lo+c.snd.fst)
    pure (ForInStep.yield (none,c.snd.fst+1,0))
   else pure (ForInStep.yield (none,c.snd.fst+1,0))
  else do
   let y <- ltAt' (lo+c.snd.fst - 1) (lo+c.snd.fst)
   match y with
   | some d=>
    if d=true then pure (ForInStep.done (none,c.snd.fst,c.snd.snd))
    else pure (ForInStep.yield (none,c.snd.fst+1,c.snd.snd+1))
   | _=>pure (ForInStep.done (some none,c.snd.fst,c.snd.snd))
 | _=>pure (ForInStep.done (some none,c.snd.fst,c.snd.snd))
def ym (lo n dC:Nat):StateT SortSt Sem (Option Nat):=do
 liftM (rule "list.sort.descending-run")
 let c <- CD lo (n+1) dC
 match c.fst with
 | some r=>pure r
 | none=>
  if c.snd.snd >0 then do
   reverseSlice' (lo+c.snd.fst - (c.snd.snd+1)) (lo+c.snd.fst)
   xO lo c.snd.fst dC
  else xO lo c.snd.fst dC
theorem Km (lo dC:Nat):countRun' lo dC=(do
  let c <- I0 lo 1 dC
  match c.fst with
  | some r=>pure r
  | none =>
   if(c.snd==dC)=true then pure (some c.snd)
   else if c.snd >1 then do
    let x <- ltAt' lo (lo+c.snd - 1)
    match x with
    | some b=>if b=true then pure (some c.snd) else do
     reverseSlice' lo (lo+c.snd)
     ym lo c.snd dC
    | _=>pure none
   else ym lo c.snd dC):=by
 rw[countRun'_eq]
 dsimp only
 unfold ym xO CD I0
 congr 1
 funext c
 obtain⟨r,n⟩:=c
 cases r with
 | some r=>rfl
 | none =>
  dsimp only;split
  ·rfl
  ·split
   ·congr 1;funext x;cases x with
    | none=>rfl
    | some b=>
     dsimp only;split
     ·rfl
     ·congr 1;funext _r;congr 1;funext _u;congr 1;congr 1;funext s2;obtain⟨r2,n2,q2⟩:=s2;cases r2 with
      | some r2=>rfl
      | none=>
       dsimp only;split
       ·congr 1;funext _v;congr 1;funext _w;congr 1;funext s3;obtain⟨r3,n3⟩:=s3;cases r3<;>rfl
       ·congr 1;funext _w;congr 1;funext s3;obtain⟨r3,n3⟩:=s3;cases r3<;>rfl
   ·congr 1;funext _u;congr 1;congr 1;funext s2;obtain⟨r2,n2,q2⟩:=s2;cases r2 with
    | some r2=>rfl
    | none=>
     dsimp only;split
     ·congr 1;funext _v;congr 1;funext _w;congr 1;funext s3;obtain⟨r3,n3⟩:=s3;cases r3<;>rfl
     ·congr 1;funext _w;congr 1;funext s3;obtain⟨r3,n3⟩:=s3;cases r3<;>rfl
def Out (lo hi:Nat)(xs ys:Array Keyed):Prop:= ∀k,k<lo \/ hi<=k ->cG ys k=cG xs k
theorem Out.refl {lo hi:Nat}{xs:Array Keyed}:Out lo hi xs xs:=λ_ _=>rfl
theorem Out.trans {lo hi:Nat}{xs ys zs:Array Keyed}(a:Out lo hi xs ys)(b:Out lo hi ys zs):Out lo hi xs zs:=λk h=>(b k h).trans (a k h)
theorem wp_ascL (O:Ord less)(L:jJ prog w A E s kd a₀ less){st:SortSt}{lo a dC:Nat}{Q:AscSt ->SortSt ->Prop}(hn:lo+dC<=a₀.size)(ha:1<=a)(han:a<=dC)(B:SB kd a₀ st) (hs:Sg less (arrOf st) lo (lo+a)) (h: ∀n,a<=n ->n<=dC ->Sg less (arrOf st) lo (lo+n) ->(n=dC \/ less (cG (arrOf st) (lo+n)) (cG (arrOf st) (lo+n - 1))=true) ->Q (none,n) st): wpS (model prog w) A E s (I0 lo a dC) Q st:=by
 unfold I0;refine cB (I:=λx c bB=>bB=st /\ c=(none,x) /\ Sg less (arrOf st) lo (lo+x)) ?step ?fin ⟨rfl,rfl,hs⟩;case fin=>
  rintro c bB ⟨rfl,rfl,gV⟩
  rw[show max a dC=dC by lia] at gV ⊢
  exact h dC han (aq _) gV (.inl rfl)
 case step=>
  rintro x c bB Y7 hxn ⟨rfl,rfl,gV⟩
  dsimp only
  refine az (wp_lt L B (by lia) (by lia) ?_)
  cases e:less (cG (arrOf bB) (lo+x)) (cG (arrOf bB) (lo+x - 1)) with
  | true=>simp only[bN];exact aF (h x Y7 (by lia) gV (.inr e))
  | false=>
   simp only[ay,bf];refine aF ⟨rfl,rfl,λi j hi iu hj=> ?_⟩;by_cases c:j<lo+x
   ·exact gV i j hi iu c
   ·have:j=lo+x:=by lia
    subst this;by_cases c2:i=lo+x
    ·subst c2;exact O.refl _
    ·exact O.trans _ _ _ (gV i (lo+x - 1) hi (by lia) (by lia)) e
theorem wp_tailL (O:Ord less)(L:jJ prog w A E s kd a₀ less){st:SortSt}{lo n dC:Nat}{Q:Option Nat ->SortSt ->Prop}(hn:lo+dC<=a₀.size)(h1:1<=n)(Lj:n<=dC)(B:SB kd a₀ st) (hs:Ng less (arrOf st) lo (lo+n)) (h: ∀m bB,SB kd a₀ bB ->1<=m ->m<=dC ->Sg less (arrOf bB) lo (lo+m) ->pendingOf bB=pendingOf st ->Out lo (lo+dC) (arrOf st) (arrOf bB) ->Q (some m) bB): wpS (model prog w) A E s (xO lo n dC) Q st:=by
 unfold xO;have hsz:lo+n<=(arrOf st).size:=by rw[B.size];lia
 refine az (wp_rev ?_);have B':SB kd a₀ (setArr st (mirror (arrOf st) lo (lo+n) ((lo+n - lo) / 2))):=B.arr (mirror_perm _ _ _ _);refine az (wp_ascL O L hn h1 Lj B' ?_ λm YD Wl hsm _=>aF (h m _ B' (by lia) Wl hsm rfl ?_))
 ·intro i j hi iu hj;show LE less (cG (mirror (arrOf st) lo (lo+n) ((lo+n - lo) / 2)) i) (cG (mirror (arrOf st) lo (lo+n) ((lo+n - lo) / 2)) j);rw[eN hsz,eN hsz,ak (by lia),ak (by lia)];exact hs _ _ (by lia) (by lia) (by lia)
 ·intro k hk;show cG (mirror (arrOf st) lo (lo+n) ((lo+n - lo) / 2)) k=_;rw[eN hsz,aj (by lia)]
theorem qi (O:Ord less){xs:Array Keyed}{lo i m:Nat}(hj:m<=xs.size)(hli:lo<=i)(hs:Ng less xs lo m)(he: ∀k,i<=k ->k<m ->LE less (cG xs k) (cG xs (m - 1))):Ng less (mirror xs i m ((m - i) / 2)) lo m:=by
 intro a b ha Ia hb;rw[eN hj,eN hj];by_cases c1:i<=a
 ·rw[ak (by lia),ak (by lia)];refine O.trans _ _ _ (he (i+m - 1 - b) (by lia) (by lia)) (hs _ _ (by lia) (by lia) (by lia))
 ·rw[aj (show ¬(i<=a /\ a<m) by lia)];by_cases c2:i<=b
  ·rw[ak (by lia)];exact hs _ _ (by lia) (by lia) (by lia)
  ·rw[aj (by lia)];exact hs _ _ (by lia) (by lia) (by lia)
theorem nG {xs:Array Keyed}{lo hi i j:Nat}(hj:j<=xs.size)(h1:lo<=i)(h2:j<=hi):Out lo hi xs (mirror xs i j ((j - i) / 2)):=λk hk=>by rw[eN hj,aj (by lia)]
theorem wp_descL (O:Ord less)(L:jJ prog w A E s kd a₀ less){st:SortSt}{lo n dC:Nat}{Q:DescSt ->SortSt ->Prop}(hn:lo+dC<=a₀.size)(h1:1<=n)(Lj:n<=dC)(B:SB kd a₀ st) (hs:Ng less (arrOf st) lo (lo+n)) (h: ∀m uN bB,SB kd a₀ bB ->n<=m ->m<=dC ->Ng less (arrOf bB) lo (lo+m) ->uN+1<=m ->(∀i,lo+m - (uN+1) <=i ->i<lo+m ->LE less (cG (arrOf bB) i) (cG (arrOf bB) (lo+m - 1))) ->pendingOf bB=pendingOf st ->Out lo (lo+dC) (arrOf st) (arrOf bB) ->Q (none,m,uN) bB): wpS (model prog w) A E s (CD lo n dC) Q st:=by
 unfold CD;refine cB (I:=λx c bB=> ∃uN,c=(none,x,uN) /\ SB kd a₀ bB /\ Ng less (arrOf bB) lo (lo+x) /\ uN+1<=x /\(∀i,lo+x - (uN+1) <=i ->i<lo+x ->LE less (cG (arrOf bB) i) (cG (arrOf bB) (lo+x - 1))) /\ pendingOf bB=pendingOf st /\ Out lo (lo+dC) (arrOf st) (arrOf bB)) ?step ?fin ⟨0,rfl,B,hs,by lia,λi h1 h2=>by rw[show i=lo+n - 1 by lia];exact O.refl _,rfl,Out.refl⟩;case fin=>
  rintro c bB ⟨uN,rfl,B',gV,hq,he,hp,ho⟩
  rw[show max n dC=dC by lia] at gV hq he ⊢
  exact h dC uN bB B' Lj (aq _) gV hq he hp ho
 case step =>
  rintro x c bB Y7 hxn ⟨uN,rfl,B',gV,hq,he,hp,ho⟩
  dsimp only
  have hsz:lo+x<=(arrOf bB).size:=by rw[B'.size];lia
  refine az (wp_lt L B' (by lia) (by lia) ?_)
  cases e:less (cG (arrOf bB) (lo+x)) (cG (arrOf bB) (lo+x - 1)) with
  | true =>
   simp only[bN];by_cases HK:uN >0
   ·rw [ak HK];refine az (wp_rev (aF ⟨0,rfl,B'.arr (mirror_perm _ _ _ _),?_,by lia,λi h1 h2=>by rw[show i=lo+(x+1) - 1 by lia];exact O.refl _,hp,ho.trans (nG hsz (by lia) (by lia))⟩));have hm:=qi O (i:=lo+x - (uN+1)) hsz (by lia) gV he;intro i j hi iu hj;by_cases c:j<lo+x
    ·exact hm i j hi iu c
    ·have:j=lo+x:=by lia
     subst this;by_cases c2:i=lo+x
     ·subst c2;exact O.refl _
     ·refine O.trans _ _ _ ?_ (hm i (lo+x - 1) hi (by lia) (by lia));show LE less (cG (mirror (arrOf bB) (lo+x - (uN+1)) (lo+x) ((lo+x - (lo+x - (uN+1))) / 2)) (lo+x)) (cG (mirror (arrOf bB) (lo+x - (uN+1)) (lo+x) ((lo+x - (lo+x - (uN+1))) / 2)) (lo+x - 1));rw[eN hsz,eN hsz,aj (by lia),ak (by lia)];exact O.trans _ _ _ (O.le e) (gV _ _ (by lia) (by lia) (by lia))
   ·rw[aj HK];refine aF ⟨0,rfl,B',λi j hi iu hj=> ?_,by lia,λi h1 h2=>by rw[show i=lo+(x+1) - 1 by lia];exact O.refl _,hp,ho⟩;by_cases c:j<lo+x
    ·exact gV i j hi iu c
    ·have:j=lo+x:=by lia
     subst this;by_cases c2:i=lo+x
     ·subst c2;exact O.refl _
     ·exact O.trans _ _ _ (O.le e) (gV i (lo+x - 1) hi (by lia) (by lia))
  | false =>
   simp only[ay,bf];refine az (wp_lt L B' (by lia) (by lia) ?_);cases e2:less (cG (arrOf bB) (lo+x - 1)) (cG (arrOf bB) (lo+x)) with
   | true=>simp only[bN];exact aF (h x uN bB B' Y7 (by lia) gV hq he hp ho)
   | false=>
    simp only[ay,bf];refine aF ⟨uN+1,rfl,B',λi j hi iu hj=> ?_,by lia,λi h1 h2=> ?_,hp,ho⟩
    ·by_cases c:j<lo+x
     ·exact gV i j hi iu c
     ·have:j=lo+x:=by lia
      subst this;by_cases c2:i=lo+x
      ·subst c2;exact O.refl _
      ·exact O.trans _ _ _ e2 (gV i (lo+x - 1) hi (by lia) (by lia))
    ·rw[show lo+(x+1) - 1=lo+x by lia];by_cases c:i=lo+x
     ·subst c;exact O.refl _
     ·exact O.trans _ _ _ (he i (by lia) (by lia)) e
theorem wp_partL (O:Ord less)(L:jJ prog w A E s kd a₀ less){st:SortSt}{lo n dC:Nat}{Q:Option Nat ->SortSt ->Prop}(hn:lo+dC<=a₀.size)(Lj:n+1<=dC)(B:SB kd a₀ st) (hs:Ng less (arrOf st) lo (lo+(n+1))) (h: ∀m bB,SB kd a₀ bB ->1<=m ->m<=dC ->Sg less (arrOf bB) lo (lo+m) ->pendingOf bB=pendingOf st ->Out lo (lo+dC) (arrOf st) (arrOf bB) ->Q (some m) bB): wpS (model prog w) A E s (ym lo n dC) Q st:=by
 unfold ym;refine az (Dd (gr ⟨rfl,?_⟩));refine az (wp_descL O L hn (by lia) Lj B hs λm uN bB B' YD Wl gV hq he hp ho=> ?_);dsimp only;have hsz:lo+m<=(arrOf bB).size:=by rw[B'.size];lia
 by_cases HK:uN >0
 ·rw[ak HK];refine az (wp_rev (wp_tailL O L hn (by lia) Wl (B'.arr (mirror_perm _ _ _ _)) (qi O hsz (by lia) gV he) λm2 ox b1 b2 b3 b4 b5 b6=>h m2 ox b1 b2 b3 b4 (b5.trans hp) (ho.trans ((nG hsz (by lia) (by lia)).trans b6))))
 ·rw[aj HK];exact wp_tailL O L hn (by lia) Wl B' gV λm2 ox b1 b2 b3 b4 b5 b6=>h m2 ox b1 b2 b3 b4 (b5.trans hp) (ho.trans b6)
theorem wp_run (O:Ord less)(L:jJ prog w A E s kd a₀ less){st:SortSt}{lo dC:Nat}{Q:Option Nat ->SortSt ->Prop}(hn:lo+dC<=a₀.size)(h1:1<=dC)(B:SB kd a₀ st) (h: ∀m bB,SB kd a₀ bB ->1<=m ->m<=dC ->Sg less (arrOf bB) lo (lo+m) ->pendingOf bB=pendingOf st ->Out lo (lo+dC) (arrOf st) (arrOf bB) ->Q (some m) bB): wpS (model prog w) A E s (countRun' lo dC) Q st:=by
 rw[Km];refine az (wp_ascL O L hn (aq 1) h1 B (λi j hi iu hj=>by rw[show i=j by lia];exact O.refl _) λn UB P8 Ur Uy=> ?_);dsimp only;by_cases Lj:n=dC
 ·rw[ak (by simpa using Lj)];exact aF (h n st B UB P8 Ur rfl Out.refl)
 ·rw [aj (by simpa using Lj)];have f6:=Uy.resolve_left Lj;have hsz:lo+n<=(arrOf st).size:=by rw[B.size];lia
  by_cases rq:n >1
  ·rw [ak rq];refine az (wp_lt L B (by lia) (by lia) ?_);cases e:less (cG (arrOf st) lo) (cG (arrOf st) (lo+n - 1)) with
   | true=>simp only[bN];exact aF (h n st B UB P8 Ur rfl Out.refl)
   | false=>
    simp only[ay,bf];have hng:Ng less (arrOf st) lo (lo+n):=λi j hi iu hj=>O.trans _ _ _ (O.trans _ _ _ (Ur j (lo+n - 1) (by lia) (by lia) (by lia)) e) (Ur lo i (aq _) hi (by lia));refine az (wp_rev (wp_partL O L hn (by lia) (B.arr (mirror_perm _ _ _ _)) ?_ λm2 ox b1 b2 b3 b4 b5 b6=>h m2 ox b1 b2 b3 b4 b5 ((nG hsz (by lia) (by lia)).trans b6)));have hm:=qi O (i:=lo) hsz (aq _) hng λk _ _=>Ur k (lo+n - 1) (by lia) (by lia) (by lia);intro i j hi iu hj;by_cases c:j<lo+n
    ·exact hm i j hi iu c
    ·have:j=lo+n:=by lia
     subst this;by_cases c2:i=lo+n
     ·subst c2;exact O.refl _
     ·refine O.trans _ _ _ ?_ (hm i (lo+n - 1) hi (by lia) (by lia));show LE less (cG (mirror (arrOf st) lo (lo+n) ((lo+n - lo) / 2)) (lo+n)) (cG (mirror (arrOf st) lo (lo+n) ((lo+n - lo) / 2)) (lo+n - 1));rw[eN hsz,eN hsz,aj (by lia),ak (by lia)];exact O.trans _ _ _ (O.le f6) (hng _ _ (by lia) (by lia) (by lia))
  ·rw[aj rq];have YB:n=1:=by lia
   subst YB;refine wp_partL O L hn (by lia) B (λi j hi iu hj=> ?_) h;by_cases c:i=j
   ·subst c;exact O.refl _
   ·rw[show i=lo+1 - 1 by lia,show j=lo+1 by lia];exact O.le f6
theorem wp_bin (O:Ord less)(L:jJ prog w A E s kd a₀ less){st:SortSt}{lo n ok:Nat}{Q:Bool ->SortSt ->Prop}(hn:lo+n<=a₀.size)(c8:ok<=n)(B:SB kd a₀ st)(hs:Sg less (arrOf st) lo (lo+ok)) (h: ∀bB,SB kd a₀ bB ->Sg less (arrOf bB) lo (lo+n) ->pendingOf bB=pendingOf st ->Out lo (lo+n) (arrOf st) (arrOf bB) ->Q true bB):wpS (model prog w) A E s (binarySort' lo n ok) Q st:=by
 rw[binarySort'_eq];refine az (fm (cB (I:=λk c bB=>c=(none,()) /\ SB kd a₀ bB /\ Sg less (arrOf bB) lo (lo+min k n) /\ pendingOf bB=pendingOf st /\ Out lo (lo+n) (arrOf st) (arrOf bB)) (Q:=λc bB=>c=(none,()) /\ SB kd a₀ bB /\ Sg less (arrOf bB) lo (lo+n) /\ pendingOf bB=pendingOf st /\ Out lo (lo+n) (arrOf st) (arrOf bB)) ?step ?fin ?init) ?post);case post=>
  rintro c bB ⟨rfl,B',gV,hp,ho⟩
  exact aF (h bB B' gV hp ho)
 case init=>
  refine⟨rfl,B,λi j hi iu hj=> ?_,rfl,Out.refl⟩
  by_cases c:ok=0
  ·rw[show i=j by lia];exact O.refl _
  ·exact hs i j hi iu (by lia)
 case fin=>
  rintro c bB ⟨hc,B',gV,hp,ho⟩
  refine⟨hc,B',?_,hp,ho⟩
  rwa [show min (max (max ok 1) n) n=n by lia] at gV
 case step=>
  rintro k c bB hak hkn ⟨rfl,B',gV,hp,ho⟩
  rw[show min k n=k by lia] at gV
  have hk:lo+k<a₀.size:=by lia
  refine az (fm (cB (I:=λx c gI=>gI=bB /\ ∃l r,c=(none,l,r) /\ l<=r /\ r<=k /\ r - l<=k - x /\(∀i,i<l ->LE less (cG (arrOf bB) (lo+i)) (cG (arrOf bB) (lo+k))) /\ (∀i,r<=i ->i<k ->LE less (cG (arrOf bB) (lo+k)) (cG (arrOf bB) (lo+i)))) (Q:=λc gI=>gI=bB /\ ∃l r,c=(none,l,r) /\ l<=k /\(∀i,i<l ->LE less (cG (arrOf bB) (lo+i)) (cG (arrOf bB) (lo+k))) /\ (∀i,l<=i ->i<k ->LE less (cG (arrOf bB) (lo+k)) (cG (arrOf bB) (lo+i)))) ?Ub ?Ya ?Ue) ?Ud)
  case Ue=>exact⟨rfl,0,k,rfl,by lia,by lia,by lia,λi hi=>by lia,λi h1 h2=>by lia⟩
  case Ya=>
   rintro c gI ⟨rfl,l,r,rfl,hlr,Yn,hm,Qc,Ry⟩
   have:l=r:=by lia
   subst this
   exact⟨rfl,l,l,rfl,Yn,Qc,Ry⟩
  case Ub=>
   rintro x c gI _ hxk ⟨rfl,l,r,rfl,hlr,Yn,hm,Qc,Ry⟩
   dsimp only
   by_cases EU:l≥r
   ·rw[ak EU];have:l=r:=by lia
    subst this;exact aF ⟨rfl,l,l,rfl,Yn,Qc,Ry⟩
   ·rw[aj EU];refine az (wp_lt L B' hk (by lia) ?_);cases e:less (cG (arrOf gI) (lo+k)) (cG (arrOf gI) (lo+(l+r) / 2)) with
    | true=>simp only[bN];refine aF ⟨rfl,l,(l+r) / 2,rfl,by lia,by lia,by lia,Qc,λi h1 h2=> ?_⟩;exact O.trans _ _ _ (O.le e) (gV _ _ (by lia) (by lia) (by lia))
    | false=>simp only[ay,bf];refine aF ⟨rfl,(l+r) / 2+1,r,rfl,by lia,by lia,by lia,λi h1=> ?_,Ry⟩;exact O.trans _ _ _ (gV (lo+i) (lo+(l+r) / 2) (by lia) (by lia) (by lia)) e
  case Ud=>
   rintro c gI ⟨rfl,l,r,rfl,Lq,Qc,Ry⟩
   show wpS _ _ _ _ (do moveDown' (lo+k) (lo+l);pure (ForInStep.yield (none,()))) _ _
   rw[moveDown'_eq]
   have YK:lo+k< (arrOf gI).size:=by rw[B'.size];exact hk
   refine az (fN (aF ⟨rfl,B'.arr (bubble_perm _ _ _),?_,hp,ho.trans λj hj=> ?_⟩))
   ·rw[show min (k+1) n=k+1 by lia];intro i j hi iu hj;show LE less (cG (bubble (arrOf gI) (lo+k) (lo+k - (lo+l))) i) (cG (bubble (arrOf gI) (lo+k) (lo+k - (lo+l))) j);rw[nV YK (by lia),nV YK (by lia),show lo+k - (lo+k - (lo+l))=lo+l by lia];have YG: ∀i,lo<=i ->i<lo+l ->LE less (cG (arrOf gI) i) (cG (arrOf gI) (lo+k)):=λi h1 h2=>by have:=Qc (i - lo) (by lia);rwa [show lo+(i - lo)=i by lia] at this
    have YU: ∀i,lo+l<=i ->i<lo+k ->LE less (cG (arrOf gI) (lo+k)) (cG (arrOf gI) i):=λi h1 h2=>by have:=Ry (i - lo) (by lia) (by lia);rwa [show lo+(i - lo)=i by lia] at this
    repeat' split
    all_goals first
    | (exfalso;lia)
    | exact O.refl _
    | exact YG _ (by lia) (by lia)
    | exact YU _ (by lia) (by lia)
    | exact gV _ _ (by lia) (by lia) (by lia)
   ·show cG (bubble (arrOf gI) (lo+k) (lo+k - (lo+l))) j=_;rw[nV YK (by lia),aj (by lia),aj (by lia)]
end
def xD:Bool ->Keyed ->Array Keyed ->Nat ->Nat ->Nat ->StateT SortSt Sem (Option Nat):=sortPriv% PySem.Builtin.gallop
def V7:Array Keyed ->Array Keyed ->StateT SortSt Sem (Array Keyed):=sortPriv% PySem.Builtin.mergeLo
def V8:Array Keyed ->Array Keyed ->StateT SortSt Sem (Array Keyed):=sortPriv% PySem.Builtin.mergeHi
abbrev cy (st:SortSt)(g:Nat):SortSt:=SortSt.mk' (kindOf st) (arrOf st) (pendingOf st) g (failedOf st)
def QL (left:Bool)(key:Keyed)(arr:Array Keyed)(base i:Nat):StateT SortSt Sem (Option Bool):=do
 let x <- elem' arr (base+i)
 if left then lt' x key else return(<- lt' key x).map (!·)
theorem Qw (left:Bool)(key:Keyed)(arr:Array Keyed)(base n hint:Nat):xD left key arr base n hint=(do
 let mut la:=0
 let mut f:=1
 let mut lo:=0
 let mut hi:=0
 let some g <- QL left key arr base hint | return none
 if g then
  let mx:=n - hint
  for _ in [0:n] do
   if f≥mx then break
   let some g <- QL left key arr base (hint+f) | return none
   if !g then break
   la:=f
   f:=2*f+1
  lo:=hint+la+1
  hi:=hint+min f mx
 else
  let mx:=hint+1
  for _ in [0:n] do
   if f≥mx then break
   let some g <- QL left key arr base (hint - f) | return none
   if g then break
   la:=f
   f:=2*f+1
  lo:=hint+1 - min f mx
  hi:=hint - la
 for _ in [0:n] do
  if lo≥hi then break
  let m:=lo+(hi - lo) / 2
  let some g <- QL left key arr base m | return none
  if g then lo:=m+1 else hi:=m
 return some hi):=rfl
section
variable {prog:Program}{w:World}{A:Around}{E:Value ->Shared ->Prop}{s:Shared}{kd:SortKind}{a₀:Array Keyed}{less:Keyed ->Keyed ->Bool}
theorem wp_gal0 {st:SortSt}{left:Bool}{key:Keyed}{arr:Array Keyed}{base n hint:Nat}{Q:Option Nat ->SortSt ->Prop}(Bf:Nat ->Bool)(hh:hint<n) (hb: ∀i,i<n -> ∀Q':Option Bool ->SortSt ->Prop,Q' (some (Bf i)) st ->wpS (model prog w) A E s (QL left key arr base i) Q' st) (mono: ∀i j,i<=j ->j<n ->Bf j=true ->Bf i=true) (h: ∀k,k<=n ->(∀i,i<k ->Bf i=true) ->(∀i,k<=i ->i<n ->Bf i=false) ->Q (some k) st): wpS (model prog w) A E s (xD left key arr base n hint) Q st:=by
 have BW: ∀i j,i<=j ->j<n ->Bf i=false ->Bf j=false:=λi j iu hj e=>by
  cases e2:Bf j with
  | false=>rfl
  | true=>rw[mono i j iu hj e2] at e;cases e
 rw[Qw];dsimp only;refine az (hb hint hh _ ?_);dsimp only;cases hB:Bf hint with
 | true =>
  simp only[bN];refine az (fm (cB (I:=λi c bB=>bB=st /\ ∃la f,c=(none,la,f) /\ i+1<=f /\ la<f /\ hint+la<n /\ Bf (hint+la)=true) (Q:=λc bB=>bB=st /\ ∃la f,c=(none,la,f) /\ la<f /\ hint+la<n /\ Bf (hint+la)=true /\ (n - hint<=f \/ (hint+f<n /\ Bf (hint+f)=false))) ?_ ?_ ⟨rfl,0,1,rfl,by omega,by omega,by omega,hB⟩) ?_)
  ·rintro i c bB _ hi ⟨rfl,la,f,rfl,h1,h2,h3,h4⟩;dsimp only;by_cases c1:f≥n - hint
   ·rw[ak c1];exact aF ⟨rfl,la,f,rfl,h2,h3,h4, .inl c1⟩
   ·rw[aj c1];refine az (hb _ (by omega) _ ?_);cases e:Bf (hint+f) with
    | true=>simp only[gh,ay,bf];exact aF ⟨rfl,f,2*f+1,rfl,by omega,by omega,by omega,e⟩
    | false=>simp only[ly,bN];exact aF ⟨rfl,la,f,rfl,h2,h3,h4, .inr ⟨by omega,e⟩⟩
  ·rintro c bB ⟨rfl,la,f,rfl,h1,h2,h3,h4⟩;exact⟨rfl,la,f,rfl,h2,h3,h4, .inl (by omega)⟩
  ·rintro c bB ⟨rfl,la,f,rfl,h2,h3,h4,h5⟩;dsimp only;refine az (fm (cB (I:=λi c gI=>gI=bB /\ ∃lo hi,c=(none,lo,hi) /\ lo<=hi /\ hi<=n /\ hi - lo<=n - i /\ (∀i,i<lo ->Bf i=true) /\ (∀i,hi<=i ->i<n ->Bf i=false)) (Q:=λc gI=>gI=bB /\ ∃lo hi,c=(none,lo,hi) /\ hi<=n /\ (∀i,i<hi ->Bf i=true) /\ (∀i,hi<=i ->i<n ->Bf i=false)) ?_ ?_ ⟨rfl,_,_,rfl,by omega,by omega,by omega,λi hi=>mono i (hint+la) (by omega) h3 h4,λi hi jE=> ?_⟩) ?_)
   ·rintro i c gI _ hi ⟨rfl,lo,nh,rfl,g1,g2,g3,g4,g5⟩;dsimp only;by_cases c1:lo≥nh
    ·rw[ak c1];have:lo=nh:=by omega
     subst this;exact aF ⟨rfl,_,_,rfl,g2,g4,g5⟩
    ·rw[aj c1];refine az (hb _ (by omega) _ ?_);cases e:Bf (lo+(nh - lo) / 2) with
     | true=>simp only[bN];exact aF ⟨rfl,_,_,rfl,by omega,g2,by omega,λj hj=>mono j _ (by omega) (by omega) e,g5⟩
     | false=>simp only[ay,bf];exact aF ⟨rfl,_,_,rfl,by omega,by omega,by omega,g4,λj hj YO=>BW _ j hj YO e⟩
   ·rintro c gI ⟨rfl,lo,nh,rfl,g1,g2,g3,g4,g5⟩;have:lo=nh:=by omega
    subst this;exact⟨rfl,_,_,rfl,g2,g4,g5⟩
   ·rcases h5 with h5 | ⟨h5,h6⟩
    ·omega
    ·exact BW (hint+f) i (by omega) jE h6
   ·rintro c gI ⟨rfl,lo,nh,rfl,g2,g4,g5⟩;exact aF (h _ g2 g4 g5)
 | false =>
  simp only[ay,bf];refine az (fm (cB (I:=λi c bB=>bB=st /\ ∃la f,c=(none,la,f) /\ i+1<=f /\ la<f /\ la<=hint /\ Bf (hint - la)=false) (Q:=λc bB=>bB=st /\ ∃la f,c=(none,la,f) /\ la<f /\ la<=hint /\ Bf (hint - la)=false /\ (hint+1<=f \/ (f<=hint /\ Bf (hint - f)=true))) ?_ ?_ ⟨rfl,0,1,rfl,by omega,by omega,by omega,hB⟩) ?_)
  ·rintro i c bB _ hi ⟨rfl,la,f,rfl,h1,h2,h3,h4⟩;dsimp only;by_cases c1:f≥hint+1
   ·rw[ak c1];exact aF ⟨rfl,la,f,rfl,h2,h3,h4, .inl c1⟩
   ·rw[aj c1];refine az (hb _ (by omega) _ ?_);cases e:Bf (hint - f) with
    | false=>simp only[ay,bf];exact aF ⟨rfl,f,2*f+1,rfl,by omega,by omega,by omega,e⟩
    | true=>simp only[bN];exact aF ⟨rfl,la,f,rfl,h2,h3,h4, .inr ⟨by omega,e⟩⟩
  ·rintro c bB ⟨rfl,la,f,rfl,h1,h2,h3,h4⟩;exact⟨rfl,la,f,rfl,h2,h3,h4, .inl (by omega)⟩
  ·rintro c bB ⟨rfl,la,f,rfl,h2,h3,h4,h5⟩;dsimp only;refine az (fm (cB (I:=λi c gI=>gI=bB /\ ∃lo hi,c=(none,lo,hi) /\ lo<=hi /\ hi<=n /\ hi - lo<=n - i /\ (∀i,i<lo ->Bf i=true) /\ (∀i,hi<=i ->i<n ->Bf i=false)) (Q:=λc gI=>gI=bB /\ ∃lo hi,c=(none,lo,hi) /\ hi<=n /\ (∀i,i<hi ->Bf i=true) /\ (∀i,hi<=i ->i<n ->Bf i=false)) ?_ ?_ ⟨rfl,_,_,rfl,by omega,by omega,by omega,λi hi=> ?_,λi hi jE=>BW (hint - la) i (by omega) jE h4⟩) ?_)
   ·rintro i c gI _ hi ⟨rfl,lo,nh,rfl,g1,g2,g3,g4,g5⟩;dsimp only;by_cases c1:lo≥nh
    ·rw[ak c1];have:lo=nh:=by omega
     subst this;exact aF ⟨rfl,_,_,rfl,g2,g4,g5⟩
    ·rw[aj c1];refine az (hb _ (by omega) _ ?_);cases e:Bf (lo+(nh - lo) / 2) with
     | true=>simp only[bN];exact aF ⟨rfl,_,_,rfl,by omega,g2,by omega,λj hj=>mono j _ (by omega) (by omega) e,g5⟩
     | false=>simp only[ay,bf];exact aF ⟨rfl,_,_,rfl,by omega,by omega,by omega,g4,λj hj YO=>BW _ j hj YO e⟩
   ·rintro c gI ⟨rfl,lo,nh,rfl,g1,g2,g3,g4,g5⟩;have:lo=nh:=by omega
    subst this;exact⟨rfl,_,_,rfl,g2,g4,g5⟩
   ·rcases h5 with h5 | ⟨h5,h6⟩
    ·omega
    ·exact mono i (hint - f) (by omega) (by omega) h6
   ·rintro c gI ⟨rfl,lo,nh,rfl,g2,g4,g5⟩;exact aF (h _ g2 g4 g5)
theorem wp_galL (O:Ord less)(L:jJ prog w A E s kd a₀ less){st:SortSt}{key:Keyed}{arr:Array Keyed}{base n hint:Nat}{Q:Option Nat ->SortSt ->Prop}(B:kindOf st=kd)(hk:key∈a₀.toList) (hm: ∀i,i<n ->base+i<arr.size /\ cG arr (base+i)∈a₀.toList) (hh:hint<n) (hs:Sg less arr base (base+n)) (h: ∀k,k<=n ->(∀i,i<k ->less (cG arr (base+i)) key=true) ->(∀i,k<=i ->i<n ->LE less key (cG arr (base+i))) ->Q (some k) st): wpS (model prog w) A E s (xD true key arr base n hint) Q st:=by refine wp_gal0 (λi=>less (cG arr (base+i)) key) hh (λi hi Q' hq=> ?_) (λi j iu hj e=>O.T5 (hs (base+i) (base+j) (by omega) (by omega) (by omega)) e) h;unfold QL;refine az (wp_elem (hm i hi).1 ?_);simp only[bN];exact L _ _ _ _ (hm i hi).2 hk B hq
theorem wp_galR (O:Ord less)(L:jJ prog w A E s kd a₀ less){st:SortSt}{key:Keyed}{arr:Array Keyed}{base n hint:Nat}{Q:Option Nat ->SortSt ->Prop}(B:kindOf st=kd)(hk:key∈a₀.toList) (hm: ∀i,i<n ->base+i<arr.size /\ cG arr (base+i)∈a₀.toList) (hh:hint<n) (hs:Sg less arr base (base+n)) (h: ∀k,k<=n ->(∀i,i<k ->LE less (cG arr (base+i)) key) ->(∀i,k<=i ->i<n ->less key (cG arr (base+i))=true) ->Q (some k) st): wpS (model prog w) A E s (xD false key arr base n hint) Q st:=by
 refine wp_gal0 (λi=> !less key (cG arr (base+i))) hh (λi hi Q' hq=> ?_) (λi j iu hj e=> ?_) (λk h1 h2 h3=>h k h1 (λi hi=> ?_) λi h4 h5=> ?_)
 ·unfold QL;refine az (wp_elem (hm i hi).1 ?_);simp only[ay,bf];exact az (L _ _ _ _ hk (hm i hi).2 B (aF hq))
 ·simp only[Bool.not_eq_true'] at e ⊢;exact O.trans _ _ _ (hs (base+i) (base+j) (by omega) (by omega) (by omega)) e
 ·have:=h2 i hi;simp only[Bool.not_eq_true'] at this;exact this
 ·have:=h3 i h4 h5;simpa using this
theorem Px (a b:Array Keyed):V7 a b=(do
 rule "list.sort.merge-lo"
 let tt:=a.size+b.size
 let dn (o:Array Keyed) (i j:Nat):=o++a.extract i a.size++b.extract j b.size
 let la (o:Array Keyed) (i j:Nat):=o++b.extract j b.size++a.extract i a.size
 let mut o:Array Keyed:= #[<- elem' b 0]
 let mut i:=0
 let mut j:=1
 if j==b.size then return dn o i j
 if i+1==a.size then return la o i j
 let mut mg:=gallopOf (<- get)
 for _ in [0:tt] do
  let mut ac:=0
  let mut bc:=0
  for _ in [0:tt] do
   let some g <- lt' (<- elem' b j) (<- elem' a i) | return dn o i j
   if g then
    o:=o.push (<- elem' b j);j:=j+1;bc:=bc+1;ac:=0
    if j==b.size then return dn o i j
    if bc≥mg then break
   else
    o:=o.push (<- elem' a i);i:=i+1;ac:=ac+1;bc:=0
    if i+1==a.size then return la o i j
    if ac≥mg then break
  rule "list.sort.gallop"
  mg:=mg+1
  for _ in [0:tt] do
   if mg >1 then mg:=mg - 1
   modify λs=>cy s mg
   let some k <- xD false (<- elem' b j) a i (a.size - i) 0 | return dn o i j
   ac:=k
   if k >0 then
    o:=o++a.extract i (i+k);i:=i+k
    if i+1==a.size then return la o i j
    if i==a.size then return dn o i j
   o:=o.push (<- elem' b j);j:=j+1
   if j==b.size then return dn o i j
   let some k <- xD true (<- elem' a i) b j (b.size - j) 0 | return dn o i j
   bc:=k
   if k >0 then
    o:=o++b.extract j (j+k);j:=j+k
    if j==b.size then return dn o i j
   o:=o.push (<- elem' a i);i:=i+1
   if i+1==a.size then return la o i j
   if ac<7 && bc<7 then break
  mg:=mg+1
  modify λs=>cy s mg
 unsupported "internal:list.sort.merge-bound"):=rfl
theorem Py (a b:Array Keyed):V8 a b=(do
 rule "list.sort.merge-hi"
 let tt:=a.size+b.size
 let dn (o:Array Keyed) (i j:Nat):=a.extract 0 i++b.extract 0 j++o.reverse
 let fb (o:Array Keyed) (i j:Nat):=b.extract 0 j++a.extract 0 i++o.reverse
 let mut i:=a.size - 1
 let mut j:=b.size
 let mut o:Array Keyed:= #[<- elem' a i]
 if i==0 then return dn o i j
 if j==1 then return fb o i j
 let mut mg:=gallopOf (<- get)
 for _ in [0:tt] do
  let mut ac:=0
  let mut bc:=0
  for _ in [0:tt] do
   let some g <- lt' (<- elem' b (j - 1)) (<- elem' a (i - 1)) | return dn o i j
   if g then
    i:=i - 1;o:=o.push (<- elem' a i);ac:=ac+1;bc:=0
    if i==0 then return dn o i j
    if ac≥mg then break
   else
    j:=j - 1;o:=o.push (<- elem' b j);bc:=bc+1;ac:=0
    if j==1 then return fb o i j
    if bc≥mg then break
  rule "list.sort.gallop"
  mg:=mg+1
  for _ in [0:tt] do
   if mg >1 then mg:=mg - 1
   modify λs=>cy s mg
   let some at_ <- xD false (<- elem' b (j - 1)) a 0 i (i - 1) | return dn o i j
   let k:=i - at_
   ac:=k
   if k >0 then
    o:=o++(a.extract at_ i).reverse;i:=at_
    if i==0 then return dn o i j
   j:=j - 1;o:=o.push (<- elem' b j)
   if j==1 then return fb o i j
   let some at_ <- xD true (<- elem' a (i - 1)) b 0 j (j - 1) | return dn o i j
   let k:=j - at_
   bc:=k
   if k >0 then
    o:=o++(b.extract at_ j).reverse;j:=at_
    if j==1 then return fb o i j
    if j==0 then return dn o i j
   i:=i - 1;o:=o.push (<- elem' a i)
   if i==0 then return dn o i j
   if ac<7 && bc<7 then break
  mg:=mg+1
  modify λs=>cy s mg
 unsupported "internal:list.sort.merge-bound"):=rfl
end
structure MI (less:Keyed ->Keyed ->Bool)(al bl o:List Keyed)(i j:Nat):Prop where
 pm:o.Perm (al.take i++bl.take j)
 so:o.Pairwise (LE less)
 ba: ∀x∈o, ∀y∈al.drop i,LE less x y
 bb: ∀x∈o, ∀y∈bl.drop j,LE less x y
section
variable {less:Keyed ->Keyed ->Bool}{al bl o:List Keyed}{i j:Nat}
theorem MI.swap (h:MI less al bl o i j):MI less bl al o j i:=⟨h.pm.trans dJ,h.so,h.bb,h.ba⟩
theorem take_add {α:Type}(l:List α)(i k:Nat):l.take (i+k)=l.take i++(l.drop i).take k:=by rw[List.take_add]
theorem MI.LM (h:MI less al bl o i j)(sa:al.Pairwise (LE less))(k:Nat)(hk: ∀x∈(al.drop i).take k, ∀y∈bl.drop j,LE less x y):MI less al bl (o++(al.drop i).take k) (i+k) j:=by
 have sd:(al.drop i).Pairwise (LE less):=sa.sublist (vH _ _);have e:(al.drop i).take k++al.drop (i+k)=al.drop i:=by rw[<- C5,a8]
 have OX:=sd;rw[<- e,cx] at OX;refine⟨?_,?_,?_,?_⟩
 ·rw[take_add,bR];refine(h.pm.append_right _).trans ?_;rw[bR];exact eT _ dJ
 ·rw[cx];exact⟨h.so,OX.1,λx hx y hy=>h.ba x hx y (jX hy)⟩
 ·intro x hx y hy;rcases ax.mp hx with hx | hx
  ·exact h.ba x hx y (by rw[<- e];exact aT _ hy)
  ·exact OX.2.2 x hx y hy
 ·intro x hx y hy;rcases ax.mp hx with hx | hx
  ·exact h.bb x hx y hy
  ·exact hk x hx y hy
theorem MI.fin (h:MI less al bl o i j)(sa:al.Pairwise (LE less))(sb:bl.Pairwise (LE less))(hk: ∀x∈bl.drop j, ∀y∈al.drop i,LE less x y):(o++bl.drop j++al.drop i).Perm (al++bl) /\ (o++bl.drop j++al.drop i).Pairwise (LE less):=by
 constructor
 ·rw[bR];refine(h.pm.append_right _).trans ?_;have e1:(al++bl).Perm ((al.take i++al.drop i)++(bl.take j++bl.drop j)):=by rw[a8,a8]
  refine List.Perm.trans ?_ e1.symm;rw[bR,bR];refine eT _ ?_;rw[<- bR];exact dJ
 ·rw[cx,cx];refine⟨⟨h.so,sb.sublist (vH _ _),h.bb⟩,sa.sublist (vH _ _),λx hx y hy=> ?_⟩;rcases ax.mp hx with hx | hx
  ·exact h.ba x hx y hy
  ·exact hk x hx y hy
structure MH (less:Keyed ->Keyed ->Bool)(al bl t:List Keyed)(i j:Nat):Prop where
 pm:t.Perm (al.drop i++bl.drop j)
 so:t.Pairwise (LE less)
 ba: ∀x∈t, ∀y∈al.take i,LE less y x
 bb: ∀x∈t, ∀y∈bl.take j,LE less y x
theorem MH.swap {t:List Keyed}(h:MH less al bl t i j):MH less bl al t j i:=⟨h.pm.trans dJ,h.so,h.bb,h.ba⟩
theorem MH.LM {t:List Keyed}(h:MH less al bl t i j)(sa:al.Pairwise (LE less)){k:Nat}(UK:k<=i)(hk: ∀x∈(al.take i).drop k, ∀y∈bl.take j,LE less y x):MH less al bl ((al.take i).drop k++t) k j:=by
 have sd:(al.take i).Pairwise (LE less):=sa.sublist (lZ _ _);have e0:(al.take i).take k=al.take k:=by rw[List.take_take,Nat.min_eq_left UK]
 have e:al.take k++(al.take i).drop k=al.take i:=by rw[<- e0,a8]
 have OX:=sd;rw[<- e,cx] at OX;have e3:al.drop k=(al.take i).drop k++al.drop i:=by
  have:=a8 i al;have e4:al.drop k=(al.take i++al.drop i).drop k:=by rw[this]
  rw[e4];by_cases c:i<=al.length
  ·rw[List.drop_append_of_le_length (by rw[a6];lia)]
  ·have z:al.drop i= []:=oh (by lia);rw[z,iz,iz]
 refine⟨?_,?_,?_,?_⟩
 ·rw[e3,bR];exact eT _ h.pm
 ·rw[cx];exact⟨OX.2.1,h.so,λx hx y hy=>h.ba y hy x (by rw[<- e];exact aT _ hx)⟩
 ·intro x hx y hy;rcases ax.mp hx with hx | hx
  ·exact OX.2.2 y hy x hx
  ·exact h.ba x hx y (by rw[<- e];exact jY _ hy)
 ·intro x hx y hy;rcases ax.mp hx with hx | hx
  ·exact hk x hx y hy
  ·exact h.bb x hx y hy
theorem MH.fin {t:List Keyed}(h:MH less al bl t i j)(sa:al.Pairwise (LE less))(sb:bl.Pairwise (LE less))(hk: ∀x∈al.take i, ∀y∈bl.take j,LE less x y):(al.take i++bl.take j++t).Perm (al++bl) /\ (al.take i++bl.take j++t).Pairwise (LE less):=by
 constructor
 ·refine(eT _ h.pm).trans ?_;have e1:(al++bl).Perm ((al.take i++al.drop i)++(bl.take j++bl.drop j)):=by rw[a8,a8]
  refine List.Perm.trans ?_ e1.symm;rw[bR,bR];refine eT _ ?_;rw[<- bR, <- bR];exact JU _ dJ
 ·rw[cx,cx];refine⟨⟨sa.sublist (lZ _ _),sb.sublist (lZ _ _),hk⟩,h.so,λx hx y hy=> ?_⟩;rcases ax.mp hx with hx | hx
  ·exact h.ba y hy x hx
  ·exact h.bb y hy x hx
end
abbrev R5:=Option (Array Keyed)×Array Keyed×Nat×Nat×Nat
abbrev R6:=Option (Array Keyed)×Array Keyed×Nat×Nat×Nat×Nat
abbrev R7:=Option (Array Keyed)×Array Keyed×Nat×Nat×Nat×Nat×Nat
section
variable (a b:Array Keyed)
abbrev AS (o:Array Keyed)(i j:Nat):Array Keyed:=o++a.extract i a.size++b.extract j b.size
abbrev Nc (o:Array Keyed)(i j:Nat):Array Keyed:=o++b.extract j b.size++a.extract i a.size
def Pg (mg:Nat)(o:Array Keyed)(i j ac bc:Nat):StateT SortSt Sem (ForInStep R6):=do
 let x <- elem' b j
 let y <- elem' a i
 let g <- lt' x y
 match g with
 | some g=>
  if g=true then do
   let x <- elem' b j
   if(j+1==b.size)=true then pure (.done (some (AS a b (o.push x) i (j+1)),o.push x,i,j+1,0,bc+1))
   else if bc+1≥mg then pure (.done (none,o.push x,i,j+1,0,bc+1))
   else pure (.yield (none,o.push x,i,j+1,0,bc+1))
  else do
   let x <- elem' a i
   if(i+1+1==a.size)=true then pure (.done (some (Nc a b (o.push x) (i+1) j),o.push x,i+1,j,ac+1,0))
   else if ac+1≥mg then pure (.done (none,o.push x,i+1,j,ac+1,0))
   else pure (.yield (none,o.push x,i+1,j,ac+1,0))
 | _=>pure (.done (some (AS a b o i j),o,i,j,ac,bc))
def VR (mg ac bc:Nat)(o:Array Keyed)(i j:Nat):StateT SortSt Sem (ForInStep R7):=do
 let x <- elem' a i
 if(i+1+1==a.size)=true then pure (.done (some (Nc a b (o.push x) (i+1) j),o.push x,i+1,j,mg,ac,bc))
 else if(decide (ac<7) && decide (bc<7))=true then pure (.done (none,o.push x,i+1,j,mg,ac,bc))
 else pure (.yield (none,o.push x,i+1,j,mg,ac,bc))
def VT (mg ac bc:Nat)(o:Array Keyed)(i j:Nat):StateT SortSt Sem (ForInStep R7):=do
 let x <- elem' b j
 if(j+1==b.size)=true then pure (.done (some (AS a b (o.push x) i (j+1)),o.push x,i,j+1,mg,ac,bc))
 else do
  let y <- elem' a i
  let r <- xD true y b (j+1) (b.size - (j+1)) 0
  match r with
  | some k=>
   if k >0 then
    if(j+1+k==b.size)=true then pure (.done (some (AS a b (o.push x++b.extract (j+1) (j+1+k)) i (j+1+k)),o.push x++b.extract (j+1) (j+1+k),i,j+1+k,mg,ac,k))
    else VR a b mg ac k (o.push x++b.extract (j+1) (j+1+k)) i (j+1+k)
   else VR a b mg ac k (o.push x) i (j+1)
  | _=>pure (.done (some (AS a b (o.push x) i (j+1)),o.push x,i,j+1,mg,ac,bc))
def Tw (mg ac bc:Nat)(o:Array Keyed)(i j:Nat):StateT SortSt Sem (ForInStep R7):=do
 modify λs=>cy s mg
 let x <- elem' b j
 let r <- xD false x a i (a.size - i) 0
 match r with
 | some k=>
  if k >0 then
   if(i+k+1==a.size)=true then pure (.done (some (Nc a b (o++a.extract i (i+k)) (i+k) j),o++a.extract i (i+k),i+k,j,mg,k,bc))
   else if(i+k==a.size)=true then pure (.done (some (AS a b (o++a.extract i (i+k)) (i+k) j),o++a.extract i (i+k),i+k,j,mg,k,bc))
   else VT a b mg k bc (o++a.extract i (i+k)) (i+k) j
  else VT a b mg k bc o i j
 | _=>pure (.done (some (AS a b o i j),o,i,j,mg,ac,bc))
def Tz (c:R5):StateT SortSt Sem (ForInStep R5):=do
 let d <- forIn [:a.size+b.size] ((none,c.2.1,c.2.2.1,c.2.2.2.1,0,0):R6) λ_ d=>Pg a b c.2.2.2.2 d.2.1 d.2.2.1 d.2.2.2.1 d.2.2.2.2.1 d.2.2.2.2.2
 match d.1 with
 | some r=>pure (.done (some r,d.2.1,d.2.2.1,d.2.2.2.1,c.2.2.2.2))
 | none=>do
  liftM (rule "list.sort.gallop")
  let e <- forIn [:a.size+b.size] ((none,d.2.1,d.2.2.1,d.2.2.2.1,c.2.2.2.2+1,d.2.2.2.2.1,d.2.2.2.2.2):R7) λ_ e=>if e.2.2.2.2.1 >1 then Tw a b (e.2.2.2.2.1 - 1) e.2.2.2.2.2.1 e.2.2.2.2.2.2 e.2.1 e.2.2.1 e.2.2.2.1 else Tw a b e.2.2.2.2.1 e.2.2.2.2.2.1 e.2.2.2.2.2.2 e.2.1 e.2.2.1 e.2.2.2.1
  match e.1 with
  | some r=>pure (.done (some r,e.2.1,e.2.2.1,e.2.2.2.1,e.2.2.2.2.1))
  | none=>do
   modify λs=>cy s (e.2.2.2.2.1+1)
   pure (.yield (none,e.2.1,e.2.2.1,e.2.2.2.1,e.2.2.2.2.1+1))
end
theorem vp {σ α β:Type}{m:StateT σ Sem α}{f g:α ->StateT σ Sem β}(h: ∀x,f x=g x):(m >>=f)=(m >>=g):=by rw[funext h]
theorem Er {σ α β:Type}{m m':StateT σ Sem α}{f g:α ->StateT σ Sem β}(e:m=m')(h: ∀x,f x=g x):(m >>=f)=(m' >>=g):=by rw[e,funext h]
theorem DO {α:Sort _}{c:Prop} [Decidable c]{x y x' y':α}(h:x=x')(h':y=y'):(if c then x else y)=(if c then x' else y'):=by rw[h,h']
theorem Ea {σ β:Type}{r:Std.Legacy.Range}{c:β}{f g:Nat ->β ->StateT σ Sem (ForInStep β)}(h: ∀i c,f i c=g i c):forIn r c f=forIn r c g:=by rw[funext λi=>funext (h i)]
section
variable (a b:Array Keyed)
theorem BS (mg ac bc:Nat)(o:Array Keyed)(i j:Nat):(do
  modify λs=>cy s mg
  let Ex <- elem' b j
  let __x <- xD false Ex a i (a.size - i) 0
  match __x with
  | some k =>
   have ac:=k
   have jp :=λ(__r:Unit) (o:Array Keyed) (i:Nat)=>do
    let x <- elem' b j
    have o:Array Keyed:=o.push x
    have j:Nat:=j+1
    if(j==b.size)=true then pure (ForInStep.done ((some (AS a b o i j),o,i,j,mg,ac,bc):R7))
    else do
     let y <- elem' a i
     let __x <- xD true y b j (b.size - j) 0
     match __x with
     | some k=>
      have bc:=k
      have jp:=λ(__r:Unit) (o:Array Keyed) (j:Nat)=>do
       let x <- elem' a i
       have o:Array Keyed:=o.push x
       have i:Nat:=i+1
       if(i+1==a.size)=true then pure (ForInStep.done ((some (Nc a b o i j),o,i,j,mg,ac,bc):R7))
       else if(decide (ac<7) && decide (bc<7))=true then pure (.done (none,o,i,j,mg,ac,bc))
       else pure (.yield (none,o,i,j,mg,ac,bc))
      if k >0 then
       have o:=o++b.extract j (j+k)
       have j:=j+k
       if(j==b.size)=true then pure (.done (some (AS a b o i j),o,i,j,mg,ac,bc)) else jp () o j
      else jp () o j
     | _=>pure (.done (some (AS a b o i j),o,i,j,mg,ac,bc))
   if k >0 then
    have o:=o++a.extract i (i+k)
    have i:=i+k
    if(i+1==a.size)=true then pure (.done (some (Nc a b o i j),o,i,j,mg,ac,bc))
    else if(i==a.size)=true then pure (.done (some (AS a b o i j),o,i,j,mg,ac,bc)) else jp () o i
   else jp () o i
  | _=>pure (.done (some (AS a b o i j),o,i,j,mg,ac,bc)))=Tw a b mg ac bc o i j:=by
 refine vp λ_=>vp λx=>vp λr=> ?_
 cases r with
 | none=>rfl
 | some k=>
  refine DO (DO rfl (DO rfl ?_)) ?_;all_goals
   refine vp λy=>DO rfl (vp λz=>vp λr=> ?_)
   cases r with
   | none=>rfl
   | some k=>rfl
theorem DB:V7 a b=(do
  liftM (rule "list.sort.merge-lo")
  let x <- elem' b 0
  if(1==b.size)=true then pure (AS a b #[x] 0 1)
  else if(0+1==a.size)=true then pure (Nc a b #[x] 0 1)
  else do
   let g <- get
   let c <- forIn [:a.size+b.size] ((none, #[x],0,1,gallopOf g):R5) λ_ c=>Tz a b c
   match c.1 with
   | some r=>pure r
   | none=>unsupported "internal:list.sort.merge-bound"):=by
 rw[Px]
 refine vp λ_=> ?_
 refine vp λx=> ?_
 refine DO rfl (DO rfl (vp λg=>Er (Ea λ_ c=> ?_) λc=> ?_))
 ·refine Er (Ea λ_ d=>rfl) λd=> ?_;obtain⟨r,d⟩:=d;cases r with
  | some r=>rfl
  | none=>
   refine vp λ_=>Er (Ea λ_ e=> ?_) λe=> ?_
   ·refine DO ?_ ?_
    ·exact BS a b _ _ _ _ _ _
    ·exact BS a b _ _ _ _ _ _
   ·obtain⟨r,e⟩:=e;cases r<;>rfl
 ·obtain⟨r,c⟩:=c;cases r<;>rfl
abbrev AU (o:Array Keyed)(i j:Nat):Array Keyed:=a.extract 0 i++b.extract 0 j++o.reverse
abbrev NN (o:Array Keyed)(i j:Nat):Array Keyed:=b.extract 0 j++a.extract 0 i++o.reverse
def OB (mg:Nat)(i j:Nat)(o:Array Keyed)(ac bc:Nat):StateT SortSt Sem (ForInStep (Option (Array Keyed)×Nat×Nat×Array Keyed×Nat×Nat)):=do
 let x <- elem' b (j - 1)
 let y <- elem' a (i - 1)
 let g <- lt' x y
 match g with
 | some g=>
  if g=true then do
   let x <- elem' a (i - 1)
   if(i - 1==0)=true then pure (.done (some (AU a b (o.push x) (i - 1) j),i - 1,j,o.push x,ac+1,0))
   else if ac+1≥mg then pure (.done (none,i - 1,j,o.push x,ac+1,0))
   else pure (.yield (none,i - 1,j,o.push x,ac+1,0))
  else do
   let x <- elem' b (j - 1)
   if(j - 1==1)=true then pure (.done (some (NN a b (o.push x) i (j - 1)),i,j - 1,o.push x,0,bc+1))
   else if bc+1≥mg then pure (.done (none,i,j - 1,o.push x,0,bc+1))
   else pure (.yield (none,i,j - 1,o.push x,0,bc+1))
 | _=>pure (.done (some (AU a b o i j),i,j,o,ac,bc))
abbrev S7:=Option (Array Keyed)×Nat×Nat×Array Keyed×Nat×Nat×Nat
def VS (mg ac bc:Nat)(i j:Nat)(o:Array Keyed):StateT SortSt Sem (ForInStep S7):=do
 let x <- elem' a (i - 1)
 if(i - 1==0)=true then pure (.done (some (AU a b (o.push x) (i - 1) j),i - 1,j,o.push x,mg,ac,bc))
 else if(decide (ac<7) && decide (bc<7))=true then pure (.done (none,i - 1,j,o.push x,mg,ac,bc))
 else pure (.yield (none,i - 1,j,o.push x,mg,ac,bc))
def VU (mg ac bc:Nat)(i j:Nat)(o:Array Keyed):StateT SortSt Sem (ForInStep S7):=do
 let x <- elem' b (j - 1)
 if(j - 1==1)=true then pure (.done (some (NN a b (o.push x) i (j - 1)),i,j - 1,o.push x,mg,ac,bc))
 else do
  let y <- elem' a (i - 1)
  let r <- xD true y b 0 (j - 1) (j - 1 - 1)
  match r with
  | some k=>
   if j - 1 - k >0 then
    if(k==1)=true then pure (.done (some (NN a b (o.push x++(b.extract k (j - 1)).reverse) i k),i,k,o.push x++(b.extract k (j - 1)).reverse,mg,ac,j - 1 - k))
    else if(k==0)=true then pure (.done (some (AU a b (o.push x++(b.extract k (j - 1)).reverse) i k),i,k,o.push x++(b.extract k (j - 1)).reverse,mg,ac,j - 1 - k))
    else VS a b mg ac (j - 1 - k) i k (o.push x++(b.extract k (j - 1)).reverse)
   else VS a b mg ac (j - 1 - k) i (j - 1) (o.push x)
  | _=>pure (.done (some (AU a b (o.push x) i (j - 1)),i,j - 1,o.push x,mg,ac,bc))
def Tx (mg ac bc:Nat)(i j:Nat)(o:Array Keyed):StateT SortSt Sem (ForInStep S7):=do
 modify λs=>cy s mg
 let x <- elem' b (j - 1)
 let r <- xD false x a 0 i (i - 1)
 match r with
 | some k=>
  if i - k >0 then
   if(k==0)=true then pure (.done (some (AU a b (o++(a.extract k i).reverse) k j),k,j,o++(a.extract k i).reverse,mg,i - k,bc))
   else VU a b mg (i - k) bc k j (o++(a.extract k i).reverse)
  else VU a b mg (i - k) bc i j o
 | _=>pure (.done (some (AU a b o i j),i,j,o,mg,ac,bc))
abbrev S5:=Option (Array Keyed)×Nat×Nat×Array Keyed×Nat
def KJ (c:S5):StateT SortSt Sem (ForInStep S5):=do
 let d <- forIn [:a.size+b.size] ((none,c.2.1,c.2.2.1,c.2.2.2.1,0,0):Option (Array Keyed)×Nat×Nat×Array Keyed×Nat×Nat) λ_ d=>OB a b c.2.2.2.2 d.2.1 d.2.2.1 d.2.2.2.1 d.2.2.2.2.1 d.2.2.2.2.2
 match d.1 with
 | some r=>pure (.done (some r,d.2.1,d.2.2.1,d.2.2.2.1,c.2.2.2.2))
 | none=>do
  liftM (rule "list.sort.gallop")
  let e <- forIn [:a.size+b.size] ((none,d.2.1,d.2.2.1,d.2.2.2.1,c.2.2.2.2+1,d.2.2.2.2.1,d.2.2.2.2.2):S7) λ_ e=>if e.2.2.2.2.1 >1 then Tx a b (e.2.2.2.2.1 - 1) e.2.2.2.2.2.1 e.2.2.2.2.2.2 e.2.1 e.2.2.1 e.2.2.2.1 else Tx a b e.2.2.2.2.1 e.2.2.2.2.2.1 e.2.2.2.2.2.2 e.2.1 e.2.2.1 e.2.2.2.1
  match e.1 with
  | some r=>pure (.done (some r,e.2.1,e.2.2.1,e.2.2.2.1,e.2.2.2.2.1))
  | none=>do
   modify λs=>cy s (e.2.2.2.2.1+1)
   pure (.yield (none,e.2.1,e.2.2.1,e.2.2.2.1,e.2.2.2.2.1+1))
theorem yo (mg ac bc:Nat)(i j:Nat)(o:Array Keyed):(do
  modify λs=>cy s mg
  let x <- elem' b (j - 1)
  let r <- xD false x a 0 i (i - 1)
  match r with
  | some at_=>
   have k:=i - at_
   have ac:=k
   have jp :=λ(__r:Unit) (i:Nat) (o:Array Keyed)=>do
    have j:Nat:=j - 1
    let x <- elem' b j
    have o:Array Keyed:=o.push x
    if(j==1)=true then pure (ForInStep.done ((some (NN a b o i j),i,j,o,mg,ac,bc):S7))
    else do
     let y <- elem' a (i - 1)
     let r <- xD true y b 0 j (j - 1)
     match r with
     | some at_=>
      have k:=j - at_
      have bc:=k
      have jp:=λ(__r:Unit) (j:Nat) (o:Array Keyed)=>do
       have i:Nat:=i - 1
       let x <- elem' a i
       have o:Array Keyed:=o.push x
       if(i==0)=true then pure (ForInStep.done ((some (AU a b o i j),i,j,o,mg,ac,bc):S7))
       else if(decide (ac<7) && decide (bc<7))=true then pure (.done (none,i,j,o,mg,ac,bc))
       else pure (.yield (none,i,j,o,mg,ac,bc))
      if k >0 then
       have o:=o++(b.extract at_ j).reverse
       have j:=at_
       if(j==1)=true then pure (.done (some (NN a b o i j),i,j,o,mg,ac,bc)) else if(j==0)=true then pure (.done (some (AU a b o i j),i,j,o,mg,ac,bc)) else jp () j o
      else jp () j o
     | _=>pure (.done (some (AU a b o i j),i,j,o,mg,ac,bc))
   if k >0 then
    have o:=o++(a.extract at_ i).reverse
    have i:=at_
    if(i==0)=true then pure (.done (some (AU a b o i j),i,j,o,mg,ac,bc)) else jp () i o
   else jp () i o
  | _=>pure (.done (some (AU a b o i j),i,j,o,mg,ac,bc)))=Tx a b mg ac bc i j o:=by
 refine vp λ_=>vp λx=>vp λr=> ?_
 cases r with
 | none=>rfl
 | some k=>
  refine DO (DO rfl ?_) ?_;all_goals
   refine vp λy=>DO rfl (vp λz=>vp λr=> ?_)
   cases r with
   | none=>rfl
   | some k=>rfl
theorem DD:V8 a b=(do
  liftM (rule "list.sort.merge-hi")
  let x <- elem' a (a.size - 1)
  if(a.size - 1==0)=true then pure (AU a b #[x] (a.size - 1) b.size)
  else if(b.size==1)=true then pure (NN a b #[x] (a.size - 1) b.size)
  else do
   let g <- get
   let c <- forIn [:a.size+b.size] ((none,a.size - 1,b.size, #[x],gallopOf g):S5) λ_ c=>KJ a b c
   match c.1 with
   | some r=>pure r
   | none=>unsupported "internal:list.sort.merge-bound"):=by
 rw[Py]
 refine vp λ_=> ?_
 refine vp λx=> ?_
 refine DO rfl (DO rfl (vp λg=>Er (Ea λ_ c=> ?_) λc=> ?_))
 ·refine Er (Ea λ_ d=>rfl) λd=> ?_;obtain⟨r,d⟩:=d;cases r with
  | some r=>rfl
  | none=>
   refine vp λ_=>Er (Ea λ_ e=> ?_) λe=> ?_
   ·refine DO ?_ ?_
    ·exact yo a b _ _ _ _ _ _
    ·exact yo a b _ _ _ _ _ _
   ·obtain⟨r,e⟩:=e;cases r<;>rfl
 ·obtain⟨r,c⟩:=c;cases r<;>rfl
end
theorem iK {xs:Array Keyed}{i:Nat}(h:i<xs.size):xs.toList[i]? =some (cG xs i):=by rw[<- IY h];simp
theorem drop_cons {xs:Array Keyed}{i:Nat}(h:i<xs.size):xs.toList.drop i=cG xs i::xs.toList.drop (i+1):=by
 have h':i<xs.toList.length:=by simpa using h
 have e:=iK h;rw[ae h'] at e;rw[dH h',br e]
theorem take1 {xs:Array Keyed}{i:Nat}(h:i<xs.size):(xs.toList.drop i).take 1= [cG xs i]:=by rw[drop_cons h];rfl
theorem jT {xs:Array Keyed}{i:Nat}{y:Keyed}(h:y∈xs.toList.drop i): ∃k,i<=k /\ k<xs.size /\ y=cG xs k:=by
 obtain⟨n,hn⟩:=bA.mp h;rw[dQ] at hn;have hl:=(ag.mp hn).1;have sX:i+n<xs.size:=by simpa using hl
 rw[iK sX] at hn;exact⟨i+n,by lia,sX,(br hn).symm⟩
theorem vW {xs:Array Keyed}{i k:Nat}{y:Keyed}(h:y∈(xs.toList.drop i).take k): ∃n,i<=n /\ n<i+k /\ n<xs.size /\ y=cG xs n:=by
 obtain⟨n,hn⟩:=bA.mp h;rw[lq] at hn;split at hn
 ·rename_i hk;rw[dQ] at hn;have hl:=(ag.mp hn).1;have sX:i+n<xs.size:=by simpa using hl
  rw[iK sX] at hn;exact⟨i+n,by lia,by lia,sX,(br hn).symm⟩
 ·cases hn
theorem m8 {less:Keyed ->Keyed ->Bool}(O:Ord less){xs:Array Keyed}(h:xs.toList.Pairwise (LE less)){i j:Nat}(iu:i<=j)(hj:j<xs.size):LE less (cG xs i) (cG xs j):=by
 by_cases c:i=j
 ·subst c;exact O.refl _
 ·rw[bj] at h;have nh:i<xs.toList.length:=by simp;lia
  have jH:j<xs.toList.length:=by simpa using hj
  have:=h i j nh jH (by lia);have e1:=iK (xs:=xs) (i:=i) (by lia);have e2:=iK hj;rw[ae nh] at e1;rw[ae jH] at e2;rwa [br e1,br e2] at this
theorem v7 {less:Keyed ->Keyed ->Bool}(O:Ord less){xs:Array Keyed}(h:xs.toList.Pairwise (LE less)){i n:Nat}(hn:i+n<=xs.size):Sg less xs i (i+n):=λx y _ hxy hy=>m8 O h hxy (by lia)
theorem yT (xs:Array Keyed)(i k:Nat):(xs.extract i (i+k)).toList=(xs.toList.drop i).take k:=by rw[qY,lH];congr 1;lia
theorem rR (xs:Array Keyed)(i:Nat):(xs.extract i xs.size).toList=xs.toList.drop i:=by rw[qY,lH];exact oe (by simp)
section
variable {prog:Program}{w:World}{A:Around}{E:Value ->Shared ->Prop}{s:Shared}{kd:SortKind}{a₀:Array Keyed}{less:Keyed ->Keyed ->Bool}
structure vB (less:Keyed ->Keyed ->Bool)(a₀ a b:Array Keyed):Prop where
 sa:a.toList.Pairwise (LE less)
 sb:b.toList.Pairwise (LE less)
 ma: ∀i,i<a.size ->cG a i∈a₀.toList
 mb: ∀i,i<b.size ->cG b i∈a₀.toList
 na:1<=a.size
 nb:1<=b.size
 h0:less (cG b 0) (cG a 0)=true
 hl: ∀j,j<b.size ->less (cG b j) (cG a (a.size - 1))=true
def Res (less:Keyed ->Keyed ->Bool)(a b r:Array Keyed):Prop:=r.toList.Perm (a.toList++b.toList) /\ r.toList.Pairwise (LE less)
structure JL (less:Keyed ->Keyed ->Bool)(a b o:Array Keyed)(i j:Nat):Prop where
 mi:MI less a.toList b.toList o.toList i j
 hi:i+1<a.size
 hj:j<b.size
variable {a b:Array Keyed}
theorem wo (T:vB less a₀ a b){o:Array Keyed}{i j:Nat}(h:MI less a.toList b.toList o.toList i j)(hj:b.size<=j \/ a.size<=i):Res less a b (AS a b o i j):=by
 unfold Res AS;rw[cg,cg,rR,rR];have:=h.swap.fin T.sb T.sa λx hx y hy=>by
  rcases hj with hj | hj
  ·obtain⟨k,h1,h2,_⟩:=jT hy;lia
  ·obtain⟨k,h1,h2,_⟩:=jT hx;lia
 exact⟨this.1.trans dJ,this.2⟩
theorem wj (O:Ord less)(T:vB less a₀ a b){o:Array Keyed}{i j:Nat}(h:MI less a.toList b.toList o.toList i j)(hi:i+1=a.size):Res less a b (Nc a b o i j):=by unfold Res Nc;rw[cg,cg,rR,rR];refine h.fin T.sa T.sb λx hx y hy=> ?_;obtain⟨k,h1,h2,rfl⟩:=jT hx;obtain⟨k',Qv,JD,rfl⟩:=jT hy;rw[show k'=a.size - 1 by lia];exact O.le (T.hl k h2)
theorem Ad (O:Ord less)(T:vB less a₀ a b){o:Array Keyed}{i j:Nat}(h:MI less a.toList b.toList o.toList i j)(hj:j<b.size)(hc:i<a.size ->LE less (cG b j) (cG a i)):MI less a.toList b.toList (o.push (cG b j)).toList i (j+1):=by have:=(h.swap.LM T.sb 1 λx hx y hy=>by rw[take1 hj] at hx;rw[ah.mp hx];obtain⟨k,h1,h2,rfl⟩:=jT hy;exact O.trans _ _ _ (hc (by lia)) (m8 O T.sa h1 h2)).swap;rw[take1 hj] at this;rwa [l5]
theorem Gu (O:Ord less)(T:vB less a₀ a b){o:Array Keyed}{i j:Nat}(h:MI less a.toList b.toList o.toList i j)(hi:i<a.size)(hc:j<b.size ->LE less (cG a i) (cG b j)):MI less a.toList b.toList (o.push (cG a i)).toList (i+1) j:=by
 have:=h.LM T.sa 1 λx hx y hy=>by rw[take1 hi] at hx;rw[ah.mp hx];obtain⟨k,h1,h2,rfl⟩:=jT hy;exact O.trans _ _ _ (hc (by lia)) (m8 O T.sb h1 h2)
 rw[take1 hi] at this;rwa [l5]
def Q1 (less:Keyed ->Keyed ->Bool)(a b:Array Keyed)(st:SortSt)(N:Nat)(r:ForInStep R7)(bB:SortSt):Prop:=(∃g,bB=cy st g) /\ ((∃x c,r= .done (some x,c) /\ Res less a b x) \/ (∃o i j c,(r= .done (none,o,i,j,c) \/ r= .yield (none,o,i,j,c)) /\ JL less a b o i j /\ N<=i+j))
theorem wp_p3L (O:Ord less)(T:vB less a₀ a b){st bB:SortSt}{mg ac bc N:Nat}{o:Array Keyed}{i j:Nat}(hg: ∃g,bB=cy st g)(J:JL less a b o i j)(hc:LE less (cG a i) (cG b j))(hN:N<=i+j):wpS (model prog w) A E s (VR a b mg ac bc o i j) (Q1 less a b st N) bB:=by
 unfold VR;have hi:=J.hi;refine az (wp_elem (by lia) ?_);have m:=Gu O T J.mi (by lia) λ_=>hc;by_cases c:i+1+1=a.size
 ·rw[ak (by simpa using c)];exact aF ⟨hg, .inl ⟨_,_,rfl,wj O T m c⟩⟩
 ·rw[aj (by simpa using c)];have J':JL less a b (o.push (cG a i)) (i+1) j:=⟨m,by lia,J.hj⟩
  split
  ·exact aF ⟨hg, .inr ⟨_,_,_,_, .inl rfl,J',by lia⟩⟩
  ·exact aF ⟨hg, .inr ⟨_,_,_,_, .inr rfl,J',by lia⟩⟩
theorem wp_p2L (O:Ord less)(L:jJ prog w A E s kd a₀ less)(T:vB less a₀ a b){st bB:SortSt}{mg ac bc N:Nat}{o:Array Keyed}{i j:Nat}(hk:kindOf bB=kd)(hg: ∃g,bB=cy st g)(J:JL less a b o i j)(hc:less (cG b j) (cG a i)=true)(hN:N<=i+j):wpS (model prog w) A E s (VT a b mg ac bc o i j) (Q1 less a b st N) bB:=by
 unfold VT;have hi:=J.hi;have hj:=J.hj;refine az (wp_elem hj ?_);have m:=Ad O T J.mi hj λ_=>O.le hc;by_cases c:j+1=b.size
 ·rw[ak (by simpa using c)];exact aF ⟨hg, .inl ⟨_,_,rfl,wo T m (.inl (by lia))⟩⟩
 ·rw [aj (by simpa using c)];refine az (wp_elem (by lia) ?_);refine az (wp_galL O L hk (T.ma i (by lia)) (λk hk=>⟨by lia,T.mb _ (by lia)⟩) (by lia) (v7 O T.sb (by lia)) λk h1 h2 h3=> ?_);dsimp only;by_cases ck:k >0
  ·rw[ak ck];have m2:MI less a.toList b.toList (o.push (cG b j)++b.extract (j+1) (j+1+k)).toList i (j+1+k):=by rw[cg,yT];refine(m.swap.LM T.sb k λx hx y hy=> ?_).swap;obtain⟨n,n1,n2,n3,rfl⟩:=vW hx;obtain⟨k',k1,k2,rfl⟩:=jT hy;have:=h2 (n - (j+1)) (by lia);rw[show j+1+(n - (j+1))=n by lia] at this;exact O.trans _ _ _ (O.le this) (m8 O T.sa k1 k2)
   by_cases c2:j+1+k=b.size
   ·rw[ak (by simpa using c2)];exact aF ⟨hg, .inl ⟨_,_,rfl,wo T m2 (.inl (by lia))⟩⟩
   ·rw[aj (by simpa using c2)];exact wp_p3L O T hg ⟨m2,hi,by lia⟩ (h3 k (aq _) (by lia)) (by lia)
  ·rw[aj ck];have:k=0:=by lia
   subst this;exact wp_p3L O T hg ⟨m,hi,by lia⟩ (h3 0 (aq _) (by lia)) (by lia)
theorem wp_p1L (O:Ord less)(L:jJ prog w A E s kd a₀ less)(T:vB less a₀ a b){st bB:SortSt}{mg ac bc N:Nat}{o:Array Keyed}{i j:Nat}(hk:kindOf st=kd)(hg: ∃g,bB=cy st g)(J:JL less a b o i j)(hN:N<=i+j):wpS (model prog w) A E s (Tw a b mg ac bc o i j) (Q1 less a b st N) bB:=by
 unfold Tw;have hi:=J.hi;have hj:=J.hj;refine az (fN ?_);have HV: ∃g,cy bB mg=cy st g:=by obtain⟨g,rfl⟩:=hg;exact⟨mg,rfl⟩
 have xC:kindOf (cy bB mg)=kd:=by obtain⟨g,rfl⟩:=hg;exact hk
 refine az (wp_elem hj ?_);refine az (wp_galR O L xC (T.mb j hj) (λk hk=>⟨by lia,T.ma _ (by lia)⟩) (by lia) (v7 O T.sa (by lia)) λk h1 h2 h3=> ?_);dsimp only;have Wm:i+k<a.size:=by
  by_cases c:i+k<a.size
  ·exact c
  ·have:=h2 (a.size - 1 - i) (by lia);rw[show i+(a.size - 1 - i)=a.size - 1 by lia] at this;unfold LE at this;rw[T.hl j hj] at this;cases this
 have Nx:=h3 k (aq _) (by lia);by_cases ck:k >0
 ·rw[ak ck];have m2:MI less a.toList b.toList (o++a.extract i (i+k)).toList (i+k) j:=by rw[cg,yT];refine J.mi.LM T.sa k λx hx y hy=> ?_;obtain⟨n,n1,n2,n3,rfl⟩:=vW hx;obtain⟨k',k1,k2,rfl⟩:=jT hy;have:=h2 (n - i) (by lia);rw[show i+(n - i)=n by lia] at this;exact O.trans _ _ _ this (m8 O T.sb k1 k2)
  by_cases c2:i+k+1=a.size
  ·rw[ak (by simpa using c2)];exact aF ⟨HV, .inl ⟨_,_,rfl,wj O T m2 c2⟩⟩
  ·rw[aj (by simpa using c2),aj (by simp;lia)];exact wp_p2L O L T xC HV ⟨m2,by lia,hj⟩ Nx (by lia)
 ·rw[aj ck];have:k=0:=by lia
  subst this;exact wp_p2L O L T xC HV J Nx hN
theorem wp_one1 (O:Ord less)(L:jJ prog w A E s kd a₀ less)(T:vB less a₀ a b){bB:SortSt}{mg ac bc:Nat}{o:Array Keyed}{i j:Nat}{Q:ForInStep R6 ->SortSt ->Prop}(hk:kindOf bB=kd)(J:JL less a b o i j) (h1: ∀x c,Res less a b x ->Q (.done (some x,c)) bB) (h2: ∀o i' j' c,JL less a b o i' j' ->i'+j'=i+j+1 ->Q (.done (none,o,i',j',c)) bB /\ Q (.yield (none,o,i',j',c)) bB): wpS (model prog w) A E s (Pg a b mg o i j ac bc) Q bB:=by
 unfold Pg;have hi:=J.hi;have hj:=J.hj;refine az (wp_elem hj (az (wp_elem (by lia) (az (L _ _ _ _ (T.mb j hj) (T.ma i (by lia)) hk ?_)))));dsimp only;cases e:less (cG b j) (cG a i) with
 | true=>
  simp only[bN];refine az (wp_elem hj ?_);have m:=Ad O T J.mi hj λ_=>O.le e;by_cases c:j+1=b.size
  ·rw[ak (by simpa using c)];exact aF (h1 _ _ (wo T m (.inl (by lia))))
  ·rw[aj (by simpa using c)];have:=h2 _ i (j+1) (0,bc+1) ⟨m,hi,by lia⟩ (by lia);split
   ·exact aF this.1
   ·exact aF this.2
 | false=>
  simp only[ay,bf];refine az (wp_elem (by lia) ?_);have m:=Gu O T J.mi (by lia) λ_=>e;by_cases c:i+1+1=a.size
  ·rw[ak (by simpa using c)];exact aF (h1 _ _ (wj O T m c))
  ·rw[aj (by simpa using c)];have:=h2 _ (i+1) j (ac+1,0) ⟨m,by lia,hj⟩ (by lia);split
   ·exact aF this.1
   ·exact aF this.2
theorem wp_mLo (O:Ord less)(L:jJ prog w A E s kd a₀ less)(T:vB less a₀ a b){st:SortSt}{Q:Array Keyed ->SortSt ->Prop}(hk:kindOf st=kd)(h: ∀r g,Res less a b r ->Q r (cy st g)):wpS (model prog w) A E s (V7 a b) Q st:=by
 rw[DB];have na:=T.na;have nb:=T.nb;refine az (Dd (gr ⟨rfl,?_⟩));refine az (wp_elem (by lia) ?_);have h': ∀r,Res less a b r ->Q r st:=λr hr=>h r (gallopOf st) hr;have m:MI less a.toList b.toList (#[cG b 0]:Array Keyed).toList 0 1:=by
  have m0:MI less a.toList b.toList (#[]:Array Keyed).toList 0 0:=⟨by simp,by simp,by simp,by simp⟩
  exact Ad O T m0 (by lia) λ_=>O.le T.h0
 by_cases c:1=b.size
 ·rw[ak (by simpa using c)];exact aF (h' _ (wo T m (.inl (by lia))))
 rw[aj (by simpa using c)];by_cases c2:0+1=a.size
 ·rw[ak (by simpa using c2)];exact aF (h' _ (wj O T m c2))
 rw[aj (by simpa using c2)];refine az (mY ?_);refine az (fm (cB (I:=λn c bB=>(∃g,bB=cy st g) /\ ∃o i j mg,c=(none,o,i,j,mg) /\ JL less a b o i j /\ n+1<=i+j) (Q:=λc bB=>(∃g,bB=cy st g) /\ ∃x d,c=(some x,d) /\ Res less a b x) ?_ ?_ ⟨⟨gallopOf st,rfl⟩,_,0,1,_,rfl,⟨m,by lia,by lia⟩,by lia⟩) ?_)
 ·rintro n c bB _ hn ⟨hg,o,i,j,mg,rfl,J,hN⟩;unfold Tz;dsimp only;have xC:kindOf bB=kd:=by obtain⟨g,rfl⟩:=hg;exact hk
  refine az (fm (cB (I:=λx c ox=>ox=bB /\ ∃o' i' j' d,c=(none,o',i',j',d) /\ JL less a b o' i' j' /\ i'+j'=i+j+x) (Q:=λc ox=>ox=bB /\ ((∃x d,c=(some x,d) /\ Res less a b x) \/ ∃o' i' j' d,c=(none,o',i',j',d) /\ JL less a b o' i' j' /\ i+j+1<=i'+j')) ?_ ?_ ⟨rfl,o,i,j,_,rfl,J,rfl⟩) ?_)
  ·rintro x c ox _ hx ⟨rfl,o',i',j',⟨ac,bc⟩,rfl,J',Qr⟩;dsimp only;refine wp_one1 O L T xC J' (λx c hr=>⟨rfl, .inl ⟨x,c,rfl,hr⟩⟩) λo2 i2 j2 c J2 h2=>⟨⟨rfl, .inr ⟨o2,i2,j2,c,rfl,J2,by lia⟩⟩,⟨rfl,o2,i2,j2,c,rfl,J2,by lia⟩⟩
  ·rintro c ox ⟨rfl,o',i',j',d,rfl,J',Qr⟩;exact⟨rfl, .inr ⟨o',i',j',d,rfl,J',by lia⟩⟩
  ·rintro c ox ⟨rfl,⟨x,d,rfl,hr⟩ | ⟨o',i',j',⟨ac,bc⟩,rfl,J',Qr⟩⟩
   ·exact aF ⟨hg,x,_,rfl,hr⟩
   ·dsimp only;refine az (Dd (gr ⟨rfl,?_⟩));refine az (fm (cB (I:=λx c qB=>(∃g,qB=cy st g) /\ ∃o' i' j' d,c=(none,o',i',j',d) /\ JL less a b o' i' j' /\ i+j+1<=i'+j') (Q:=λc qB=>(∃g,qB=cy st g) /\ ((∃x d,c=(some x,d) /\ Res less a b x) \/ ∃o' i' j' d,c=(none,o',i',j',d) /\ JL less a b o' i' j' /\ i+j+1<=i'+j')) ?_ ?_ ⟨hg,o',i',j',_,rfl,J',Qr⟩) ?_)
    ·rintro x c qB _ hx ⟨DX,o3,i3,j3,⟨XY,ac3,bc3⟩,rfl,J3,NJ⟩;dsimp only;split;all_goals
      refine fm (wp_p1L O L T hk DX J3 NJ) ?_
      rintro r gA ⟨Qg,⟨x,c,rfl,hr⟩ | ⟨o,i,j,c,rfl | rfl,J4,h4⟩⟩
      ·exact⟨Qg, .inl ⟨x,c,rfl,hr⟩⟩
      ·exact⟨Qg, .inr ⟨o,i,j,c,rfl,J4,h4⟩⟩
      ·exact⟨Qg,o,i,j,c,rfl,J4,h4⟩
    ·rintro c qB ⟨DX,o3,i3,j3,d,rfl,J3,NJ⟩;exact⟨DX, .inr ⟨o3,i3,j3,d,rfl,J3,NJ⟩⟩
    ·rintro c qB ⟨DX,⟨x,d,rfl,hr⟩ | ⟨o3,i3,j3,⟨XY,ac3,bc3⟩,rfl,J3,NJ⟩⟩
     ·exact aF ⟨DX,x,_,rfl,hr⟩
     ·dsimp only;refine az (fN (aF ⟨?_,o3,i3,j3,_,rfl,J3,by lia⟩));obtain⟨g,rfl⟩:=DX;exact⟨_,rfl⟩
 ·rintro c bB ⟨hg,o,i,j,mg,rfl,J,hN⟩;have:=J.hi;have:=J.hj;lia
 ·rintro c bB ⟨⟨g,rfl⟩,x,d,rfl,hr⟩;exact aF (h x g hr)
end
theorem uA {xs:Array Keyed}{i:Nat}{y:Keyed}(h:y∈xs.toList.take i): ∃n,n<i /\ n<xs.size /\ y=cG xs n:=by
 obtain⟨n,hn⟩:=bA.mp h;rw[lq] at hn;split at hn
 ·have hl:=(ag.mp hn).1;have sX:n<xs.size:=by simpa using hl
  rw[iK sX] at hn;exact⟨n,by lia,sX,(br hn).symm⟩
 ·cases hn
theorem Bk {xs:Array Keyed}{i k:Nat}{y:Keyed}(h:y∈(xs.toList.take i).drop k): ∃n,k<=n /\ n<i /\ n<xs.size /\ y=cG xs n:=by rw[lr] at h;obtain⟨n,h1,h2,h3,e⟩:=vW h;exact⟨n,h1,by lia,h3,e⟩
theorem VM {xs:Array Keyed}{i:Nat}(h0:1<=i)(h:i<=xs.size):(xs.toList.take i).drop (i - 1)= [cG xs (i - 1)]:=by rw[lr,show i - (i - 1)=1 by lia,take1 (by lia)]
theorem nS (xs:Array Keyed)(k i:Nat):(xs.extract k i).toList=(xs.toList.take i).drop k:=by rw[qY,lH,lr]
theorem Cz (xs:Array Keyed)(i:Nat):(xs.extract 0 i).toList=xs.toList.take i:=by rw[nS,List.drop_zero]
section
variable {prog:Program}{w:World}{A:Around}{E:Value ->Shared ->Prop}{s:Shared}{kd:SortKind}{a₀:Array Keyed}{less:Keyed ->Keyed ->Bool}
structure JH (less:Keyed ->Keyed ->Bool)(a b o:Array Keyed)(i j:Nat):Prop where
 mi:MH less a.toList b.toList o.toList.reverse i j
 hi:1<=i
 hj:2<=j
 ia:i<=a.size
 jb:j<=b.size
variable {a b:Array Keyed}
theorem oI (T:vB less a₀ a b){o:Array Keyed}{i j:Nat}(h:MH less a.toList b.toList o.toList.reverse i j)(hj:i=0 \/ j=0):Res less a b (AU a b o i j):=by
 unfold Res AU;rw[cg,cg,Cz,Cz,qX];refine h.fin T.sa T.sb λx hx y hy=> ?_;rcases hj with hj | hj
 ·subst hj;simp at hx
 ·subst hj;simp at hy
theorem rJ (O:Ord less)(T:vB less a₀ a b){o:Array Keyed}{i j:Nat}(h:MH less a.toList b.toList o.toList.reverse i j)(hj:j=1):Res less a b (NN a b o i j):=by
 unfold Res NN;rw[cg,cg,Cz,Cz,qX];have:=h.swap.fin T.sb T.sa λx hx y hy=>by obtain⟨n,n1,n2,rfl⟩:=uA hx;obtain⟨k,k1,k2,rfl⟩:=uA hy;rw[show n=0 by lia];exact O.trans _ _ _ (O.le T.h0) (m8 O T.sa (cU _) k2)
 exact⟨this.1.trans dJ,this.2⟩
theorem wy (O:Ord less)(T:vB less a₀ a b){o:Array Keyed}{i j:Nat}(h:MH less a.toList b.toList o.toList.reverse i j)(h1:1<=i)(hi:i<=a.size)(hj:j<=b.size)(hc:1<=j ->LE less (cG b (j - 1)) (cG a (i - 1))):MH less a.toList b.toList (o.push (cG a (i - 1))).toList.reverse (i - 1) j:=by
 have:=h.LM T.sa (k:=i - 1) (by lia) λx hx y hy=>by rw[VM h1 hi] at hx;rw[ah.mp hx];obtain⟨k,k1,k2,rfl⟩:=uA hy;exact O.trans _ _ _ (m8 O T.sb (show k<=j - 1 by lia) (by lia)) (hc (by lia))
 rw[VM h1 hi] at this;rw[l5,rV];exact this
theorem BI (O:Ord less)(T:vB less a₀ a b){o:Array Keyed}{i j:Nat}(h:MH less a.toList b.toList o.toList.reverse i j)(h1:1<=j)(hi:i<=a.size)(hj:j<=b.size)(hc:1<=i ->LE less (cG a (i - 1)) (cG b (j - 1))):MH less a.toList b.toList (o.push (cG b (j - 1))).toList.reverse i (j - 1):=by have:=(h.swap.LM T.sb (k:=j - 1) (by lia) λx hx y hy=>by rw[VM h1 hj] at hx;rw[ah.mp hx];obtain⟨k,k1,k2,rfl⟩:=uA hy;exact O.trans _ _ _ (m8 O T.sa (show k<=i - 1 by lia) (by lia)) (hc (by lia))).swap;rw[VM h1 hj] at this;rw[l5,rV];exact this
theorem BE (o x:Array Keyed):(o++x.reverse).toList.reverse=x.toList++o.toList.reverse:=by rw[cg,qX,rV,List.reverse_reverse]
def Q0 (less:Keyed ->Keyed ->Bool)(a b:Array Keyed)(st:SortSt)(N:Nat)(r:ForInStep S7)(bB:SortSt):Prop:=(∃g,bB=cy st g) /\ ((∃x c,r= .done (some x,c) /\ Res less a b x) \/ (∃i j o c,(r= .done (none,i,j,o,c) \/ r= .yield (none,i,j,o,c)) /\ JH less a b o i j /\ i+j<=N))
theorem wp_p3H (O:Ord less)(T:vB less a₀ a b){st bB:SortSt}{mg ac bc N:Nat}{o:Array Keyed}{i j:Nat}(hg: ∃g,bB=cy st g)(J:JH less a b o i j)(hc:LE less (cG b (j - 1)) (cG a (i - 1)))(hN:i+j<=N):wpS (model prog w) A E s (VS a b mg ac bc i j o) (Q0 less a b st N) bB:=by
 unfold VS;have hi:=J.hi;have ia:=J.ia;refine az (wp_elem (by lia) ?_);have m:=wy O T J.mi J.hi J.ia J.jb λ_=>hc;by_cases c:i - 1=0
 ·rw[ak (by simpa using c)];exact aF ⟨hg, .inl ⟨_,_,rfl,oI T m (.inl c)⟩⟩
 ·rw[aj (by simpa using c)];have J':JH less a b (o.push (cG a (i - 1))) (i - 1) j:=⟨m,by lia,J.hj,by lia,J.jb⟩
  split
  ·exact aF ⟨hg, .inr ⟨_,_,_,_, .inl rfl,J',by lia⟩⟩
  ·exact aF ⟨hg, .inr ⟨_,_,_,_, .inr rfl,J',by lia⟩⟩
theorem wp_p2H (O:Ord less)(L:jJ prog w A E s kd a₀ less)(T:vB less a₀ a b){st bB:SortSt}{mg ac bc N:Nat}{o:Array Keyed}{i j:Nat}(hk:kindOf bB=kd)(hg: ∃g,bB=cy st g)(J:JH less a b o i j)(hc:LE less (cG a (i - 1)) (cG b (j - 1)))(hN:i+j<=N):wpS (model prog w) A E s (VU a b mg ac bc i j o) (Q0 less a b st N) bB:=by
 unfold VU;have hi:=J.hi;have hj:=J.hj;have ia:=J.ia;have jb:=J.jb;refine az (wp_elem (by lia) ?_);have m:=BI O T J.mi (by lia) ia jb λ_=>hc;by_cases c:j - 1=1
 ·rw[ak (by simpa using c)];exact aF ⟨hg, .inl ⟨_,_,rfl,rJ O T m c⟩⟩
 ·rw [aj (by simpa using c)];refine az (wp_elem (by lia) ?_);have sg:=v7 O T.sb (i:=0) (n:=j - 1) (by lia);refine az (wp_galL O L hk (T.ma (i - 1) (by lia)) (λk hk=>⟨by lia,T.mb _ (by lia)⟩) (by lia) sg λk h1 h2 h3=> ?_);dsimp only;simp only[Nat.zero_add] at h2 h3;by_cases ck:j - 1 - k >0
  ·rw[ak ck];have m2:MH less a.toList b.toList (o.push (cG b (j - 1))++(b.extract k (j - 1)).reverse).toList.reverse i k:=by rw[BE,nS];refine(m.swap.LM T.sb (by lia) λx hx y hy=> ?_).swap;obtain⟨n,n1,n2,n3,rfl⟩:=Bk hx;obtain⟨k',k1,k2,rfl⟩:=uA hy;exact O.trans _ _ _ (m8 O T.sa (show k'<=i - 1 by lia) (by lia)) (h3 n n1 n2)
   by_cases c2:k=1
   ·rw[ak (by simpa using c2)];exact aF ⟨hg, .inl ⟨_,_,rfl,rJ O T m2 c2⟩⟩
   rw[aj (by simpa using c2)];by_cases c3:k=0
   ·rw[ak (by simpa using c3)];exact aF ⟨hg, .inl ⟨_,_,rfl,oI T m2 (.inr c3)⟩⟩
   ·rw[aj (by simpa using c3)];exact wp_p3H O T hg ⟨m2,hi,by lia,ia,by lia⟩ (O.le (h2 (k - 1) (by lia))) (by lia)
  ·rw[aj ck];exact wp_p3H O T hg ⟨m,hi,by lia,ia,by lia⟩ (O.le (h2 (j - 1 - 1) (by lia))) (by lia)
theorem wp_p1H (O:Ord less)(L:jJ prog w A E s kd a₀ less)(T:vB less a₀ a b){st bB:SortSt}{mg ac bc N:Nat}{o:Array Keyed}{i j:Nat}(hk:kindOf st=kd)(hg: ∃g,bB=cy st g)(J:JH less a b o i j)(hN:i+j<=N):wpS (model prog w) A E s (Tx a b mg ac bc i j o) (Q0 less a b st N) bB:=by
 unfold Tx;have hi:=J.hi;have hj:=J.hj;have ia:=J.ia;have jb:=J.jb;refine az (fN ?_);have HV: ∃g,cy bB mg=cy st g:=by obtain⟨g,rfl⟩:=hg;exact⟨mg,rfl⟩
 have xC:kindOf (cy bB mg)=kd:=by obtain⟨g,rfl⟩:=hg;exact hk
 refine az (wp_elem (by lia) ?_);have sg:=v7 O T.sa (i:=0) (n:=i) (by lia);refine az (wp_galR O L xC (T.mb (j - 1) (by lia)) (λk hk=>⟨by lia,T.ma _ (by lia)⟩) (by lia) sg λk h1 h2 h3=> ?_);dsimp only;simp only[Nat.zero_add] at h2 h3;by_cases ck:i - k >0
 ·rw[ak ck];have m2:MH less a.toList b.toList (o++(a.extract k i).reverse).toList.reverse k j:=by rw[BE,nS];refine J.mi.LM T.sa (by lia) λx hx y hy=> ?_;obtain⟨n,n1,n2,n3,rfl⟩:=Bk hx;obtain⟨k',k1,k2,rfl⟩:=uA hy;exact O.trans _ _ _ (m8 O T.sb (show k'<=j - 1 by lia) (by lia)) (O.le (h3 n n1 n2))
  by_cases c2:k=0
  ·rw[ak (by simpa using c2)];exact aF ⟨HV, .inl ⟨_,_,rfl,oI T m2 (.inl c2)⟩⟩
  ·rw[aj (by simpa using c2)];exact wp_p2H O L T xC HV ⟨m2,by lia,hj,by lia,jb⟩ (h2 (k - 1) (by lia)) (by lia)
 ·rw[aj ck];exact wp_p2H O L T xC HV J (h2 (i - 1) (by lia)) hN
theorem wp_two1 (O:Ord less)(L:jJ prog w A E s kd a₀ less)(T:vB less a₀ a b){bB:SortSt}{mg ac bc:Nat}{o:Array Keyed}{i j:Nat}{Q:ForInStep (Option (Array Keyed)×Nat×Nat×Array Keyed×Nat×Nat) ->SortSt ->Prop}(hk:kindOf bB=kd)(J:JH less a b o i j) (h1: ∀x c,Res less a b x ->Q (.done (some x,c)) bB) (h2: ∀i' j' o c,JH less a b o i' j' ->i'+j'+1=i+j ->Q (.done (none,i',j',o,c)) bB /\ Q (.yield (none,i',j',o,c)) bB): wpS (model prog w) A E s (OB a b mg i j o ac bc) Q bB:=by
 unfold OB;have hi:=J.hi;have hj:=J.hj;have ia:=J.ia;have jb:=J.jb;refine az (wp_elem (by lia) (az (wp_elem (by lia) (az (L _ _ _ _ (T.mb (j - 1) (by lia)) (T.ma (i - 1) (by lia)) hk ?_)))));dsimp only;cases e:less (cG b (j - 1)) (cG a (i - 1)) with
 | true=>
  simp only[bN];refine az (wp_elem (by lia) ?_);have m:=wy O T J.mi hi ia jb λ_=>O.le e;by_cases c:i - 1=0
  ·rw[ak (by simpa using c)];exact aF (h1 _ _ (oI T m (.inl c)))
  ·rw[aj (by simpa using c)];have:=h2 (i - 1) j _ (ac+1,0) ⟨m,by lia,hj,by lia,jb⟩ (by lia);split
   ·exact aF this.1
   ·exact aF this.2
 | false=>
  simp only[ay,bf];refine az (wp_elem (by lia) ?_);have m:=BI O T J.mi (by lia) ia jb λ_=>e;by_cases c:j - 1=1
  ·rw[ak (by simpa using c)];exact aF (h1 _ _ (rJ O T m c))
  ·rw[aj (by simpa using c)];have:=h2 i (j - 1) _ (0,bc+1) ⟨m,hi,by lia,ia,by lia⟩ (by lia);split
   ·exact aF this.1
   ·exact aF this.2
theorem wp_mHi (O:Ord less)(L:jJ prog w A E s kd a₀ less)(T:vB less a₀ a b){st:SortSt}{Q:Array Keyed ->SortSt ->Prop}(hk:kindOf st=kd)(h: ∀r g,Res less a b r ->Q r (cy st g)):wpS (model prog w) A E s (V8 a b) Q st:=by
 rw[DD];have na:=T.na;have nb:=T.nb;refine az (Dd (gr ⟨rfl,?_⟩));refine az (wp_elem (by lia) ?_);have h': ∀r,Res less a b r ->Q r st:=λr hr=>h r (gallopOf st) hr;have m:MH less a.toList b.toList (#[cG a (a.size - 1)]:Array Keyed).toList.reverse (a.size - 1) b.size:=by
  have m0:MH less a.toList b.toList (#[]:Array Keyed).toList.reverse a.size b.size:=⟨by simp,by simp,by simp,by simp⟩
  exact wy O T m0 (by lia) (aq _) (aq _) λ_=>O.le (T.hl _ (by lia))
 by_cases c:a.size - 1=0
 ·rw[ak (by simpa using c)];exact aF (h' _ (oI T m (.inl c)))
 rw[aj (by simpa using c)];by_cases c2:b.size=1
 ·rw[ak (by simpa using c2)];exact aF (h' _ (rJ O T m c2))
 rw[aj (by simpa using c2)];refine az (mY ?_);refine az (fm (cB (I:=λn c bB=>(∃g,bB=cy st g) /\ ∃i j o mg,c=(none,i,j,o,mg) /\ JH less a b o i j /\ i+j+n<a.size+b.size) (Q:=λc bB=>(∃g,bB=cy st g) /\ ∃x d,c=(some x,d) /\ Res less a b x) ?_ ?_ ⟨⟨gallopOf st,rfl⟩,_,_,_,_,rfl,⟨m,by lia,by lia,by lia,by lia⟩,by lia⟩) ?_)
 ·rintro n c bB _ hn ⟨hg,i,j,o,mg,rfl,J,hN⟩;unfold KJ;dsimp only;have xC:kindOf bB=kd:=by obtain⟨g,rfl⟩:=hg;exact hk
  refine az (fm (cB (I:=λx c ox=>ox=bB /\ ∃i' j' o' d,c=(none,i',j',o',d) /\ JH less a b o' i' j' /\ i'+j'+x=i+j) (Q:=λc ox=>ox=bB /\ ((∃x d,c=(some x,d) /\ Res less a b x) \/ ∃i' j' o' d,c=(none,i',j',o',d) /\ JH less a b o' i' j' /\ i'+j'+1<=i+j)) ?_ ?_ ⟨rfl,i,j,o,_,rfl,J,rfl⟩) ?_)
  ·rintro x c ox _ hx ⟨rfl,i',j',o',⟨ac,bc⟩,rfl,J',Qr⟩;dsimp only;refine wp_two1 O L T xC J' (λx c hr=>⟨rfl, .inl ⟨x,c,rfl,hr⟩⟩) λi2 j2 o2 c J2 h2=>⟨⟨rfl, .inr ⟨i2,j2,o2,c,rfl,J2,by lia⟩⟩,⟨rfl,i2,j2,o2,c,rfl,J2,by lia⟩⟩
  ·rintro c ox ⟨rfl,i',j',o',d,rfl,J',Qr⟩;exact⟨rfl, .inr ⟨i',j',o',d,rfl,J',by lia⟩⟩
  ·rintro c ox ⟨rfl,⟨x,d,rfl,hr⟩ | ⟨i',j',o',⟨ac,bc⟩,rfl,J',Qr⟩⟩
   ·exact aF ⟨hg,x,_,rfl,hr⟩
   ·dsimp only;refine az (Dd (gr ⟨rfl,?_⟩));refine az (fm (cB (I:=λx c qB=>(∃g,qB=cy st g) /\ ∃i' j' o' d,c=(none,i',j',o',d) /\ JH less a b o' i' j' /\ i'+j'+1<=i+j) (Q:=λc qB=>(∃g,qB=cy st g) /\ ((∃x d,c=(some x,d) /\ Res less a b x) \/ ∃i' j' o' d,c=(none,i',j',o',d) /\ JH less a b o' i' j' /\ i'+j'+1<=i+j)) ?_ ?_ ⟨hg,i',j',o',_,rfl,J',Qr⟩) ?_)
    ·rintro x c qB _ hx ⟨DX,i3,j3,o3,⟨XY,ac3,bc3⟩,rfl,J3,NJ⟩;dsimp only;split;all_goals
      refine fm (wp_p1H O L T (N:=i+j - 1) hk DX J3 (by lia)) ?_
      rintro r gA ⟨Qg,⟨x,c,rfl,hr⟩ | ⟨i4,j4,o4,c,rfl | rfl,J4,h4⟩⟩
      ·exact⟨Qg, .inl ⟨x,c,rfl,hr⟩⟩
      ·exact⟨Qg, .inr ⟨i4,j4,o4,c,rfl,J4,by lia⟩⟩
      ·exact⟨Qg,i4,j4,o4,c,rfl,J4,by lia⟩
    ·rintro c qB ⟨DX,i3,j3,o3,d,rfl,J3,NJ⟩;exact⟨DX, .inr ⟨i3,j3,o3,d,rfl,J3,NJ⟩⟩
    ·rintro c qB ⟨DX,⟨x,d,rfl,hr⟩ | ⟨i3,j3,o3,⟨XY,ac3,bc3⟩,rfl,J3,NJ⟩⟩
     ·exact aF ⟨DX,x,_,rfl,hr⟩
     ·dsimp only;refine az (fN (aF ⟨?_,i3,j3,o3,_,rfl,J3,by lia⟩));obtain⟨g,rfl⟩:=DX;exact⟨_,rfl⟩
 ·rintro c bB ⟨hg,i,j,o,mg,rfl,J,hN⟩;have:=J.hi;have:=J.hj;lia
 ·rintro c bB ⟨⟨g,rfl⟩,x,d,rfl,hr⟩;exact aF (h x g hr)
end
def A8 (xs:Array Keyed)(at_:Nat)(l:List (Keyed×Nat)):Array Keyed:=l.foldl (λa (p,j)=>a.setIfInBounds (at_+j) p) xs
theorem zI (at_ n:Nat): ∀ (ms:List Keyed) (k:Nat) (xs:Array Keyed),at_+k+ms.length<=xs.size ->(A8 xs at_ (ms.zipIdx k))[n]? =if at_+k<=n /\ n<at_+k+ms.length then ms[n - (at_+k)]? else xs[n]?
 | [],k,xs,h=>by rw[aj (by simp)];rfl
 | p ::ms,k,xs,h=>by
  rw[aG] at h;show(A8 (xs.setIfInBounds (at_+k) p) at_ (ms.zipIdx (k+1)))[n]? =_;rw[zI at_ n ms (k+1) _ (by rw[Array.size_setIfInBounds];lia)];rw[aG];by_cases c:n=at_+k
  ·subst c;rw[aj (by lia),ak (by lia),Array.getElem?_setIfInBounds_self_of_lt (by lia)];simp
  ·rw[Array.getElem?_setIfInBounds_ne (a5 c)];by_cases c2:at_+(k+1) <=n /\ n<at_+(k+1)+ms.length
   ·rw[ak c2,ak (by lia),show n - (at_+k)=(n - (at_+(k+1)))+1 by lia,d8]
   ·rw[aj c2,aj (by lia)]
theorem Fb {xs:Array Keyed}{at_:Nat}{ms:List Keyed}(h:at_+ms.length<=xs.size):(A8 xs at_ ms.zipIdx).toList=xs.toList.take at_++(ms++xs.toList.drop (at_+ms.length)):=by
 apply List.ext_getElem?;intro n;have e:=zI at_ n ms 0 xs (by lia);rw[n9] at e;have e':(A8 xs at_ ms.zipIdx).toList[n]? =(A8 xs at_ ms.zipIdx)[n]? :=by simp
 rw[e',e];have hx: ∀k:Nat,xs.toList[k]? =xs[k]? :=λk=>gk ..;by_cases c1:n<at_
 ·rw[aj (by lia),a9 (by rw[a6];simp;lia),lq,ak c1,hx]
 ·have lt:(xs.toList.take at_).length=at_:=by rw[a6];simp;lia
  rw[aU (by lia),lt];by_cases c2:n<at_+ms.length
  ·rw[ak (by lia),a9 (by lia)]
  ·rw[aj (by lia),aU (by lia),dQ,hx];congr 1;lia
theorem three (l:List Keyed)(i j k:Nat)(iu:i<=j)(hjk:j<=k)(hk:k<=l.length):l=l.take i++((l.take j).drop i++((l.take k).drop j++l.drop k)):=by
 have e1:(l.take k).drop j++l.drop k=l.drop j:=by rw[lr];have:=a8 (k - j) (l.drop j);rw[C5,show j+(k - j)=k by lia] at this;exact this
 have e2:(l.take j).drop i++l.drop j=l.drop i:=by rw[lr];have:=a8 (j - i) (l.drop i);rw[C5,show i+(j - i)=j by lia] at this;exact this
 rw[e1,e2,a8]
theorem Il {less:Keyed ->Keyed ->Bool}(O:Ord less){xs:Array Keyed}{i j lo hi:Nat}(h:Sg less xs lo hi)(h1:lo<=i)(h2:j<=hi)(h3:hi<=xs.size):(xs.extract i j).toList.Pairwise (LE less):=by
 rw[bj];intro x y hx hy hxy;have e: ∀n (hn:n< (xs.extract i j).toList.length),(xs.extract i j).toList[n]=cG xs (i+n):=λn hn=>by
  have P9:n< (xs.extract i j).size:=by rw[cT] at hn;exact hn
  rw[iG] at P9;unfold cG;rw[JE xs (i+n) (by lia)];simp
 rw[e x hx,e y hy];have Ro:y< (xs.extract i j).size:=by rw[cT] at hy;exact hy
 rw[iG] at Ro;exact h _ _ (by lia) (by lia) (by lia)
theorem mM {xs:Array Keyed}{i j n:Nat}(h:n< (xs.extract i j).size):cG (xs.extract i j) n=cG xs (i+n):=by unfold cG;rw[iG] at h;rw[Array.getElem?_extract,ak (by lia)]
section
variable {prog:Program}{w:World}{A:Around}{E:Value ->Shared ->Prop}{s:Shared}{kd:SortKind}{a₀:Array Keyed}{less:Keyed ->Keyed ->Bool}
abbrev Rn:=Nat×Nat×Nat
theorem Pz (i:Nat):mergeAt' i=(do
 let s <- get
 let (some (sa,na,pw),some (sb,nb,_)):=((pendingOf s)[i]?,(pendingOf s)[i+1]?) | unsupported "internal:list.sort.pending"
 set (setPending s (((pendingOf s).setIfInBounds i (sa,na+nb,pw)).eraseIdxIfInBounds (i+1)))
 let some k <- xD false (<- elem' (arrOf s) sb) (arrOf s) sa na 0 | return false
 let (sa,na):=(sa+k,na - k)
 if na==0 then return true
 let some nb <- xD true (<- elem' (arrOf s) (sa+na - 1)) (arrOf s) sb nb (nb - 1) | return false
 if nb==0 then return true
 let x:=(arrOf s).extract sa sb
 let y:=(arrOf s).extract sb (sb+nb)
 let r <- if na<=nb then V7 x y else V8 x y
 modify λs=>setArr s (A8 (arrOf s) sa r.toList.zipIdx)
 return(failedOf (<- get)).isNone):=rfl
theorem J0 {σ:Type}{M:Model}{v:σ}{Q:PUnit ->σ ->Prop}{st:σ}(h:Q ⟨⟩ v):wpS M A E s (set v:StateT σ Sem PUnit) Q st:=by unfold wpS;rw[StateT.run_set];exact aM ⟨rfl,h⟩
theorem wp_mAt (O:Ord less)(L:jJ prog w A E s kd a₀ less){st:SortSt}{Q:Bool ->SortSt ->Prop}{l1 l2:List Rn}{sa na pw sb nb Xs i:Nat}(B:SB kd a₀ st)(hp:pendingOf st=(l1++(sa,na,pw)::(sb,nb,Xs)::l2).toArray)(hi:i=l1.length) (Ut:sb=sa+na) (h1:1<=na) (h2:1<=nb) (hz:sb+nb<=a₀.size) (s1:Sg less (arrOf st) sa sb) (s2:Sg less (arrOf st) sb (sb+nb)) (h: ∀bB,SB kd a₀ bB ->pendingOf bB=(l1++(sa,na+nb,pw)::l2).toArray ->Sg less (arrOf bB) sa (sb+nb) ->Out sa (sb+nb) (arrOf st) (arrOf bB) ->Q true bB):wpS (model prog w) A E s (mergeAt' i) Q st:=by
 subst hi;rw[Pz];refine az (mY ?_);have p1:(pendingOf st)[l1.length]? =some (sa,na,pw):=by rw[hp];simp
 have p2:(pendingOf st)[l1.length+1]? =some (sb,nb,Xs):=by rw[hp];simp[aU]
 rw[p1,p2];dsimp only;refine az (J0 ?_);have hpd:((pendingOf st).setIfInBounds l1.length (sa,na+nb,pw)).eraseIdxIfInBounds (l1.length+1)=(l1++(sa,na+nb,pw)::l2).toArray:=by rw[hp];simp only[List.setIfInBounds_toArray,List.eraseIdxIfInBounds_toArray];congr 1;rw[List.set_append_right _ _ (aq _),JP,List.set_cons_zero];rw[List.eraseIdx_append_of_length_le (by lia),show l1.length+1 - l1.length=1 by lia];rfl
 rw[hpd];let Dk:SortSt:=setPending st (l1++(sa,na+nb,pw)::l2).toArray
 have B1:SB kd a₀ Dk:=⟨B.perm,B.kd,B.fl⟩
 have hsz:=B.size;show wpS _ _ _ _ _ Q Dk;refine az (wp_elem (by lia) ?_);refine az (wp_galR O L B.kd (B.mem (by lia)) (λk hk=>⟨by lia,B.mem (by lia)⟩) (by lia) (by rw[<- Ut];exact s1) λk g1 g2 g3=> ?_);dsimp only;by_cases c1:na - k=0
 ·rw [ak (by simpa using c1)];refine aF (h Dk B1 rfl (λi j hi iu hj=> ?_) Out.refl);show LE less (cG (arrOf st) i) (cG (arrOf st) j);by_cases c2:j<sb
  ·exact s1 i j hi iu c2
  ·by_cases c3:sb<=i
   ·exact s2 i j c3 iu hj
   ·have:=g2 (i - sa) (by lia);rw[show sa+(i - sa)=i by lia] at this;exact O.trans _ _ _ this (s2 sb j (aq _) (by lia) hj)
 ·rw [aj (by simpa using c1)];refine az (wp_elem (by lia) ?_);rw[show sa+k+(na - k) - 1=sb - 1 by lia];refine az (wp_galL O L B.kd (B.mem (by lia)) (λk hk=>⟨by lia,B.mem (by lia)⟩) (by lia) s2 λm f1 f2 f3=> ?_);dsimp only;by_cases c2:m=0
  ·rw [ak (by simpa using c2)];refine aF (h Dk B1 rfl (λi j hi iu hj=> ?_) Out.refl);show LE less (cG (arrOf st) i) (cG (arrOf st) j);by_cases c2:j<sb
   ·exact s1 i j hi iu c2
   ·by_cases c3:sb<=i
    ·exact s2 i j c3 iu hj
    ·have:=f3 (j - sb) (by lia) (by lia);rw[show sb+(j - sb)=j by lia] at this;exact O.trans _ _ _ (s1 i (sb - 1) hi (by lia) (by lia)) this
  ·rw [aj (by simpa using c2)];have Nk:((arrOf st).extract (sa+k) sb).size=na - k:=by rw[iG];lia
   have HF:((arrOf st).extract sb (sb+m)).size=m:=by rw[iG];lia
   have T:vB less a₀ ((arrOf st).extract (sa+k) sb) ((arrOf st).extract sb (sb+m)):=by
    refine⟨Il O s1 (by lia) (aq _) (by lia),Il O s2 (aq _) (by lia) (by lia),λi hi=> ?_,λi hi=> ?_,by lia,by lia,?_,λj hj=> ?_⟩
    ·rw[mM hi];rw[Nk] at hi;exact B.mem (by lia)
    ·rw[mM hi];rw[HF] at hi;exact B.mem (by lia)
    ·rw[mM (by lia),mM (by lia)];exact g3 k (aq _) (by lia)
    ·rw[mM hj,mM (by lia)];rw[HF] at hj;rw[Nk,show sa+k+(na - k - 1)=sb - 1 by lia];exact f2 j hj
   have fin : ∀ (r:Array Keyed) (g:Nat),Res less ((arrOf st).extract (sa+k) sb) ((arrOf st).extract sb (sb+m)) r ->wpS (model prog w) A E s (do modify λs=>setArr s (A8 (arrOf s) (sa+k) r.toList.zipIdx);return(failedOf (<- get)).isNone) Q (cy Dk g):=by
    rintro r g ⟨rp,rs⟩;have rl:r.toList.length=sb+m - (sa+k):=by
     rw[rp.length_eq,aL];have e1:((arrOf st).extract (sa+k) sb).toList.length=na - k:=by rw[cT];exact Nk
     have e2:((arrOf st).extract sb (sb+m)).toList.length=m:=by rw[cT];exact HF
     rw[e1,e2];lia
    have wl:=Fb (xs:=arrOf st) (at_:=sa+k) (ms:=r.toList) (by rw[rl,hsz];lia);rw[rl,show sa+k+(sb+m - (sa+k))=sb+m by lia] at wl;have wa: ∀n,cG (A8 (arrOf st) (sa+k) r.toList.zipIdx) n=if sa+k<=n /\ n<sb+m then(r.toList[n - (sa+k)]?).getD (.none, .none) else cG (arrOf st) n:=λn=>by have e:=zI (sa+k) n r.toList 0 (arrOf st) (by rw[rl,hsz];lia);rw[n9,rl,show sa+k+(sb+m - (sa+k))=sb+m by lia] at e;unfold cG;rw[e];split<;>rfl
    have wm: ∀n,sa+k<=n ->n<sb+m -> ∃n',sa+k<=n' /\ n'<sb+m /\ cG (A8 (arrOf st) (sa+k) r.toList.zipIdx) n=cG (arrOf st) n':=λn n1 n2=>by
     rw[wa,ak ⟨n1,n2⟩,ae (by lia)];have hm:=rp.mem_iff.mp (bW (l:=r.toList) (n:=n - (sa+k)) (by lia));rcases ax.mp hm with hm | hm
     ·rw[nS] at hm;obtain⟨q,q1,q2,q3,e⟩:=Bk hm;exact⟨q,q1,by lia,e⟩
     ·rw[nS] at hm;obtain⟨q,q1,q2,q3,e⟩:=Bk hm;exact⟨q,by lia,q2,e⟩
    refine az (fN ?_);refine az (mY (aF ?_));have ef:(failedOf (setArr (cy Dk g) (A8 (arrOf (cy Dk g)) (sa+k) r.toList.zipIdx))).isNone=true:=by show(failedOf st).isNone=true;rw[B.fl];rfl
    rw[ef];refine h _ ⟨?_,B.kd,B.fl⟩ rfl (λi j hi iu hj=> ?_) (λn hn=> ?_)
    ·show(A8 (arrOf st) (sa+k) r.toList.zipIdx).Perm a₀;refine Array.Perm.trans ?_ B.perm;rw[lz,wl];have e3:=three (arrOf st).toList (sa+k) sb (sb+m) (by lia) (by lia) (by simp;lia);refine List.Perm.trans ?_ (List.Perm.of_eq e3.symm);refine eT _ ?_;rw[<- bR];refine JU _ ?_;rw[nS,nS] at rp;exact rp
    ·show LE less (cG (A8 (arrOf st) (sa+k) r.toList.zipIdx) i) (cG (A8 (arrOf st) (sa+k) r.toList.zipIdx) j);have La: ∀x y,sa<=x ->x<sa+k ->sa+k<=y ->y<sb+nb ->LE less (cG (arrOf st) x) (cG (arrOf st) y):=λx y x1 x2 y1 y2=>by
      by_cases c:y<sb
      ·exact s1 x y x1 (by lia) c
      ·have:=g2 (x - sa) (by lia);rw[show sa+(x - sa)=x by lia] at this;exact O.trans _ _ _ this (s2 sb y (aq _) (by lia) y2)
     have X8: ∀x y,sa+k<=x ->x<sb+m ->sb+m<=y ->y<sb+nb ->LE less (cG (arrOf st) x) (cG (arrOf st) y):=λx y x1 x2 y1 y2=>by
      by_cases c:x<sb
      ·have:=f3 (y - sb) (by lia) (by lia);rw[show sb+(y - sb)=y by lia] at this;exact O.trans _ _ _ (s1 x (sb - 1) (by lia) (by lia) (by lia)) this
      ·exact s2 x y (by lia) (by lia) y2
     by_cases i1:i<sa+k
     ·have ei:=wa i;rw[aj (by lia)] at ei;rw[ei];by_cases j1:j<sa+k
      ·have ej:=wa j;rw[aj (by lia)] at ej;rw[ej];exact s1 i j hi iu (by lia)
      ·by_cases j2:j<sb+m
       ·obtain⟨n',n1,n2,e⟩:=wm j (by lia) j2;rw[e];exact La i n' hi i1 n1 (by lia)
       ·have ej:=wa j;rw[aj (by lia)] at ej;rw[ej];exact La i j hi i1 (by lia) hj
     ·by_cases i2:i<sb+m
      ·by_cases j2:j<sb+m
       ·rw[wa i,wa j,ak (by lia),ak (by lia),ae (by lia),ae (by lia)];by_cases cij:i=j
        ·subst cij;exact O.refl _
        ·exact bj.mp rs _ _ (by lia) (by lia) (by lia)
       ·obtain⟨n',n1,n2,e⟩:=wm i (by lia) i2;have ej:=wa j;rw[aj (by lia)] at ej;rw[e,ej];exact X8 n' j n1 n2 (by lia) hj
      ·have ei:=wa i;have ej:=wa j;rw[aj (by lia)] at ei ej;rw[ei,ej];exact s2 i j (by lia) iu hj
    ·show cG (A8 (arrOf st) (sa+k) r.toList.zipIdx) n=_;rw[wa n,aj (by lia)]
   by_cases c3:na - k<=m
   ·rw[ak c3];exact az (wp_mLo O L T B.kd λr g hr=>fin r g hr)
   ·rw[aj c3];exact az (wp_mHi O L T B.kd λr g hr=>fin r g hr)
end
def Runs (less:Keyed ->Keyed ->Bool)(xs:Array Keyed):List Rn ->Nat ->Nat ->Prop
 | [],lo,hi=>lo=hi
 | (a,n,_)::r,lo,hi=>a=lo /\ 1<=n /\ Sg less xs lo (lo+n) /\ Runs less xs r (lo+n) hi
section
variable {less:Keyed ->Keyed ->Bool}{xs ys:Array Keyed}
theorem Runs.le: ∀ {l:List Rn} {lo hi:Nat},Runs less xs l lo hi ->lo+l.length<=hi
 | [],lo,hi,h=>iZ h
 | (a,n,p)::r,lo,hi,h=>by have:=Runs.le h.2.2.2;have:=h.2.1;rw[aG];lia
theorem Runs.app: ∀ {l1 l2:List Rn} {lo hi:Nat},Runs less xs (l1++l2) lo hi↔ ∃m,Runs less xs l1 lo m /\ Runs less xs l2 m hi
 | [],l2,lo,hi=>⟨λh=>⟨lo,rfl,h⟩,λ⟨m,e,h⟩=>by cases e;exact h⟩
 | (a,n,p)::r,l2,lo,hi=>by
  constructor
  ·rintro⟨h1,h2,h3,h4⟩;obtain⟨m,a1,a2⟩:=Runs.app.mp h4;exact⟨m,⟨h1,h2,h3,a1⟩,a2⟩
  ·rintro⟨m,⟨h1,h2,h3,a1⟩,a2⟩;exact⟨h1,h2,h3,Runs.app.mpr ⟨m,a1,a2⟩⟩
theorem Runs.out {e1 e2:Nat}(o:Out e1 e2 xs ys): ∀ {l:List Rn} {lo hi:Nat},(hi<=e1 \/ e2<=lo) ->Runs less xs l lo hi ->Runs less ys l lo hi
 | [],lo,hi,_,h=>h
 | (a,n,p)::r,lo,hi,hc,⟨h1,h2,h3,h4⟩=>by have:=Runs.le h4;refine⟨h1,h2,λi j hi iu hj=> ?_,Runs.out o (by lia) h4⟩;rw[o i (by lia),o j (by lia)];exact h3 i j hi iu hj
theorem F4 {e1 e2 lo hi:Nat}(o:Out e1 e2 xs ys)(hc:hi<=e1 \/ e2<=lo)(h:Sg less xs lo hi):Sg less ys lo hi:=λi j hi iu hj=>by rw[o i (by lia),o j (by lia)];exact h i j hi iu hj
theorem Fw {α:Type}{l:List α}(h:2<=l.length): ∃l1 x y,l=l1++ [x,y]:=by
 refine⟨l.take (l.length - 2),l[l.length - 2],l[l.length - 1],?_⟩;have:=a8 (l.length - 2) l;rw[dH (by lia),dH (by lia),oh (by lia)] at this;have e:l.length - 2+1=l.length - 1:=by lia
 simp only[e] at this;exact this.symm
theorem Bw {α:Type}{l:List α}(h:l≠ []): ∃l1 x,l=l1++ [x]:=⟨l.dropLast,l.getLast h,(kc h).symm⟩
end
section
variable {prog:Program}{w:World}{A:Around}{E:Value ->Shared ->Prop}{s:Shared}{kd:SortKind}{a₀:Array Keyed}{less:Keyed ->Keyed ->Bool}
theorem yu (l1:List Rn)(x:Rn)(f:Rn ->Rn):(l1++ [x]).modify l1.length f=l1++ [f x]:=by
 induction l1 with
 | nil=>rfl
 | cons a l ih=>rw[jF,aG,List.modify_succ_cons,ih];rfl
theorem wp_mR (O:Ord less)(L:jJ prog w A E s kd a₀ less){st:SortSt}{Q:Bool ->SortSt ->Prop}{l1 l2:List Rn}{x y:Rn}{i lo:Nat}(B:SB kd a₀ st)(hp:pendingOf st=(l1++x::y::l2).toArray)(hi:i=l1.length)(hz:lo<=a₀.size)(R:Runs less (arrOf st) (l1++x::y::l2) 0 lo) (h: ∀bB z,SB kd a₀ bB ->pendingOf bB=(l1++z::l2).toArray ->Runs less (arrOf bB) (l1++z::l2) 0 lo ->Out 0 lo (arrOf st) (arrOf bB) ->Q true bB):wpS (model prog w) A E s (mergeAt' i) Q st:=by
 obtain⟨sa,na,pw⟩:=x;obtain⟨sb,nb,Xs⟩:=y;obtain⟨m,r1,rfl,h1,s1,rfl,h2,s2,r2⟩:=Runs.app.mp R;have hle:=r2.le;refine wp_mAt O L B hp hi rfl h1 h2 (by lia) s1 s2 λbB B' Nt s' o'=>h bB _ B' Nt ?_ λk hk=>o' k (by lia);refine Runs.app.mpr ⟨_,r1.out o' (.inl (aq _)),rfl,by lia,?_,?_⟩
 ·rw[<- jI];exact s'
 ·rw[<- jI];exact r2.out o' (.inr (aq _))
theorem yc {xs:Array Keyed}{l1:List Rn}{a n p q lo hi:Nat}(h:Runs less xs (l1++ [(a,n,p)]) lo hi):Runs less xs (l1++ [(a,n,q)]) lo hi:=by obtain⟨m,r1,h1,h2,h3,h4⟩:=Runs.app.mp h;exact Runs.app.mpr ⟨m,r1,h1,h2,h3,h4⟩
theorem wp_sort (O:Ord less)(L:jJ prog w A E s kd a₀ less){st:SortSt}{Q:Unit ->SortSt ->Prop}(B:SB kd a₀ st)(Yu:pendingOf st= #[])(h2:2<=a₀.size) (h: ∀bB,(arrOf bB).Perm a₀ ->failedOf bB=none ->Sg less (arrOf bB) 0 a₀.size ->Q () bB):wpS (model prog w) A E s sortRuns' Q st:=by
 rw[sortRuns'_eq];refine az (mY ?_);dsimp only;simp only[B.size];generalize minRun' a₀.size a₀.size 0=mr;refine az (fm (cB (I:=λx c bB=> ∃lo pl,c=(none,lo) /\ x<=lo /\ lo<=a₀.size /\ SB kd a₀ bB /\ pendingOf bB=pl.toArray /\ Runs less (arrOf bB) pl 0 lo) (Q:=λc bB=> ∃pl,c=(none,a₀.size) /\ SB kd a₀ bB /\ pendingOf bB=pl.toArray /\ Runs less (arrOf bB) pl 0 a₀.size) ?step ?fin ⟨0,[],rfl,aq _,cU _,B,Yu,rfl⟩) ?post);case fin=>
  rintro c bB ⟨lo,pl,rfl,h1,JD,B',hp,R⟩
  have:lo=a₀.size:=by lia
  subst this
  exact⟨pl,rfl,B',hp,R⟩
 case step =>
  rintro x c bB _ hx ⟨lo,pl,rfl,h1,JD,B',hp,R⟩
  dsimp only
  by_cases c1:lo≥a₀.size
  ·rw[ak c1];have:lo=a₀.size:=by lia
   subst this;exact aF ⟨pl,rfl,B',hp,R⟩
  rw[aj c1]
  refine az (wp_run O L (by lia) (by lia) B' λm ox B2 m1 m2 s2 p2 o2=> ?_)
  dsimp only
  have R2:Runs less (arrOf ox) pl 0 lo:=R.out o2 (.inl (aq _))
  by_cases c2:m<mr
  ·rw [ak c2];refine az (Dd (gr ⟨rfl,?_⟩));refine az (wp_bin O L (by lia) (by lia) B2 s2 λqB B3 s3 p3 o3=> ?_);simp only[gh,ay,bf];have R3:=R2.out o3 (.inl (aq _));have n1:1<=min (a₀.size - lo) mr:=by lia
   have n2:lo+min (a₀.size - lo) mr<=a₀.size:=by lia
   rw[p2,hp] at p3;clear o3;revert s3 n1 n2;generalize min (a₀.size - lo) mr=n;intro s3 n1 n2;refine az (mY ?_);cases hb:(pendingOf qB).back? with
   | none=>dsimp only;refine az (fN (aF ⟨lo+n,pl++ [(lo,n,0)],rfl,by lia,n2,⟨B3.perm,B3.kd,B3.fl⟩,?_,Runs.app.mpr ⟨lo,R3,rfl,n1,s3,rfl⟩⟩));show(pendingOf qB).push (lo,n,0)=_;rw[p3];simp
   | some q=>
    obtain⟨s1,Pr,p1⟩:=q;dsimp only;have c9:pl≠ []:=λe=>by subst e;rw[p3] at hb;simp at hb
    refine az (fm (cB (I:=λ_ c gA=>c=(none,()) /\ ∃pl,pl≠ [] /\ SB kd a₀ gA /\ Sg less (arrOf gA) lo (lo+n) /\ pendingOf gA=pl.toArray /\ Runs less (arrOf gA) pl 0 lo) (Q:=λc gA=>c=(none,()) /\ ∃pl,pl≠ [] /\ SB kd a₀ gA /\ Sg less (arrOf gA) lo (lo+n) /\ pendingOf gA=pl.toArray /\ Runs less (arrOf gA) pl 0 lo) ?_ (λc gA h=>h) ⟨rfl,pl,c9,B3,s3,p3,R3⟩) ?_)
    ·rintro y c gA _ hy ⟨rfl,wB,ne4,B4,s4,p4,R4⟩;refine az (mY ?_);by_cases c2:(pendingOf gA).size >1
     ·rw[ak c2];have hl:2<=wB.length:=by rw[p4] at c2;simp at c2;lia
      obtain⟨l1,u,v,e4⟩:=Fw hl;have e5:(pendingOf gA).size - 2=l1.length:=by rw[p4,e4];simp
      have e6:(pendingOf gA)[(pendingOf gA).size - 2]? =some u:=by rw[e5,p4,e4];simp
      rw[e6];obtain⟨u1,u2,u3⟩:=u;dsimp only;split
      ·exact aF ⟨rfl,wB,ne4,B4,s4,p4,R4⟩
      ·subst e4;refine az (wp_mR O L (l2:= []) B4 p4 e5 (by lia) R4 λQ9 z B5 p5 R5 o5=> ?_);simp only[gh,ay,bf];exact aF ⟨rfl,_,by simp,B5,F4 o5 (.inr (aq _)) s4,p5,R5⟩
     ·rw[aj c2];exact aF ⟨rfl,wB,ne4,B4,s4,p4,R4⟩
    ·rintro c gA ⟨rfl,wB,ne4,B4,s4,p4,R4⟩;dsimp only;refine az (fN (az (fN (aF ?_))));obtain⟨l1,⟨u1,u2,u3⟩,rfl⟩:=Bw ne4;refine⟨lo+n,(l1++ [(u1,u2,power' a₀.size (2*s1+Pr) (2*s1+Pr+Pr+n) a₀.size)])++ [(lo,n,0)],rfl,by lia,n2,⟨B4.perm,B4.kd,B4.fl⟩,?_,Runs.app.mpr ⟨lo,yc R4,rfl,n1,s4,rfl⟩⟩;show((pendingOf gA).modify ((pendingOf gA).size - 1) _).push (lo,n,0)=_;rw[p4];simp only[QS,List.push_toArray,aO];congr 2;rw[aL,cY,RS];exact yu l1 _ _
  ·rw [aj c2];have s3:=s2;have n1:=m1;have n2:lo+m<=a₀.size:=by lia
   have p3:pendingOf ox=pl.toArray:=by rw[p2,hp]
   have B3:=B2;have R3:=R2;clear p2 o2 B2 R2 s2 m1 m2 c2;revert s3 n1 n2;generalize m=n;intro s3 n1 n2;revert p3 B3 R3 s3;generalize ox=qB;intro p3 B3 R3 s3;refine az (mY ?_);cases hb:(pendingOf qB).back? with
   | none=>dsimp only;refine az (fN (aF ⟨lo+n,pl++ [(lo,n,0)],rfl,by lia,n2,⟨B3.perm,B3.kd,B3.fl⟩,?_,Runs.app.mpr ⟨lo,R3,rfl,n1,s3,rfl⟩⟩));show(pendingOf qB).push (lo,n,0)=_;rw[p3];simp
   | some q=>
    obtain⟨s1,Pr,p1⟩:=q;dsimp only;have c9:pl≠ []:=λe=>by subst e;rw[p3] at hb;simp at hb
    refine az (fm (cB (I:=λ_ c gA=>c=(none,()) /\ ∃pl,pl≠ [] /\ SB kd a₀ gA /\ Sg less (arrOf gA) lo (lo+n) /\ pendingOf gA=pl.toArray /\ Runs less (arrOf gA) pl 0 lo) (Q:=λc gA=>c=(none,()) /\ ∃pl,pl≠ [] /\ SB kd a₀ gA /\ Sg less (arrOf gA) lo (lo+n) /\ pendingOf gA=pl.toArray /\ Runs less (arrOf gA) pl 0 lo) ?_ (λc gA h=>h) ⟨rfl,pl,c9,B3,s3,p3,R3⟩) ?_)
    ·rintro y c gA _ hy ⟨rfl,wB,ne4,B4,s4,p4,R4⟩;refine az (mY ?_);by_cases c2:(pendingOf gA).size >1
     ·rw[ak c2];have hl:2<=wB.length:=by rw[p4] at c2;simp at c2;lia
      obtain⟨l1,u,v,e4⟩:=Fw hl;have e5:(pendingOf gA).size - 2=l1.length:=by rw[p4,e4];simp
      have e6:(pendingOf gA)[(pendingOf gA).size - 2]? =some u:=by rw[e5,p4,e4];simp
      rw[e6];obtain⟨u1,u2,u3⟩:=u;dsimp only;split
      ·exact aF ⟨rfl,wB,ne4,B4,s4,p4,R4⟩
      ·subst e4;refine az (wp_mR O L (l2:= []) B4 p4 e5 (by lia) R4 λQ9 z B5 p5 R5 o5=> ?_);simp only[gh,ay,bf];exact aF ⟨rfl,_,by simp,B5,F4 o5 (.inr (aq _)) s4,p5,R5⟩
     ·rw[aj c2];exact aF ⟨rfl,wB,ne4,B4,s4,p4,R4⟩
    ·rintro c gA ⟨rfl,wB,ne4,B4,s4,p4,R4⟩;dsimp only;refine az (fN (az (fN (aF ?_))));obtain⟨l1,⟨u1,u2,u3⟩,rfl⟩:=Bw ne4;refine⟨lo+n,(l1++ [(u1,u2,power' a₀.size (2*s1+Pr) (2*s1+Pr+Pr+n) a₀.size)])++ [(lo,n,0)],rfl,by lia,n2,⟨B4.perm,B4.kd,B4.fl⟩,?_,Runs.app.mpr ⟨lo,yc R4,rfl,n1,s4,rfl⟩⟩;show((pendingOf gA).modify ((pendingOf gA).size - 1) _).push (lo,n,0)=_;rw[p4];simp only[QS,List.push_toArray,aO];congr 2;rw[aL,cY,RS];exact yu l1 _ _
 case post =>
  rintro c bB ⟨pl,rfl,B',hp,R⟩
  dsimp only
  have hle:=R.le
  refine az (fm (cB (I:=λx c gA=>c=(none,()) /\ ∃pl,SB kd a₀ gA /\ pendingOf gA=pl.toArray /\ Runs less (arrOf gA) pl 0 a₀.size /\ (pl.length<=1 \/ pl.length+x<=a₀.size)) (Q:=λc gA=>c=(none,()) /\ ∃pl,SB kd a₀ gA /\ Runs less (arrOf gA) pl 0 a₀.size /\ pl.length<=1) ?_ ?_ ⟨rfl,pl,B',hp,R, .inr (by lia)⟩) ?_)
  ·rintro x c gA _ hx ⟨rfl,wB,B4,p4,R4,hl⟩;refine az (mY ?_);have esz:(pendingOf gA).size=wB.length:=by rw[p4];simp
   by_cases c1:(pendingOf gA).size<=1
   ·rw[ak c1];exact aF ⟨rfl,wB,B4,R4,by lia⟩
   ·rw [aj c1];generalize aas:Option.any _ _=cnd;have mk: ∀k,k+2<=wB.length -> ∀ (Q':ForInStep (Option Unit×Unit) ->SortSt ->Prop),(∀bB pl,SB kd a₀ bB ->pendingOf bB=pl.toArray ->Runs less (arrOf bB) pl 0 a₀.size ->(pl.length<=1 \/ pl.length+(x+1) <=a₀.size) ->Q' (.yield (none,())) bB) ->wpS (model prog w) A E s (do
      let b <- mergeAt' k
      if(!b)=true then pure (ForInStep.done ((some (),()):Option Unit×Unit)) else pure (ForInStep.yield (none,()))) Q' gA:=by
     intro k hk Q' hQ
     have e:=a8 k wB
     rw[dH (by lia),dH (by lia)] at e
     have xC:(wB.take k).length=k:=by rw[a6];lia
     rw[<- e] at p4 R4
     refine az (wp_mR O L B4 p4 xC.symm (aq _) R4 λQ9 z B5 p5 R5 o5=> ?_)
     simp only[gh,ay,bf]
     refine aF (hQ _ _ B5 p5 R5 (.inr ?_))
     rw[aL,xC,aG,fL]
     lia
    cases cnd with
    | true=>simp only[bN];exact mk ((pendingOf gA).size - 2 - 1) (by lia) _ λbB pl b1 b2 b3 b4=>⟨rfl,pl,b1,b2,b3,b4⟩
    | false=>simp only[ay,bf];exact mk ((pendingOf gA).size - 2) (by lia) _ λbB pl b1 b2 b3 b4=>⟨rfl,pl,b1,b2,b3,b4⟩
  ·rintro c gA ⟨rfl,wB,B4,p4,R4,hl⟩;exact⟨rfl,wB,B4,R4,by lia⟩
  ·rintro c gA ⟨rfl,wB,B4,R4,hl⟩;refine aF (h _ B4.perm B4.fl ?_);match wB,R4,hl with
   | [],R4,_=>exact absurd R4 (by show ¬(0=a₀.size);lia)
   | [(u1,u2,u3)],⟨_,_,h3,h4⟩,_=>have h4:0+u2=a₀.size:=h4;rw[h4] at h3;exact h3
   | _::_::_,_,hl=>simp at hl
end
def DA (h:Heap)(a:Addr)(vs:List Value):Heap:=((h.update a (Obj.mapSeq λ_=> #[])).push (seqObj "tuple" vs.toArray 0)).push (seqObj "list" #[] 0)
theorem K3 {h:Heap}{a:Addr}{vs:List Value}{n:Nat}(ho:h.get? a=some (seqObj "list" vs.toArray n)):(DA h a vs).get? a=some (seqObj "list" #[] (if((#[]:Array Value)).size==vs.toArray.size then n else n+1)):=by have ha:=aB ho;unfold DA;rw[Heap.get?_push_ne _ _ _ (by rw[size_push',Heap.size_update];exact aX (d6 ha)),Heap.get?_push_ne _ _ _ (by rw[Heap.size_update];exact aX ha)];exact get?_update_seq ho (λ_=> #[])
section
variable {prog:Program}{w:World}{A:Around}{E:Value ->Shared ->Prop}{s:Shared}
theorem FZ {a:Addr}{vs:List Value}{n:Nat}{P:Fin ->Shared ->Prop}{kd:SortKind}{less:Keyed ->Keyed ->Bool}(O:Ord less)(ho:s.heap.get? a=some (seqObj "list" vs.toArray n))(hsz:vs.length<=sizeLine) (hk:2<=vs.length -> ∀ (Q:SortKind ->Shared ->Prop),Q kd {s with heap:=DA s.heap a vs} ->wpAny (model prog w) A (keyKind' vs.toArray) Q E {s with heap:=DA s.heap a vs}) (L:jJ prog w A E {s with heap:=DA s.heap a vs} kd (pairsOf vs) less) (h: ∀ (us:List Value),us.Perm vs ->us.Pairwise (λx y=>less (y,y) (x,x)=false) ->P (.done (.ret .none)) {s with heap:=sortedHeap s.heap a vs us.toArray}): wpAny (model prog w) A (Builtin.«list.sort» ⟨[.ref a],[]⟩) P E s:=by
 rw[list_sort_plain];refine ao (listItems_at ho rfl ?_);refine ao (listUpdate_at ho rfl ?_ (hsz:=by simpa using hsz));refine ao (seqEpoch_at (get?_update_seq ho (λ_=> #[])) rfl ?_);refine ao (wpAny_newTuple ?_);refine ao (Q4 ?_);refine d9 ?_;have Wh:=K3 ho;show wpAny (model prog w) A _ P E {s with heap:=DA s.heap a vs};dsimp only;have fin: ∀xs:Array Keyed,xs.Perm (pairsOf vs) ->Sg less xs 0 (pairsOf vs).size ->P (.done (.ret .none)) {s with heap:=sortedHeap s.heap a vs (xs.map (·.2))}:=by
  intro xs hp hs;have hl:xs.toList.Perm (vs.zip vs):=by rw[<- pairsOf_toList];exact lz.mp hp
  have DU: ∀p,p∈xs.toList ->p.1=p.2 /\ p.1∈vs:=λp Nt=>mem_zip_self (hl.mem_iff.mp Nt);have:=h (xs.toList.map (·.2)) ?_ ?_
  ·have e:(xs.toList.map (·.2)).toArray=xs.map (·.2):=by apply Array.toList_inj.mp;simp
   rwa [e] at this
  ·have h1:=hl.map (λp:Keyed=>p.2);rwa [List.map_snd_zip (aq _)] at h1
  ·rw[bj];intro i j hi hj iu;have nh:i<xs.size:=by simpa using hi
   have jH:j<xs.size:=by simpa using hj
   have h1:=hs i j (cU _) (iY iu) (by rw[<- hp.size_eq];exact jH);have e1:cG xs i=((xs.toList.map (·.2))[i],(xs.toList.map (·.2))[i]):=by rw[List.getElem_map];have hm:=xm nh;have e:=iK nh;rw[ae (by simpa using nh)] at e;have e:=br e;rw[e];exact Prod.ext (DU _ hm).1 rfl
   have e2:cG xs j=((xs.toList.map (·.2))[j],(xs.toList.map (·.2))[j]):=by rw[List.getElem_map];have hm:=xm jH;have e:=iK jH;rw[ae (by simpa using jH)] at e;have e:=br e;rw[e];exact Prod.ext (DU _ hm).1 rfl
   rw[e1,e2] at h1;exact h1
 have aaC:vs.toArray.size=vs.length:=by simp
 by_cases h2:vs.toArray.size<2
 ·rw[ak h2,ak h2];refine ao (aM ?_);rw[StateT.run_pure];refine ao (aM ?_);dsimp only;refine ao (seqEpoch_at Wh rfl ?_);refine ao (listUpdate_at Wh rfl ?_ (hsz2:=by rw[Array.size_map];show(pairsOf vs).size<=_;rw[O9];lia));simp only[bne_self_eq_false,ay,bf];refine aM (fin (pairsOf vs) (Array.Perm.refl _) ?_);intro i j _ iu hj;have:i=j:=by rw[O9] at hj;lia
  subst this;exact O.refl _
 ·rw[aj h2,aj h2];refine ao (hk (by lia) _ ?_);refine ao (bJ (wp_sort O L (st:=SortSt.mk' kd (vs.toArray.zip vs.toArray) #[] 7 none) (Q:=λ_ bB=>(arrOf bB).Perm (pairsOf vs) /\ failedOf bB=none /\ Sg less (arrOf bB) 0 (pairsOf vs).size) ⟨Array.Perm.refl _,rfl,rfl⟩ rfl (by rw[O9];lia) λbB a1 a2 a3=>⟨a1,a2,a3⟩) ?_ λ_ _ e=>e);rintro⟨⟨⟩,bB⟩ s' ⟨rfl,hp,hf,hs⟩;dsimp only;refine ao (seqEpoch_at Wh rfl ?_);refine ao (listUpdate_at Wh rfl ?_ (hsz2:=by refine a4 (iZ ((Array.size_map ..).trans (hp.size_eq.trans (O9 _)))) ?_;lia));rw[hf];simp only[bne_self_eq_false,ay,bf];exact aM (fin _ hp hs)
def sQ (x y:Keyed):Bool:=decide (numOf x.1<numOf y.1)
theorem XC:Ord sQ:=by
 refine⟨λx y h=> ?_,λx y z h1 h2=> ?_⟩
 ·unfold sQ at*;rw[cq] at h;exact dc (by lia)
 ·unfold LE sQ at*;rw[Iu] at*;lia
theorem ltI {a₀:Array Keyed}(h0:IntKeys a₀):jJ prog w A E s oneType' a₀ sQ:=by
 intro x y st Q hx hy hk hq;obtain⟨n,t,e1⟩:=h0 x hx;obtain⟨m,u,e2⟩:=h0 y hy;rw[lt'_eq];refine az (mY ?_);rw[hk,keyLt'_oneType,e1,e2];refine az (Dd (wpAny_attempt (oneLt_int ⟨rfl,?_⟩)));have e:sQ x y=decide (n<m):=by unfold sQ;rw[e1,e2];rfl
 rw[e] at hq;exact aF hq
theorem uD {a:Addr}{vs:List Value}{ns:List Int}{n:Nat}{P:Fin ->Shared ->Prop}(ho:s.heap.get? a=some (seqObj "list" vs.toArray n)) (hI:IntsAre vs ns) (hsz:vs.length<=sizeLine) (h: ∀ (out:Array Value) (KU:List Int),IntsAre out.toList KU ->KU.Perm ns ->KU.Pairwise (· <= ·) ->P (.done (.ret .none)) {s with heap:=sortedHeap s.heap a vs out}): wpAny (model prog w) A (Builtin.«list.sort» ⟨[.ref a],[]⟩) P E s:=by
 refine FZ XC ho hsz (kd:=oneType') (λh2 Q hq=> ?_) (ltI hI.intKeys) λus hp hs=> ?_
 ·obtain⟨v₁,v₂,rest,rfl⟩: ∃v₁ v₂ rest,vs=v₁::v₂::rest:=by
   match vs,h2 with
   | [],h2=>simp at h2
   | [_],h2=>simp at h2
   | v₁::v₂::rest,_=>exact⟨v₁,v₂,rest,rfl⟩
  rw[keyKind_ints hI];exact aM hq
 ·have AK: ∀v,v∈us -> ∃n t,v= .int n t:=λv hv=>hI.all v (hp.mem_iff.mp hv);refine h us.toArray (us.map numOf) (by simpa using intsAre_map us AK) ?_ ?_
  ·have:=hp.map numOf;rwa [hI.nums] at this
  ·rw[bY];refine hs.imp λ{x y} e=> ?_;unfold sQ at e;rw[Iu] at e;simp only at e;lia
end
end TS
namespace L2
open PySem PySem.Spec PyProof.Rows
abbrev Key:=Sum Int Str
def oX:Key ->Value ->Bool
 | .inl k,v=>Value.isInt k v
 | .inr x,v=>Value.isStrOf x v
def X7 (w:World):Key ->Int
 | .inl k=>hashInt k
 | .inr x=>hashStr w x
theorem dD: ∀ {k:Key} {v:Value},oX k v=true ->(∃i t,k=Sum.inl i /\ v=Value.int i t) \/ (∃x t,k=Sum.inr x /\ v=Value.str x t)
 | .inl i,v,h=>by obtain⟨t,e⟩:=Value.isInt_shape (k:=i) (v:=v) h;exact .inl ⟨i,t,rfl,e⟩
 | .inr x,v,h=>by obtain⟨t,e⟩:=Value.isStrOf_shape (x:=x) (v:=v) h;exact .inr ⟨x,t,rfl,e⟩
theorem DJ (i:Int)(t:Tok):oX (.inl i) (.int i t)=true:=by simp[oX,Value.isInt]
theorem DI (x:Str)(t:Tok):oX (.inr x) (.str x t)=true:=by simp[oX,Value.isStrOf]
theorem PR (a b:Int):decide ((Sum.inl a:Key)=Sum.inl b)=(a==b):=by
 by_cases e:a=b
 ·subst e;simp
 ·have h:¬(Sum.inl a:Key)=Sum.inl b:=λq=>e (N6 q);rw[dc h];exact(fD.mpr e).symm
theorem PM (a b:Str):decide ((Sum.inr a:Key)=Sum.inr b)=decide (a=b):=by
 by_cases e:a=b
 ·subst e;simp
 ·have h:¬(Sum.inr a:Key)=Sum.inr b:=λq=>e (Sum.inr.inj q);rw[dc h,dc e]
theorem PQ (a:Int)(b:Str):decide ((Sum.inl a:Key)=Sum.inr b)=false:=dc (λq=>nomatch q)
theorem PN (a:Str)(b:Int):decide ((Sum.inr a:Key)=Sum.inl b)=false:=dc (λq=>nomatch q)
def cu (prog:Program)(w:World):PySem.KeyKind prog w Key where
 is:=oX
 hash:=X7 w
 inj :=λv a b ha hb=>by
  rcases dD ha with⟨i,t,rfl,rfl⟩ | ⟨x,t,rfl,rfl⟩
  ·rcases dD hb with⟨j,u,rfl,e⟩ | ⟨y,u,rfl,e⟩
   ·injection e with e1 _;rw[e1]
   ·exact nomatch e
  ·rcases dD hb with⟨j,u,rfl,e⟩ | ⟨y,u,rfl,e⟩
   ·exact nomatch e
   ·injection e with e1 _;rw[e1]
 byValue:=λk v h=>by rcases dD h with⟨i,t,rfl,rfl⟩ | ⟨x,t,rfl,rfl⟩ <;>rfl
 pyHash:=λhv h=>by
  rcases dD hv with⟨i,t,rfl,rfl⟩ | ⟨x,t,rfl,rfl⟩
  ·exact wpAny_pyHash_int h
  ·exact wpAny_pyHash_str h
 eqBool:=λhu hv h=>by
  rcases dD hu with⟨i,t,rfl,rfl⟩ | ⟨x,t,rfl,rfl⟩
  ·rcases dD hv with⟨j,u,rfl,rfl⟩ | ⟨y,u,rfl,rfl⟩
   ·rw[PR] at h;exact wpAny_eqBool_int h
   ·rw[PQ] at h;exact SeqAt.EqAt.int_str i t y u _ _ _ _ h
  ·rcases dD hv with⟨j,u,rfl,rfl⟩ | ⟨y,u,rfl,rfl⟩
   ·rw[PN] at h;exact SeqAt.EqAt.str_int x t j u _ _ _ _ h
   ·rw[PM] at h;exact wpAny_eqBool_str h
 «strs» :=λk x t v h=>by
  rcases dD h with⟨i,u,rfl,e⟩ | ⟨y,u,rfl,e⟩
  ·exact nomatch e
  ·injection e with e1 _;subst e1;cases v<;>rfl
theorem yx (prog:Program)(w:World)(i:Int)(t:Tok):(cu prog w).is (.inl i) (.int i t)=true:=DJ i t
theorem yw (prog:Program)(w:World)(x:Str)(t:Tok):(cu prog w).is (.inr x) (.str x t)=true:=DI x t
inductive V where
  | dS | bl (b:Bool) | int (i:Int) | str (x:Str) | AZ (b:Array UInt8) | Cs (b:UInt64) | ref (a:Addr) | ty (n:String)
 deriving DecidableEq
def RelV:V ->Value ->Prop
 | .dS,u=>u=Value.none
 | .bl b,u=>u=Value.bool b
 | .int i,u=> ∃t,u=Value.int i t
 | .str x,u=> ∃t,u=Value.str x t
 | .AZ b,u=> ∃t,u=Value.bytes b t
 | .Cs b,u=> ∃t,u=Value.float b t
 | .ref a,u=>u=Value.ref a
 | .ty n,u=>u=Value.type n
abbrev Vals:List V ->List Value ->Prop:=Paired RelV
theorem Vals.length {xs:List V}{us:List Value}(r:Vals xs us):xs.length=us.length:=zl r
theorem Vals.get: ∀ {xs:List V} {us:List Value} {i:Nat} {x:V},Vals xs us ->xs[i]? =some x -> ∃u,us[i]? =some u /\ RelV x u
 | _,_,_,_, .nil,e=>by simp at e
 | _,_,0,_, .cons r _,e=>by simp at e;subst e;exact⟨_,rfl,r⟩
 | _,_,i+1,x, .cons _ t,e=>by obtain⟨u,h1,h2⟩:=Vals.get (i:=i) (x:=x) t (by simpa using e);exact⟨u,by simpa using h1,h2⟩
theorem Vals.set {x:V}{u:Value}(r:RelV x u): ∀ {xs:List V} {us:List Value} (i:Nat),Vals xs us ->Vals (xs.set i x) (us.set i u)
 | _,_,_, .nil=> .nil
 | _,_,0, .cons _ t=> .cons r t
 | _,_,i+1, .cons q t=> .cons q (Vals.set r i t)
theorem Vals.append: ∀ {xs ys:List V} {us ws:List Value},Vals xs us ->Vals ys ws ->Vals (xs++ys) (us++ws)
 | _,_,_,_, .nil,s=>s
 | _,_,_,_, .cons r t,s=> .cons r (Vals.append t s)
theorem Vals.take: ∀ {xs:List V} {us:List Value} (n:Nat),Vals xs us ->Vals (xs.take n) (us.take n)
 | _,_,0,_=> .nil
 | _,_,_+1, .nil=> .nil
 | _,_,n+1, .cons r t=> .cons r (Vals.take n t)
theorem Vals.drop: ∀ {xs:List V} {us:List Value} (n:Nat),Vals xs us ->Vals (xs.drop n) (us.drop n)
 | _,_,0,r=>r
 | _,_,_+1, .nil=> .nil
 | _,_,n+1, .cons _ t=>Vals.drop n t
def nX:Option V ->Option Value ->Prop
 | some v,some u=>RelV v u
 | none,none=>True
 | _,_=>False
def KV {κ:Type}:List (κ×V) ->List (κ×Value) ->Prop:=Paired λ(p:κ×V) (q:κ×Value)=>p.1=q.1 /\ RelV p.2 q.2
def kV:Key ->V
 | .inl i=> .int i
 | .inr x=> .str x
inductive HO where
 /-- a list -/
 | lst (xs:List V)
 /-- a tuple (never changes) -/
 | tup (xs:List V)
 /-- a dict R0 keys are ints and texts;one R0 keys are tuples of ints and texts (Q8 empty one is both) -/
 | dK (kvs:List (Key×V)) | dT (kvs:List (List Key×V))
 /-- a set of ints:its members,its size -/
 | set (S:Int ->Bool) (n:Nat)
 /-- an instance of Q8 class at C,its dict at dx,its attributes -/
 | ins (C dx:Addr) (fs:List (Str×V))
 /-- Q8 dict of Q8 instance at x -/
 | own (x:Addr)
 /-- Q8 dict of an exception -/
 | xd (fs:List (Str×V))
 /-- a bound method,f of x -/
 | met (f x:Addr)
 /-- a range object lo,lo+1, .. below hi -/
 | Xq (lo hi:Int)
 /-- a SF aau is known to Q8 object (Q8 Xm;a dict while a loop walks it):read,never written while it is so -/
 | nR (o:Obj) (u:HO)
 /-- a code TJ table -/
 | OK (ps:Array Value)
 /-- any other SF,by aat is true of its one object (a def of aao own:aaS a S n:=HO.ext λh=> ..) -/
 | ext (φ:Heap ->Prop)
abbrev Hp:=Addr ->Option HO
def upd (H:Hp)(a:Addr)(o:HO):Hp:=λb=>if b=a then some o else H b
theorem bU {H:Hp}{a:Addr}{o:HO}:upd H a o a=some o:=by unfold upd;rw[ak rfl]
theorem bC {H:Hp}{a b:Addr}{o:HO}(h:b≠a):upd H a o b=H b:=by unfold upd;rw[aj h]
theorem TM {H:Hp}{a b:Addr}{o u:HO}(h:H a=some o)(h':H b=some u)(d:o≠u):a≠b:=by intro e;subst e;rw[h] at h';exact d (br h')
theorem dh {H:Hp}{a b:Addr}{o:HO}(h:H a=some o)(h':H b=none):a≠b:=by intro e;subst e;rw[h] at h';cases h'
def xp (h:Heap)(a:Addr)(its:Array Value):Prop:= ∃o,h.get? a=some o /\ o.cls= .type "tuple" /\ ∃n,o.data= .seq its n /\ o.dict=none
theorem xp.t {h:Heap}{a:Addr}{its:Array Value}(x:xp h a its):IsTup h a its:=let ⟨o,e,c,n,d,_⟩:=x;⟨o,e,c,n,d⟩
theorem xp.lt {h:Heap}{a:Addr}{its:Array Value}(x:xp h a its):a<h.objs.size:=let ⟨_,e,_⟩:=x;aB e
theorem xp.new (h:Heap)(its:Array Value):xp (h.push {cls:= .type "tuple",data:= .seq its}) h.objs.size its:=⟨_,aS _ rfl,rfl,_,rfl,rfl⟩
section
variable (P:Program)(w:World)
def d4 (H:Hp)(h:Heap)(a:Addr):HO ->Prop
 | .lst xs=>xs.length<=sizeLine /\ ∃ (its:List Value) (n:Nat),Vals xs its /\ h.get? a=some {cls:= .type "list",data:= .seq its.toArray n}
 | .tup xs=>xs.length<=sizeLine /\ ∃its:List Value,Vals xs its /\ xp h a its.toArray
 | .dK kvs=>kvs.length<=sizeLine /\ (a==sysModules)=false /\ ∃vs,KV kvs vs /\ h.DictOf (cu P w) a vs
 | .dT kvs=>kvs.length<=sizeLine /\ (a==sysModules)=false /\ ∃xs:List (List Key×Addr×Value),Paired (λ(p:List Key×V) (q:List Key×Addr×Value)=>p.1=q.1 /\ H q.2.1=some (.tup (p.1.map kV)) /\ RelV p.2 q.2.2) kvs xs /\∃o es ep,h.get? a=some o /\ o.ExactDict /\ o.data= .dict es ep /\ es.toList=xs.map (entryOfKey (tupleKind (cu P w))) /\ (xs.map (·.1)).Nodup
 | .set S n=>h.SetOf (intKind P w) a S n
 | .ins C dx fs=>H dx=some (.own a) /\ fs.length<=1000 /\ dx≠a /\ h.get? a=some (PySem.W.instObj C dx) /\∃mA,h.Ns1 dx mA /\ (∀f,nX (fs.lookup f) (mA f)) /\ PySem.Within mA (fs.map (·.1))
 | .own _=> ∃o,h.get? a=some o
 | .xd fs=> ∃mA,h.Ns1 a mA /\ ∀f,nX (fs.lookup f) (mA f)
 | .Xq lo hi=> ∃t u v,h.get? a=some {cls:= .type "range",data:= .fields #[.int lo t, .int hi u, .int 1 v]}
 | .nR o u=>h.get? a=some o /\ d4 H h a u
 | .OK ps=>h.get? a=some {cls:= .none,data:= .fields ps}
 | .met f x=>h.get? a=some (PySem.W.methodObj (.ref f) (.ref x))
 | .ext φ=>φ h /\ (∃o,h.get? a=some o) /\ ∀h1 h2:Heap,φ h1 ->(∀o,h1.get? a=some o ->h2.get? a=some o) ->φ h2
def nv (H:Hp)(h:Heap):Prop:= ∀a o,H a=some o ->d4 P w H h a o
end
section
variable {P:Program}{w:World}{H H':Hp}{h h':Heap}{a:Addr}{o:HO}
theorem d4.lt (x:d4 P w H h a o):a<h.objs.size:=by
 cases o with
 | lst xs=>obtain⟨_,_,_,_,e⟩:=x;exact aB e
 | tup xs=>obtain⟨_,_,_,p⟩:=x;exact p.lt
 | dK kvs=>obtain⟨_,_,_,_,o,_,_,e,_⟩:=x;exact aB e
 | dT kvs=>obtain⟨_,_,_,_,o,_,_,e,_⟩:=x;exact aB e
 | set S n=>obtain⟨o,_,_,_,e,_⟩:=x;exact aB e
 | ins C dx fs=>obtain⟨_,_,_,e,_⟩:=x;exact aB e
 | own y=>obtain⟨_,e⟩:=x;exact aB e
 | xd fs=>obtain⟨_,⟨_,_,_,e,_⟩,_⟩:=x;exact aB e
 | Xq lo hi=>obtain⟨_,_,_,e⟩:=x;exact aB e
 | nR ob u=>obtain⟨e,_⟩:=x;exact aB e
 | OK ps=>exact aB (show h.get? a=some _ from x)
 | met f y=>exact aB (show h.get? a=some _ from x)
 | ext φ=>obtain⟨_,⟨_,e⟩,_⟩:=x;exact aB e
theorem Paired.Pw {α β:Type}{F G:α ->β ->Prop}: ∀ {l₁:List α} {l₂:List β},Paired F l₁ l₂ ->(∀a b,F a b ->G a b) ->Paired G l₁ l₂
 | _,_, .nil,_=> .nil
 | _,_, .cons r t,f=> .cons (f _ _ r) (Paired.Pw t f)
theorem d4.r9 (x:d4 P w H h a o)(k: ∀b u,(b=a \/ H b=some (.own a)) ->h.get? b=some u ->h'.get? b=some u) (ho: ∀b,H b=some (.own a) ->H' b=some (.own a)) (ht: ∀b xs,H b=some (.tup xs) ->H' b=some (.tup xs)):d4 P w H' h' a o:=by
 induction o with
 | lst xs=>obtain⟨z,its,n,r,e⟩:=x;exact⟨z,its,n,r,k _ _ (.inl rfl) e⟩
 | tup xs=>obtain⟨z,its,r,ob,e,c⟩:=x;exact⟨z,its,r,ob,k _ _ (.inl rfl) e,c⟩
 | dK kvs=>obtain⟨z,y,vs,r,ob,es,ep,e,c⟩:=x;exact⟨z,y,vs,r,ob,es,ep,k _ _ (.inl rfl) e,c⟩
 | dT kvs=>obtain⟨z,y,xs,r,ob,es,ep,e,c⟩:=x;exact⟨z,y,xs,Paired.Pw r λp q z=>⟨z.1,ht _ _ z.2.1,z.2.2⟩,ob,es,ep,k _ _ (.inl rfl) e,c⟩
 | set S n=>obtain⟨ob,es,ep,t,e,c⟩:=x;exact⟨ob,es,ep,t,k _ _ (.inl rfl) e,c⟩
 | ins C dx fs=>obtain⟨d,z,ne,e,mA,⟨od,es,ep,e2,c⟩,r⟩:=x;exact⟨ho _ d,z,ne,k _ _ (.inl rfl) e,mA,⟨od,es,ep,k _ _ (.inr d) e2,c⟩,r⟩
 | own y=>obtain⟨ob,e⟩:=x;exact⟨ob,k _ _ (.inl rfl) e⟩
 | xd fs=>obtain⟨mA,⟨od,es,ep,e,c⟩,r⟩:=x;exact⟨mA,⟨od,es,ep,k _ _ (.inl rfl) e,c⟩,r⟩
 | Xq lo hi=>obtain⟨t,u,v,e⟩:=x;exact⟨t,u,v,k _ _ (.inl rfl) e⟩
 | nR ob u ih=>obtain⟨e,q⟩:=x;exact⟨k _ _ (.inl rfl) e,ih q⟩
 | OK ps=>have e:h.get? a=some {cls:= .none,data:= .fields ps}:=x;show h'.get? a=some {cls:= .none,data:= .fields ps};exact k a _ (.inl rfl) e
 | met f y=>have e:h.get? a=some (PySem.W.methodObj (.ref f) (.ref y)):=x;show h'.get? a=some (PySem.W.methodObj (.ref f) (.ref y));exact k a _ (.inl rfl) e
 | ext φ=>obtain⟨p,⟨o,e⟩,st⟩:=x;exact⟨st _ _ p λo q=>k _ _ (.inl rfl) q,⟨o,k _ _ (.inl rfl) e⟩,st⟩
theorem nv.lt (x:nv P w H h)(e:H a=some o):a<h.objs.size:=(x a o e).lt
theorem nv.fresh (x:nv P w H h)(e:h.objs.size<=a):H a=none:=by
 cases q:H a with
 | none=>rfl
 | some u=>exact absurd (bE (x.lt q) e) (cb _)
theorem nv.kept (x:nv P w H h)(k: ∀b u,h.get? b=some u ->h'.get? b=some u):nv P w H h':=λa o e=>(x a o e).r9 (λb u _ q=>k b u q) (λ_ q=>q) λ_ _ q=>q
theorem nv.laid (x:nv P w H h)(k: ∀b u,h.get? b=some u ->h'.get? b=some u)(hp:h.objs.size<=a)(new:d4 P w (upd H a o) h' a o):nv P w (upd H a o) h':=λb u e=>by
 have hn:=x.fresh hp;by_cases hb:b=a
 ·subst hb;rw[bU] at e;cases e;exact new
 ·rw[bC hb] at e;exact(x b u e).r9 (λc v _ q=>k c v q) (λc q=>by rw[bC (dh q hn)];exact q) λc xs q=>by rw[bC (dh q hn)];exact q
end
def Rd (H:Hp)(a:Addr)(u:HO):Prop:=H a=some u \/ ∃o,H a=some (.nR o u)
theorem Rd.ok {P:Program}{w:World}{H:Hp}{h:Heap}{a:Addr}{u:HO}(r:Rd H a u)(x:nv P w H h):d4 P w H h a u:=by
 rcases r with r | ⟨o,r⟩
 ·exact x a u r
 ·obtain⟨_,q⟩:=x a _ r;exact q
def Vx:Option HO ->Prop
 | some (.lst _)=>True
 | some (.dK _)=>True
 | some (.dT _)=>True
 | some (.set _ _)=>True
 | some (.ins _ _ _)=>True
 | some (.ext _)=>True
 | _=>False
section
variable {P:Program}{w:World}{H:Hp}{h h':Heap}{x e:Addr}{o':HO}
theorem nv.write (ok:nv P w H h)(mu:Vx (H x))(he:e=x \/ H e=some (.own x))(k: ∀b u,b≠e ->h.get? b=some u ->h'.get? b=some u)(Rz: ∃u,h'.get? e=some u) (new:d4 P w (upd H x o') h' x o'):nv P w (upd H x o') h':=λb u q=>by
 have TK: ∀c y,H c=some (.own y) ->c≠x:=λc y r z=>by subst z;rw[r] at mu;exact mu
 have XH: ∀c xs,H c=some (.tup xs) ->c≠x:=λc xs r z=>by subst z;rw[r] at mu;exact mu
 by_cases hb:b=x
 ·subst hb;rw[bU] at q;cases q;exact new
 ·rw [bC hb] at q;by_cases Qn:b=e
  ·have q':H b=some (.own x):=by
    rcases he with z | z
    ·exact absurd (Qn.trans z) hb
    ·rw[Qn];exact z
   rw[q] at q';cases q';obtain⟨v,hv⟩:=Rz;exact⟨v,by rw[Qn];exact hv⟩
  ·refine(ok b u q).r9 (λc v hc r=>k c v ?_ r) (λc r=>by rw[bC (TK c b r)];exact r) λc xs r=>by rw[bC (XH c xs r)];exact r
   rcases hc with rfl | hc
   ·exact Qn
   ·rintro rfl;rcases he with z | z
    ·exact TK c b hc z
    ·rw[hc] at z;cases z;exact hb rfl
end
structure Un (fs ex:List Addr)(H H':Hp)(h h':Heap):Prop where
 keep: ∀b o,h.get? b=some o ->H b=none ->b∉fs ->b∉ex ->h'.get? b=some o
 slot: ∀b o,h.get? b=some o ->H b=none ->b∈fs ->b∉ex -> ∃sl,h'.get? b=some {o with slots:=sl}
 free: ∀b o,h.get? b=some o ->H b=none ->b∉ex ->H' b=none
 there: ∀b o,h.get? b=some o ->b∉ex -> ∃o',h'.get? b=some o'
 p6: ∀b xs,H b=some (.tup xs) ->H' b=some (.tup xs)
 nO: ∀b o u,H b=some (.nR o u) ->H' b=some (.nR o u)
 p9: ∀b ps,H b=some (.OK ps) -> ∃more,H' b=some (.OK (ps++more))
section
variable {fs D9 ex ex':List Addr}{H H1 H2:Hp}{h h1 h2 h':Heap}{a x e:Addr}{o:HO}
theorem Un.any (u:Un fs ex H H1 h h1){b:Addr}{ob:Obj}(q:h.get? b=some ob)(n:H b=none)(hx:b∉ex): ∃sl,h1.get? b=some {ob with slots:=sl}:=by
 by_cases hb:b∈fs
 ·exact u.slot b ob q n hb hx
 ·exact⟨ob.slots,u.keep b ob q n hb hx⟩
theorem Un.trans (a:Un fs ex H H1 h h1)(b:Un fs ex H1 H2 h1 h2):Un fs ex H H2 h h2 where
 keep:=λc ob q n hc hx=>b.keep c ob (a.keep c ob q n hc hx) (a.free c ob q n hx) hc hx
 slot:=λc ob q n hc hx=>by obtain⟨sl,e1⟩:=a.slot c ob q n hc hx;obtain⟨Xk,e2⟩:=b.slot c _ e1 (a.free c ob q n hx) hc hx;exact⟨Xk,e2⟩
 free:=λc ob q n hx=>by obtain⟨o',e1⟩:=a.there c ob q hx;exact b.free c o' e1 (a.free c ob q n hx) hx
 there:=λc ob q hx=>by obtain⟨o',e1⟩:=a.there c ob q hx;exact b.there c o' e1 hx
 p6:=λc xs q=>b.p6 c xs (a.p6 c xs q)
 nO:=λc ob xs q=>b.nO c ob xs (a.nO c ob xs q)
 p9:=λc ps q=>by obtain⟨m1,e1⟩:=a.p9 c ps q;obtain⟨m2,e2⟩:=b.p9 c _ e1;exact⟨m1++m2,by rw[e2,RX]⟩
theorem Un.kept (k: ∀b u,h.get? b=some u ->h'.get? b=some u):Un fs ex H H h h':=⟨λb ob q _ _ _=>k b ob q,λb ob q _ _ _=>⟨ob.slots,k b ob q⟩,λ_ _ _ n _=>n,λb ob q _=>⟨ob,k b ob q⟩,λ_ _ q=>q,λ_ _ _ q=>q,λ_ ps q=>⟨#[],by rw[q];simp⟩⟩
theorem Un.refl:Un fs ex H H h h:=Un.kept λ_ _ q=>q
theorem Un.laid (k: ∀b u,h.get? b=some u ->h'.get? b=some u)(hp:h.objs.size<=a)(hn:H a=none):Un fs ex H (upd H a o) h h' where
 keep:=λb u q _ _ _=>k b u q
 slot:=λb u q _ _ _=>⟨u.slots,k b u q⟩
 free:=λb u q n _=>by rw[bC (aX (bE (aB q) hp))];exact n
 there:=λb u q _=>⟨u,k b u q⟩
 p6:=λb xs q=>by rw[bC (dh q hn)];exact q
 nO:=λb u xs q=>by rw[bC (dh q hn)];exact q
 p9:=λb ps q=>⟨#[],by rw[bC (dh q hn),q];simp⟩
theorem Un.write (mu:Vx (H x))(he:e=x \/ H e=some (.own x))(k: ∀b u,b≠e ->h.get? b=some u ->h'.get? b=some u)(Rz: ∃u,h'.get? e=some u):Un fs ex H (upd H x o) h h':=by
 have hx: ∀b,H b=none ->b≠x:=λb n z=>by subst z;rw[n] at mu;exact mu
 have hb: ∀b,H b=none ->b≠e:=λb n z=>by
  subst z;rcases he with r | r
  ·exact hx b n r
  ·rw[n] at r;cases r
 have hm: ∀b u,H b=some u ->¬Vx (some u) ->b≠x:=λb u q nm z=>by subst z;rw[q] at mu;exact nm mu
 refine⟨λb u q n _ _=>k b u (hb b n) q,λb u q n _ _=>⟨u.slots,k b u (hb b n) q⟩,λb u q n _=>by rw[bC (hx b n)];exact n,λb u q _=> ?_,λb xs q=>by rw[bC (hm b _ q λz=>z)];exact q,λb u xs q=>by rw[bC (hm b _ q λz=>z)];exact q,λb ps q=>⟨#[],by rw[bC (hm b _ q λz=>z),q];simp⟩⟩;by_cases Qn:b=e
 ·subst Qn;exact Rz
 ·exact⟨u,k b u Qn q⟩
end
def VI (h:Heap)(H:Hp):List Addr:=(List.range h.objs.size).filter λa=>(H a).isSome
def wZ (h:Heap)(H:Hp):Heap:=PySem.W.hideAll h (VI h H)
theorem DW (h:Heap)(H:Hp):(wZ h H).objs.size=h.objs.size:=PySem.W.hideAll_size _ _
theorem HU {h:Heap}{H:Hp}{b:Addr}{o:Obj}(e:h.get? b=some o)(n:H b=none):(wZ h H).get? b=some o:=PySem.W.hideAll_get _ e λhm=>by have q:(H b).isSome=true:=(aP.mp hm).2;rw[n] at q;simp at q
theorem KS {h:Heap}{H:Hp}{b:Addr}{o:Obj}(e:(wZ h H).get? b=some o):h.get? b=some o /\ H b=none:=by
 have e':h.get? b=some o:=PySem.W.of_hideAll (VI h H) e;refine⟨e',?_⟩;cases q:H b with
 | none=>rfl
 | some x=>have hm:b∈VI h H:=aP.mpr ⟨c7.mpr (aB e'),by simp[q]⟩;have z:(wZ h H).get? b=none:=PySem.W.hideAll_none (VI h H) hm;rw[z] at e;cases e
def LQ (g h:Heap)(L:Addr):List (Addr×Obj):=(List.range h.objs.size).filterMap λa=>if a=L \/ (g.get? a).isSome=true then none else(h.get? a).map λo=>(a,o)
def rest (g h:Heap)(L d:Addr):List (Addr×Obj):=(LQ g h L).filter λp=>decide (p.1≠d)
structure Mod (K:PySem.W.Frag)(mg:Str ->Option Value)(base:Heap):Prop where
 Wa:K.In base
 glob:base.Ns mainGlobals mg
 blt: ∃mb,base.Ns builtinsNs mb /\ ∀x:Str,x≠ "__name__" ->mb x=bootBuiltins x
 nolimit:base.NoLimit
structure Cx where
 prog:Program
 w:World
 K:PySem.W.Frag
 mg:Str ->Option Value
 base:Heap
 A:Around
 N:List Str
 s₀:Shared
 H₀:Hp
 env:Env
 outer:List Env
 stack:List Env
 ex:List Addr
 fn:Str ->Bool
 calm:Bool
 pn:List (Addr×Obj)
 xe:Value ->Shared ->Prop
def Ih (l:List Env):List Addr:=l.filterMap (·.frame)
abbrev Cx.fs (X:Cx):List Addr:=Ih X.outer
def WW (sc:Scope)(x:Str):Prop:=sc.names.lookup x=some .local \/ sc.names.lookup x=some .cell \/ sc.names.lookup x=some .free
def Loc (sc:Scope)(x:Str):Prop:=sc.names.lookup x=some .local \/ sc.names.lookup x=some .cell
def Look (env:Env)(h:Heap)(m:Str ->Option Value)(x:Str)(u:Value):Prop:=(env.kindOf x=some .local /\ m x=some u) \/ ((env.kindOf x=some .cell \/ env.kindOf x=some .free) /\ ∃c,env.cells.lookup x=some c /\ h.IsCell c (some u))
structure Cx.Ok (X:Cx):Prop where
 mod:Mod X.K X.mg X.base
 kind:X.env.scope.kind= .function
 glob:X.env.globals=mainGlobals
 blt:X.env.builtins=builtinsNs
 above:X.s₀.heap.objs.size<=X.env.locals
 inj: ∀x y c,X.env.cells.lookup x=some c ->X.env.cells.lookup y=some c ->x=y
 has: ∀x,(X.env.kindOf x=some .cell \/ X.env.kindOf x=some .free) -> ∃c,X.env.cells.lookup x=some c
 Vj: ∀x c,X.fn x=true ->X.env.cells.lookup x=some c ->X.s₀.heap.objs.size<=c
 hd:X.calm=true ->X.A.handled=none
 frames:X.A.frames=some X.stack
 VP:X.stack=X.outer \/ (X.stack=X.env::X.outer /\ X.env.frame=some X.env.locals)
 exf: ∀b∈X.ex,b≠X.env.locals /\ ∀x c,X.env.cells.lookup x=some c ->c≠b
 bs: ∀b o,X.base.get? b=some o ->X.s₀.heap.get? b=some o /\ X.H₀ b=none
 JG:X.base.objs.size<=X.s₀.heap.objs.size
 Hb: ∀b o,X.base.get? b=some o ->b∉X.ex
 Eb: ∀b∈X.ex,b∉X.fs
 rC:X.s₀.heap.FunFrames X.base X.outer
 QA: ∀b∈X.fs,X.H₀ b=none
structure Inv (X:Cx)(pins:List (Addr×Obj))(σ:List (Option V))(H:Hp)(s:Shared):Prop where
 ok:X.Ok
 os:s.os=X.s₀.os
 bare:AllBare s.gens
 base:Un X.fs X.ex X.H₀ H X.s₀.heap s.heap
 loc: ∃m,s.heap.Ns X.env.locals m /\ ∀ (i:Nat) (x:Str) (v:V),X.N[i]? =some x ->σ[i]? =some (some v) ->WW X.env.scope x -> ∃u,RelV v u /\ Look X.env s.heap m x u
 cell: ∀x c,X.env.cells.lookup x=some c -> ∃v,s.heap.IsCell c v
 free:H X.env.locals=none
 jw: ∀x c,X.env.cells.lookup x=some c ->H c=none
 pin: ∀p∈X.pn++pins,s.heap.get? p.1=some p.2 /\ H p.1=none /\ p.1≠X.env.locals /\ p.1∉X.fs /\ ∀v,p.2.data≠ .cell v
 c8:nv X.prog X.w H s.heap
 len:σ.length=X.N.length
section
variable {X:Cx}{pins:List (Addr×Obj)}{σ:List (Option V)}{H H':Hp}{s:Shared}{h':Heap}
theorem Cx.Ok.XR (ok:X.Ok){b:Addr}{o:Obj}(e:X.base.get? b=some o):b∉X.fs:=λhb=>by have:=(ok.rC.mem hb).1;rw[e] at this;cases this
theorem Inv.bs (I:Inv X pins σ H s): ∀b o,X.base.get? b=some o ->s.heap.get? b=some o /\ H b=none:=λb o e=>⟨I.base.keep b o (I.ok.bs b o e).1 (I.ok.bs b o e).2 (I.ok.XR e) (I.ok.Hb b o e),I.base.free b o (I.ok.bs b o e).1 (I.ok.bs b o e).2 (I.ok.Hb b o e)⟩
theorem Inv.bk (I:Inv X pins σ H s): ∀b o,X.base.get? b=some o ->s.heap.get? b=some o:=λb o e=>(I.bs b o e).1
theorem Inv.mod (I:Inv X pins σ H s):Mod X.K X.mg X.base:=I.ok.mod
theorem Inv.rh (I:Inv X pins σ H s):X.K.In s.heap:=I.ok.mod.Wa.keeps I.bk
theorem Inv.fr (I:Inv X pins σ H s): ∃m,Fr X.base X.env.locals s.heap m:=
 let ⟨m,hn,_⟩:=I.loc
 ⟨m,hn,I.bk,a4 I.ok.JG I.ok.above⟩
theorem Inv.lt (I:Inv X pins σ H s):X.env.locals<s.heap.objs.size:=let ⟨_,hn,_⟩:=I.loc;hn.lt
theorem Inv.sz (I:Inv X pins σ H s):X.s₀.heap.objs.size<=s.heap.objs.size:=a4 I.ok.above (iY I.lt)
theorem Inv.XQ (I:Inv X pins σ H s){a:Addr}(h:s.heap.objs.size<=a):a∉X.fs:=λhb=>by obtain⟨_,o,ho,_⟩:=I.ok.rC.mem hb;exact absurd (bE (aB ho) (a4 I.sz h)) (cb _)
theorem Inv.QJ (I:Inv X pins σ H s): ∀x c,X.env.cells.lookup x=some c ->c≠X.env.locals:=λx c e z=>by obtain⟨v,o,ho,hd⟩:=I.cell x c e;obtain⟨m,⟨o',es,ep,Li,mV,_⟩,_⟩:=I.loc;rw[z,Li] at ho;cases ho;rw[mV] at hd;cases hd
theorem Inv.rC (I:Inv X pins σ H s):s.heap.FunFrames X.base X.outer:=by
 have all: ∀ (l:List Env),(∀b∈Ih l,b∈X.fs) ->X.s₀.heap.FunFrames X.base l ->s.heap.FunFrames X.base l:=by
  intro l;induction l with
  | nil=>intro _ _;trivial
  | cons env r ih=>intro hs hl;obtain⟨hk,⟨L,o,hf,hn,ho,hd⟩,hr⟩:=hl;have hL:L∈X.fs:=hs L (by unfold Ih;rw[fG,hf];exact aE);obtain⟨sl,e⟩:=I.base.slot L o ho (I.ok.QA L hL) hL λz=>I.ok.Eb L z hL;exact⟨hk,⟨L,_,hf,hn,e,hd⟩,ih (λb hb=>hs b (by unfold Ih;rw[fG,hf];exact aw _ hb)) hr⟩
 exact all X.outer (λ_ hb=>hb) I.ok.rC
theorem Inv.stack (I:Inv X pins σ H s):s.heap.FunFrames X.base X.stack:=by
 rcases I.ok.VP with e | ⟨e,hf⟩
 ·rw[e];exact I.rC
 ·rw[e];obtain⟨m,hn,_⟩:=I.loc;refine .cons (by rw[I.ok.kind];decide) hf hn ?_ I.rC;exact Heap.get?_none_of_le (a4 I.ok.JG I.ok.above)
theorem Inv.z3 (I:Inv X pins σ H s): ∀b∈Ih X.stack,b∈X.env.locals::X.fs:=λb hb=>by
 rcases I.ok.VP with e | ⟨e,hf⟩
 ·rw[e] at hb;exact aw _ hb
 ·rw[e] at hb;unfold Ih at hb;rw[fG,hf] at hb;exact hb
theorem Inv.Bp (I:Inv X pins σ H s): ∀b∈Ih X.stack,H b=none:=λb hb=>by
 rcases av.mp (I.z3 b hb) with e | hb
 ·rw[e];exact I.free
 ·obtain⟨_,o,ho,_⟩:=I.ok.rC.mem hb;exact I.base.free b o ho (I.ok.QA b hb) λz=>I.ok.Eb b z hb
theorem Inv.step {g':Array GenState}{t':Nat}{d':Drawn}{ch:List Addr}(I:Inv X pins σ H s) (JC: ∀b∈ch,(b∈X.ex \/ X.s₀.heap.objs.size<=b) /\ b≠X.env.locals /\ (∀x c,X.env.cells.lookup x=some c ->c≠b) /\ ∀p∈X.pn++pins,p.1≠b) (keep: ∀b o,b≠X.env.locals ->b∉X.fs ->b∉ch ->s.heap.get? b=some o ->H b=none ->h'.get? b=some o) (slot: ∀b o,b≠X.env.locals ->b∈X.fs ->b∉ch ->s.heap.get? b=some o ->H b=none -> ∃sl,h'.get? b=some {o with slots:=sl}) (free: ∀b o,b∉ch ->s.heap.get? b=some o ->H b=none ->H' b=none) (there: ∀b o,b∉ch ->s.heap.get? b=some o -> ∃o',h'.get? b=some o') (p6: ∀b xs,H b=some (.tup xs) ->H' b=some (.tup xs)) (nO: ∀b o u,H b=some (.nR o u) ->H' b=some (.nR o u)) (p9: ∀b ps,H b=some (.OK ps) -> ∃more,H' b=some (.OK (ps++more))) (ns: ∀m,s.heap.Ns X.env.locals m ->h'.Ns X.env.locals m) (c8:nv X.prog X.w H' h') (hg:AllBare g'): Inv X pins σ H' {s with heap:=h',gens:=g',drawn:=d',toks:=t'}:=by
 have neL: ∀b o,X.s₀.heap.get? b=some o ->b≠X.env.locals:=λb o e=>aX (bE (aB e) I.ok.above);have VZ: ∀b o,X.s₀.heap.get? b=some o ->b∉X.ex ->b∉ch:=λb o e hx hb=>by
  rcases (JC b hb).1 with z | z
  ·exact hx z
  ·exact absurd (bE (aB e) z) (cb _)
 have cellK: ∀x c,X.env.cells.lookup x=some c -> ∀v,s.heap.IsCell c v ->h'.IsCell c v:=λx c e v ⟨o,ho,hd⟩=>by
  have TQ:c∉ch:=λz=>(JC c z).2.2.1 x c e rfl;by_cases hc:c∈X.fs
  ·obtain⟨sl,q⟩:=slot c o (I.QJ x c e) hc TQ ho (I.jw x c e);exact⟨_,q,hd⟩
  ·exact⟨o,keep c o (I.QJ x c e) hc TQ ho (I.jw x c e),hd⟩
 refine⟨I.ok,I.os,hg,⟨λb o e n hb hx=> ?_,λb o e n hb hx=> ?_,λb o e n hx=> ?_,λb o e hx=> ?_,λb xs e=>p6 b xs (I.base.p6 b xs e),λb o xs e=>nO b o xs (I.base.nO b o xs e),λb ps e=> ?_⟩,?_,λx c e=> ?_,?_,λx c e=> ?_,λp hp=> ?_,c8,I.len⟩
 ·exact keep b o (neL b o e) hb (VZ b o e hx) (I.base.keep b o e n hb hx) (I.base.free b o e n hx)
 ·obtain⟨sl,e1⟩:=I.base.slot b o e n hb hx;obtain⟨Xk,e2⟩:=slot b _ (neL b o e) hb (VZ b o e hx) e1 (I.base.free b o e n hx);exact⟨Xk,e2⟩
 ·obtain⟨o',e1⟩:=I.base.there b o e hx;exact free b o' (VZ b o e hx) e1 (I.base.free b o e n hx)
 ·obtain⟨o',e1⟩:=I.base.there b o e hx;exact there b o' (VZ b o e hx) e1
 ·obtain⟨m1,e1⟩:=I.base.p9 b ps e;obtain⟨m2,e2⟩:=p9 b _ e1;exact⟨m1++m2,by rw[e2,RX]⟩
 ·obtain⟨m,hn,hl⟩:=I.loc;refine⟨m,ns m hn,λi x v e1 e2 e3=> ?_⟩;obtain⟨u,r,l⟩:=hl i x v e1 e2 e3;refine⟨u,r,?_⟩;rcases l with l | ⟨k,c,e,z⟩
  ·exact .inl l
  ·exact .inr ⟨k,c,e,cellK x c e _ z⟩
 ·obtain⟨v,z⟩:=I.cell x c e;exact⟨v,cellK x c e v z⟩
 ·obtain⟨m,⟨o,_,_,ho,_⟩,_⟩:=I.loc;exact free _ o (λz=>(JC _ z).2.1 rfl) ho I.free
 ·obtain⟨v,o,ho,hd⟩:=I.cell x c e;exact free c o (λz=>(JC c z).2.2.1 x c e rfl) ho (I.jw x c e)
 ·obtain⟨e,n,ne,nf,d⟩:=I.pin p hp;have TQ:p.1∉ch:=λz=>(JC p.1 z).2.2.2 p hp rfl;exact⟨keep p.1 p.2 ne nf TQ e n,free p.1 p.2 TQ e n,ne,nf,d⟩
theorem Inv.un {t':Nat}(I:Inv X pins σ H s)(u:Un X.fs [] H H' s.heap h')(c8:nv X.prog X.w H' h'):Inv X pins σ H' {s with heap:=h',toks:=t'}:=by obtain⟨m,⟨o,es,ep,ho,r⟩,_⟩:=id I.loc;obtain⟨sl,hL⟩:=u.any ho I.free (by simp);exact I.step (g':=s.gens) (d':=s.drawn) (ch:= []) (λ_ z=>nomatch z) (λb o _ hb _ e n=>u.keep b o e n hb (by simp)) (λb o _ hb _ e n=>u.slot b o e n hb (by simp)) (λb o _ e n=>u.free b o e n (by simp)) (λb o _ e=>u.there b o e (by simp)) u.p6 u.nO u.p9 (λm' hm=>by obtain⟨o',WJ,WN,Li,r'⟩:=hm;rw[ho] at Li;cases Li;exact⟨_,WJ,WN,hL,r'⟩) c8 I.bare
theorem Inv.call {g':Array GenState}{t':Nat}{d':Drawn}{ch:List Addr}(I:Inv X pins σ H s)(u:Un (Ih X.stack) ch H H' s.heap h')(c8:nv X.prog X.w H' h')(hg:AllBare g') (JC: ∀b∈ch,(b∈X.ex \/ X.s₀.heap.objs.size<=b) /\ b≠X.env.locals /\ (∀x c,X.env.cells.lookup x=some c ->c≠b) /\ ∀p∈X.pn++pins,p.1≠b): Inv X pins σ H' {s with heap:=h',gens:=g',drawn:=d',toks:=t'}:=by obtain⟨m,⟨o,es,ep,ho,r⟩,_⟩:=id I.loc;obtain⟨sl,hL⟩:=u.any ho I.free λz=>(JC _ z).2.1 rfl;exact I.step (ch:=ch) JC (λb o hL hb hc e n=>u.keep b o e n (λz=>(av.mp (I.z3 b z)).elim hL hb) hc) (λb o _ _ hc e n=>u.any e n hc) (λb o hc e n=>u.free b o e n hc) (λb o hc e=>u.there b o e hc) u.p6 u.nO u.p9 (λm' hm=>by obtain⟨o',WJ,WN,Li,r'⟩:=hm;rw[ho] at Li;cases Li;exact⟨_,WJ,WN,hL,r'⟩) c8 hg
theorem Inv.turned {t':Nat}{it:Addr}(I:Inv X pins σ H s)(k: ∀b o,b≠it ->s.heap.get? b=some o ->h'.get? b=some o)(hn:H it=none)(hL:it≠X.env.locals) (h1:it∈X.ex \/ X.s₀.heap.objs.size<=it) (h2: ∀x c,X.env.cells.lookup x=some c ->c≠it) (h3: ∀p∈X.pn++pins,p.1≠it):Inv X pins σ H {s with heap:=h',toks:=t'}:=by
 have nit: ∀b u,H b=some u ->b≠it:=λb u e z=>by rw[z,hn] at e;cases e
 refine I.step (g':=s.gens) (d':=s.drawn) (ch:= [it]) (λb hb=> ?_) (λb o _ _ hc e _=>k b o (λz=>hc (by simp[z])) e) (λb o _ _ hc e _=>⟨o.slots,k b o (λz=>hc (by simp[z])) e⟩) (λ_ _ _ _ n=>n) (λb o hc e=>⟨o,k b o (λz=>hc (by simp[z])) e⟩) (λ_ _ e=>e) (λ_ _ _ e=>e) (λb ps e=>⟨#[],by rw[e];simp⟩) (λm hm=> ?_) (λb u e=> ?_) I.bare
 ·have e:b=it:=by simpa using hb
  subst e;exact⟨h1,hL,h2,h3⟩
 ·obtain⟨o,es,ep,ho,r⟩:=hm;exact⟨o,es,ep,k _ o (a5 hL) ho,r⟩
 ·refine(I.c8 b u e).r9 (λc v hc q=>k c v ?_ q) (λ_ q=>q) λ_ _ q=>q;rcases hc with z | z
  ·rw[z];exact nit b u e
  ·exact nit c _ z
theorem Inv.tok (I:Inv X pins σ H s)(t:Nat):Inv X pins σ H {s with toks:=t}:=I.un (h':=s.heap) (t':=t) Un.refl I.c8
theorem Inv.kept {t':Nat}(I:Inv X pins σ H s)(k: ∀b u,s.heap.get? b=some u ->h'.get? b=some u):Inv X pins σ H {s with heap:=h',toks:=t'}:=I.un (Un.kept k) (I.c8.kept k)
theorem Inv.laid {a:Addr}{o:HO}{t':Nat}(I:Inv X pins σ H s)(k: ∀b u,s.heap.get? b=some u ->h'.get? b=some u)(hp:s.heap.objs.size<=a)(new:d4 X.prog X.w (upd H a o) h' a o): Inv X pins σ (upd H a o) {s with heap:=h',toks:=t'}:=I.un (Un.laid k hp (I.c8.fresh hp)) (I.c8.laid k hp new)
theorem Inv.write {x e:Addr}{o:HO}{t':Nat}(I:Inv X pins σ H s)(mu:Vx (H x))(he:e=x \/ H e=some (.own x))(k: ∀b u,b≠e ->s.heap.get? b=some u ->h'.get? b=some u)(Rz: ∃u,h'.get? e=some u) (new:d4 X.prog X.w (upd H x o) h' x o):Inv X pins σ (upd H x o) {s with heap:=h',toks:=t'}:=I.un (Un.write mu he k Rz) (I.c8.write mu he k Rz new)
theorem Inv.weak {σ':List (Option V)}(I:Inv X pins σ H s)(hl:σ'.length=σ.length)(w: ∀ (i:Nat) v,σ'[i]? =some (some v) ->σ[i]? =some (some v)):Inv X pins σ' H s:=⟨I.ok,I.os,I.bare,I.base,let ⟨m,hn,sX⟩:=I.loc;⟨m,hn,λi x v e1 e2 e3=>sX i x v e1 (w i v e2) e3⟩,I.cell,I.free,I.jw,I.pin,I.c8,hl.trans I.len⟩
theorem Inv.BM {BN:List (Addr×Obj)}(I:Inv X pins σ H s)(h: ∀p∈BN,s.heap.get? p.1=some p.2 /\ H p.1=none /\ p.1≠X.env.locals /\ p.1∉X.fs /\ ∀v,p.2.data≠ .cell v):Inv X BN σ H s:=⟨I.ok,I.os,I.bare,I.base,I.loc,I.cell,I.free,I.jw,λp hp=>(ax.mp hp).elim (λz=>I.pin p (jY _ z)) (h p),I.c8,I.len⟩
theorem yt {N:List Str}(hN:N.Nodup){i j:Nat}{x:Str}(a:N[i]? =some x)(b:N[j]? =some x):i=j:=by obtain⟨h1,e1⟩:=ag.mp a;obtain⟨h2,e2⟩:=ag.mp b;exact(List.getElem_inj hN).mp (e1.trans e2.symm)
theorem Di {M:Model}{A:Around}{E:Value ->Shared ->Prop}{i:Nat}{x:Str}{v:V}{u:Value}{Q:Unit ->Shared ->Prop}(I:Inv X pins σ H s)(hN:X.N.Nodup)(hi:X.N[i]? =some x)(hx:Loc X.env.scope x)(r:RelV v u) (h: ∀s',Inv X pins (σ.set i (some v)) H s' ->(∃a,Heap.SameBut a s.heap s'.heap /\ (a=X.env.locals \/ X.env.cells.lookup x=some a)) ->Q () s') (hf:X.fn x=true \/ X.env.scope.names.lookup x=some .local:=by first | exact .inl rfl | exact .inr rfl | assumption):wpAny M A (storeName X.env x u) Q E s:=by
 obtain⟨m,hn,hl⟩:=id I.loc;have Y4:(X.env.scope.kind== .class || (X.env.scope.kind== .module && X.env.locals !=X.env.globals))=false:=by rw[I.ok.kind];rfl
 have hiσ:i<σ.length:=by rw[I.len];exact(ag.mp hi).1
 have QJ:=I.QJ;have tracked: ∀ {a:Addr} {h':Heap},(∃o,s.heap.get? a=some o /\ H a=none) ->Heap.SameBut a s.heap h' ->nv X.prog X.w H h':=λ{a h'} ha hs b ob e=>by
  obtain⟨_,_,NF⟩:=ha;refine(I.c8 b ob e).r9 (λc w' hc q=>(hs.2 c ?_).trans q) (λ_ q=>q) λ_ _ q=>q;rintro rfl;rcases hc with rfl | hc
  ·rw[NF] at e;cases e
  ·rw[NF] at hc;cases hc
 rcases hx with hk | hk
 ·refine wpAny_storeName_local hk hn (λh' P9 hs=> ?_) Y4;obtain⟨oL,_,_,hoL,_⟩:=id hn;refine h _ ⟨I.ok,I.os,I.bare,⟨λb o e n hb hx=> ?_,λb o e n hb hx=> ?_,I.base.free,λb o e hx=> ?_,I.base.p6,I.base.nO,I.base.p9⟩,⟨_,P9,λj y v' e1 e2 e3=> ?_⟩,λy c e=> ?_,I.free,I.jw,λp hp=> ?_,tracked ⟨oL,hoL,I.free⟩ hs,by simpa using I.len⟩ ⟨_,hs, .inl rfl⟩
  ·exact(hs.2 b (aX (bE (aB e) I.ok.above))).trans (I.base.keep b o e n hb hx)
  ·obtain⟨sl,e1⟩:=I.base.slot b o e n hb hx;exact⟨sl,(hs.2 b (aX (bE (aB e) I.ok.above))).trans e1⟩
  ·obtain⟨o',e1⟩:=I.base.there b o e hx;exact⟨o',(hs.2 b (aX (bE (aB e) I.ok.above))).trans e1⟩
  ·by_cases hj:j=i
   ·subst hj;rw[hi] at e1;cases e1;rw[JS hiσ] at e2;cases e2;exact⟨u,r, .inl ⟨hk,by simp⟩⟩
   ·rw[qT (a5 hj)] at e2;obtain⟨u',r',q⟩:=hl j y v' e1 e2 e3;refine⟨u',r',?_⟩;rcases q with⟨k,e⟩ | ⟨k,c,e,z⟩
    ·refine .inl ⟨k,?_⟩;have:y≠x:=λe=>hj (yt hN e1 (e▸hi));simp[this,e]
    ·exact .inr ⟨k,c,e,z.sameBut hs (QJ y c e)⟩
  ·obtain⟨w',z⟩:=I.cell y c e;exact⟨w',z.sameBut hs (QJ y c e)⟩
  ·obtain⟨e,n,ne,nf,d⟩:=I.pin p hp;exact⟨(hs.2 p.1 ne).trans e,n,ne,nf,d⟩
 ·have YY:X.fn x=true:=by
   rcases hf with z | z
   ·exact z
   ·rw[z] at hk;cases hk
  obtain⟨c,hc⟩:=I.ok.has x (.inl hk);obtain⟨w',z⟩:=I.cell x c hc;refine wpAny_storeName_cell I.ok.kind hk hc z (λh' RG hs=> ?_);obtain⟨oc,hoc,Yy⟩:=id z;refine h {s with heap:=h'} ⟨I.ok,I.os,I.bare,⟨λb o e n hb hx=> ?_,λb o e n hb hx=> ?_,I.base.free,λb o e hx=> ?_,I.base.p6,I.base.nO,I.base.p9⟩,⟨m,hn.sameBut hs (a5 (QJ x c hc)),λj y v' e1 e2 e3=> ?_⟩,λy c' e=> ?_,I.free,I.jw,λp hp=> ?_,tracked ⟨oc,hoc,I.jw x c hc⟩ hs,by simpa using I.len⟩ ⟨c,hs, .inr hc⟩
  ·exact(hs.2 b (aX (bE (aB e) (I.ok.Vj x c YY hc)))).trans (I.base.keep b o e n hb hx)
  ·obtain⟨sl,e1⟩:=I.base.slot b o e n hb hx;exact⟨sl,(hs.2 b (aX (bE (aB e) (I.ok.Vj x c YY hc)))).trans e1⟩
  ·obtain⟨o',e1⟩:=I.base.there b o e hx;exact⟨o',(hs.2 b (aX (bE (aB e) (I.ok.Vj x c YY hc)))).trans e1⟩
  ·by_cases hj:j=i
   ·subst hj;rw[hi] at e1;cases e1;rw[JS hiσ] at e2;cases e2;exact⟨u,r, .inr ⟨.inl hk,c,hc,RG⟩⟩
   ·rw[qT (a5 hj)] at e2;obtain⟨u',r',q⟩:=hl j y v' e1 e2 e3;refine⟨u',r',?_⟩;rcases q with q | ⟨k,c',e,z'⟩
    ·exact .inl q
    ·refine .inr ⟨k,c',e,z'.sameBut hs ?_⟩;rintro rfl;exact hj (yt hN e1 (I.ok.inj _ _ _ e hc▸hi))
  ·by_cases hcc:c'=c
   ·subst hcc;exact⟨_,RG⟩
   ·obtain⟨w2,z2⟩:=I.cell y c' e;exact⟨w2,z2.sameBut hs hcc⟩
  ·obtain⟨e,n,ne,nf,d⟩:=I.pin p hp;refine⟨(hs.2 p.1 ?_).trans e,n,ne,nf,d⟩;intro q;rw[q,hoc] at e;have q':oc=p.2:=br e;exact d w' (by rw[<- q'];exact Yy)
theorem xQ {M:Model}{A:Around}{E:Value ->Shared ->Prop}{i:Nat}{x:Str}{v:V}{u:Value}{Q:Unit ->Shared ->Prop}(I:Inv X pins σ H s)(hN:X.N.Nodup)(hi:X.N[i]? =some x)(hx:Loc X.env.scope x)(r:RelV v u) (h: ∀s',Inv X pins (σ.set i (some v)) H s' ->Q () s') (hf:X.fn x=true \/ X.env.scope.names.lookup x=some .local:=by first | exact .inl rfl | exact .inr rfl | assumption):wpAny M A (storeName X.env x u) Q E s:=Di I hN hi hx r (λs' I' _=>h s' I') hf
theorem Inv.Vi {s':Shared}{ch:List Addr}(I:Inv X pins σ H s)(ho:s'.os=s.os)(u:Un (Ih X.stack) ch H H' s.heap s'.heap)(c8:nv X.prog X.w H' s'.heap)(hg:AllBare s'.gens) (JC: ∀b∈ch,(b∈X.ex \/ X.s₀.heap.objs.size<=b) /\ b≠X.env.locals /\ (∀x c,X.env.cells.lookup x=some c ->c≠b) /\ ∀p∈X.pn++pins,p.1≠b):Inv X pins σ H' s':=by obtain⟨h',g',d',t',o'⟩:=s';have e:o'=s.os:=ho;subst e;exact I.call (g':=g') (t':=t') (d':=d') u c8 hg JC
end
abbrev XK:=Value ->Option Addr ->Hp ->Prop
abbrev St:=List (Option V)
abbrev VK:=V ->Hp ->Prop
abbrev TE:=St ->Hp ->VK ->Prop
abbrev TT:=St ->Hp ->(Bool ->Hp ->Prop) ->Prop
abbrev TA:=St ->Hp ->(List V ->Hp ->Prop) ->Prop
structure Ends where
 nx:St ->Hp ->Prop
 rt:VK
 bk:St ->Hp ->Prop:=λ_ _=>False
 ct:St ->Hp ->Prop:=λ_ _=>False
abbrev TS:=Ends ->St ->Hp ->Prop
def EP (X:Cx)(pins:List (Addr×Obj))(σ:St)(Q:VK)(u:Value)(s':Shared):Prop:= ∃v H',Inv X pins σ H' s' /\ RelV v u /\ Q v H'
def TP (X:Cx)(pins:List (Addr×Obj))(σ:St)(Q:Bool ->Hp ->Prop)(b:Bool)(s':Shared):Prop:= ∃H',Inv X pins σ H' s' /\ Q b H'
def AP (X:Cx)(pins:List (Addr×Obj))(σ:St)(Q:List V ->Hp ->Prop)(us:List Value)(s':Shared):Prop:= ∃vs H',Inv X pins σ H' s' /\ Vals vs us /\ Q vs H'
def SP (X:Cx)(pins:List (Addr×Obj))(D:Ends)(f:Flow)(s':Shared):Prop:=
 match f with
 | .next=> ∃σ' H',Inv X pins σ' H' s' /\ D.nx σ' H'
 | .brk=> ∃σ' H',Inv X pins σ' H' s' /\ D.bk σ' H'
 | .cont=> ∃σ' H',Inv X pins σ' H' s' /\ D.ct σ' H'
 | .ret u=> ∃v σ' H',Inv X pins σ' H' s' /\ RelV v u /\ D.rt v H'
def PE (X:Cx)(e:Expr)(t:TE):Prop:=∀ (pins:List (Addr×Obj)) (s:Shared) (σ:St) (H:Hp) (Q:VK),Inv X pins σ H s ->t σ H Q ->wpAny (model X.prog X.w) X.A (eval e X.env) (EP X pins σ Q) X.xe s
def PT (X:Cx)(e:Expr)(t:TT):Prop:=∀ (pins:List (Addr×Obj)) (s:Shared) (σ:St) (H:Hp) (Q:Bool ->Hp ->Prop),Inv X pins σ H s ->t σ H Q ->wpAny (model X.prog X.w) X.A (isTrue e X.env (eval e X.env)) (TP X pins σ Q) X.xe s
def PW (X:Cx)(e:Expr)(t:TT):Prop:=∀ (whole:Sem Value) (pins:List (Addr×Obj)) (s:Shared) (σ:St) (H:Hp) (Q:Bool ->Hp ->Prop),Inv X pins σ H s ->t σ H Q ->wpAny (model X.prog X.w) X.A (isTrue e X.env whole) (TP X pins σ Q) X.xe s
theorem PW.pt {X:Cx}{e:Expr}{t:TT}(h:PW X e t):PT X e t:=h _
def PA (X:Cx)(es:List Expr)(t:TA):Prop:=∀ (pos:Pos) (pins:List (Addr×Obj)) (s:Shared) (σ:St) (H:Hp) (Q:List V ->Hp ->Prop),Inv X pins σ H s ->t σ H Q ->wpAny (model X.prog X.w) X.A (spliced (backTo pos (starEach es X.env))) (AP X pins σ Q) X.xe s
def PS (X:Cx)(st:Stmt)(t:TS):Prop:=∀ (pins:List (Addr×Obj)) (s:Shared) (σ:St) (H:Hp) (D:Ends),Inv X pins σ H s ->t D σ H ->wpAny (model X.prog X.w) X.A (exec st X.env) (SP X pins D) X.xe s
def zD (X:Cx)(st:List Stmt)(t:TS):Prop:=∀ (pins:List (Addr×Obj)) (s:Shared) (σ:St) (H:Hp) (D:Ends),Inv X pins σ H s ->t D σ H ->wpAny (model X.prog X.w) X.A (execs st X.env) (SP X pins D) X.xe s
theorem dj {α:Type}{t:Sem α}{Q Q':α ->Shared ->Prop}{M:Model}{A:Around}{E:Value ->Shared ->Prop}{s:Shared}(h:wpAny M A t Q E s)(hQ: ∀a s,Q a s ->Q' a s):wpAny M A t Q' E s:=bJ h hQ λ_ _ x=>x
section
variable {X:Cx}
theorem bin {a b:Expr}{ta tb:TE}(ha:PE X a ta)(hb:PE X b tb){pins:List (Addr×Obj)}{s:Shared}{σ:St}{H:Hp}{R:V ->V ->Hp ->Prop}(I:Inv X pins σ H s)(h:ta σ H λx H1=>tb σ H1 λy H2=>R x y H2) {α:Type} {Q:α ->Shared ->Prop} {f:Value ->Value ->Sem α} (hf: ∀v u s2 x y H2,Inv X pins σ H2 s2 ->RelV x v ->RelV y u ->R x y H2 ->wpAny (model X.prog X.w) X.A (f v u) Q X.xe s2): wpAny (model X.prog X.w) X.A (eval a X.env) (λv s₁=>wpAny (model X.prog X.w) X.A (eval b X.env) (λu s₂=>wpAny (model X.prog X.w) X.A (f v u) Q X.xe s₂) X.xe s₁) X.xe s:=by refine dj (ha pins s σ H _ I h) λv s1 ⟨x,H1,I1,r1,q1⟩=> ?_;refine dj (hb pins s1 σ H1 _ I1 q1) λu s2 ⟨y,H2,I2,r2,q2⟩=> ?_;exact hf v u s2 x y H2 I2 r1 r2 q2
def Kf (i:Nat):TE:=λσ H Q=> ∃v,σ[i]? =some (some v) /\ Q v H
def tC (v:V):TE:=λ_ H Q=>Q v H
theorem O7 {i:Nat}{x:Str}{pos:Pos}(hN:X.N[i]? =some x)(hv:WW X.env.scope x)(hd:(x==("__debug__" :Str))=false:=by decide)(DY:(x==("__classdict__" :Str))=false:=by decide):PE X (.Name x pos) (Kf i):=by
 intro pins s σ H Q I h;obtain⟨v,e,h⟩:=h;obtain⟨m,hn,hl⟩:=I.loc;obtain⟨u,r,l⟩:=hl i x v hN e hv;have fin:EP X pins σ Q u s:=⟨v,H,I,r,h⟩
 rcases l with⟨hk,hm⟩ | ⟨hk,c,hc,NH⟩
 ·exact wpAny_Name (wpAny_loadName_local I.ok.kind hk hn hm fin) hd
 ·rcases hk with hk | hk
  ·exact wpAny_Name (wpAny_loadName_cell I.ok.kind hk hc NH fin) hd
  ·exact wpAny_Name (wpAny_loadName_free I.ok.kind hk hc NH fin DY) hd
theorem aK {i j pos}:PE X (.Constant (.int i) j pos) (tC (.int i)):=λ_ _ _ H _ I h=>wpAny_Constant_int ⟨.int i,H,I.tok _,⟨_,rfl⟩,h⟩
theorem sF {b j pos}:PE X (.Constant (.bool b) j pos) (tC (.bl b)):=λ_ _ _ H _ I h=>Constant_bool ⟨.bl b,H,I,rfl,h⟩
theorem GJ {j pos}:PE X (.Constant .none j pos) (tC .dS):=λ_ _ _ H _ I h=>Constant_none ⟨.dS,H,I,rfl,h⟩
def Gl (X:Cx)(x:Str):Prop:=X.env.kindOf x=some .globalImplicit
theorem B0 {E:Value ->Shared ->Prop}{pins:List (Addr×Obj)}{s:Shared}{σ:St}{H:Hp}{x:Str}{u:Value}{pos:Pos}{Q:Value ->Shared ->Prop}(I:Inv X pins σ H s)(hg:Gl X x)(hm:X.mg x=some u)(h:Q u s) (hd:(x==("__debug__" :Str))=false:=by decide):wpAny (model X.prog X.w) X.A (eval (.Name x pos) X.env) Q E s:=Oh I.ok.kind hg (Calls.loadGlobal_global (by rw[I.ok.glob];exact I.mod.glob.keeps I.bk) hm h) hd
theorem iR {E:Value ->Shared ->Prop}{pins:List (Addr×Obj)}{s:Shared}{σ:St}{H:Hp}{x:Str}{u:Value}{pos:Pos}{Q:Value ->Shared ->Prop}(I:Inv X pins σ H s)(hg:Gl X x)(hm:X.mg x=none)(hv:bootBuiltins x=some u)(h:Q u s) (hn:x≠ "__name__" :=by decide) (hd:(x==("__debug__" :Str))=false:=by decide):wpAny (model X.prog X.w) X.A (eval (.Name x pos) X.env) Q E s:=by obtain⟨mb,h1,h2⟩:=I.mod.blt;exact Oh I.ok.kind hg (Calls.loadGlobal_builtin (by rw[I.ok.glob];exact I.mod.glob.keeps I.bk) hm (by rw[I.ok.blt];exact h1.keeps I.bk) ((h2 x hn).trans hv) h) hd
theorem mf {x:Str}{v:V}{u:Value}{pos:Pos}(hg:Gl X x)(hm:X.mg x=none)(hv:bootBuiltins x=some u)(r:RelV v u)(hn:x≠ "__name__" :=by decide)(hd:(x==("__debug__" :Str))=false:=by decide):PE X (.Name x pos) (tC v):=λ_ _ _ H _ I h=>iR I hg hm hv ⟨v,H,I,r,h⟩ hn hd
variable {a b:Expr}{ta tb:TE}{pos:Pos}
def PC (X:Cx)(op:CmpOp)(a b:Expr)(t:TE):Prop:=∀ (pins:List (Addr×Obj)) (s:Shared) (σ:St) (H:Hp) (Q:VK),Inv X pins σ H s ->t σ H Q ->wpAny (model X.prog X.w) X.A (eval a X.env) (λv s₁=>wpAny (model X.prog X.w) X.A (eval b X.env) (λu s₂=>wpAny (model X.prog X.w) X.A (compareOp op v u) (EP X pins σ Q) X.xe s₂) X.xe s₁) X.xe s
theorem Hd (b:Expr){op:CmpOp}(h:op≠ .In)(h2:op≠ .NotIn):behindInMarks op b=false:=by
 have e1:(op==CmpOp.In)=false:=by cases op<;>first | rfl | exact absurd rfl h
 have e2:(op==CmpOp.NotIn)=false:=by cases op<;>first | rfl | exact absurd rfl h2
 cases b<;>simp[behindInMarks,e1,e2]
def tB (t:TE):TT:=λσ H Q=>t σ H λx H1=> ∃c,x= .bl c /\ Q c H1
theorem O4 {op:CmpOp}{t:TE}(h:PC X op a b t)(h1:behindInMarks op b=false:=by first | exact Hd _ (by decide) (by decide) | rfl):PT X (.Compare a [op] [b] pos) (tB t):=by intro pins s σ H Q I hw;refine wpAny_isTrue_Compare1 (dj (h pins s σ H _ I hw) λv s1 h1=>dj h1 λu s2 h2=>dj h2 λc s3 ⟨x,H1,I1,r1,q1⟩=> ?_) h1;obtain⟨d,rfl,q⟩:=q1;cases r1;exact df ⟨H1,I1,q⟩
theorem nE {e:Expr}{t:TE}(h:PE X e t)(he: ∀whole,isTrue e X.env whole=(do let v <- whole;standAt e.pos;holding [v] (truthy v)):=by intro _;rfl):PT X e (tB t):=by intro pins s σ H Q I hw;refine isTrue_plain (dj (h pins s σ H _ I hw) λv s1 ⟨x,H1,I1,r1,q1⟩=> ?_) (he _);obtain⟨d,rfl,q⟩:=q1;cases r1;exact df ⟨H1,I1,q⟩
variable {tA VN:TT}{rest:List Expr}
def SR (t u:TT):TT:=λσ H Q=>t σ H λc H1=>if c=true then u σ H1 Q else Q false H1
def tOr (t u:TT):TT:=λσ H Q=>t σ H λc H1=>if c=true then Q true H1 else u σ H1 Q
def SM (t:TT):TT:=λσ H Q=>t σ H λc H1=>Q (!c) H1
theorem wx (ha:PT X a tA):PW X (.BoolOp .And [a] pos) tA:=by
 intro wh pins s σ H Q I h;refine isTrue_and (dj (ha pins s σ H Q I h) λc s1 e=> ?_);cases c with
 | true=>exact isTrue_and_nil e
 | false=>exact e
theorem wu (ha:PT X a tA):PW X (.BoolOp .Or [a] pos) tA:=by
 intro wh pins s σ H Q I h;refine isTrue_or (dj (ha pins s σ H Q I h) λc s1 e=> ?_);cases c with
 | false=>exact isTrue_or_nil e
 | true=>exact e
theorem Ac (ha:PT X a tA)(hb:PW X (.BoolOp .And (b::rest) pos) VN):PW X (.BoolOp .And (a::b::rest) pos) (SR tA VN):=by
 intro wh pins s σ H Q I h;refine isTrue_and (dj (ha pins s σ H _ I h) λc s1 ⟨H1,I1,q1⟩=> ?_);cases c with
 | true=>exact hb wh pins s1 σ H1 Q I1 q1
 | false=>exact⟨H1,I1,q1⟩
theorem uJ (ha:PT X a tA)(hb:PW X (.BoolOp .Or (b::rest) pos) VN):PW X (.BoolOp .Or (a::b::rest) pos) (tOr tA VN):=by
 intro wh pins s σ H Q I h;refine isTrue_or (dj (ha pins s σ H _ I h) λc s1 ⟨H1,I1,q1⟩=> ?_);cases c with
 | true=>exact⟨H1,I1,q1⟩
 | false=>exact hb wh pins s1 σ H1 Q I1 q1
theorem kO (ha:PT X a tA):PT X (.UnaryOp .Not a pos) (SM tA):=by intro pins s σ H Q I h;exact isTrue_not (ha pins s σ H (λc H1=>Q (!c) H1) I h)
def My (ta tb:TE):TE:=λσ H Q=>ta σ H λx H1=> ∃c,x= .bl c /\ if c=true then tb σ H1 Q else Q (.bl false) H1
def Mr (ta:TE):TE:=λσ H Q=>ta σ H λx H1=> ∃c,x= .bl c /\ Q (.bl (!c)) H1
theorem GI {op}{t:TE}(h:PE X a t):PE X (.BoolOp op [a] pos) t:=λpins s σ H Q I hw=>BoolOp_one (h pins s σ H Q I hw)
theorem GP (ha:PE X a ta)(hb:PE X (.BoolOp .And (b::rest) pos) tb):PE X (.BoolOp .And (a::b::rest) pos) (My ta tb):=by
 intro pins s σ H Q I h;refine BoolOp_and (dj (ha pins s σ H _ I h) λv s1 ⟨x,H1,I1,r1,q1⟩=> ?_);obtain⟨c,rfl,q1⟩:=q1;cases r1;refine df ?_;cases c with
 | true=>exact hb pins s1 σ H1 Q I1 q1
 | false=>exact⟨.bl false,H1,I1,rfl,q1⟩
theorem O8 (ha:PE X a ta):PE X (.UnaryOp .Not a pos) (Mr ta):=by intro pins s σ H Q I h;refine UnaryOp_ (dj (ha pins s σ H _ I h) λv s1 ⟨x,H1,I1,r1,q1⟩=> ?_);obtain⟨c,rfl,q1⟩:=q1;cases r1;exact not_of (df ⟨.bl (!c),H1,I1,rfl,q1⟩)
end
def ix (K:PySem.W.Frag)(H:Hp)(a:Addr)(xs:List V):Prop:=Rd H a (.lst xs) \/∃ (o:Obj) (its:Array Value) (n:Nat),K.lookup a=some o /\ o.cls= .type "list" /\ o.dict=none /\ o.data= .seq its n /\ its.size<=sizeLine /\ Vals xs its.toList
def kD (K:PySem.W.Frag)(H:Hp)(a:Addr)(xs:List V):Prop:=Rd H a (.tup xs) \/∃ (o:Obj) (its:Array Value) (n:Nat),K.lookup a=some o /\ o.cls= .type "tuple" /\ o.dict=none /\ o.data= .seq its n /\ its.size<=sizeLine /\ Vals xs its.toList
def aaj:Value ->Option V
 | .none=>some .dS
 | .bool b=>some (.bl b)
 | .int i _=>some (.int i)
 | .str x _=>some (.str x)
 | .bytes b _=>some (.AZ b)
 | .float b _=>some (.Cs b)
 | .ref a=>some (.ref a)
 | .type n=>some (.ty n)
 | _=>none
theorem RelV.abs {x:V}{u:Value}(r:RelV x u):aaj u=some x:=by
 cases x with
 | dS=>cases r;rfl
 | bl _=>cases r;rfl
 | int _=>obtain⟨t,rfl⟩:=r;rfl
 | str _=>obtain⟨t,rfl⟩:=r;rfl
 | AZ _=>obtain⟨t,rfl⟩:=r;rfl
 | Cs _=>obtain⟨t,rfl⟩:=r;rfl
 | ref _=>cases r;rfl
 | ty _=>cases r;rfl
theorem RelV.inj {x y:V}{u:Value}(r:RelV x u)(q:RelV y u):x=y:=br (r.abs.symm.trans q.abs)
theorem Vals.inj: ∀ {xs ys:List V} {us:List Value},Vals xs us ->Vals ys us ->xs=ys
 | _,_,_, .nil, .nil=>rfl
 | _,_,_, .cons r t, .cons r' t'=>by rw[r.inj r',Vals.inj t t']
section
variable {X:Cx}{pins:List (Addr×Obj)}{σ:St}{H:Hp}{s:Shared}{a:Addr}{xs ys:List V}
theorem ix.of {K:PySem.W.Frag}(h:H a=some (.lst xs)):ix K H a xs:= .inl (.inl h)
theorem kD.of {K:PySem.W.Frag}(h:H a=some (.tup xs)):kD K H a xs:= .inl (.inl h)
theorem Inv.list (I:Inv X pins σ H s)(h:ix X.K H a xs): ∃its:List Value,Vals xs its /\ PlainL s.heap a its.toArray /\ xs.length<=sizeLine:=by
 rcases h with h | ⟨o,its,n,hk,hc,hd,hs,hz,r⟩
 ·obtain⟨z,its,n,r,e⟩:=h.ok I.c8;exact⟨its,r,⟨_,n,e,rfl,rfl,rfl⟩,z⟩
 ·refine⟨its.toList,r,⟨o,n,I.rh a o hk,hc,hd,by simpa using hs⟩,?_⟩;have e:=r.length;simp only[cT] at e;lia
theorem Inv.tuple (I:Inv X pins σ H s)(h:kD X.K H a xs): ∃its:List Value,Vals xs its /\ IsTup s.heap a its.toArray /\ xs.length<=sizeLine:=by
 rcases h with h | ⟨o,its,n,hk,hc,_,hs,hz,r⟩
 ·obtain⟨z,its,r,p⟩:=h.ok I.c8;exact⟨its,r,p.t,z⟩
 ·refine⟨its.toList,r,⟨o,I.rh a o hk,hc,n,by simpa using hs⟩,?_⟩;have e:=r.length;simp only[cT] at e;lia
theorem Inv.OE (I:Inv X pins σ H s)(h:kD X.K H a xs): ∃its:List Value,Vals xs its /\ xp s.heap a its.toArray /\ xs.length<=sizeLine:=by
 rcases h with h | ⟨o,its,n,hk,hc,hd,hs,hz,r⟩
 ·obtain⟨z,its,r,p⟩:=h.ok I.c8;exact⟨its,r,p,z⟩
 ·refine⟨its.toList,r,⟨o,I.rh a o hk,hc,n,by simpa using hs,hd⟩,?_⟩;have e:=r.length;simp only[cT] at e;lia
theorem Inv.list_inj (I:Inv X pins σ H s)(h:ix X.K H a xs)(h':ix X.K H a ys):xs=ys:=by
 obtain⟨its,r,⟨o,n,e,_,_,d⟩,_⟩:=I.list h;obtain⟨its',r',⟨o',n',e',_,_,d'⟩,_⟩:=I.list h';rw[e] at e';cases e';rw[d] at d';injection d' with d1 _;have:its=its':=by simpa using congrArg Array.toList d1
 subst this;exact r.inj r'
theorem Inv.p8 (I:Inv X pins σ H s)(h:kD X.K H a xs)(h':kD X.K H a ys):xs=ys:=by
 obtain⟨its,r,⟨o,e,_,n,d⟩,_⟩:=I.tuple h;obtain⟨its',r',⟨o',e',_,n',d'⟩,_⟩:=I.tuple h';rw[e] at e';cases e';rw[d] at d';injection d' with d1 _;have:its=its':=by simpa using congrArg Array.toList d1
 subst this;exact r.inj r'
end
abbrev Cx.tZ (X:Cx)(E:Value ->Shared ->Prop):Cx:= {X with xe:=E}
abbrev Cx.Pm (X:Cx):Cx:=X.tZ λ_ _=>False
theorem Cx.Ok.tZ {X:Cx}(ok:X.Ok)(E:Value ->Shared ->Prop):(X.tZ E).Ok:=⟨ok.mod,ok.kind,ok.glob,ok.blt,ok.above,ok.inj,ok.has,ok.Vj,ok.hd,ok.frames,ok.VP,ok.exf,ok.bs,ok.JG,ok.Hb,ok.Eb,ok.rC,ok.QA⟩
theorem Cx.Ok.lI {X:Cx}{E:Value ->Shared ->Prop}(ok:(X.tZ E).Ok):X.Ok:=⟨ok.mod,ok.kind,ok.glob,ok.blt,ok.above,ok.inj,ok.has,ok.Vj,ok.hd,ok.frames,ok.VP,ok.exf,ok.bs,ok.JG,ok.Hb,ok.Eb,ok.rC,ok.QA⟩
section
variable {X:Cx}{pins:List (Addr×Obj)}{σ:St}{H:Hp}{s:Shared}{E:Value ->Shared ->Prop}
theorem Inv.tZ (I:Inv X pins σ H s)(E:Value ->Shared ->Prop):Inv (X.tZ E) pins σ H s:=⟨I.ok.tZ E,I.os,I.bare,I.base,I.loc,I.cell,I.free,I.jw,I.pin,I.c8,I.len⟩
theorem Inv.lI (I:Inv (X.tZ E) pins σ H s):Inv X pins σ H s:=⟨I.ok.lI,I.os,I.bare,I.base,I.loc,I.cell,I.free,I.jw,I.pin,I.c8,I.len⟩
theorem SP.lI {D:Ends}{f:Flow}{s':Shared}(h:SP (X.tZ E) pins D f s'):SP X pins D f s':=by
 cases f with
 | next=>obtain⟨σ',H',I,q⟩:=h;exact⟨σ',H',I.lI,q⟩
 | brk=>obtain⟨σ',H',I,q⟩:=h;exact⟨σ',H',I.lI,q⟩
 | cont=>obtain⟨σ',H',I,q⟩:=h;exact⟨σ',H',I.lI,q⟩
 | ret u=>obtain⟨v,σ',H',I,r,q⟩:=h;exact⟨v,σ',H',I.lI,r,q⟩
theorem zD.Pm {st:List Stmt}{t:TS}(h:zD X.Pm st t):zD X st t:=λpins s σ H D I hw=>bJ (h pins s σ H D (I.tZ _) hw) (λ_ _ q=>q.lI) λ_ _ z=>False.elim z
end
section
variable {X:Cx}{st:Stmt}{rest:List Stmt}{t u:TS}{e:Expr}{te:TE}{pos:Pos}
def Ms:TS:=λD σ H=>D.nx σ H
def OL (t u:TS):TS:=λD σ H=>t {D with nx:=u D} σ H
theorem eU:zD X [] Ms:=λ_ _ σ H _ I h=>rX ⟨σ,H,I,h⟩
theorem aI (h1:PS X st t)(h2:zD X rest u):zD X (st::rest) (OL t u):=by
 intro pins s σ H D I h;refine wpAny_execs_cons (dj (h1 pins s σ H {D with nx:=u D} I h) λf s1 q=> ?_);cases f with
 | next=>obtain⟨σ',H',I',q⟩:=q;exact h2 pins s1 σ' H' D I' q
 | ret v=>exact q
 | brk=>exact q
 | cont=>exact q
theorem aR (h1:PS X st t):zD X [st] t:=by
 intro pins s σ H D I h;refine wpAny_execs_cons (dj (h1 pins s σ H D I h) λf s1 q=> ?_);cases f with
 | next=>exact rX q
 | ret v=>exact q
 | brk=>exact q
 | cont=>exact q
def Mw:TS:=λD σ H=>D.ct σ H
theorem yh:PS X (.Continue pos) Mw:=λ_ _ σ H _ I h=>wpAny_Continue ⟨σ,H,I,h⟩
theorem Inv.quiet {pins:List (Addr×Obj)}{σ:St}{H:Hp}{s:Shared}(I:Inv X pins σ H s):interactive X.env=false:=by simp[interactive,I.ok.kind]
def Mu (te:TE):TS:=λD σ H=>te σ H λ_ H1=>D.nx σ H1
theorem gu (he:PE X e te)(hs:swapsWith e none pos.line X.env=pure false:=by rfl):PS X (.Expr e pos) (Mu te):=by intro pins s σ H D I h;exact wpAny_Expr_any (dj (he pins s σ H _ I h) λv s1 ⟨x,H1,I1,r1,q1⟩=>⟨σ,H1,I1,q1⟩) I.quiet hs
def SJ (te:TE):TS:=λD σ H=>te σ H D.rt
theorem cQ (he:PE X e te):PS X (.Return (some e) pos) (SJ te):=by intro pins s σ H D I h;exact wpAny_Return_some (dj (he pins s σ H _ I h) λv s1 ⟨x,H1,I1,r1,q1⟩=>⟨x,σ,H1,I1,r1,q1⟩)
def Mo:TS:=λD _ H=>D.rt .dS H
theorem Ku:PS X (.Return none pos) Mo:=λ_ _ σ H _ I h=>wpAny_Return_none ⟨.dS,σ,H,I,rfl,h⟩
def SO (c:TT)(t u:TS):TS:=λD σ H=>c σ H λb H1=>if b=true then t D σ H1 else u D σ H1
theorem fP {c:Expr}{a b:List Stmt}{tc:TT}(hc:PT X c tc)(ha:zD X a t)(hb:zD X b u):PS X (.If c a b pos) (SO tc t u):=by
 intro pins s σ H D I h;refine wpAny_If (dj (hc pins s σ H _ I h) λd s1 ⟨H1,I1,q1⟩=> ?_);cases d with
 | true=>exact ha pins s1 σ H1 D I1 q1
 | false=>exact hb pins s1 σ H1 D I1 q1
end
abbrev TG:=V ->St ->Hp ->(St ->Hp ->Prop) ->Prop
abbrev JJ:=List V ->St ->Hp ->(St ->Hp ->Prop) ->Prop
def PG (X:Cx)(target:Expr)(t:TG):Prop:=∀ (pins:List (Addr×Obj)) (s:Shared) (σ:St) (H:Hp) (v:V) (u:Value) (Q:St ->Hp ->Prop),Inv X pins σ H s ->RelV v u ->t v σ H Q ->wpAny (model X.prog X.w) X.A (assign target X.env u) (λ_ s'=> ∃σ' H',Inv X pins σ' H' s' /\ Q σ' H') X.xe s
def WZ (X:Cx)(ts:List Expr)(t:JJ):Prop:=∀ (pins:List (Addr×Obj)) (s:Shared) (σ:St) (H:Hp) (vs:List V) (us:List Value) (Q:St ->Hp ->Prop),Inv X pins σ H s ->Vals vs us ->t vs σ H Q ->wpAny (model X.prog X.w) X.A (assignInOrder ((assignEach ts X.env).map (·.2)) us) (λ_ s'=> ∃σ' H',Inv X pins σ' H' s' /\ Q σ' H') X.xe s
abbrev Jc:=V ->V ->V ->Hp ->(Hp ->Prop) ->Prop
def Vt (X:Cx)(t:Jc):Prop:=∀ (pins:List (Addr×Obj)) (s:Shared) (σ:St) (H:Hp) (o i v:V) (ov iv u:Value) (Q:Hp ->Prop),Inv X pins σ H s ->RelV o ov ->RelV i iv ->RelV v u ->t o i v H Q ->wpAny (model X.prog X.w) X.A (setItem ov iv u) (λ_ s'=> ∃H',Inv X pins σ H' s' /\ Q H') X.xe s
section
variable {X:Cx}{pos:Pos}
def qF (i:Nat):TG:=λv σ H Q=>Q (σ.set i (some v)) H
theorem cj {i:Nat}{x:Str}(hN:X.N.Nodup)(hi:X.N[i]? =some x)(hx:Loc X.env.scope x)(hf:X.fn x=true \/ X.env.scope.names.lookup x=some .local:=by first | exact .inl rfl | exact .inr rfl | assumption):PG X (.Name x pos) (qF i):=by intro pins s σ H v u Q I r h;exact wpAny_assign_Name (xQ I hN hi hx r (λs' I'=>⟨_,H,I',h⟩) hf)
def Qy:JJ:=λvs σ H Q=>vs= [] /\ Q σ H
def Cq (t:TG)(u:JJ):JJ:=λvs σ H Q=> ∃v r,vs=v::r /\ t v σ H λσ' H'=>u r σ' H' Q
theorem me:WZ X [] Qy:=by intro pins s σ H vs us Q I r h;obtain⟨e,h⟩:=h;subst e;cases r;exact assignInOrder_nil ⟨σ,H,I,h⟩
theorem fA {e:Expr}{es:List Expr}{t:TG}{u:JJ}(h1:PG X e t)(h2:WZ X es u) (hs:(assignEach (e::es) X.env).map (·.2)=assign e X.env::(assignEach es X.env).map (·.2):=by rfl):WZ X (e::es) (Cq t u):=by
 intro pins s σ H vs us Q I r h;obtain⟨v,vr,e1,h⟩:=h;subst e1;cases r with
 | cons r rr=>rw[hs];refine assignInOrder_cons (dj (h1 pins s σ H _ _ _ I r h) λ_ s1 ⟨σ1,H1,I1,q1⟩=> ?_);exact h2 pins s1 σ1 H1 _ _ Q I1 rr q1
def Qx (K:PySem.W.Frag)(n:Nat)(t:JJ):TG:=λv σ H Q=> ∃a xs,v= .ref a /\ kD K H a xs /\ xs.length=n /\ t xs σ H Q
theorem qg {es:List Expr}{k:Nat}{t:JJ}{n:Nat}(hc:X.calm=true)(h:WZ X es t) (hn:(assignEach es X.env).length=n:=by rfl) (mE:(assignEach es X.env).findIdx? (·.1)=none:=by rfl):PG X (.Tuple es k pos) (Qx X.K n t):=by intro pins s σ H v u Q I r hw;obtain⟨a,xs,e1,hq,hl,hw⟩:=hw;subst e1;cases r;obtain⟨its,rv,ht,hz⟩:=I.tuple hq;refine assign_Tuple_tuple (I.ok.hd hc) ht (by simp[hn, <- hl,rv.length]) mE λh' hx=> ?_;have I1:Inv X pins σ H {s with heap:=h'}:=I.kept (t':=s.toks) λb o e=>hx b o (aX (aB e)) e;exact h pins _ σ H xs _ Q I1 (by simpa using rv) hw
def U7 (to ti:TE)(t:Jc):TG:=λv σ H Q=>to σ H λo H1=>ti σ H1 λi H2=>t o i v H2 λH3=>Q σ H3
theorem j9 {o i:Expr}{to ti:TE}{t:Jc}(ho:PE X o to)(hi:PE X i ti)(hs:Vt X t) (ha: ∀v,assign (.Subscript o i pos) X.env v=(do
  let ov <- holding [v] (eval o X.env)
  let iv <- holding [v,ov] (eval i X.env)
  standAt pos
  holding [v,ov,iv] (setItem ov iv v)
  release [v,ov,iv] []):=by intro _;rfl):PG X (.Subscript o i pos) (U7 to ti t):=by
 intro pins s σ H v u Q I r h
 rw[ha]
 refine ao (d9 (dj (ho pins s σ H _ I h) λov s1 ⟨x,H1,I1,r1,q1⟩=> ?_))
 refine ao (d9 (dj (hi pins s1 σ H1 _ I1 q1) λiv s2 ⟨y,H2,I2,r2,q2⟩=> ?_))
 refine ao (iS (ao (d9 (dj (hs pins s2 σ H2 x y v ov iv u _ I2 r1 r2 r q2) λ_ s3 ⟨H3,I3,q3⟩=> ?_))))
 exact wpAny_release ⟨σ,H3,I3,q3⟩
def Kg (te:TE)(g:TG):TS:=λD σ H=>te σ H λx H1=>g x σ H1 D.nx
theorem j8 {tg e:Expr}{te:TE}{g:TG}(he:PE X e te)(hg:PG X tg g)(hs:swapsWithSole [tg] e pos.line X.env=pure false:=by rfl)(hw:swappedStores [tg] e X.env=pure none:=by rfl) (h1:(assignEach [tg] X.env).map (·.2)= [assign tg X.env]:=by rfl):PS X (.Assign [tg] e pos) (Kg te g):=by intro pins s σ H D I h;refine wpAny_Assign_stores (dj (he pins s σ H _ I h) λv s1 ⟨x,H1,I1,r1,q1⟩=> ?_) hs hw;rw[h1];exact dj (hg pins s1 σ H1 x v _ I1 r1 q1) λ_ s2 q=>q
theorem bX {i:Nat}{x:Str}{e:Expr}{te:TE}{pos':Pos}(hN:X.N.Nodup)(hi:X.N[i]? =some x)(hx:Loc X.env.scope x)(he:PE X e te)(hs:swapsWith e (some (.Name x pos')) pos.line X.env=pure false:=by rfl)(hf:X.fn x=true \/ X.env.scope.names.lookup x=some .local:=by first | exact .inl rfl | exact .inr rfl | assumption): PS X (.Assign [.Name x pos'] e pos) (Kg te (qF i)):=by intro pins s σ H D I h;refine wpAny_Assign_Name (dj (he pins s σ H _ I h) λv s1 ⟨y,H1,I1,r1,q1⟩=> ?_) hs;exact xQ I1 hN hi hx r1 (λs2 I2=>⟨_,H1,I2,q1⟩) hf
end
section
variable {X:Cx}{pos:Pos}
def FE (c:TT)(tb:TS):TS:=λD σ H=> ∃W:Nat ->St ->Hp ->Prop,(∃m,W m σ H) /\ ∀m σ H,W m σ H ->c σ H λb H1=>if b=true then ∃N:St ->Hp ->Prop,(∀σ' H',N σ' H' -> ∃m',m'<m /\ W m' σ' H') /\ tb {D with nx:=N,ct:=N,bk:=D.nx} σ H1 else D.nx σ H1
theorem Gx {c:Expr}{body:List Stmt}{tc:TT}{tb:TS}(hp:PassesOwn (model X.prog X.w) X.A X.env X.xe)(hc:PT X c tc)(hb:zD X body tb):PS X (.While c body [] pos) (FE tc tb):=by
 intro pins s σ H D I h;obtain⟨W,⟨m0,w0⟩,turn⟩:=h;refine wpAny_While (codeAny_whileLoop (λn s'=> ∃σ' H',Inv X pins σ' H' s' /\ W n σ' H') ?_ m0 ⟨σ,H,I,w0⟩);rintro n s1 ⟨σ1,H1,I1,w1⟩;refine gy hp (dj (hc pins s1 σ1 H1 _ I1 (turn n σ1 H1 w1)) λb s2 ⟨H2,I2,q2⟩=> ?_);cases b with
 | true=>
  obtain⟨N,hN,q2⟩:=q2;rw[ak rfl];refine gy hp (dj (hb pins s2 σ1 H2 _ I2 q2) λf s3 q3=> ?_);cases f with
  | next=>obtain⟨σ3,H3,I3,n3⟩:=q3;obtain⟨m',hm,w3⟩:=hN σ3 H3 n3;exact⟨m',hm,σ3,H3,I3,w3⟩
  | cont=>obtain⟨σ3,H3,I3,n3⟩:=q3;obtain⟨m',hm,w3⟩:=hN σ3 H3 n3;exact⟨m',hm,σ3,H3,I3,w3⟩
  | brk=>exact q3
  | ret v=>exact q3
 | false=>rw[aj aW];exact rX ⟨σ1,H2,I2,q2⟩
end
structure It where
 go:Nat ->Hp ->Prop
 Oj:Nat ->Hp ->V ->Hp ->Prop
 stop:Nat ->Hp ->Prop
def kX (X:Cx)(pins:List (Addr×Obj))(H:Hp)(b:Addr):Prop:=H b=none /\ b≠X.env.locals /\ b∉X.fs /\ (b∈X.ex \/ X.s₀.heap.objs.size<=b) /\ (∀x c,X.env.cells.lookup x=some c ->c≠b) /\ ∀p∈X.pn++pins,p.1≠b
theorem Inv.AO {X:Cx}{pins:List (Addr×Obj)}{σ:St}{H H':Hp}{s:Shared}{b:Addr}(I:Inv X pins σ H s)(hb:s.heap.objs.size<=b)(hn:H' b=none):kX X pins H' b:=by
 refine⟨hn,iW (bE I.lt hb),I.XQ hb, .inr (a4 I.sz hb),λx c e z=> ?_,λp hp z=> ?_⟩
 ·obtain⟨v,q⟩:=I.cell x c e;exact absurd (bE q.lt (by rw[z];exact hb)) (cb _)
 ·exact absurd (bE (aB (I.pin p hp).1) (by rw[z];exact hb)) (cb _)
structure Turn (P:Program)(w:World)(K:PySem.W.Frag)(tg:Expr)(J:It)(fp:List Addr)(it:Addr)(tn:Nat ->Heap ->Prop):Prop where
 mem:it∈fp
 obj: ∀i h,tn i h -> ∀b∈fp, ∃o,h.get? b=some o /\ ∀v,o.data≠ .cell v
 keep: ∀i h h',tn i h ->(∀b∈fp, ∀o,h.get? b=some o ->h'.get? b=some o) ->tn i h'
 item: ∀ (X:Cx),X.prog=P ->X.w=w ->X.K=K ->X.calm=true -> ∀ (i:Nat) (pins:List (Addr×Obj)) (s:Shared) (σ:St) (H:Hp) (E:Value ->Shared ->Prop),Inv X pins σ H s ->(∀b∈fp,kX X pins H b) ->tn i s.heap ->J.go i H ->wpAny (model P w) X.A (pyNext (.ref it)) (λr s1=> ∃u,r=some u /\wpAny (model P w) X.A (letOwnedTupleGo tg (.ref it) u) (λ_ s2=> ∃x H',Inv X pins σ H' s2 /\ RelV x u /\ J.Oj i H x H' /\ tn (i+1) s2.heap /\ ∀b∈fp,H' b=none) E s1) E s
 done: ∀ (X:Cx),X.prog=P ->X.w=w ->X.K=K ->X.calm=true -> ∀ (i:Nat) (pins:List (Addr×Obj)) (s:Shared) (σ:St) (H:Hp) (E:Value ->Shared ->Prop),Inv X pins σ H s ->(∀b∈fp,kX X pins H b) ->tn i s.heap ->J.stop i H ->wpAny (model P w) X.A (pyNext (.ref it)) (λr s1=>r=none /\ Inv X pins σ H s1) E s
 self: ∀ (A:Around) (i:Nat) (s:Shared) (Q:Value ->Shared ->Prop) (E:Value ->Shared ->Prop),tn i s.heap ->Q (.ref it) s ->wpAny (model P w) A (pyIter (.ref it)) Q E s
abbrev TI:=St ->Hp ->(It ->Hp ->Prop) ->Prop
def PIE (X:Cx)(pins:List (Addr×Obj))(σ:St)(tg:Expr)(R:It ->Hp ->Prop)(Ua:Value)(s2:Shared):Prop:=∃ (it:Addr) (fp:List Addr) (tn:Nat ->Heap ->Prop) (J:It) (H':Hp),Ua= .ref it /\ Inv X pins σ H' s2 /\ Turn X.prog X.w X.K tg J fp it tn /\ tn 0 s2.heap /\ (∀b∈fp,kX X pins H' b) /\ R J H'
def PI (X:Cx)(tg iter:Expr)(wi:TI):Prop:=∀ (pins:List (Addr×Obj)) (s:Shared) (σ:St) (H:Hp) (R:It ->Hp ->Prop),Inv X pins σ H s ->wi σ H R ->wpAny (model X.prog X.w) X.A (eval iter X.env) (λv s1=>wpAny (model X.prog X.w) X.A (pyIter v) (PIE X pins σ tg R) X.xe s1) X.xe s
theorem Cp {M:Model}{A:Around}{E:Value ->Shared ->Prop}{s:Shared}{tg:Expr}{it:Addr}{u:Value}{o:Obj}{n:String}{vs:Array Value}{Q:Unit ->Shared ->Prop}(ho:s.heap.get? it=some o)(hc:o.cls= .type n)(hd:o.data= .fields vs) (hn: ["enumerate","zip","dict_itemiterator","dict_reverseitemiterator","odict_iterator","itertools.zip_longest","itertools.pairwise"].contains n=false) (hQ:Q () s):wpAny M A (letOwnedTupleGo tg (.ref it) u) Q E s:=by
 unfold letOwnedTupleGo;cases tg <;>first
 | exact aM hQ
 | (cases u<;>first
  | exact aM hQ
  | (refine ao (wpAny_load ho ?_)
     rw[hc,hd]
     show wpAny M A (if(["enumerate","zip","dict_itemiterator","dict_reverseitemiterator","odict_iterator","itertools.zip_longest","itertools.pairwise"].contains n && vs[0]? ==some (rawInt _))=true then _ else _) Q E s
     rw[aj (by intro h;rw[hn,Bool.false_and] at h;cases h)]
     exact aM hQ))
def Itl (K:PySem.W.Frag)(a:Addr):It:=⟨λi H=> ∃xs x,ix K H a xs /\ xs[i]? =some x,λi H x H'=>H'=H /\ ∀xs,ix K H a xs ->xs[i]? =some x,λi H=> ∃xs,ix K H a xs /\ xs.length<=i⟩
def Itt (K:PySem.W.Frag)(a:Addr):It:=⟨λi H=> ∃xs x,kD K H a xs /\ xs[i]? =some x,λi H x H'=>H'=H /\ ∀xs,kD K H a xs ->xs[i]? =some x,λi H=> ∃xs,kD K H a xs /\ xs.length<=i⟩
def W0 (lo:Int)(n:Nat):It:=⟨λi _=>i<n,λi H x H'=>H'=H /\ x= .int (lo+i),λi _=>n<=i⟩
theorem Df {P:Program}{w:World}{K:PySem.W.Frag}{tg:Expr}(a it:Addr):Turn P w K tg (Itl K a) [it] it (λi h=>h.IsListIter it a i) where
 mem:=by simp
 obj:=λi h st b hb=>by
  have e:b=it:=by simpa using hb
  subst e;obtain⟨o,e,c,d⟩:=st;exact⟨o,e,λv z=>by rw[d] at z;cases z⟩
 keep:=λi h h' st k=>st.at λo e=>k it (by simp) o e
 item:=by intro X hP hw hK hc i pins s σ H E I hf st hg;subst hP hw hK;obtain⟨xs,x,hq,hx⟩:=hg;obtain⟨its,rv,p,hz⟩:=I.list hq;obtain⟨u,hu,ru⟩:=rv.get hx;obtain⟨f0,f1,f2,f3,f4,f5⟩:=hf it (by simp);refine wpAny_pyNext_list_item st p.isList (x:=u) (by simpa using hu) λh' bB sb=> ?_;have I1:Inv X pins σ H {s with heap:=h'}:=I.turned (t':=s.toks) (λb o hb e=>(sb.2 b hb).trans e) f0 f1 f3 f4 f5;obtain⟨o,e,c,d⟩:=id bB;exact⟨u,rfl,Cp (s:= {s with heap:=h'}) e c d (by decide) ⟨x,H,I1,ru,⟨rfl,λys hy=>by rw[I.list_inj hy hq];exact hx⟩,bB,λb hb=>(hf b hb).1⟩⟩
 done:=by intro X hP hw hK hc i pins s σ H E I hf st hg;subst hP hw hK;obtain⟨xs,hq,hx⟩:=hg;obtain⟨its,rv,p,hz⟩:=I.list hq;obtain⟨f0,f1,f2,f3,f4,f5⟩:=hf it (by simp);have hl:=rv.length;exact wpAny_pyNext_list_end (I.ok.hd hc) st p.isList (by simp;lia) λh' eb=>⟨rfl,I.turned (t':=s.toks) (λb o hb e=>eb b o hb e) f0 f1 f3 f4 f5⟩
 self:=λ_ _ _ _ _ st h=>wpAny_pyIter_listiter st h
theorem zP {P:Program}{w:World}{K:PySem.W.Frag}{tg:Expr}(a it:Addr):Turn P w K tg (Itt K a) [it] it (λi h=>h.IsTupleIter it a i) where
 mem:=by simp
 obj:=λi h st b hb=>by
  have e:b=it:=by simpa using hb
  subst e;obtain⟨o,e,c,d⟩:=st;exact⟨o,e,λv z=>by rw[d] at z;cases z⟩
 keep:=λi h h' st k=>st.at λo e=>k it (by simp) o e
 item:=by intro X hP hw hK hc i pins s σ H E I hf st hg;subst hP hw hK;obtain⟨xs,x,hq,hx⟩:=hg;obtain⟨its,rv,p,hz⟩:=I.tuple hq;obtain⟨u,hu,ru⟩:=rv.get hx;obtain⟨f0,f1,f2,f3,f4,f5⟩:=hf it (by simp);refine wpAny_pyNext_tuple_item st (show s.heap.IsTuple a its.toArray from p) (x:=u) (by simpa using hu) λh' bB sb=> ?_;have I1:Inv X pins σ H {s with heap:=h'}:=I.turned (t':=s.toks) (λb o hb e=>(sb.2 b hb).trans e) f0 f1 f3 f4 f5;obtain⟨o,e,c,d⟩:=id bB;exact⟨u,rfl,Cp (s:= {s with heap:=h'}) e c d (by decide) ⟨x,H,I1,ru,⟨rfl,λys hy=>by rw[I.p8 hy hq];exact hx⟩,bB,λb hb=>(hf b hb).1⟩⟩
 done:=by intro X hP hw hK hc i pins s σ H E I hf st hg;subst hP hw hK;obtain⟨xs,hq,hx⟩:=hg;obtain⟨its,rv,p,hz⟩:=I.tuple hq;obtain⟨f0,f1,f2,f3,f4,f5⟩:=hf it (by simp);have hl:=rv.length;exact wpAny_pyNext_tuple_end (I.ok.hd hc) st (show s.heap.IsTuple a its.toArray from p) (by simp;lia) λh' eb=>⟨rfl,I.turned (t':=s.toks) (λb o hb e=>eb b o hb e) f0 f1 f3 f4 f5⟩
 self:=λ_ _ _ _ _ st h=>wpAny_pyIter_tupleiter st h
theorem zQ {P:Program}{w:World}{K:PySem.W.Frag}{tg:Expr}(it:Addr)(lo:Int)(n:Nat):Turn P w K tg (W0 lo n) [it] it (λi h=>IsRangeIter h it (lo+(i:Nat)*1) ((n:Int) - (i:Nat)) 1) where
 mem:=by simp
 obj :=λi h st b hb=>by
  have e:b=it:=by simpa using hb
  subst e;exact⟨_,st,λv z=>by have z':Data.fields _=Data.cell v:=z;cases z'⟩
 keep:=λi h h' st k=>k it (by simp) _ st
 item:=by intro X hP hw hK hc i pins s σ H E I hf st hg;subst hP hw hK;obtain⟨f0,f1,f2,f3,f4,f5⟩:=hf it (by simp);have W:=Walks.range (prog:=X.prog) (w:=X.w) (I.ok.hd hc) it lo 1 n;refine W.item i s _ _ hg st λv h' tk hv bB kk=> ?_;obtain⟨t,rfl⟩:=hv;have I1:Inv X pins σ H {s with heap:=h',toks:=tk}:=I.turned (λb o hb e=>kk b o (by simpa using hb) e) f0 f1 f3 f4 f5;refine⟨_,rfl,Cp (s:= {s with heap:=h',toks:=tk}) (n:= "range_iterator") bB rfl rfl (by decide) ⟨.int (lo+i),H,I1,⟨t,?_⟩,⟨rfl,rfl⟩,bB,λb hb=>(hf b hb).1⟩⟩;rw[gG]
 done:=by intro X hP hw hK hc i pins s σ H E I hf st hg;subst hP hw hK;obtain⟨f0,f1,f2,f3,f4,f5⟩:=hf it (by simp);exact wpAny_pyNext_range_end (I.ok.hd hc) st (by have:n<=i:=hg;lia) λh' eb=>⟨rfl,I.turned (t':=s.toks) (λb o hb e=>eb b o hb e) f0 f1 f3 f4 f5⟩
 self:=λ_ _ _ _ _ st h=>wpAny_pyIter_rangeiter st h
section
variable {X:Cx}{tg:Expr}
def HC (K:PySem.W.Frag)(tl:TE):TI:=λσ H R=>tl σ H λx H1=> ∃a,x= .ref a /\ (∃xs,ix K H1 a xs) /\ R (Itl K a) H1
def Ug (K:PySem.W.Frag)(tl:TE):TI:=λσ H R=>tl σ H λx H1=> ∃a,x= .ref a /\ (∃xs,kD K H1 a xs) /\ R (Itt K a) H1
theorem fI {l:Expr}{tl:TE}(hl:PE X l tl):PI X tg l (HC X.K tl):=by
 intro pins s σ H R I h;refine dj (hl pins s σ H _ I h) λv s1 ⟨x,H1,I1,r1,q1⟩=> ?_;obtain⟨a,e,⟨xs,hq⟩,q⟩:=q1;subst e;cases r1;obtain⟨its,rv,p,hz⟩:=I1.list hq;refine A9 p.isList ?_;refine⟨s1.heap.objs.size,[s1.heap.objs.size],_,_,H1,rfl,I1.kept (t':=s1.toks) λb o e=>ar _ e,Df a _,⟨_,aS _ rfl,rfl,rfl⟩,λb hb=> ?_,q⟩;have e:b=s1.heap.objs.size:=by simpa using hb
 subst e;exact I1.AO (aq _) (I1.c8.fresh (aq _))
theorem GC {l:Expr}{tl:TE}(hl:PE X l tl):PI X tg l (Ug X.K tl):=by
 intro pins s σ H R I h;refine dj (hl pins s σ H _ I h) λv s1 ⟨x,H1,I1,r1,q1⟩=> ?_;obtain⟨a,e,⟨xs,hq⟩,q⟩:=q1;subst e;cases r1;obtain⟨its,rv,p,hz⟩:=I1.tuple hq;refine wpAny_pyIter_tuple (show s1.heap.IsTuple a its.toArray from p) ?_;refine⟨s1.heap.objs.size,[s1.heap.objs.size],_,_,H1,rfl,I1.kept (t':=s1.toks) λb o e=>ar _ e,zP a _,⟨_,aS _ rfl,rfl,rfl⟩,λb hb=> ?_,q⟩;have e:b=s1.heap.objs.size:=by simpa using hb
 subst e;exact I1.AO (aq _) (I1.c8.fresh (aq _))
theorem Gm {pins:List (Addr×Obj)}{σ:St}{H:Hp}{s:Shared}{R:It ->Hp ->Prop}{E:Value ->Shared ->Prop}{lo hi:Int}{t u v:Tok}{tk:Nat}(I:Inv X pins σ H s)(h1: -(2 ^ 62) <=lo)(h2:lo<2 ^ 62)(h3: -(2 ^ 62) <=hi)(h4:hi<2 ^ 62) (q:R (W0 lo (hi - lo).toNat) H):wpAny (model X.prog X.w) X.A (pyIter (.ref s.heap.objs.size)) (PIE X pins σ tg R) E {s with heap:=s.heap.push {cls:= .type "range",data:= .fields #[.int lo t, .int hi u, .int 1 v]},toks:=tk}:=by
 refine wpAny_pyIter_range (Jh ..) (small_one h1 h2 h3 h4) ?_;have I1:Inv X pins σ H {s with heap:=s.heap.push {cls:= .type "range",data:= .fields #[.int lo t, .int hi u, .int 1 v]},toks:=tk}:=I.kept λb o e=>ar _ e;refine⟨(s.heap.push {cls:= .type "range",data:= .fields #[.int lo t, .int hi u, .int 1 v]}).objs.size,[(s.heap.push {cls:= .type "range",data:= .fields #[.int lo t, .int hi u, .int 1 v]}).objs.size],_,_,H,rfl,I1.kept (t':=tk) λb o e=>ar _ e,zQ _ lo (hi - lo).toNat,?_,λb hb=> ?_,q⟩
 ·have e1:lo+((0:Nat):Int)*1=lo:=by simp
  have e2:(((hi - lo).toNat:Nat):Int) - ((0:Nat):Int)=Builtin.Range.rangeSize lo hi 1:=by rw[rangeSize_one];split<;>lia
  show IsRangeIter _ _ (lo+((0:Nat):Int)*1) ((((hi - lo).toNat:Nat):Int) - ((0:Nat):Int)) 1;rw[e1,e2];exact aS _ rfl
 ·have e:b=(s.heap.push {cls:= .type "range",data:= .fields #[.int lo t, .int hi u, .int 1 v]}).objs.size:=by simpa using hb
  subst e;exact I1.AO (aq _) (I1.c8.fresh (aq _))
def Nj (ta:TA):TI:=λσ H R=>ta σ H λvs H1=> ∃j:Int,vs= [.int j] /\ -(2 ^ 62) <=j /\ j<2 ^ 62 /\ R (W0 0 j.toNat) H1
theorem kl {a:Expr}{ta:TA}{p pos:Pos}(hg:Gl X "range")(hm:X.mg "range" =none)(ha:PA X [a] ta)(hs:starEach [a] X.env= [(false,eval a X.env)]:=by rfl):PI X tg (.Call (.Name "range" p) [a] [] pos) (Nj ta):=by
 intro pins s σ H R I h;refine Call_ (iR I hg hm boot_range (bO (dj (ha pos pins s σ H _ I h) λus s1 ⟨vs,H1,I1,r1,q1⟩=> ?_) hs rfl));obtain⟨j,e,q1,q2,q⟩:=q1;subst e;cases r1 with
 | cons r rr=>cases rr;obtain⟨t,rfl⟩:=r;exact call_range_1 (Gm I1 (by lia) (by lia) q1 q2 (by simpa using q))
def SQ (wi:TI)(g:TG)(tb:TS):TS:=λD σ H=>wi σ H λJ H1=> ∃W:Nat ->Nat ->St ->Hp ->Prop,(∃m,W 0 m σ H1) /\ ∀i m σ H,W i m σ H ->(J.stop i H /\ D.nx σ H) \/ (J.go i H /\ ∃N:St ->Hp ->Prop,(∀σ' H',N σ' H' -> ∃m',m'<m /\ W (i+1) m' σ' H') /\ ∀x H',J.Oj i H x H' ->g x σ H' λσ2 H2=>tb {D with nx:=N,ct:=N,bk:=D.nx} σ2 H2)
def jr (fp:List Addr)(h:Heap):List (Addr×Obj):=fp.filterMap λb=>(h.get? b).map λo=>(b,o)
theorem fQ {fp:List Addr}{h:Heap}{b:Addr}{o:Obj}(hb:b∈fp)(e:h.get? b=some o):(b,o)∈jr fp h:=tV.mpr ⟨b,hb,by rw[e];rfl⟩
theorem Dx {fp:List Addr}{h:Heap}{p:Addr×Obj}(hp:p∈jr fp h):p.1∈fp /\ h.get? p.1=some p.2:=by
 obtain⟨b,hb,e⟩:=tV.mp hp;cases q:h.get? b with
 | none=>rw[q] at e;cases e
 | some o=>rw[q] at e;have e':(b,o)=p:=br e;subst e';exact⟨hb,q⟩
theorem Inv.pinned {pins:List (Addr×Obj)}{σ:St}{H:Hp}{s:Shared}{fp:List Addr}(I:Inv X pins σ H s)(hf: ∀b∈fp,kX X pins H b)(ho: ∀b∈fp, ∃o,s.heap.get? b=some o /\ ∀v,o.data≠ .cell v):Inv X (pins++jr fp s.heap) σ H s:=I.BM λp hp=>(ax.mp hp).elim (λz=>I.pin p (aT _ z)) λz=>by obtain⟨hb,e⟩:=Dx z;obtain⟨f0,f1,f2,_⟩:=hf p.1 hb;obtain⟨o,e',d⟩:=ho p.1 hb;rw[e] at e';cases e';exact⟨e,f0,f1,f2,d⟩
theorem Inv.kf {pins pl:List (Addr×Obj)}{σ:St}{H:Hp}{s:Shared}(I:Inv X (pins++pl) σ H s):Inv X pins σ H s:=I.BM λp hp=>I.pin p (aT _ (jY _ hp))
theorem ij {iter:Expr}{body:List Stmt}{wi:TI}{g:TG}{tb:TS}{pos:Pos}(hp:PassesOwn (model X.prog X.w) X.A X.env X.xe)(hc:X.calm=true)(hi:PI X tg iter wi)(hg:PG X tg g)(hb:zD X body tb) (hs: ∀x,foldedSetIterable iter X.env x=pure x:=by intro _;rfl):PS X (.For tg iter body [] pos) (SQ wi g tb):=by
 intro pins s σ H D I h;refine wpAny_For (dj (hi pins s σ H _ I h) λv s1 h1=>dj h1 λUa s2 h2=> ?_) hs;obtain⟨it,fp,tn,J,H2,e,I2,T,ox,f2,W,⟨m0,w0⟩,turn⟩:=h2;subst e;have se: ∀ {H':Hp},(∀b∈fp,H' b=none) -> ∀b∈fp,kX X pins H' b:=λhn b hb=>⟨hn b hb,(f2 b hb).2⟩
 refine codeAny_forLoop_any (λn s'=> ∃i σ' H',Inv X pins σ' H' s' /\ tn i s'.heap /\ (∀b∈fp,H' b=none) /\ W i n σ' H') ?_ m0 ⟨0,σ,H2,I2,ox,λb hb=>(f2 b hb).1,w0⟩;rintro n s3 ⟨i,σ3,H3,I3,qB,Lx,w3⟩;rcases turn i n σ3 H3 w3 with⟨stop,qn⟩ | ⟨go,N,hN,step⟩
 ·refine gy hp (dj (T.done X rfl rfl rfl hc i pins s3 σ3 H3 X.xe I3 (se Lx) qB stop) λr s4 ⟨hr,I4⟩=> ?_);subst hr;exact rX ⟨σ3,H3,I4,qn⟩
 ·refine gy hp (dj (T.item X rfl rfl rfl hc i pins s3 σ3 H3 X.xe I3 (se Lx) qB go) λr s4 ⟨u,hr,h4⟩=> ?_);subst hr;refine gy hp (dj h4 λ_ s5 ⟨x,H5,I5,r5,y5,Q9,fr5⟩=> ?_);have I5':=I5.pinned (se fr5) (T.obj _ _ Q9);refine gy hp (dj (hg _ s5 σ3 H5 x u _ I5' r5 (step x H5 y5)) λ_ s6 ⟨σ6,H6,I6,q6⟩=> ?_);refine gy hp (dj (hb _ s6 σ6 H6 _ I6 q6) λf s7 q7=> ?_);have again: ∀ {σ7:St} {H7:Hp},Inv X (pins++jr fp s5.heap) σ7 H7 s7 ->N σ7 H7 -> ∃m,m<n /\ ∃i σ' H',Inv X pins σ' H' s7 /\ tn i s7.heap /\ (∀b∈fp,H' b=none) /\ W i m σ' H':=λ{σ7 H7} I7 n7=>by obtain⟨m',hm,w7⟩:=hN σ7 H7 n7;refine⟨m',hm,i+1,σ7,H7,I7.kf,T.keep _ _ _ Q9 λb hb o e=>(I7.pin (b,o) (aT _ (aT _ (fQ hb e)))).1,λb hb=> ?_,w7⟩;obtain⟨o,e,d⟩:=T.obj _ _ Q9 b hb;exact(I7.pin (b,o) (aT _ (aT _ (fQ hb e)))).2.1
  cases f with
  | next=>obtain⟨σ7,H7,I7,n7⟩:=q7;exact again I7 n7
  | cont=>obtain⟨σ7,H7,I7,n7⟩:=q7;exact again I7 n7
  | brk=>obtain⟨σ7,H7,I7,q7⟩:=q7;exact⟨σ7,H7,I7.kf,q7⟩
  | ret v=>obtain⟨x7,σ7,H7,I7,r7,q7⟩:=q7;exact⟨x7,σ7,H7,I7.kf,r7,q7⟩
end
abbrev R2:=V ->V ->Hp ->VK ->Prop
def tM (X:Cx)(f:Value ->Value ->Sem Value)(r:R2):Prop:=∀ (pins:List (Addr×Obj)) (s:Shared) (σ:St) (H:Hp) (x y:V) (v u:Value) (Q:VK),Inv X pins σ H s ->RelV x v ->RelV y u ->r x y H Q ->wpAny (model X.prog X.w) X.A (f v u) (EP X pins σ Q) X.xe s
def UnR (X:Cx)(f:Value ->Sem Value)(r:V ->Hp ->VK ->Prop):Prop:=∀ (pins:List (Addr×Obj)) (s:Shared) (σ:St) (H:Hp) (x:V) (v:Value) (Q:VK),Inv X pins σ H s ->RelV x v ->r x H Q ->wpAny (model X.prog X.w) X.A (f v) (EP X pins σ Q) X.xe s
def i0 (X:Cx)(f:Value)(r:List V ->Hp ->VK ->Prop):Prop:=∀ (pins:List (Addr×Obj)) (s:Shared) (σ:St) (H:Hp) (xs:List V) (us:List Value) (Q:VK),Inv X pins σ H s ->Vals xs us ->r xs H Q ->wpAny (model X.prog X.w) X.A (call f us) (EP X pins σ Q) X.xe s
def aal (X:Cx)(r:V ->Hp ->(Bool ->Hp ->Prop) ->Prop):Prop:=∀ (pins:List (Addr×Obj)) (s:Shared) (σ:St) (H:Hp) (x:V) (v:Value) (Q:Bool ->Hp ->Prop),Inv X pins σ H s ->RelV x v ->r x H Q ->wpAny (model X.prog X.w) X.A (truthy v) (TP X pins σ Q) X.xe s
def SK (r:R2)(ta tb:TE):TE:=λσ H Q=>ta σ H λx H1=>tb σ H1 λy H2=>r x y H2 Q
def tUn (r:V ->Hp ->VK ->Prop)(ta:TE):TE:=λσ H Q=>ta σ H λx H1=>r x H1 Q
def rI (C:Int ->Int ->Prop)(g:Int ->Int ->V):R2:=λx y H Q=> ∃i j,x= .int i /\ y= .int j /\ C i j /\ Q (g i j) H
def MS (g:Int ->Int ->V):R2:=λx y H Q=> ∃i j,x= .int i /\ y= .int j /\ Q (g i j) H
def rU (g:Int ->V):V ->Hp ->VK ->Prop:=λx H Q=> ∃i,x= .int i /\ Q (g i) H
section
variable {X:Cx}{a b c:Expr}{ta tb tc:TE}{pos:Pos}
theorem QK (ha:PE X a ta)(hb:PE X b tb){pins:List (Addr×Obj)}{s:Shared}{σ:St}{H:Hp}{R:V ->V ->Hp ->Prop}(I:Inv X pins σ H s) (h:ta σ H λx H1=>tb σ H1 λy H2=>R x y H2) {Q:Value ->Shared ->Prop} {f:Value ->Value ->Sem Value} (hf: ∀v u s2 x y H2,Inv X pins σ H2 s2 ->RelV x v ->RelV y u ->R x y H2 ->wpAny (model X.prog X.w) X.A (f v u) Q X.xe s2): wpAny (model X.prog X.w) X.A (eval a X.env) (λv s₁=>wpAny (model X.prog X.w) X.A (eval b X.env) (λu s₂=>wpAny (model X.prog X.w) X.A (f v u) Q X.xe s₂) X.xe s₁) X.xe s:=by refine dj (ha pins s σ H _ I h) λv s1 ⟨x,H1,I1,r1,q1⟩=> ?_;refine dj (hb pins s1 σ H1 _ I1 q1) λu s2 ⟨y,H2,I2,r2,q2⟩=> ?_;exact hf v u s2 x y H2 I2 r1 r2 q2
theorem bQ {op:Operator}{r:R2}(ho:tM X (binaryOp op) r)(ha:PE X a ta)(hb:PE X b tb):PE X (.BinOp a op b pos) (SK r ta tb):=by intro pins s σ H Q I h;exact wpAny_BinOp (QK ha hb I h λv u s2 x y H2 I2 rx ry q=>ho pins s2 σ H2 x y v u Q I2 rx ry q)
theorem oM {op:UnaryOp}{r:V ->Hp ->VK ->Prop}(ho:UnR X (unaryOp op) r)(ha:PE X a ta):PE X (.UnaryOp op a pos) (tUn r ta):=by intro pins s σ H Q I h;exact UnaryOp_ (dj (ha pins s σ H _ I h) λv s1 ⟨x,H1,I1,r1,q1⟩=>ho pins s1 σ H1 x v Q I1 r1 q1)
theorem VW {f:Value ->Value ->Sem Value}{C:Int ->Int ->Prop}{g:Int ->Int ->Int} (rule: ∀ (i j:Int) (t u:Tok) (s:Shared) (Q:Value ->Shared ->Prop) (E:Value ->Shared ->Prop),C i j ->Q (.int (g i j) s.toks) {s with toks:=s.toks+1} ->wpAny (model X.prog X.w) X.A (f (.int i t) (.int j u)) Q E s): tM X f (rI C λi j=> .int (g i j)):=by intro pins s σ H x y v u Q I rx ry h;obtain⟨i,j,rfl,rfl,hc,q⟩:=h;obtain⟨t,rfl⟩:=rx;obtain⟨t',rfl⟩:=ry;exact rule i j t t' s _ _ hc ⟨.int (g i j),H,I.tok _,⟨_,rfl⟩,q⟩
theorem TB {f:Value ->Value ->Sem Value}{g:Int ->Int ->Int} (rule: ∀ (i j:Int) (t u:Tok) (s:Shared) (Q:Value ->Shared ->Prop) (E:Value ->Shared ->Prop),Q (.int (g i j) s.toks) {s with toks:=s.toks+1} ->wpAny (model X.prog X.w) X.A (f (.int i t) (.int j u)) Q E s): tM X f (MS λi j=> .int (g i j)):=by intro pins s σ H x y v u Q I rx ry h;obtain⟨i,j,rfl,rfl,q⟩:=h;obtain⟨t,rfl⟩:=rx;obtain⟨t',rfl⟩:=ry;exact rule i j t t' s _ _ ⟨.int (g i j),H,I.tok _,⟨_,rfl⟩,q⟩
theorem Pf {f:Value ->Value ->Sem Value}{g:Int ->Int ->Bool} (rule: ∀ (i j:Int) (t u:Tok) (s:Shared) (Q:Value ->Shared ->Prop) (E:Value ->Shared ->Prop),Q (.bool (g i j)) s ->wpAny (model X.prog X.w) X.A (f (.int i t) (.int j u)) Q E s): tM X f (MS λi j=> .bl (g i j)):=by intro pins s σ H x y v u Q I rx ry h;obtain⟨i,j,rfl,rfl,q⟩:=h;obtain⟨t,rfl⟩:=rx;obtain⟨t',rfl⟩:=ry;exact rule i j t t' s _ _ ⟨.bl (g i j),H,I,rfl,q⟩
def A7 (i j:Int):Prop:=0<j /\ j<1073741824
def Q3 (i j:Int):Prop:=0<=j /\ j<=1000000 /\ i.natAbs<2 ^ 64
def kK (i j:Int):Prop:=(-(2 ^ 64) <i /\ i<2 ^ 64) \/ (-(2 ^ 64) <j /\ j<2 ^ 64)
theorem kK.ok {i j:Int}(h:kK i j):IntMulOk i j:=by
 rcases h with⟨h1,h2⟩ | ⟨h1,h2⟩
 ·exact .of_left (intBits_le_64 h1 h2)
 ·exact .of_right (intBits_le_64 h1 h2)
theorem eX:tM X (binaryOp .Add) (MS λi j=> .int (i+j)):=TB λ_ _ _ _ _ _ _ q=>add_int q
theorem ka:tM X (binaryOp .Sub) (MS λi j=> .int (i - j)):=TB λ_ _ _ _ _ _ _ q=>sub_int q
theorem ik:tM X (binaryOp .Mult) (rI kK λi j=> .int (i*j)):=VW λ_ _ _ _ _ _ _ hc q=>mul_int q hc.ok
theorem wG:tM X (binaryOp .FloorDiv) (rI A7 λi j=> .int (i / j)):=VW λi j _ _ _ _ _ hc q=>by have h1:(0:Int) <j:=hc.1;have h2:j<1073741824:=hc.2;exact floordiv_int (by lia) (by rw[Int.fdiv_eq_ediv_of_nonneg i (by lia)];exact q) (.inl (JO (by lia)))
theorem iQ:tM X (binaryOp .Mod) (rI (λ_ j=>0<j) λi j=> .int (i % j)):=VW λi j _ _ _ _ _ hc q=>by have h1:(0:Int) <j:=hc;exact mod_int' (by lia) (by rw[Int.fmod_eq_emod_of_nonneg i (by lia)];exact q)
theorem Pe:tM X (binaryOp .Pow) (rI Q3 λi j=> .int (i ^ j.toNat)):=VW λ_ _ _ _ _ _ _ hc q=>pow_int_small hc.1 hc.2.1 hc.2.2 q
theorem unI {f:Value ->Sem Value}{g:Int ->Int} (rule: ∀ (i:Int) (t:Tok) (s:Shared) (Q:Value ->Shared ->Prop) (E:Value ->Shared ->Prop),Q (.int (g i) s.toks) {s with toks:=s.toks+1} ->wpAny (model X.prog X.w) X.A (f (.int i t)) Q E s): UnR X f (rU λi=> .int (g i)):=by intro pins s σ H x v Q I rx h;obtain⟨i,rfl,q⟩:=h;obtain⟨t,rfl⟩:=rx;exact rule i t s _ _ ⟨.int (g i),H,I.tok _,⟨_,rfl⟩,q⟩
theorem kM:UnR X (unaryOp .USub) (rU λi=> .int (-i)):=unI λ_ _ _ _ _ q=>neg_int q
end
def Kj:V ->V ->Bool
 | .dS, .dS=>true | .dS, .int _=>true | .int _, .dS=>true | .dS, .bl _=>true | .bl _, .dS=>true | .dS, .str _=>true | .str _, .dS=>true
 | .int _, .int _=>true | .bl _, .bl _=>true | .str _, .str _=>true | .AZ _, .AZ _=>true
 | .int _, .str _=>true | .str _, .int _=>true | .bl _, .str _=>true | .str _, .bl _=>true
 | _,_=>false
def rEq:R2:=λx y H Q=>Kj x y=true /\ Q (.bl (decide (x=y))) H
def rNe:R2:=λx y H Q=>Kj x y=true /\ Q (.bl (!decide (x=y))) H
theorem CG {i j:Int}:decide (V.int i=V.int j)=(i==j):=by rw[ke];simp
theorem Iv {i j:Bool}:decide (V.bl i=V.bl j)=(i==j):=by rw[ke];simp
theorem CF {i j:Str}:decide (V.str i=V.str j)=(i==j):=by rw[ke];simp
theorem CH {i j:Array UInt8}:decide (V.AZ i=V.AZ j)=(i.toList==j.toList):=by rw[ke];cases i;cases j;simp
section
variable {X:Cx}{a b c:Expr}{ta tb tc:TE}{pos:Pos}
theorem cS {pins:List (Addr×Obj)}{σ:St}{H:Hp}{s:Shared}{Q:VK}{k k':Bool}(I:Inv X pins σ H s)(q:Q (.bl k) H)(e:k=k'):EP X pins σ Q (.bool k') s:=by subst e;exact⟨.bl k,H,I,rfl,q⟩
theorem kn:tM X (compareOp .Eq) rEq:=by
 intro pins s σ H x y v u Q I rx ry h;obtain⟨hs,q⟩:=h;cases x with
 | dS=>
  cases rx;cases y with
  | dS=>cases ry;exact PySem.EqNone.eq_none_none (cS I q (by simp))
  | bl j=>cases ry;exact PySem.EqNone.eq_none_bool (cS I q (by simp))
  | int j=>obtain⟨t',rfl⟩:=ry;exact PySem.EqNone.eq_none_int (cS I q (by simp))
  | str j=>obtain⟨t',rfl⟩:=ry;exact PySem.EqNone.eq_none_str (cS I q (by simp))
  | _=>exact absurd (show false=true from hs) aW
 | bl i=>
  cases rx;cases y with
  | dS=>cases ry;exact PySem.EqNone.eq_bool_none (cS I q (by simp))
  | bl j=>cases ry;exact eq_bool (cS I q Iv)
  | str j=>obtain⟨t',rfl⟩:=ry;exact PySem.EqMixed.eq_bool_str (cS I q (by simp))
  | _=>exact absurd (show false=true from hs) aW
 | int i=>
  obtain⟨t,rfl⟩:=rx;cases y with
  | dS=>cases ry;exact PySem.EqNone.eq_int_none (cS I q (by simp))
  | int j=>obtain⟨t',rfl⟩:=ry;exact eq_int (cS I q CG)
  | str j=>obtain⟨t',rfl⟩:=ry;exact PySem.EqMixed.eq_int_str (cS I q (by simp))
  | _=>exact absurd (show false=true from hs) aW
 | str i=>
  obtain⟨t,rfl⟩:=rx;cases y with
  | dS=>cases ry;exact PySem.EqNone.eq_str_none (cS I q (by simp))
  | bl j=>cases ry;exact PySem.EqMixed.eq_str_bool (cS I q (by simp))
  | int j=>obtain⟨t',rfl⟩:=ry;exact PySem.EqMixed.eq_str_int (cS I q (by simp))
  | str j=>obtain⟨t',rfl⟩:=ry;exact eq_str (cS I q CF)
  | _=>exact absurd (show false=true from hs) aW
 | AZ i=>
  obtain⟨t,rfl⟩:=rx;cases y with
  | AZ j=>obtain⟨t',rfl⟩:=ry;exact PySem.W.eq_bytes (cS I q CH)
  | _=>exact absurd (show false=true from hs) aW
 | _=>cases y<;>exact absurd (show false=true from hs) aW
theorem yq:tM X (compareOp .NotEq) rNe:=by
 intro pins s σ H x y v u Q I rx ry h;obtain⟨hs,q⟩:=h;cases x with
 | dS=>
  cases rx;cases y with
  | dS=>cases ry;exact PySem.EqNone.ne_none_none (cS I q (by simp))
  | bl j=>cases ry;exact PySem.EqNone.ne_none_bool (cS I q (by simp))
  | int j=>obtain⟨t',rfl⟩:=ry;exact PySem.EqNone.ne_none_int (cS I q (by simp))
  | str j=>obtain⟨t',rfl⟩:=ry;exact PySem.EqNone.ne_none_str (cS I q (by simp))
  | _=>exact absurd (show false=true from hs) aW
 | bl i=>
  cases rx;cases y with
  | dS=>cases ry;exact PySem.EqNone.ne_bool_none (cS I q (by simp))
  | bl j=>cases ry;exact ne_bool (cS I q (congrArg not Iv))
  | str j=>obtain⟨t',rfl⟩:=ry;exact PySem.EqMixed.ne_bool_str (cS I q (by simp))
  | _=>exact absurd (show false=true from hs) aW
 | int i=>
  obtain⟨t,rfl⟩:=rx;cases y with
  | dS=>cases ry;exact PySem.EqNone.ne_int_none (cS I q (by simp))
  | int j=>obtain⟨t',rfl⟩:=ry;exact ne_int (cS I q (congrArg not CG))
  | str j=>obtain⟨t',rfl⟩:=ry;exact PySem.EqMixed.ne_int_str (cS I q (by simp))
  | _=>exact absurd (show false=true from hs) aW
 | str i=>
  obtain⟨t,rfl⟩:=rx;cases y with
  | dS=>cases ry;exact PySem.EqNone.ne_str_none (cS I q (by simp))
  | bl j=>cases ry;exact PySem.EqMixed.ne_str_bool (cS I q (by simp))
  | int j=>obtain⟨t',rfl⟩:=ry;exact PySem.EqMixed.ne_str_int (cS I q (by simp))
  | str j=>obtain⟨t',rfl⟩:=ry;exact ne_str (cS I q (congrArg not CF))
  | _=>exact absurd (show false=true from hs) aW
 | AZ i=>
  obtain⟨t,rfl⟩:=rx;cases y with
  | AZ j=>obtain⟨t',rfl⟩:=ry;exact PySem.W.ne_bytes (cS I q (congrArg not CH))
  | _=>exact absurd (show false=true from hs) aW
 | _=>cases y<;>exact absurd (show false=true from hs) aW
theorem yr:tM X (compareOp .Lt) (MS λi j=> .bl (decide (i<j))):=Pf λ_ _ _ _ _ _ _ q=>lt_int q
theorem MX:tM X (compareOp .Gt) (MS λi j=> .bl (decide (j<i))):=Pf λ_ _ _ _ _ _ _ q=>gt_int q
theorem GZ:tM X (compareOp .GtE) (MS λi j=> .bl (decide (j<=i))):=Pf λ_ _ _ _ _ _ _ q=>ge_int q
theorem KL:tM X (compareOp .IsNot) (λx y H Q=>y= .dS /\ Q (.bl (!decide (x= .dS))) H):=by
 intro pins s σ H x y v u Q I rx ry h;obtain⟨rfl,q⟩:=h;cases ry;refine isnot_none_gen (cS I q ?_);cases x<;>first
 | (cases rx;rfl)
 | (obtain⟨t,rfl⟩:=rx;rfl)
theorem dg (b:Expr){op:CmpOp}(h:op≠ .In:=by decide)(h2:op≠ .NotIn:=by decide):behindInMarks op b=false:=by
 have e1:(op==CmpOp.In)=false:=by cases op<;>first | rfl | exact absurd rfl h
 have e2:(op==CmpOp.NotIn)=false:=by cases op<;>first | rfl | exact absurd rfl h2
 cases b<;>simp[behindInMarks,e1,e2]
theorem BR {op:CmpOp}{r:R2}(ho:tM X (compareOp op) r)(ha:PE X a ta)(hb:PE X b tb)(hm:behindInMarks op b=false):PE X (.Compare a [op] [b] pos) (SK r ta tb):=by intro pins s σ H Q I h;exact wpAny_Compare1 (QK ha hb I h λv u s2 x y H2 I2 rx ry q=>ho pins s2 σ H2 x y v u Q I2 rx ry q) hm
def FG (t:TE):TT:=λσ H Q=>t σ H λx H'=> ∃k,x= .bl k /\ Q k H'
theorem cH {op:CmpOp}{r:R2}(ho:tM X (compareOp op) r)(ha:PE X a ta)(hb:PE X b tb)(hm:behindInMarks op b=false):PT X (.Compare a [op] [b] pos) (FG (SK r ta tb)):=by intro pins s σ H Q I h;refine wpAny_isTrue_Compare1 (dj (ha pins s σ H _ I h) λv s1 ⟨x,H1,I1,r1,q1⟩=>dj (hb pins s1 σ H1 _ I1 q1) λu s2 ⟨y,H2,I2,r2,q2⟩=>dj (ho pins s2 σ H2 x y v u _ I2 r1 r2 q2) λc s3 ⟨z,H3,I3,r3,k,e,q3⟩=> ?_) hm;subst e;cases r3;exact df ⟨H3,I3,q3⟩
def FR (r r':R2)(ta tb tc:TE):TE:=λσ H Q=>ta σ H λx H1=>tb σ H1 λy H2=>r x y H2 λz H3=> ∃k,z= .bl k /\(if k=true then tc σ H3 λw' H4=>r' y w' H4 Q else Q (.bl false) H3)
theorem Gw {op XD:CmpOp}{r r':R2}(ho:tM X (compareOp op) r)(Li:tM X (compareOp XD) r')(ha:PE X a ta)(hb:PE X b tb)(hc:PE X c tc) (hm:lastMarks [op,XD] [b,c]=false:=by with_unfolding_all rfl):PT X (.Compare a [op,XD] [b,c] pos) (FG (FR r r' ta tb tc)):=by
 intro pins s σ H Q I h;refine isTrue_chain (dj (ha pins s σ H _ I h) λv s1 ⟨x,H1,I1,r1,q1⟩=>test_link (dj (hb pins s1 σ H1 _ I1 q1) λu s2 ⟨y,H2,I2,r2,q2⟩=>dj (ho pins s2 σ H2 x y v u _ I2 r1 r2 q2) λd s3 ⟨z,H3,I3,r3,k,e,q3⟩=> ?_)) hm;subst e;cases r3;refine df ?_;cases k with
 | false=>obtain⟨k',e',q'⟩:=q3;cases e';exact ite_ff ⟨H3,I3,q'⟩
 | true=>refine ite_tt (test_last (dj (hc pins s3 σ H3 _ I3 q3) λw' s4 ⟨z',H4,I4,r4,q4⟩=>dj (Li pins s4 σ H4 y z' u w' _ I4 r2 r4 q4) λd' s5 ⟨z2,H5,I5,r5,k2,e2,q5⟩=> ?_));subst e2;cases r5;exact df ⟨H5,I5,q5⟩
def LS (K:PySem.W.Frag)(x:V)(H:Hp)(k:Bool):Prop:=
 match x with
 | .dS=>k=false
 | .bl b=>k=b
 | .int i=>k=(i !=0)
 | .str y=>y.length<=sizeLine /\ k=((y.length:Int) !=0)
 | .AZ y=>y.size<=sizeLine /\ k=((y.size:Int) !=0)
 | .ref p=>(∃xs,ix K H p xs /\ k= !xs.isEmpty) \/ (∃xs,kD K H p xs /\ k= !xs.isEmpty) \/ ∃kvs,H p=some (.dK kvs) /\ k= !kvs.isEmpty
 | _=>False
theorem AE {κ:Type}{kvs:List (κ×V)}{vs:List (κ×Value)}(r:KV kvs vs):(!vs.isEmpty)= !kvs.isEmpty:=by cases r<;>rfl
theorem sV {xs:List V}{its:List Value}(r:Vals xs its):(!its.toArray.isEmpty)= !xs.isEmpty:=by cases r<;>simp
theorem sP:(sizeLine:Nat) <2 ^ 63:=by rw[cC];decide
theorem OH:aal X (λx H Q=> ∃k,LS X.K x H k /\ Q k H):=by
 intro pins s σ H x v Q I rx h;obtain⟨k,e,q⟩:=h;have hl:=sP;have hs:sizeLine=16777216:=cC;cases x with
 | dS=>cases rx;have e':k=false:=e;subst e';exact truthy_none ⟨H,I,q⟩
 | bl b=>cases rx;have e':k=b:=e;subst e';exact df ⟨H,I,q⟩
 | int i=>obtain⟨t,rfl⟩:=rx;have e':k=(i !=0):=e;subst e';exact PySem.P.truthy_int ⟨H,I,q⟩
 | str y=>obtain⟨t,rfl⟩:=rx;obtain⟨hy,e'⟩:y.length<=sizeLine /\ k=((y.length:Int) !=0):=e;subst e';exact PySem.P.truthy_str (by lia) ⟨H,I.tok _,q⟩
 | AZ y=>obtain⟨t,rfl⟩:=rx;obtain⟨hy,e'⟩:y.size<=sizeLine /\ k=((y.size:Int) !=0):=e;subst e';exact PySem.W.truthy_bytes (by lia) ⟨H,I.tok _,q⟩
 | ref p=>
  cases rx;have e':(∃xs,ix X.K H p xs /\ k= !xs.isEmpty) \/ (∃xs,kD X.K H p xs /\ k= !xs.isEmpty) \/ ∃kvs,H p=some (.dK kvs) /\ k= !kvs.isEmpty:=e;rcases e' with⟨xs,hx,e'⟩ | ⟨xs,hx,e'⟩ | ⟨kvs,hx,e'⟩
  ·subst e';obtain⟨its,r,pl,hz⟩:=I.list hx;have hlen:=r.length;exact wpAny_truthy_list pl.isList (by simp only[aO];lia) ⟨H,I.tok _,by rw[sV r];exact q⟩
  ·subst e';obtain⟨its,r,pl,hz⟩:=I.tuple hx;have hlen:=r.length;exact truthy_tuple pl (by simp only[aO];lia) ⟨H,I.tok _,by rw[sV r];exact q⟩
  ·subst e';obtain⟨hz,hS,vs,r,m⟩:kvs.length<=sizeLine /\ (p==sysModules)=false /\ ∃vs,KV kvs vs /\ s.heap.DictOf (cu X.prog X.w) p vs:=I.c8 p _ hx;have hlen:kvs.length=vs.length:=zl r;exact wpAny_truthy_dict hS m (by lia) ⟨H,I.tok _,by rw[AE r];exact q⟩
 | _=>exact(show False from e).elim
theorem Gv (ha:PE X a ta)(he: ∀whole,isTrue a X.env whole=(do let v <- whole;standAt a.pos;holding [v] (truthy v))): PT X a (λσ H Q=>ta σ H λx H'=> ∃k,LS X.K x H' k /\ Q k H'):=by intro pins s σ H Q I h;exact isTrue_plain (dj (ha pins s σ H _ I h) λv s1 ⟨x,H1,I1,r1,q1⟩=>OH pins s1 σ H1 x v Q I1 r1 q1) (he _)
theorem vals1 {x:V}{us:List Value}(r:Vals [x] us): ∃u,us= [u] /\ RelV x u:=by
 cases r with
 | cons r1 r2=>cases r2;exact⟨_,rfl,r1⟩
theorem vals2 {x y:V}{us:List Value}(r:Vals [x,y] us): ∃u w',us= [u,w'] /\ RelV x u /\ RelV y w':=by
 cases r with
 | cons r1 r2=>
  cases r2 with
  | cons r3 r4=>cases r4;exact⟨_,_,rfl,r1,r3⟩
theorem IV:i0 X (.builtin "abs") (λxs H Q=> ∃i,xs= [.int i] /\ Q (.int (if i<0 then -i else i)) H):=by intro pins s σ H xs us Q I r h;obtain⟨i,rfl,q⟩:=h;obtain⟨u,rfl,t,rfl⟩:=vals1 r;exact call_abs_int λu tk=>⟨.int (if i<0 then -i else i),H,I.tok _,⟨_,rfl⟩,q⟩
end
structure EB (h:Heap)(x dx C:Addr)(mA:Str ->Option Value):Prop where
 obj:h.get? x=some (PySem.W.instObj C dx)
 ns:h.Ns1 dx mA
 ne:dx≠x
theorem DF {h:Heap}{dx:Addr}{mA:Str ->Option Value}(n:h.Ns1 dx mA): ∃od,h.get? dx=some od /\ ∀name,PySem.W.lookIn name od=some (mA name):=by
 obtain⟨o,es,ep,ho,hd,hk,_,hm⟩:=n;refine⟨o,ho,λname=> ?_⟩;have e:=hm name;unfold nsFind findBy at e;rw[<- Array.find?_toList] at e;unfold PySem.W.lookIn;rw[hd];dsimp only;split
 ·rename_i y q;rw[q] at e;exact congrArg some e
 ·rename_i q;rw[q] at e;have a:es.toList.any (·.refKey)=false:=by rw[List.any_eq_false];intro y hy;obtain⟨z,t,sY⟩:=hk y (Array.mem_toList_iff.mp hy);simp[DictEntry.refKey,sY]
  have a':¬es.toList.any (·.refKey)=true:=by rw[a];exact aW
  rw[aj a'];exact congrArg some e
theorem EB.look {h:Heap}{x dx C:Addr}{mA:Str ->Option Value}(I:EB h x dx C mA): ∃od,PySem.W.InstAt h x (PySem.W.instObj C dx) C (some od) /\ ∀name,PySem.W.lookIn name od=some (mA name):=
 let ⟨od,ho,hl⟩:=DF I.ns
 ⟨od,⟨I.obj,rfl,rfl,ho⟩,hl⟩
section
variable {prog:Program}{w:World}{A:Around}{E:Value ->Shared ->Prop}{s:Shared}{K:PySem.W.Frag}{x dx C f:Addr}{mA:Str ->Option Value}{name:Str}{v:Value}
theorem get_map {expr:Bool}{Q:Value ->Shared ->Prop}(X:K.In s.heap)(I:EB s.heap x dx C mA)(hg:PySem.W.plainGet K C name=true)(hh:PySem.W.hasDictIn K C=true) (ha:PySem.W.findIn K (.ref C) name=some none) (hv:mA name=some v) (wX:PySem.W.handedIn v=true) (h:Q v {s with toks:=s.toks+1}): wpAny (model prog w) A (getAttr (.ref x) name expr) Q E s:=by obtain⟨od,J,hl⟩:=I.look;exact PySem.W.get_value X J (PySem.W.plainGet_of hg).1 (PySem.W.findObj_own hh ha rfl (by rw[hl,hv])) wX h
theorem Ki {ns:List Str}{Q:Unit ->Shared ->Prop}(X:K.In s.heap)(I:EB s.heap x dx C mA) (hs:PySem.W.findIn K (.ref C) "__setattr__" =some (some (.builtin "object.__setattr__"))) (hp:PySem.W.plainOver K C=true) (ht:PySem.W.takerIn K C name=some none) (hh:PySem.W.hasDictIn K C=true) (hw:PySem.Within mA ns) (hsz:ns.length<=sizeLine) (h: ∀h',EB h' x dx C (λy=>if y=name then some v else mA y) ->Heap.SameBut dx s.heap h' ->Q () {s with heap:=h',toks:=s.toks+2}): wpAny (model prog w) A (setAttr (.ref x) name v) Q E s:=by obtain⟨od,J,hl⟩:=I.look;refine PySem.W.set_plain X J hs (PySem.W.osa_open (s:= {s with toks:=s.toks+1}) (r:=none) X J hp ht λb=> ?_);obtain⟨cd,hc,mV⟩:=PySem.W.any_some hh;have hx:s.heap.get? x=some ⟨.ref C,some dx, .plain, #[]⟩:=I.obj;refine ao (aM (ao (ao (wpAny_loadPart hx (ao (PySem.W.Looks.here (s:= {s with toks:=s.toks+1}) (PySem.W.looks_clsIn X hc) ?_))))));rw[mV];refine aM (a:=some dx) (ao (aM (ao ?_)));refine wpAny_nsSet1 (s:= {s with toks:=s.toks+1}) I.ns λh' P8 mF=> ?_;obtain⟨oD,esD,epD,hoD,hdD,hcD⟩:=P8.count (PySem.Within.cons name v hw);refine ao (wpAny_lookBehind hoD (by rw[hdD];exact pastItsLine_dict (a4 hcD (by rw[aG];lia))) ?_);exact aM (h _ ⟨(mF.2 _ (a5 I.ne)).trans I.obj,P8,I.ne⟩ mF)
theorem Hf {R:Result ->Shared ->Prop}{vs:List Value}{kw:List (Str×Value)}(X:K.In s.heap)(hm:PySem.W.makesIn K C=true) (hi:PySem.W.findIn K (.ref C) "__init__" =some (some (.ref f))) (hf:PySem.W.typeIn K (.ref f)=some (.type "function")) (h:codeAny (model prog w) (A.under (.builtin "type.__call__" ⟨.ref C::vs,kw⟩)) (.call (.ref f) ⟨.ref (s.heap.objs.size+1)::vs,kw⟩) (PySem.W.InitBack (s.heap.objs.size+1) R) {s with heap:=(s.heap.push PySem.W.emptyDict).push (PySem.W.instObj C s.heap.objs.size)}): codeAny (model prog w) A (.call (.ref C) ⟨vs,kw⟩) R s:=by obtain⟨hh,g,d,t,os⟩:=s;exact PySem.W.make_core (PySem.W.makes_of X hm) (PySem.W.looks_findIn X hi) (λself=>PySem.W.bind_fn X self hf) (.inl rfl) h
end
def kj (f:Str)(v:V):List (Str×V) ->List (Str×V)
 | []=> [(f,v)]
 | (g,x)::r=>if g=f then(g,v)::r else(g,x)::kj f v r
theorem qC (f g:Str)(v:V): ∀fs:List (Str×V),(kj f v fs).lookup g=if g=f then some v else fs.lookup g
 | []=>by
  show List.lookup g [(f,v)]=_;by_cases h:g=f
  ·have hb:(g==f)=true:=n8.mpr h;simp only[List.lookup,hb,ak h]
  ·have hb:(g==f)=false:=fD.mpr h;simp only[List.lookup,hb,aj h]
 | (k, x)::r=>by
  have ih:=qC f g v r;rw[show kj f v ((k,x)::r)=(if k=f then(k,v)::r else(k,x)::kj f v r) from rfl];by_cases hk:k=f
  ·rw[ak hk];by_cases h:g=k
   ·have hb:(g==k)=true:=n8.mpr h;simp only[List.lookup,hb,ak (h.trans hk)]
   ·have hb:(g==k)=false:=fD.mpr h;simp only[List.lookup,hb,aj (λe:g=f=>h (e.trans hk.symm))]
  ·rw[aj hk];by_cases h:g=k
   ·have hb:(g==k)=true:=n8.mpr h;simp only[List.lookup,hb,aj (λe:g=f=>hk (h.symm.trans e))]
   ·have hb:(g==k)=false:=fD.mpr h;simp only[List.lookup,hb];exact ih
theorem qk (f:Str)(v:V): ∀fs:List (Str×V),f∈(kj f v fs).map (·.1) /\ ∀g,g∈fs.map (·.1) ->g∈(kj f v fs).map (·.1)
 | []=>⟨by simp[kj],λg h=>by simp at h⟩
 | (k, x)::r=>by
  obtain⟨i1,i2⟩:=qk f v r;rw[show kj f v ((k,x)::r)=(if k=f then(k,v)::r else(k,x)::kj f v r) from rfl];by_cases hk:k=f
  ·rw[ak hk];subst hk;exact⟨by simp,λg h=>by simpa using h⟩
  ·rw[aj hk];refine⟨?_,λg h=> ?_⟩
   ·rw[aH];exact aw _ i1
   ·rw[aH] at h ⊢;rcases av.mp h with e | e
    ·exact av.mpr (.inl e)
    ·exact aw _ (i2 g e)
theorem qD (f:Str)(v:V): ∀fs:List (Str×V),(kj f v fs).length<=fs.length+1
 | []=>by simp[kj]
 | (k,x)::r=>by
  have ih:=qD f v r;rw[show kj f v ((k,x)::r)=(if k=f then(k,v)::r else(k,x)::kj f v r) from rfl];by_cases hk:k=f
  ·rw[ak hk,aG,aG];lia
  ·rw[aj hk,aG,aG];lia
theorem nX.some_of {v:V}{o:Option Value}(r:nX (some v) o): ∃u,o=some u /\ RelV v u:=by
 cases o with
 | none=>exact(show False from r).elim
 | some u=>exact⟨u,rfl,r⟩
theorem DZ {v:V}{u:Value}(r:RelV v u):PySem.W.handedIn u=true:=by
 cases v with
 | dS=>cases (show u=Value.none from r);rfl
 | bl b=>cases (show u=Value.bool b from r);rfl
 | int i=>obtain⟨t,e⟩:=(show ∃t,u=Value.int i t from r);cases e;rfl
 | str x=>obtain⟨t,e⟩:=(show ∃t,u=Value.str x t from r);cases e;rfl
 | AZ b=>obtain⟨t,e⟩:=(show ∃t,u=Value.bytes b t from r);cases e;rfl
 | Cs b=>obtain⟨t,e⟩:=(show ∃t,u=Value.float b t from r);cases e;rfl
 | ref a=>cases (show u=Value.ref a from r);rfl
 | ty n=>cases (show u=Value.type n from r);rfl
section
variable {P:Program}{w:World}{H H':Hp}{h h':Heap}{a C dx:Addr}{fs D9:List (Str×V)}
theorem wV (c8:nv P w H h)(e:H a=some (.ins C dx fs)): ∃mA,EB h a dx C mA /\ (∀f,nX (fs.lookup f) (mA f)) /\ PySem.Within mA (fs.map (·.1)) /\ fs.length<=1000 /\ H dx=some (.own a):=by
 obtain⟨d,z,ne,ob,mA,n,r,q⟩:=(show d4 P w H h a (.ins C dx fs) from c8 a _ e)
 exact⟨mA,⟨ob,n,ne⟩,r,q,z,d⟩
end
structure A6 (K:PySem.W.Frag)(C:Addr):Prop where
 pg:PySem.W.plainGet K C Str.empty=true
 hd:PySem.W.hasDictIn K C=true
 po:PySem.W.plainOver K C=true
 sa:PySem.W.findIn K (.ref C) "__setattr__" =some (some (.builtin "object.__setattr__"))
theorem A6.get {K:PySem.W.Frag}{C:Addr}(c:A6 K C)(f:Str):PySem.W.plainGet K C f=true:=c.pg
def dY (K:PySem.W.Frag)(C:Addr)(f:Str):Prop:=PySem.W.findIn K (.ref C) f=some none
theorem dY.SG {K:PySem.W.Frag}{C:Addr}{f:Str}(n:dY K C f):PySem.W.takerIn K C f=some none:=by unfold PySem.W.takerIn;rw[show PySem.W.findIn K (.ref C) f=some none from n];rfl
section
variable {X:Cx}{pins:List (Addr×Obj)}{σ:St}{H:Hp}{s:Shared}{a C dx:Addr}{fs:List (Str×V)}{f:Str}{v:V}{A:Around}{E:Value ->Shared ->Prop}
theorem AM {b:Bool}{Q:Value ->Shared ->Prop}(I:Inv X pins σ H s)(e:H a=some (.ins C dx fs))(c:A6 X.K C)(n:dY X.K C f)(l:fs.lookup f=some v) (h: ∀u s',Inv X pins σ H s' ->RelV v u ->Q u s'):wpAny (model X.prog X.w) A (getAttr (.ref a) f b) Q E s:=by obtain⟨mA,O,r,_,_,_⟩:=wV I.c8 e;obtain⟨u,hu,ru⟩:=nX.some_of (v:=v) (o:=mA f) (by rw[<- l];exact r f);exact get_map I.rh O (c.get f) c.hd n hu (DZ ru) (h u _ (I.tok _) ru)
theorem z4 {y:V}{u:Value}{Q:Unit ->Shared ->Prop}(I:Inv X pins σ H s)(e:H a=some (.ins C dx fs))(c:A6 X.K C)(n:dY X.K C f)(hl:fs.length<1000)(ry:RelV y u) (h: ∀s',Inv X pins σ (upd H a (.ins C dx (kj f y fs))) s' ->Q () s'):wpAny (model X.prog X.w) A (setAttr (.ref a) f u) Q E s:=by
 obtain⟨mA,O,r,wi,_,ho⟩:=wV I.c8 e;have hz:(fs.map (·.1)).length<=sizeLine:=by rw[aa,cC];lia
 refine Ki I.rh O c.sa c.po n.SG c.hd wi hz λh' O' sb=>h _ ?_;have hd: ∃o,h'.get? dx=some o:=let ⟨o,_,_,e',_⟩:=O'.ns;⟨o,e'⟩
 refine I.write (x:=a) (e:=dx) (by rw[e];exact True.intro) (.inr ho) (λb q hb z=>(sb.2 b hb).trans z) hd ?_;refine⟨by rw[bC O.ne];exact ho,?_,O.ne,O'.obj,_,O'.ns,λg=> ?_,λg hg=> ?_⟩
 ·have:=qD f y fs;lia
 ·show nX ((kj f y fs).lookup g) (if g=f then some u else mA g);rw[qC];by_cases q:g=f
  ·rw[ak q,ak q];exact ry
  ·rw[aj q,aj q];exact r g
 ·by_cases q:g=f
  ·rw[q];exact(qk f y fs).1
  ·refine(qk f y fs).2 g (wi g λz=>hg ?_);show(if g=f then some u else mA g)=none;rw[aj q];exact z
theorem Inv.made (I:Inv X pins σ H s):Inv X pins σ (upd (upd H s.heap.objs.size (.own (s.heap.objs.size+1))) (s.heap.objs.size+1) (.ins C s.heap.objs.size [])) {s with heap:=(s.heap.push PySem.W.emptyDict).push (PySem.W.instObj C s.heap.objs.size)}:=by
 have e1:(s.heap.push PySem.W.emptyDict).get? s.heap.objs.size=some PySem.W.emptyDict:=aS s.heap rfl;have e2:((s.heap.push PySem.W.emptyDict).push (PySem.W.instObj C s.heap.objs.size)).get? (s.heap.objs.size+1)=some (PySem.W.instObj C s.heap.objs.size):=by have:=aS (s.heap.push PySem.W.emptyDict) (o:=PySem.W.instObj C s.heap.objs.size) rfl;rwa [fk] at this
 have e3:(s.heap.push PySem.W.emptyDict).Ns s.heap.objs.size (λ_=>none):=⟨PySem.W.emptyDict, #[],_,e1,rfl,(λe he=>absurd he (by simp)),λ_=>rfl⟩
 have I1:=I.laid (a:=s.heap.objs.size) (o:= .own (s.heap.objs.size+1)) (h':=s.heap.push PySem.W.emptyDict) (t':=s.toks) (λb u q=>ar _ q) (aq _) ⟨_,e1⟩;refine I1.laid (a:=s.heap.objs.size+1) (o:= .ins C s.heap.objs.size []) (t':=s.toks) (λb u q=>ar _ q) (iZ (fk _ _)) ?_;have ne:s.heap.objs.size≠s.heap.objs.size+1:=aX (eI _);refine⟨by rw[bC ne,bU],cU _,ne,e2,λ_=>none,(Heap.Ns1.of_empty e3).at λo q=>ar _ q,λ_=>True.intro,λy hy=>absurd rfl hy⟩
theorem LN {prog:Program}{w:World}{env:Env}{e:Expr}{f:Str}{pos:Pos}{s:Shared}{Q:Value ->Shared ->Prop}(hb:attributeBase e f env (eval e env)=eval e env) (h:wpAny (model prog w) A (eval e env) (λo s₁=>wpAny (model prog w) A (getAttr o f true) Q E s₁) E s):wpAny (model prog w) A (eval (.Attribute e f pos) env) Q E s:=Attribute_any_ h (by rw[arm_eval_Attribute,hb])
end
def ON (K:PySem.W.Frag)(ta:TE)(f:Str):TE:=λσ H Q=>ta σ H λx H1=> ∃a C dx fs v,x= .ref a /\ H1 a=some (.ins C dx fs) /\ A6 K C /\ dY K C f /\ fs.lookup f=some v /\ Q v H1
def S8 (K:PySem.W.Frag)(ta tv:TE)(f:Str):TS:=λD σ H=>tv σ H λy H1=>ta σ H1 λx H2=> ∃a C dx fs,x= .ref a /\ H2 a=some (.ins C dx fs) /\ A6 K C /\ dY K C f /\ fs.length<1000 /\D.nx σ (upd H2 a (.ins C dx (kj f y fs)))
section
variable {X:Cx}{o e value:Expr}{f:Str}{pos pos' Dg:Pos}{ta tv:TE}
theorem eg (he:PE X e ta)(hb:attributeBase e f X.env (eval e X.env)=eval e X.env):PE X (.Attribute e f pos) (ON X.K ta f):=by intro pins s σ H Q I h;refine LN hb (dj (he pins s σ H _ I h) λu s1 ⟨x,H1,I1,rx,a,C,dx,fs,v,ex,ea,c,n,l,q⟩=> ?_);subst ex;obtain rfl:u=Value.ref a:=rx;exact AM I1 ea c n l λu' s2 I2 ru=>⟨v,H1,I2,ru,q⟩
theorem nF (ha:PE X o ta)(hv:PE X value tv)(hs:swapsWith value (some (.Attribute o f pos')) pos.line X.env=pure false):PS X (.Assign [.Attribute o f pos'] value pos) (S8 X.K ta tv f):=by intro pins s σ H D I h;refine plainObj_wpAny_Assign_Attribute (dj (hv pins s σ H _ I h) λu s1 ⟨y,H1,I1,ry,q⟩=>dj (ha pins s1 σ H1 _ I1 q) λov s2 ⟨x,H2,I2,rx,a,C,dx,fs,ex,ea,c,n,l,q2⟩=> ?_) hs;subst ex;obtain rfl:ov=Value.ref a:=rx;exact z4 I2 ea c n l ry λs3 I3=>⟨σ,_,I3,q2⟩
end
section
variable {X:Cx}{pins:List (Addr×Obj)}{σ:St}{H:Hp}{s:Shared}{A:Around}{E:Value ->Shared ->Prop}{Q:Value ->Shared ->Prop}{c:Value}{b:Bool}
inductive qv (K:PySem.W.Frag)(H:Hp):V ->Value ->Prop where
 | dS:qv K H .dS (.type "NoneType")
 | bl (x:Bool):qv K H (.bl x) (.type "bool")
 | int (i:Int):qv K H (.int i) (.type "int")
 | str (x:Str):qv K H (.str x) (.type "str")
 | Cs (x:UInt64):qv K H (.Cs x) (.type "float")
 | lst {a:Addr} {xs:List V} (e:H a=some (.lst xs)):qv K H (.ref a) (.type "list")
 | nR {a:Addr} {o:Obj} {xs:List V} (e:H a=some (.nR o (.lst xs))):qv K H (.ref a) (.type "list")
 | tup {a:Addr} {xs:List V} (e:H a=some (.tup xs)):qv K H (.ref a) (.type "tuple")
 | dK {a:Addr} {kvs:List (Key×V)} (e:H a=some (.dK kvs)):qv K H (.ref a) (.type "dict")
 | dT {a:Addr} {kvs:List (List Key×V)} (e:H a=some (.dT kvs)):qv K H (.ref a) (.type "dict")
 | ins {a C dx:Addr} {fs:List (Str×V)} (e:H a=some (.ins C dx fs)) (cl:A6 K C) (ha:PySem.W.findIn K (.ref C) "__class__" =some (some (.builtin "object.__class__"))) (hn:PySem.W.specialIn K (.builtin "object.__class__") "__get__" =some (some (.builtin "getset_descriptor.__get__"))) (htk:PySem.W.takesIn K (.builtin "object.__class__")=some true) (hm:PySem.W.mroIn K C (.type "object")=some true):qv K H (.ref a) (.ref C)
theorem DM {x:V}{u t:Value}(I:Inv X pins σ H s)(rx:RelV x u)(ty:qv X.K H x t)(e:PySem.W.kitOne X.K t c=some b)(h: ∀tk,Q (.bool b) {s with toks:=tk}): wpAny (model X.prog X.w) A (call (.builtin "isinstance") [u,c]) Q E s:=by
 cases ty with
 | dS=>cases (show u=Value.none from rx);exact cD PySem.W.kitx_none I.rh True.intro e (λz=>nomatch z) h
 | bl y=>cases (show u=Value.bool y from rx);exact cD PySem.W.kitx_bool I.rh True.intro e (λz=>nomatch z) h
 | int i=>obtain⟨t,q⟩:=(show ∃t,u=Value.int i t from rx);cases q;exact cD PySem.W.kitx_int I.rh True.intro e (λz=>nomatch z) h
 | str y=>obtain⟨t,q⟩:=(show ∃t,u=Value.str y t from rx);cases q;exact cD PySem.W.kitx_str I.rh True.intro e (λz=>nomatch z) h
 | Cs y=>obtain⟨t,q⟩:=(show ∃t,u=Value.float y t from rx);cases q;exact cD PySem.W.kitx_float I.rh True.intro e (λz=>nomatch z) h
 | @lst a xs ea=>
  cases (show u=Value.ref a from rx);obtain⟨_,_,n,_,h1⟩:=(show d4 X.prog X.w H s.heap a (.lst xs) from I.c8 a _ ea)
  exact cD vD I.rh ⟨_,h1,rfl⟩ e (λz=>nomatch z) h
 | @nR a ob xs ea=>
  cases (show u=Value.ref a from rx);obtain⟨_,_,_,n,_,h1⟩:=(show d4 X.prog X.w H s.heap a (.nR ob (.lst xs)) from I.c8 a _ ea)
  exact cD vD I.rh ⟨_,h1,rfl⟩ e (λz=>nomatch z) h
 | @tup a xs ea=>
  cases (show u=Value.ref a from rx);obtain⟨_,_,_,p⟩:=(show d4 X.prog X.w H s.heap a (.tup xs) from I.c8 a _ ea)
  obtain⟨o,h1,h2,_⟩:=p;exact cD RN I.rh ⟨o,h1,h2⟩ e (λz=>nomatch z) h
 | @dK a kvs ea=>
  cases (show u=Value.ref a from rx);obtain⟨_,_,vs,_,p⟩:=(show d4 X.prog X.w H s.heap a (.dK kvs) from I.c8 a _ ea)
  obtain⟨o,es,ep,h1,h2,_⟩:=p;exact cD PySem.W.kitx_dict I.rh ⟨o,h1,h2.1⟩ e (λz=>nomatch z) h
 | @dT a kvs ea=>
  cases (show u=Value.ref a from rx);obtain⟨_,_,xs,_,o,es,ep,h1,h2,_⟩:=(show d4 X.prog X.w H s.heap a (.dT kvs) from I.c8 a _ ea)
  exact cD PySem.W.kitx_dict I.rh ⟨o,h1,h2.1⟩ e (λz=>nomatch z) h
 | @ins a C dx fs ea cl ha hn htk hm=>cases (show u=Value.ref a from rx);obtain⟨mA,O,_⟩:=wV I.c8 ea;obtain⟨od,J,_⟩:=O.look;exact cD (PySem.W.kitx_own (cl.get _) cl.hd ha hn htk hm) I.rh J e (λz=>nomatch z) h
end
structure gJ (k:Nat)(A:Around):Prop where
 hd:A.handled=none
 dp:A.depth+3*k+5<recursionLimit
 un:A.units+16*k+200<cLine
theorem gJ.mono {j k:Nat}{A:Around}(r:gJ k A)(h:j<=k):gJ j A:=⟨r.hd,by have:=r.dp;lia,by have:=r.un;lia⟩
theorem gJ.deeper {k:Nat}{A:Around}(r:gJ (k+1) A)(env:Env):gJ k (A.deeper env):=⟨r.hd,by have:=r.dp;show A.depth+1+3*k+5<_;lia,by have:=r.un;show A.units+3+16*k+200<_;lia⟩
theorem Ar {A:Around}{C:Addr}{us:List Value}{kw:List (Str×Value)}:(A.under (.builtin "type.__call__" ⟨.ref C::us,kw⟩)).depth=A.depth+1:=by first | rfl | simp[Around.under,Code.weight,Code.isCreation,Code.isGuard,Code.isCaller,Code.frames,Code.isFrame,guardIds]
theorem Aq {A:Around}{C:Addr}{us:List Value}{kw:List (Str×Value)}:(A.under (.builtin "type.__call__" ⟨.ref C::us,kw⟩)).units=A.units+1:=by first | rfl | simp[Around.under,Code.cUnits,Code.frames,Code.isFrame]
theorem gJ.make {k:Nat}{A:Around}(r:gJ (k+1) A)(C:Addr)(us:List Value)(kw:List (Str×Value)):gJ k (A.under (.builtin "type.__call__" ⟨.ref C::us,kw⟩)):=⟨r.hd,by have:=r.dp;rw[Ar];lia,by have:=r.un;rw[Aq];lia⟩
theorem gJ.depth {k:Nat}{A:Around}(r:gJ k A):A.depth<recursionLimit:=by have:=r.dp;lia
theorem gJ.units {k:Nat}{A:Around}(r:gJ k A):A.units+64<cLine:=by have:=r.un;lia
def OM:TA:=λ_ H Q=>Q [] H
def FP (ta:TE)(tr:TA):TA:=λσ H Q=>ta σ H λx H1=>tr σ H1 λxs H2=>Q (x::xs) H2
section
variable {X:Cx}{e:Expr}{es:List Expr}{te:TE}{t:TA}{pos:Pos}
theorem aC:PA X [] OM:=λ_ _ _ _ H Q I h=>fM ⟨[],H,I, .nil,h⟩
theorem ab (ha:PE X e te)(hr:PA X es t)(hs:starEach (e::es) X.env=(false,eval e X.env)::starEach es X.env:=by rfl):PA X (e::es) (FP te t):=by intro pos pins s σ H Q I h;rw[hs];show wpAny _ _ (spliced ((false,eval e X.env)::backTo pos (starEach es X.env))) _ _ s;refine du (dj (ha pins s σ H _ I h) λu s1 ⟨x,H1,I1,r1,q1⟩=> ?_);exact dj (hr pos pins s1 σ H1 _ I1 q1) λus s2 ⟨xs,H2,I2,r2,q2⟩=>⟨x::xs,H2,I2, .cons r1 r2,q2⟩
def SI (t:TA):TE:=λσ H Q=>t σ H λxs H1=>xs.length<=sizeLine /\ ∀p,H1 p=none ->Q (.ref p) (upd H1 p (.tup xs))
def SN (t:TA):TE:=λσ H Q=>t σ H λxs H1=>xs.length<=sizeLine /\ ∀p,H1 p=none ->Q (.ref p) (upd H1 p (.lst xs))
theorem jt {x1}(h:PA X es t):PE X (.Tuple es x1 pos) (SI t):=by intro pins s σ H Q I hq;refine wpAny_Tuple_spliced (dj (h pos pins s σ H _ I hq) λus s1 ⟨xs,H1,I1,r,z,q⟩=>⟨by rw[<- r.length];exact z,?_⟩);have hf:H1 s1.heap.objs.size=none:=I1.c8.fresh (aq _);refine⟨.ref s1.heap.objs.size,upd H1 s1.heap.objs.size (.tup xs),I1.laid (t':=s1.toks) (λb u e=>ar _ e) (aq _) ?_,rfl,q _ hf⟩;exact⟨z,us,r,⟨_,aS _ rfl,rfl,_,rfl,rfl⟩⟩
theorem wD (h:PA X es t):PE X (.List es pos) (SN t):=by intro pins s σ H Q I hq;refine wpAny_List_spliced (dj (h pos pins s σ H _ I hq) λus s1 ⟨xs,H1,I1,r,z,q⟩=>⟨by rw[<- r.length];exact z,?_⟩);have hf:H1 s1.heap.objs.size=none:=I1.c8.fresh (aq _);refine⟨.ref s1.heap.objs.size,upd H1 s1.heap.objs.size (.lst xs),I1.laid (t':=s1.toks) (λb u e=>ar _ e) (aq _) ?_,rfl,q _ hf⟩;exact⟨z,us,0,r,aS _ rfl⟩
end
abbrev Sp:=List V ->Hp ->VK ->XK ->Prop
abbrev Jp:=List Env ->Hp ->Shared ->XK ->Value ->Shared ->Prop
structure A4 (P:Program)(w:World)(K:PySem.W.Frag)(mg:Str ->Option Value)(base:Heap)(A:Around)(outer:List Env)(s:Shared)(H:Hp):Prop where
 frames:A.frames=some outer
 mod:Mod K mg base
 bs: ∀b o,base.get? b=some o ->s.heap.get? b=some o /\ H b=none
 JG:base.objs.size<=s.heap.objs.size
 rC:s.heap.FunFrames base outer
 QA: ∀b∈Ih outer,H b=none
 c8:nv P w H s.heap
 bare:AllBare s.gens
def CE (outer:List Env)(P:Program)(w:World)(H:Hp)(s:Shared)(Q:VK)(u:Value)(s':Shared):Prop:=∃v H',s'.os=s.os /\ AllBare s'.gens /\ Un (Ih outer) [] H H' s.heap s'.heap /\ nv P w H' s'.heap /\ RelV v u /\ Q v H'
def CR (CX:Jp)(outer:List Env)(P:Program)(w:World)(H:Hp)(s:Shared)(Q:VK)(E:XK)(r:Result)(s':Shared):Prop:=
 match r with
 | .ok (.ret u)=>CE outer P w H s Q u s'
 | .ok _=>False
 | .error e=>CX outer H s E e s'
structure eh (P:Program)(w:World)(K:PySem.W.Frag)(mg:Str ->Option Value)(base:Heap)(CX:Jp)(k:Nat)(f:Addr)(fd:FuncData)(ps:List Str)(sp:Sp):Prop where
 len: ∀vs H Q E,sp vs H Q E ->vs.length=ps.length
 run: ∀ (A:Around) (outer:List Env) (s:Shared) (H:Hp) (args:Args) (us:List Value) (vs:List V) (Q:VK) (E:XK),gJ k A ->A4 P w K mg base A outer s H ->BindsTo s fd args (ps.zip us) ->Vals vs us ->sp vs H Q E ->codeAny (model P w) A (.call (.ref f) args) (CR CX outer P w H s Q E) s
theorem eh.imp {P:Program}{w:World}{K:PySem.W.Frag}{mg:Str ->Option Value}{base:Heap}{CX:Jp}{k:Nat}{f:Addr}{fd:FuncData}{ps:List Str}{sp sp':Sp}(F:eh P w K mg base CX k f fd ps sp) (h: ∀vs H Q E,sp' vs H Q E ->sp vs H Q E):eh P w K mg base CX k f fd ps sp':=⟨λvs H Q E q=>F.len vs H Q E (h _ _ _ _ q),λA outer s H args us vs Q E hr he hb hv hs=>F.run A outer s H args us vs Q E hr he hb hv (h _ _ _ _ hs)⟩
theorem A4.make {P:Program}{w:World}{K:PySem.W.Frag}{mg:Str ->Option Value}{base:Heap}{A:Around}{outer:List Env}{s:Shared}{H:Hp}(e:A4 P w K mg base A outer s H)(C:Addr)(us:List Value)(kw:List (Str×Value)): A4 P w K mg base (A.under (.builtin "type.__call__" ⟨.ref C::us,kw⟩)) outer s H:=⟨by first | exact e.frames | (simpa [Around.under,Code.envs,Code.isFrame,pushEnvs] using e.frames),e.mod,e.bs,e.JG,e.rC,e.QA,e.c8,e.bare⟩
section
variable {X:Cx}{pins:List (Addr×Obj)}{σ:St}{H:Hp}{s s':Shared}
theorem Inv.Vf (I:Inv X pins σ H s):A4 X.prog X.w X.K X.mg X.base X.A X.stack s H:=⟨I.ok.frames,I.ok.mod,I.bs,a4 I.ok.JG I.sz,I.stack,I.Bp,I.c8,I.bare⟩
theorem Inv.after {Q:VK}{u:Value}(I:Inv X pins σ H s)(h:CE X.stack X.prog X.w H s Q u s'):EP X pins σ Q u s':=by obtain⟨v,H',os,bare,un,c8,r,q⟩:=h;obtain⟨hh,g,d,t,os'⟩:=s';obtain rfl:os'=s.os:=os;exact⟨v,H',I.call (h':=hh) (g':=g) (d':=d) (t':=t) (ch:= []) un c8 bare (λb z=>absurd z (by simp)),r,q⟩
end
def Bo (sp:Sp)(AR:List V)(E:XK)(t:TA):TE:=λσ H Q=>t σ H λvs H1=>sp (vs++AR) H1 Q E
def FH (C:Addr)(sp:Sp)(AR:List V)(E:XK)(t:TA):TE:=λσ H Q=>t σ H λvs H1=> ∀x dx,H1 x=none ->H1 dx=none ->dx≠x ->sp (.ref x::(vs++AR)) (upd (upd H1 dx (.own x)) x (.ins C dx [])) (λv H2=>v= .dS /\ Q (.ref x) H2) E
def Binds (K:PySem.W.Frag)(fd:FuncData)(ps:List Str)(ds:List Value):Prop:=∀ (s:Shared) (us:List Value),K.In s.heap ->(us++ds).length=ps.length ->BindsTo s fd ⟨us,[]⟩ (ps.zip (us++ds))
theorem Binds.all {K:PySem.W.Frag}{fd:FuncData}{ps:List Str}(h: ∀us:List Value,us.length=ps.length ->bindArgs fd ⟨us,[]⟩=pure (ps.zip us)):Binds K fd ps []:=λs us _ hl=>by rw[iz] at hl ⊢;exact .of_eq (h us hl)
def Passes (CX:Jp)(X:Cx)(E:XK):Prop:= ∀ (pins:List (Addr×Obj)) (σ:St) (H:Hp) (s:Shared) (e:Value) (s':Shared),Inv X pins σ H s ->CX X.stack H s E e s' ->X.xe e s'
section
variable {X:Cx}{CX:Jp}{k:Nat}{f C:Addr}{fd:FuncData}{ps:List Str}{sp:Sp}{AR:List V}{ds:List Value}{E:XK}{x m:Str}{p pos apos:Pos}{e o:Expr}{es:List Expr}{ta:TE}{t:TA}
theorem OZ {pins:List (Addr×Obj)}{σ:St}{H:Hp}{s:Shared}{Q:VK}{us:List Value}{vs:List V}(F:eh X.prog X.w X.K X.mg X.base CX k f fd ps sp)(hr:gJ k X.A)(hb:Binds X.K fd ps ds)(hd:Vals AR ds)(hx:Passes CX X E) (I:Inv X pins σ H s) (r:Vals vs us) (h:sp (vs++AR) H Q E):wpAny (model X.prog X.w) X.A (call (.ref f) us) (EP X pins σ Q) X.xe s:=by
 have r2:Vals (vs++AR) (us++ds):=r.append hd;have hl:(us++ds).length=ps.length:=by rw[<- r2.length];exact F.len _ _ _ _ h
 refine wpAny_call (rT (F.run X.A X.stack s H ⟨us,[]⟩ (us++ds) (vs++AR) Q E hr I.Vf (hb s us I.rh hl) r2 h) λr s' hq=> ?_);cases r with
 | error e=>exact hx pins σ H s e s' I hq
 | ok fl=>
  cases fl with
  | ret u=>exact I.after hq
  | next=>exact False.elim hq
  | brk=>exact False.elim hq
  | cont=>exact False.elim hq
theorem KC (F:eh X.prog X.w X.K X.mg X.base CX k f fd ps sp)(hr:gJ k X.A)(hg:Gl X x)(hm:X.mg x=some (.ref f))(hk:PySem.W.keepIn X.K (.ref f)=true)(hb:Binds X.K fd ps ds)(hd:Vals AR ds)(hx:Passes CX X E) (ha:PA X (e::es) t) (HW:(x==("__debug__" :Str))=false:=by decide) (he:starEach (e::es) X.env=(false,eval e X.env)::starEach es X.env:=by rfl) (uW:(backTo pos (starEach es X.env)).any (·.1)=false:=by rfl): PE X (.Call (.Name x p) (e::es) [] pos) (Bo sp AR E t):=by intro pins s σ H Q I h;refine jd (B0 I hg hm ?_ HW);refine RO (h₀:=X.base) I.ok.mod.Wa hk (dj (ha pos pins s σ H _ I h) λus s1 ⟨vs,H1,I1,r,q⟩=>⟨I1.rh,?_⟩) he uW;exact OZ F hr hb hd hx I1 r q
structure Mk (K:PySem.W.Frag)(C f:Addr):Prop where
 makes:PySem.W.makesIn K C=true
 init:PySem.W.findIn K (.ref C) "__init__" =some (some (.ref f))
 fn:PySem.W.isFn K (.ref f)=true
 kp:PySem.W.keepIn K (.ref C)=true
theorem Gf {pins:List (Addr×Obj)}{σ:St}{H:Hp}{s:Shared}{Q:VK}{us:List Value}{vs:List V}(M:Mk X.K C f)(F:eh X.prog X.w X.K X.mg X.base CX k f fd ps sp)(hr:gJ (k+1) X.A)(hb:Binds X.K fd ps ds)(hd:Vals AR ds) (hx:Passes CX X E) (I:Inv X pins σ H s) (r:Vals vs us) (h: ∀x dx,H x=none ->H dx=none ->dx≠x ->sp (.ref x::(vs++AR)) (upd (upd H dx (.own x)) x (.ins C dx [])) (λv H2=>v= .dS /\ Q (.ref x) H2) E): wpAny (model X.prog X.w) X.A (call (.ref C) us) (EP X pins σ Q) X.xe s:=by
 have hq:=h (s.heap.objs.size+1) s.heap.objs.size (I.c8.fresh (N9 _)) (I.c8.fresh (aq _)) (aX (eI _));have I2:=Inv.made (C:=C) I;have r2:Vals (V.ref (s.heap.objs.size+1)::(vs++AR)) (Value.ref (s.heap.objs.size+1)::(us++ds)):= .cons rfl (r.append hd);have hl:(Value.ref (s.heap.objs.size+1)::us++ds).length=ps.length:=by have e:=r2.length;rw[F.len _ _ _ _ hq] at e;exact e.symm
 refine wpAny_call (Hf (f:=f) I.rh M.makes M.init (n8.mp M.fn) (rT (F.run _ X.stack _ _ ⟨Value.ref (s.heap.objs.size+1)::us,[]⟩ (Value.ref (s.heap.objs.size+1)::(us++ds)) _ _ E (hr.make C us []) (I2.Vf.make C us []) (hb _ (Value.ref (s.heap.objs.size+1)::us) I2.rh hl) r2 hq) λr s' Uu=> ?_));cases r with
 | error e=>exact hx pins σ _ _ e s' I2 Uu
 | ok fl=>
  cases fl with
  | ret u=>obtain⟨v,H',I3,rv,ev,q3⟩:=I2.after Uu;subst ev;exact⟨rv,⟨V.ref (s.heap.objs.size+1),H',I3,rfl,q3⟩⟩
  | next=>exact False.elim Uu
  | brk=>exact False.elim Uu
  | cont=>exact False.elim Uu
theorem Kz (M:Mk X.K C f)(F:eh X.prog X.w X.K X.mg X.base CX k f fd ps sp)(hr:gJ (k+1) X.A)(hg:Gl X x)(hm:X.mg x=some (.ref C))(hb:Binds X.K fd ps ds)(hd:Vals AR ds)(hx:Passes CX X E) (ha:PA X (e::es) t) (HW:(x==("__debug__" :Str))=false:=by decide) (he:starEach (e::es) X.env=(false,eval e X.env)::starEach es X.env:=by rfl) (uW:(backTo pos (starEach es X.env)).any (·.1)=false:=by rfl): PE X (.Call (.Name x p) (e::es) [] pos) (FH C sp AR E t):=by intro pins s σ H Q I h;refine jd (B0 I hg hm ?_ HW);refine RO (h₀:=X.base) I.ok.mod.Wa M.kp (dj (ha pos pins s σ H _ I h) λus s1 ⟨vs,H1,I1,r,q⟩=>⟨I1.rh,?_⟩) he uW;exact Gf M F hr hb hd hx I1 r q
end
structure b7 (N P:List Str)(sc:Scope):Prop where
 kind:sc.kind= .function
 co:sc.isCoroutine=false
 gen:sc.isGenerator=false
 nd:N.Nodup
 pre:N.take P.length=P
 par: ∀x∈P,sc.names.lookup x=some .local \/ sc.names.lookup x=some .cell
 Po: ∀y∈sc.names,y.2≠ .free
theorem vq {kindOf:Str ->Option NameKind}{x:Str}: ∀ {binds:List (Str×Value)} {m:Str ->Option Value},(∀v,(x,v)∉binds) ->bindL kindOf binds m x=m x
 | [],_,_=>rfl
 | (n,v)::r,m,h=>by
  unfold bindL;rw[vq λw hw=>h w (aw _ hw)];split
  ·have:x≠n:=by rintro rfl;exact h v aE
   simp[this]
  ·rfl
theorem vv {kindOf:Str ->Option NameKind}{x:Str}: ∀ {binds:List (Str×Value)} {m:Str ->Option Value},(∀v,(x,v)∉binds) ->bindC kindOf binds m x=m x
 | [],_,_=>rfl
 | (n,v)::r,m,h=>by
  unfold bindC;rw[vv λw hw=>h w (aw _ hw)];split
  ·rfl
  ·have:x≠n:=by rintro rfl;exact h v aE
   simp[this]
theorem vt {kindOf:Str ->Option NameKind}{x:Str}{v:Value}: ∀ {P:List Str} {vs:List Value} {i:Nat} {m:Str ->Option Value},P.Nodup ->P[i]? =some x ->vs[i]? =some v ->kindOf x=some .local ->bindL kindOf (P.zip vs) m x=some v
 | [],_,_,_,_,h,_,_=>by simp at h
 | _::_,[],_,_,_,_,h,_=>by simp at h
 | p::P,w::vs,0,m,nd,h1,h2,hk=>by simp at h1 h2;subst h1;subst h2;show bindL kindOf ((p,w)::P.zip vs) m p=_;unfold bindL;rw[vq λv hv=>(bw.mp nd).1 (zF hv).1,ak hk];simp
 | p::P,w::vs,i+1,m,nd,h1,h2,hk=>by show bindL kindOf ((p,w)::P.zip vs) m x=_;unfold bindL;exact vt (i:=i) (bw.mp nd).2 (by simpa using h1) (by simpa using h2) hk
theorem vw {kindOf:Str ->Option NameKind}{x:Str}{v:Value}: ∀ {P:List Str} {vs:List Value} {i:Nat} {m:Str ->Option Value},P.Nodup ->P[i]? =some x ->vs[i]? =some v ->kindOf x≠some .local ->bindC kindOf (P.zip vs) m x=some v
 | [],_,_,_,_,h,_,_=>by simp at h
 | _::_,[],_,_,_,_,h,_=>by simp at h
 | p::P,w::vs,0,m,nd,h1,h2,hk=>by simp at h1 h2;subst h1;subst h2;show bindC kindOf ((p,w)::P.zip vs) m p=_;unfold bindC;rw[vv λv hv=>(bw.mp nd).1 (zF hv).1,aj hk];simp
 | p::P,w::vs,i+1,m,nd,h1,h2,hk=>by show bindC kindOf ((p,w)::P.zip vs) m x=_;unfold bindC;exact vw (i:=i) (bw.mp nd).2 (by simpa using h1) (by simpa using h2) hk
def start (N:List Str)(vs:List V):St:=vs.map some++List.replicate (N.length - vs.length) none
def fT (CX:Jp)(P:Program)(w:World)(K:PySem.W.Frag)(mg:Str ->Option Value)(base:Heap)(N:List Str)(qual:Str)(scope:Scope)(f:Addr)(cd:Value)(A:Around)(outer:List Env)(s:Shared)(H:Hp)(E:XK):Cx where
 prog:=P
 w:=w
 K:=K
 mg:=mg
 base:=base
 A:=A.deeper (envOfC qual scope s.heap.objs.size f cd)
 N:=N
 s₀:=s
 H₀:=H
 env:=envOfC qual scope s.heap.objs.size f cd
 outer:=outer
 stack:=envOfC qual scope s.heap.objs.size f cd::outer
 ex:= []
 calm:=true
 fn:=λ_=>true
 pn:= []
 xe:=λe s'=>wpAny (model P w) (A.deeper (envOfC qual scope s.heap.objs.size f cd)) (leaving (envOfC qual scope s.heap.objs.size f cd) e) (λ_ Xo=>CX outer H s E e Xo) (λe' Xo=>CX outer H s E e' Xo) s'
theorem zg {sc:Scope}{n:Nat}{x:Str}(h:sc.names.lookup x=some .cell): ∃c,(cellsFrom n sc.names []).lookup x=some c:=by have q:=JM sc.names n [] (.inl h);exact mO.mp q
theorem DN {CX:Jp}{P:Program}{w:World}{K:PySem.W.Frag}{mg:Str ->Option Value}{base:Heap}{N ps:List Str}{qual:Str}{scope:Scope}{f:Addr}{cd:Value}{A:Around}{outer:List Env}{s s1:Shared}{H:Hp}{E:XK}{us:List Value}{vs:List V} (S:b7 N ps scope) (hd:A.handled=none) (e0:A4 P w K mg base A outer s H) (hl:vs.length=ps.length) (r:Vals vs us) (x:InCallC s s.heap.objs.size (bindL (envOfC qual scope s.heap.objs.size f cd).kindOf (ps.zip us) λ_=>none) (cellsFrom (s.heap.objs.size+1) scope.names []) (bindC (envOfC qual scope s.heap.objs.size f cd).kindOf (ps.zip us) λ_=>none) s1): Inv (fT CX P w K mg base N qual scope f cd A outer s H E) [] (start N vs) H s1:=by
 have uW:ps.length<=N.length:=by have:=congrArg List.length S.pre;rw[a6] at this;lia
 obtain⟨h1,tk,rfl,hk⟩:=x.done;have TL: ∀b:Addr,b∉(fT CX P w K mg base N qual scope f cd A outer s H E).ex:=λb z=>absurd (show b∈([]:List Addr) from z) (by simp);refine⟨⟨e0.mod,S.kind,rfl,rfl,aq _,λy z c h1 h2=> ?_,λy hy=> ?_,λy c _ h=> ?_,λ_=>hd,Around.frames_deeper e0.frames, .inr ⟨rfl,rfl⟩,λb z=>absurd z (TL b),e0.bs,e0.JG,λb _ _=>TL b,λb z=>absurd z (TL b),e0.rC,e0.QA⟩,
  rfl,e0.bare,Un.kept hk,⟨_,x.toInCall.ns,λi y v h1 h2 h3=> ?_⟩,λy c h=>⟨_,x.cell y c h⟩,e0.c8.fresh (aq _),λy c h=> ?_,λp hp=>absurd (show p∈([]:List (Addr×Obj)) from hp) (by simp),e0.c8.kept hk,?_⟩
 ·exact name_of_addr x.apart (dA h1) (dA h2)
 ·have hy:scope.names.lookup y=some .cell \/ scope.names.lookup y=some .free:=hy;rcases hy with hy | hy
  ·exact zg hy
  ·exact absurd rfl (S.Po _ (dA hy))
 ·exact iY (x.above y c (dA h))
 ·have hi:i<vs.length:=by
   unfold start at h2;by_cases hi:i<vs.length
   ·exact hi
   ·rw[aU (by simpa using hi)] at h2;rw[d7] at h2;split at h2<;>cases h2
  have ha:vs[i]? =some v:=by
   unfold start at h2;rw[a9 (by simpa using hi),aA] at h2;cases e:vs[i]? with
   | none=>rw[e] at h2;cases h2
   | some a=>rw[e] at h2;cases h2;rfl
  obtain⟨u,hu,rv⟩:=r.get ha;have hp:ps[i]? =some y:=by rw[<- S.pre,E3 (by lia)];exact h1
  have ndP:ps.Nodup:=by rw[<- S.pre];exact S.nd.sublist (lZ _ _)
  refine⟨u,rv,?_⟩;rcases S.par y (ai hp) with k | k
  ·exact .inl ⟨k,vt ndP hp hu k⟩
  ·obtain⟨c,e⟩:=zg (n:=s.heap.objs.size+1) k;refine .inr ⟨.inl k,c,e,?_⟩;have q:=x.cell y c e;rw[vw ndP hp hu (by show scope.names.lookup y≠_;rw[k];decide)] at q;exact q
 ·exact e0.c8.fresh (iY (x.above y c (dA h)))
 ·unfold start;show _=N.length;rw[aL,aa,gj];lia
theorem Vd {CX:Jp}{P:Program}{w:World}{K:PySem.W.Frag}{mg:Str ->Option Value}{base:Heap}{k:Nat}{f:Addr}{name qual:Str}{params:Arguments}{body:List Stmt}{scope:Scope}{dV kV doc pm eQ ct oc:Value}{an od:Option Addr} {ER:Array (Option Value)} {N ps:List Str} {sp:Sp} (lk:K.lookup f=some ⟨oc,od, .func (PySem.W.fnOf name qual params body scope dV kV doc pm an eQ ct),ER⟩) (DY:PySem.W.codeIn K eQ qual=true) (S:b7 N ps scope) (len: ∀vs H Q E,sp vs H Q E ->vs.length=ps.length) (pj: ∀ (A:Around) (outer:List Env) (s:Shared) (H:Hp) (vs:List V) (Q:VK) (E:XK),gJ k (A.deeper (envOfC qual scope s.heap.objs.size f eQ)) ->sp vs H Q E ->∃t,zD (fT CX P w K mg base N qual scope f eQ A outer s H E) body t /\ t {nx:=λ_ H'=>Q .dS H',rt:=Q} (start N vs) H): eh P w K mg base CX (k+1) f (PySem.W.fnOf name qual params body scope dV kV doc pm an eQ ct) ps sp:=by
 refine⟨len,λA outer s H args us vs Q E hr e0 hb r yI=> ?_⟩;have hl:=len _ _ _ _ yI;have KX:K.In s.heap:=e0.mod.Wa.keeps λb o e=>(e0.bs b o e).1;have lim:s.heap.NoLimit:=e0.mod.nolimit.keeps λb o e=>(e0.bs b o e).1;have UJ: ∀y∈ps.zip us,scope.names.lookup y.1=some .local \/ (scope.names.lookup y.1=some .cell /\ ((cellsFrom (s.heap.objs.size+1) scope.names []).lookup y.1).isSome=true):=λ⟨n,v⟩ hy=>by
  rcases S.par n (zF hy).1 with q | q
  ·exact .inl q
  ·exact .inr ⟨q,JM _ _ _ (.inl q)⟩
 refine codeAny_call_function hr.depth (KX _ _ lk) rfl S.co S.gen rfl (PySem.W.codeRec_of KX DY) (hb _ _ _ _ ?_);refine wpAny_newFunctionEnv_cells S.kind UJ λenv he s1 x=> ?_;subst he;refine⟨lim.keeps x.toInCall.keep,codeAny_func ?_⟩;obtain⟨t,ht,hq⟩:=pj A outer s H vs Q E (hr.deeper _) yI;have I:Inv (fT CX P w K mg base N qual scope f eQ A outer s H E) [] (start N vs) H s1:=DN S hr.hd e0 hl r x;refine bJ (ht [] s1 (start N vs) H _ I hq) (λfl s' hs=> ?_) λe s' hs=>hs;have fin: ∀ {σ':St} {H':Hp} {v:V} {u:Value},Inv (fT CX P w K mg base N qual scope f eQ A outer s H E) [] σ' H' s' ->RelV v u ->Q v H' ->CE outer P w H s Q u s':=λ{σ' H' v u} J rv q=>⟨v,H',J.os,J.bare,J.base,J.c8,rv,q⟩
 cases fl with
 | ret u=>obtain⟨v,σ',H',J,rv,q⟩:=hs;exact fin J rv q
 | next=>obtain⟨σ',H',J,q⟩:=hs;exact fin (v:=V.dS) (u:=Value.none) J rfl q
 | brk=>obtain⟨_,_,_,q⟩:=hs;exact False.elim q
 | cont=>obtain⟨_,_,_,q⟩:=hs;exact False.elim q
section
variable {X:Cx}{x:Str}{p pos:Pos}{e:Expr}{es:List Expr}{t:TA}{id T:String}{r:List V ->Hp ->VK ->Prop}
def Xh (r:List V ->Hp ->VK ->Prop)(t:TA):TE:=λσ H Q=>t σ H λvs H1=>r vs H1 Q
theorem cA (hc:i0 X (.builtin id) r)(hg:Gl X x)(hm:X.mg x=none)(hv:bootBuiltins x=some (.builtin id))(ha:PA X (e::es) t)(hn:x≠ "__name__" :=by decide)(HW:(x==("__debug__" :Str))=false:=by decide) (he:starEach (e::es) X.env=(false,eval e X.env)::starEach es X.env:=by rfl) (uW:(backTo pos (starEach es X.env)).any (·.1)=false:=by rfl):PE X (.Call (.Name x p) (e::es) [] pos) (Xh r t):=by intro pins s σ H Q I h;refine jd (iR I hg hm hv ?_ hn HW);exact PyProof.Rows.callWith_builtin1 (dj (ha pos pins s σ H _ I h) λus s1 ⟨vs,H1,I1,r1,q1⟩=>hc pins s1 σ H1 vs us Q I1 r1 q1) he uW
theorem dv (hc:i0 X (.type T) r)(hg:Gl X x)(hm:X.mg x=none)(hv:bootBuiltins x=some (.type T))(ha:PA X (e::es) t)(hn:x≠ "__name__" :=by decide)(HW:(x==("__debug__" :Str))=false:=by decide) (he:starEach (e::es) X.env=(false,eval e X.env)::starEach es X.env:=by rfl) (uW:(backTo pos (starEach es X.env)).any (·.1)=false:=by rfl):PE X (.Call (.Name x p) (e::es) [] pos) (Xh r t):=by intro pins s σ H Q I h;refine jd (iR I hg hm hv ?_ hn HW);exact bO (dj (ha pos pins s σ H _ I h) λus s1 ⟨vs,H1,I1,r1,q1⟩=>hc pins s1 σ H1 vs us Q I1 r1 q1) he uW
end
end L2
namespace HT
open PySem PyProof.Rows
section
variable {prog:Program}{w:World}{A:Around}{E:Value ->Shared ->Prop}{s:Shared}
def sD (n d:Nat):Option Int ->Nat
 | none=>d
 | some v=>if v<0 then(v+(n:Int)).toNat else min v.toNat n
theorem Gd (n d:Nat):sD n d none=d:=rfl
theorem Kl (n d k:Nat):sD n d (some (k:Int))=min k n:=by show(if(k:Int) <0 then((k:Int)+(n:Int)).toNat else min (k:Int).toNat n)=min k n;rw[aj (by lia),vI]
end
end HT
namespace L2
open PySem PySem.Spec PyProof.Rows
abbrev TO:=St ->Hp ->(Option Int ->Hp ->Prop) ->Prop
def PO (X:Cx)(e:Option Expr)(t:TO):Prop:=∀ (pins:List (Addr×Obj)) (s:Shared) (σ:St) (H:Hp) (Q:Option Int ->Hp ->Prop),Inv X pins σ H s ->t σ H Q ->wpAny (model X.prog X.w) X.A (evalPart e X.env) (λu s'=> ∃o H',Inv X pins σ H' s' /\ IsPart u o /\ Q o H') X.xe s
def Bl:TO:=λ_ H Q=>Q none H
def Mq (t:TE):TO:=λσ H Q=>t σ H λx H1=> ∃i,x= .int i /\ Q (some i) H1
section
variable {X:Cx}{e:Expr}{te:TE}{lo hi:Option Expr}{tl th:TO}{pos p2:Pos}
theorem BL:PO X none Bl:=by intro pins s σ H Q I h;rw[evalPart_none];exact aM ⟨none,H,I, .none,h⟩
theorem BK (h:PE X e te):PO X (some e) (Mq te):=by intro pins s σ H Q I hw;rw[evalPart_some];refine dj (h pins s σ H _ I hw) λu s1 ⟨x,H1,I1,r1,q1⟩=> ?_;obtain⟨i,rfl,q⟩:=q1;obtain⟨t,rfl⟩:=r1;exact⟨some i,H1,I1, .int i t,q⟩
def SlR (X:Cx)(r:V ->Option Int ->Option Int ->Hp ->VK ->Prop):Prop:=∀ (pins:List (Addr×Obj)) (s:Shared) (σ:St) (H:Hp) (x:V) (v vl vu:Value) (lo hi:Option Int) (sl:Addr) (Q:VK),Inv X pins σ H s ->RelV x v ->s.heap.IsSliceOf sl vl vu .none ->IsPart vl lo ->IsPart vu hi ->r x lo hi H Q ->∃T id,typeLookup (.type T) "__getitem__" =pure (some (.builtin id)) /\ s.TypeIs v T /\ wpAny (model X.prog X.w) X.A (getItem v (.ref sl)) (EP X pins σ Q) X.xe s
def tSl (r:V ->Option Int ->Option Int ->Hp ->VK ->Prop)(te:TE)(tl th:TO):TE:=λσ H Q=>te σ H λx H1=>tl σ H1 λl H2=>th σ H2 λu H3=>r x l u H3 Q
theorem yk {r:V ->Option Int ->Option Int ->Hp ->VK ->Prop}(hr:SlR X r)(he:PE X e te)(hl:PO X lo tl)(hu:PO X hi th):PE X (.Subscript e (.Slice lo hi none p2) pos) (tSl r te tl th):=by intro pins s σ H Q I h;refine Subscript_ (dj (he pins s σ H _ I h) λv s1 ⟨x,H1,I1,r1,q1⟩=> ?_);refine wpAny_Slice (dj (hl pins s1 σ H1 _ I1 q1) λvl s2 ⟨l,H2,I2,pl,q2⟩=>dj (hu pins s2 σ H2 _ I2 q2) λvu s3 ⟨u,H3,I3,pu,q3⟩=> ?_);rw[evalPart_none];refine aM ?_;have I4:Inv X pins σ H3 {s3 with heap:=s3.heap.push {cls:= .type "slice",data:= .fields #[vl,vu, .none]}}:=I3.kept (t':=s3.toks) λb ob q=>ar _ q;obtain⟨T,id,hT,ht,hg⟩:=hr pins {s3 with heap:=s3.heap.push {cls:= .type "slice",data:= .fields #[vl,vu, .none]}} σ H3 x v vl vu l u s3.heap.objs.size Q I4 r1 (Heap.IsSliceOf.new ..) pl pu q3;show wpAny (model X.prog X.w) X.A (subscriptTail e (.Slice lo hi none p2) v (.ref s3.heap.objs.size)) (EP X pins σ Q) X.xe {s3 with heap:=s3.heap.push {cls:= .type "slice",data:= .fields #[vl,vu, .none]}};exact tail_any (ops:= [.ref s3.heap.objs.size,v]) ht hT hg (by with_unfolding_all rfl)
def zb (xs:List V)(lo hi:Option Int):List V:=(xs.drop (HT.sD xs.length 0 lo)).take (HT.sD xs.length xs.length hi - HT.sD xs.length 0 lo)
theorem za (xs:List V)(lo hi:Option Int):(zb xs lo hi).length<=xs.length:=by unfold zb;rw[a6,fL];lia
end
def sU (n:Nat)(i:Int):Option Nat:=if 0<=i then(if i<n then some i.toNat else none) else if -(n:Int) <=i then some (i+n).toNat else none
def mX {α:Type}(xs:List α)(i:Int):Option α:=(sU xs.length i).bind λj=>xs[j]?
theorem Cc {n:Nat}{i:Int}{j:Nat}(h:sU n i=some j): seqIndex? i n=some j /\ j<n /\ -(n:Int) <=i /\ i<n:=by
 unfold sU at h;by_cases h0:0<=i
 ·rw[ak h0] at h;by_cases h1:i<n
  ·rw[ak h1] at h;have e:i.toNat=j:=br h;exact⟨by rw[seqIndex_of h0 h1,e],by lia,by lia,h1⟩
  ·rw[aj h1] at h;cases h
 ·rw[aj h0] at h;by_cases h1: -(n:Int) <=i
  ·rw[ak h1] at h;have e:(i+n).toNat=j:=br h;exact⟨by rw[seqIndex_neg (by lia) h1,e],by lia,h1,by lia⟩
  ·rw[aj h1] at h;cases h
theorem C2 {α:Type}{xs:List α}{i:Int}{v:α}(h:mX xs i=some v): ∃j, seqIndex? i xs.length=some j /\ xs[j]? =some v /\ j<xs.length /\ -(xs.length:Int) <=i /\ i<xs.length:=by
 unfold mX at h;cases e:sU xs.length i with
 | none=>rw[e] at h;cases h
 | some j=>rw[e] at h;obtain⟨h1,h2,h3,h4⟩:=Cc e;exact⟨j,h1,h,h2,h3,h4⟩
theorem iF {α:Type}{xs:List α}{j:Nat}{v:α}(h:xs[j]? =some v):mX xs (j:Int)=some v:=by
 have hj:j<xs.length:=(ag.mp h).1;have e:sU xs.length (j:Int)=some j:=by unfold sU;rw[ak (by lia),ak (by lia)];simp
 unfold mX;rw[e];exact h
def LU (b:Expr):Prop:= ∀o i,subscripted b false o i=operate [o,i] (getItem o i)
def IxR (X:Cx)(r:R2):Prop:=∀ (value slice:Expr) (pins:List (Addr×Obj)) (s:Shared) (σ:St) (H:Hp) (x y:V) (v u:Value) (Q:VK),Inv X pins σ H s ->RelV x v ->RelV y u ->r x y H Q ->subscripted slice false v u=operate [v,u] (getItem v u) ->wpAny (model X.prog X.w) X.A (subscriptTail value slice v u) (EP X pins σ Q) X.xe s
def MtR (X:Cx)(id:String)(r:V ->List V ->Hp ->VK ->Prop):Prop:=∀ (pins:List (Addr×Obj)) (s:Shared) (σ:St) (H:Hp) (x:V) (xs:List V) (v:Value) (us:List Value) (Q:VK),Inv X pins σ H s ->RelV x v ->Vals xs us ->r x xs H Q ->wpAny (model X.prog X.w) X.A (call (.builtin id) (v::us)) (EP X pins σ Q) X.xe s
section
variable {X:Cx}{a b:Expr}{ta tb:TE}{pos:Pos}
theorem c5 {r:R2}(hr:IxR X r)(ha:PE X a ta)(hb:PE X b tb)(hs:LU b):PE X (.Subscript a b pos) (SK r ta tb):=by intro pins s σ H Q I h;exact Subscript_ (QK ha hb I h λv u s2 x y H2 I2 rx ry q=>hr a b pins s2 σ H2 x y v u Q I2 rx ry q (hs _ _))
def Ti (K:PySem.W.Frag):R2:=λx y H Q=> ∃p xs i v,x= .ref p /\ y= .int i /\ ix K H p xs /\ mX xs i=some v /\ Q v H
def Th (K:PySem.W.Frag):R2:=λx y H Q=> ∃p xs i v,x= .ref p /\ y= .int i /\ kD K H p xs /\ mX xs i=some v /\ Q v H
theorem cK:IxR X (Ti X.K):=by
 intro value slice pins s σ H x y v u Q I rx ry h hs;obtain⟨p,xs,i,z,rfl,rfl,hq,he,q⟩:=h;cases rx;obtain⟨t,rfl⟩:=ry;obtain⟨its,r,pl,hz⟩:=I.list hq;obtain⟨j,h1,h2,h3,h4,h5⟩:=C2 he;obtain⟨w,ew,wg⟩:=r.get h2;have hl:=r.length;have hn:=sP;have fin:EP X pins σ Q w s:=⟨z,H,I,wg,q⟩
 by_cases h0:0<=i
 ·have hj:i.toNat=j:=by rw[seqIndex_of h0 h5] at h1;exact br h1
  exact item_listR pl.isList h0 (by lia) (by rw[hj];simpa using ew) fin hs
 ·have hj:(i+(its.toArray.size:Int)).toNat=j:=by rw[seqIndex_neg (by lia) h4] at h1;rw[aO, <- hl];exact br h1
  exact subscriptTail_builtinR (x:=w) pl.isList.typeIs slot_list_getitem.lookup (wpAny_getItem_list_neg (Q:=λr s'=>r=w /\ EP X pins σ Q r s') pl.isList (by lia) (by rw[aO] <;>lia) (by lia) (by rw[hj];simpa using ew) ⟨rfl,fin⟩) hs
theorem gQ:IxR X (Th X.K):=by
 intro value slice pins s σ H x y v u Q I rx ry h hs;obtain⟨p,xs,i,z,rfl,rfl,hq,he,q⟩:=h;cases rx;obtain⟨t,rfl⟩:=ry;obtain⟨its,r,pl,hz⟩:=I.tuple hq;obtain⟨j,h1,h2,h3,h4,h5⟩:=C2 he;obtain⟨w,ew,wg⟩:=r.get h2;have hl:=r.length;have hn:=sP;have fin:EP X pins σ Q w s:=⟨z,H,I,wg,q⟩
 exact subscriptTail_builtinR (x:=w) pl.typeIs slot_tuple_getitem.lookup (getItem_tuple (j:=j) (Q:=λr s'=>r=w /\ EP X pins σ Q r s') pl (by lia) (by lia) (by rw[aO, <- hl];exact h1) (by simpa using ew) ⟨rfl,fin⟩) hs
theorem Ap (its:List Value)(n j:Nat)(u:Value):Obj.mapSeq (·.setIfInBounds j u) {cls:= .type "list",data:= .seq its.toArray n}= {cls:= .type "list",data:= .seq (its.set j u).toArray n}:=by simp[Obj.mapSeq]
theorem Inv.lst {pins:List (Addr×Obj)}{σ:St}{H:Hp}{s:Shared}{p:Addr}{xs:List V}(I:Inv X pins σ H s)(h:H p=some (.lst xs)): ∃ (its:List Value) (n:Nat),Vals xs its /\ s.heap.get? p=some {cls:= .type "list",data:= .seq its.toArray n} /\ xs.length<=sizeLine:=by obtain⟨z,its,n,r,e⟩:=I.c8 p _ h;exact⟨its,n,r,e,z⟩
theorem Inv.PB {pins:List (Addr×Obj)}{σ:St}{H:Hp}{s:Shared}{p:Addr}{xs ys:List V}{its its':List Value}{n n':Nat}{f:Obj ->Obj}(I:Inv X pins σ H s)(h:H p=some (.lst xs)) (ho:s.heap.get? p=some {cls:= .type "list",data:= .seq its.toArray n}) (hf:f {cls:= .type "list",data:= .seq its.toArray n}= {cls:= .type "list",data:= .seq its'.toArray n'}) (r:Vals ys its') (hz:ys.length<=sizeLine) (t:Nat): Inv X pins σ (upd H p (.lst ys)) {s with heap:=s.heap.update p f,toks:=t}:=by
 have e:(s.heap.update p f).get? p=some {cls:= .type "list",data:= .seq its'.toArray n'}:=by rw[kH f ho (by rw[hf] <;>rfl),hf]
 refine I.write (x:=p) (e:=p) (by rw[h];trivial) (.inl rfl) (λb u hb q=>(dM _ _ (a5 hb)).trans q) ⟨_,e⟩ ?_;exact⟨hz,its',n',r,e⟩
def MP:V ->V ->V ->Hp ->(Hp ->Prop) ->Prop:=λo i v H Q=> ∃p xs k j,o= .ref p /\ i= .int k /\ H p=some (.lst xs) /\ sU xs.length k=some j /\ Q (upd H p (.lst (xs.set j v)))
theorem set_list:Vt X MP:=by
 intro pins s σ H o i v ov iv u Q I ro ri rv h;obtain⟨p,xs,k,j,rfl,rfl,hp,hj,q⟩:=h;cases ro;obtain⟨t,rfl⟩:=ri;obtain⟨its,n,r,ho,hz⟩:=I.lst hp;obtain⟨h1,h2,h3,h4⟩:=Cc hj;have hl:=r.length;have hn:=sP;have I':Inv X pins σ (upd H p (.lst (xs.set j v))) {s with heap:=s.heap.update p (Obj.mapSeq (·.setIfInBounds j u))}:=I.PB hp ho (Ap its n j u) (r.set rv j) (by rw[f7];exact hz) s.toks;by_cases h0:0<=k
 ·have hk:k.toNat=j:=by rw[seqIndex_of h0 h4] at h1;exact br h1
  exact PySem.W.ki_setAt ho h0 (by lia) (by rw[aO, <- hl];exact h4) (by rw[hk];exact⟨_,I',q⟩)
 ·have hk:(k+(its.toArray.size:Int)).toNat=j:=by rw[seqIndex_neg (by lia) h3] at h1;rw[aO, <- hl];exact br h1
  exact PySem.W.ki_setBack ho (by lia) (by rw[aO, <- hl];exact h3) (by lia) (by rw[hk];exact⟨_,I',q⟩)
theorem vZ (lo hi:Option Int)(n:Nat):(sliceBounds lo hi none n).1=((HT.sD n 0 lo:Nat):Int) /\ (sliceBounds lo hi none n).2.1=((HT.sD n n hi:Nat):Int) /\ (sliceBounds lo hi none n).2.2=1:=by
 refine⟨?_,?_,rfl⟩
 ·cases lo with
  | none=>simp[sliceBounds,HT.sD]
  | some i=>
   simp only[sliceBounds,HT.sD,Option.getD_none,show(1:Int) >0 by decide,bN];by_cases h:i<0
   ·simp only[h,bN] <;>lia
   ·simp only[h,bf] <;>lia
 ·cases hi with
  | none=>simp[sliceBounds,HT.sD]
  | some i=>
   simp only[sliceBounds,HT.sD,Option.getD_none,show(1:Int) >0 by decide,bN];by_cases h:i<0
   ·simp only[h,bN] <;>lia
   ·simp only[h,bf] <;>lia
theorem ub (its:List Value)(lo hi:Option Int):slicePick its.toArray lo hi none=((its.drop (HT.sD its.length 0 lo)).take (HT.sD its.length its.length hi - HT.sD its.length 0 lo)).toArray:=by obtain⟨h1,h2,h3⟩:=vZ lo hi its.toArray.size;unfold slicePick;rw[h1,h2,h3];simp only[sliceRange_one,pick_run,aO] <;>rfl
def Tf (K:PySem.W.Frag):V ->Option Int ->Option Int ->Hp ->VK ->Prop:=λx lo hi H Q=> ∃a xs,x= .ref a /\ ix K H a xs /\ ∀p,H p=none ->Q (.ref p) (upd H p (.lst (zb xs lo hi)))
theorem By:SlR X (Tf X.K):=by intro pins s σ H x v vl vu lo hi sl Q I rx hs pl pu h;obtain⟨a,xs,rfl,hx,q⟩:=h;cases rx;obtain⟨its,r,ht,hz⟩:=I.list hx;have hlen:=r.length;refine⟨"list",_,slot_list_getitem.lookup,ht.isList.typeIs,?_⟩;refine wpAny_getItem_list_slice ht.isList hs pl pu .none (by simp) ?_ (by rw[aO] <;>lia);rw[ub, <- hlen];refine⟨.ref s.heap.objs.size,_,I.laid (t':=s.toks) (o:= .lst (zb xs lo hi)) (λb ob q=>ar _ q) (aq _) ?_,rfl,q _ (I.c8.fresh (aq _))⟩;exact⟨a4 (za xs lo hi) hz,_,0,(r.drop (HT.sD xs.length 0 lo)).take (HT.sD xs.length xs.length hi - HT.sD xs.length 0 lo),aS _ rfl⟩
def NM:V ->Bool
 | .dS=>true
 | .bl _=>true
 | .int _=>true
 | .str _=>true
 | _=>false
def eqV:V ->V ->Bool
 | .dS, .dS=>true
 | .bl a, .bl b=>a==b
 | .bl a, .int b=>(if a then 1 else 0)==b
 | .int a, .bl b=>a==(if b then 1 else 0)
 | .int a, .int b=>a==b
 | .str a, .str b=>a==b
 | _,_=>false
theorem gf {A:Around}{s:Shared}{y x:V}{u v:Value}(ry:RelV y u)(rx:RelV x v)(fy:NM y=true)(fx:NM x=true):SeqAt.EqAt A s u v (eqV y x):=by
 cases y with
 | dS=>
  cases ry;cases x with
  | dS=>cases rx;exact JK _
  | bl b=>cases rx;exact SeqAt.EqAt.none_bool b
  | int b=>obtain⟨t,rfl⟩:=rx;exact SeqAt.EqAt.none_int b t
  | str b=>obtain⟨t,rfl⟩:=rx;exact SeqAt.EqAt.none_str b t
  | _=>exact absurd (show false=true from fx) aW
 | bl a=>
  cases ry;cases x with
  | dS=>cases rx;exact SeqAt.EqAt.bool_none a
  | bl b=>cases rx;exact SeqAt.EqAt.bool_bool a b
  | int b=>obtain⟨t,rfl⟩:=rx;exact SeqAt.EqAt.bool_int a b t
  | str b=>obtain⟨t,rfl⟩:=rx;exact SeqAt.EqAt.bool_str a b t
  | _=>exact absurd (show false=true from fx) aW
 | int a=>
  obtain⟨t',rfl⟩:=ry;cases x with
  | dS=>cases rx;exact SeqAt.EqAt.int_none a t'
  | bl b=>cases rx;exact SeqAt.EqAt.int_bool a t' b
  | int b=>obtain⟨t,rfl⟩:=rx;exact SeqAt.EqAt.int_int a t' b t
  | str b=>obtain⟨t,rfl⟩:=rx;exact SeqAt.EqAt.int_str a t' b t
  | _=>exact absurd (show false=true from fx) aW
 | str a=>
  obtain⟨t',rfl⟩:=ry;cases x with
  | dS=>cases rx;exact SeqAt.EqAt.str_none a t'
  | bl b=>cases rx;exact SeqAt.EqAt.str_bool a t' b
  | int b=>obtain⟨t,rfl⟩:=rx;exact SeqAt.EqAt.str_int a t' b t
  | str b=>obtain⟨t,rfl⟩:=rx;exact SeqAt.EqAt.str_str a t' b t
  | _=>exact absurd (show false=true from fx) aW
 | _=>exact absurd (show false=true from fy) aW
theorem xl:i0 X (.builtin "len") (λxs H Q=> ∃p ys,xs= [.ref p] /\ (ix X.K H p ys \/ kD X.K H p ys) /\ Q (.int ys.length) H):=by
 intro pins s σ H xs us Q I r h;obtain⟨p,ys,rfl,hq,q⟩:=h;obtain⟨u,rfl,rx⟩:=vals1 r;cases rx;have hn:=sP;rcases hq with hq | hq
 ·obtain⟨its,r',pl,hz⟩:=I.list hq;have hlen:=r'.length;exact Calls.call_len_list pl.isList (by simp only[aO] <;>lia) ⟨.int ys.length,H,I.tok _,⟨s.toks+1,by rw[aO,hlen]⟩,q⟩
 ·obtain⟨its,r',pl,hz⟩:=I.tuple hq;have hlen:=r'.length;exact len_tuple pl (by simp only[aO] <;>lia) ⟨.int ys.length,H,I.tok _,⟨s.toks+1,by rw[aO,hlen]⟩,q⟩
theorem xk:i0 X (.type "list") (λxs H Q=> ∃p ys,xs= [.ref p] /\ (ix X.K H p ys \/ kD X.K H p ys) /\ ∀l,H l=none ->Q (.ref l) (upd H l (.lst ys))):=by
 intro pins s σ H xs us Q I r h;obtain⟨p,ys,rfl,hq,q⟩:=h;obtain⟨u,rfl,rx⟩:=vals1 r;cases rx;have fin: ∀ (its:List Value),Vals ys its ->ys.length<=sizeLine -> ∀ (h':Heap) (c':Nat),(∀b o',s.heap.get? b=some o' ->h'.get? b=some o') ->h'.get? s.heap.objs.size=some {cls:= .type "list",dict:=none,data:= .seq its.toArray c',slots:= #[]} ->EP X pins σ Q (.ref s.heap.objs.size) {s with heap:=h'}:=λits r' hz h' c' kp e=>⟨.ref s.heap.objs.size,_,I.laid (t':=s.toks) kp (aq _) (show d4 X.prog X.w _ h' _ (.lst ys) from⟨hz,its,c',r',e⟩),rfl,q _ (I.c8.fresh (aq _))⟩
 rcases hq with hq | hq
 ·obtain⟨its,r',pl,hz⟩:=I.list hq;have hlen:=r'.length;obtain⟨o,ho,hc,n,hd⟩:=pl.isList;exact call_list_seq p (.inl rfl) ho hc hd (λh' c' kp e=>fin its r' hz h' c' kp e) (by simp only[aO] <;>lia)
 ·obtain⟨its,r',pl,hz⟩:=I.tuple hq;have hlen:=r'.length;obtain⟨o,ho,hc,n,hd⟩:=pl;exact call_list_seq p (.inr rfl) ho hc hd (λh' c' kp e=>fin its r' hz h' c' kp e) (by simp only[aO] <;>lia)
theorem uj:i0 X (.type "tuple") (λxs H Q=> ∃p ys,xs= [.ref p] /\ ((ix X.K H p ys /\ ∀l,H l=none ->Q (.ref l) (upd H l (.tup ys))) \/ (kD X.K H p ys /\ Q (.ref p) H))):=by
 intro pins s σ H xs us Q I r h;obtain⟨p,ys,rfl,h⟩:=h;obtain⟨u,rfl,rx⟩:=vals1 r;cases rx;rcases h with⟨hq,q⟩ | ⟨hq,q⟩
 ·obtain⟨its,r',pl,hz⟩:=I.list hq;have hlen:=r'.length;refine call_tuple_list pl.isList (λh' kp=> ?_) (by simp only[aO] <;>lia);have I1:Inv X pins σ H {s with heap:=h'}:=I.kept (t':=s.toks) kp;have I2:Inv X pins σ (upd H h'.objs.size (.tup ys)) {s with heap:=h'.push {cls:= .type "tuple",data:= .seq its.toArray}}:=I1.laid (t':=s.toks) (λb o e=>ar _ e) (aq _) (show d4 X.prog X.w _ _ _ (.tup ys) from⟨hz,its,r',xp.new _ _⟩);exact⟨.ref h'.objs.size,_,I2,rfl,q _ (I1.c8.fresh (aq _))⟩
 ·obtain⟨its,r',pl,hz⟩:=I.tuple hq;exact call_tuple_same pl ⟨.ref p,H,I,rfl,q⟩
def Xd (K:PySem.W.Frag)(T:String)(x:V)(H:Hp):Prop:=match x with
 | .str _=>T= "str"
 | .int _=>T= "int"
 | .ref p=>(T= "list" /\ ∃xs,ix K H p xs) \/ (T= "tuple" /\ ∃o,K.lookup p=some o /\ o.cls= .type "tuple" /\ o.dict=none) \/(T= "dict" /\ ((∃kvs,H p=some (.dK kvs)) \/ ∃kvs,H p=some (.dT kvs))) \/ (T= "set" /\ ∃S n,H p=some (.set S n))
 | _=>False
theorem OA {pins:List (Addr×Obj)}{σ:St}{H:Hp}{s:Shared}{T:String}{x:V}{v:Value}(I:Inv X pins σ H s)(r:RelV x v)(ty:Xd X.K T x H): s.TypeIs v T /\ ∀a,v= .ref a -> ∃ob,s.heap.get? a=some ob /\ ob.dict=none:=by
 cases x with
 | str z=>obtain⟨t,rfl⟩:=r;cases (show T= "str" from ty);exact⟨typeIs_str s z t,λ_ e=>nomatch e⟩
 | int i=>obtain⟨t,rfl⟩:=r;cases (show T= "int" from ty);exact⟨typeIs_int s i t,λ_ e=>nomatch e⟩
 | ref p =>
  cases r;rcases ty with⟨rfl,xs,hq⟩ | ⟨rfl,o,hk,hc,hd⟩ | ⟨rfl,hk⟩ | ⟨rfl,S,n,hk⟩
  ·obtain⟨its,_,pl,_⟩:=I.list hq;refine⟨pl.isList.typeIs,λa e=> ?_⟩;cases e;obtain⟨o,n,e,c,hd,_⟩:=pl;exact⟨o,e,hd⟩
  ·refine⟨⟨o,I.rh p o hk,hc⟩,λa e=> ?_⟩;cases e;exact⟨o,I.rh _ o hk,hd⟩
  ·have z: ∃o,s.heap.get? p=some o /\ o.ExactDict:=by
    rcases hk with⟨kvs,hk⟩ | ⟨kvs,hk⟩
    ·obtain⟨_,_,_,_,o,_,_,e,ex,_⟩:=I.c8 p _ hk;exact⟨o,e,ex⟩
    ·obtain⟨_,_,_,_,o,_,_,e,ex,_⟩:=I.c8 p _ hk;exact⟨o,e,ex⟩
   obtain⟨o,e,ex⟩:=z;refine⟨⟨o,e,ex.1⟩,λa e2=> ?_⟩;cases e2;exact⟨o,e,ex.2.1⟩
  ·obtain⟨o,_,_,_,e,ex,_⟩:=I.c8 p _ hk;refine⟨⟨o,e,ex.1⟩,λa e2=> ?_⟩;cases e2;exact⟨o,e,ex.2.1⟩
 | _=>exact False.elim ty
def tBM (K:PySem.W.Frag)(T:String)(r:V ->List V ->Hp ->VK ->Prop)(to:TE)(t:TA):TE:=λσ H Q=>to σ H λx H1=>Xd K T x H1 /\ t σ H1 λxs H2=>r x xs H2 Q
variable {o e:Expr}{es:List Expr}{to:TE}{t:TA}{name:Str}{apos gx:Pos}{T id:String}{r:V ->List V ->Hp ->VK ->Prop}
theorem GO (pa:PlainAttrs T)(slot:Slot T name id)(hty:typeOf (.builtin id)=pure (.type "method_descriptor"))(hm:MtR X id r)(ho:PE X o to)(ha:PA X (e::es) t) (yM:attributeBase o name X.env (eval o X.env)=eval o X.env:=by rfl) (YZ:((backTo gx (starEach (e::es) X.env)).all (λx=> !x.1) && (backToKw gx (keywordEach [] X.env)).all (λx=>x.1.isSome) && decide ((e::es).length+([]:List Keyword).length+(if([]:List Keyword).isEmpty then 0 else 1) <30))=true:=by rfl) (yK:(apos.endLine==gx.line)=true:=by rfl) (hs:starEach (e::es) X.env=(false,eval e X.env)::starEach es X.env:=by rfl) (P5:(backTo gx (starEach es X.env)).any (·.1)=false:=by rfl): PE X (.Call (.Attribute o name apos) (e::es) [] gx) (tBM X.K T r to t):=by intro pins s σ H Q I h;refine wpAny_Call_method_late yM YZ yK rfl (dj (ho pins s σ H _ I h) λv s1 ⟨x,H1,I1,r1,ty,q1⟩=> ?_);obtain⟨h1,h2⟩:=OA I1 r1 ty;refine⟨T,id,pa,slot,hty,h1,h2,?_⟩;have hA:=ha gx pins s1 σ H1 _ I1 q1;rw[hs] at hA ⊢;refine gv (by show(false || (backTo gx (starEach es X.env)).any (·.1))=false;rw[P5] <;>rfl) (vL ?_);exact dj hA λus s2 ⟨vs,H2,I2,r2,q2⟩=>hm pins s2 σ H2 x vs v us Q I2 r1 r2 q2
/- xs.append(e),list.index on a TZ tuple .. are MtR facts of 06m -/
end
def MtM (X:Cx)(id:String)(r:V ->List V ->Hp ->VK ->Prop):Prop:=∀ (pins:List (Addr×Obj)) (s:Shared) (σ:St) (H:Hp) (x:V) (xs:List V) (v:Value) (us:List Value) (Q:VK),Inv X pins σ H s ->RelV x v ->Vals xs us ->r x xs H Q ->wpAny (model X.prog X.w) X.A (call (.builtin id) (v::us)) (EP X pins σ Q) X.xe s
theorem Vals.one: ∀ {x:V} {us:List Value},Vals [x] us -> ∃u,us= [u] /\ RelV x u
 | _,_, .cons r .nil=>⟨_,rfl,r⟩
theorem Vals.two: ∀ {x y:V} {us:List Value},Vals [x,y] us -> ∃u v,us= [u,v] /\ RelV x u /\ RelV y v
 | _,_,_, .cons r (.cons q .nil)=>⟨_,_,rfl,r,q⟩
section
variable {X:Cx}{pins:List (Addr×Obj)}{σ:St}{H:Hp}{s:Shared}{l b:Addr}{xs ys zs:List V}
theorem Inv.PD {its its':List Value}{n:Nat}{f:Array Value ->Array Value}{t':Nat}(I:Inv X pins σ H s)(hH:H l=some (.lst xs)) (e:s.heap.get? l=some {cls:= .type "list",data:= .seq its.toArray n}) (hf:f its.toArray=its'.toArray) (hv:Vals ys its') (hz:ys.length<=sizeLine): Inv X pins σ (upd H l (.lst ys)) {s with heap:=s.heap.update l (Obj.mapSeq f),toks:=t'}:=by have q:=PySem.IsL.update e f;rw[hf] at q;refine I.write (x:=l) (e:=l) (by rw[hH];exact trivial) (.inl rfl) (λb' u hb hu=>(dM s.heap (Obj.mapSeq f) (a5 hb)).trans hu) ⟨_,q⟩ ?_;exact⟨hz,its',_,hv,q⟩
theorem Inv.X0 {its:List Value}{t':Nat}(I:Inv X pins σ H s)(hv:Vals ys its)(hz:ys.length<=sizeLine): Inv X pins σ (upd H s.heap.objs.size (.lst ys)) {s with heap:=s.heap.push {cls:= .type "list",data:= .seq its.toArray},toks:=t'}:=I.laid (λ_ _ q=>ar _ q) (aq _) ⟨hz,its,0,hv,aS _ rfl⟩
theorem Inv.fresh (I:Inv X pins σ H s):H s.heap.objs.size=none:=I.c8.fresh (aq _)
theorem Inv.DE (I:Inv X pins σ H s)(hH:H l=some (.lst xs)):xs.length<=sizeLine /\ ∃ (its:List Value) (n:Nat),Vals xs its /\ xs.length=its.length /\ s.heap.get? l=some {cls:= .type "list",data:= .seq its.toArray n}:=by obtain⟨z,its,n,r,e⟩:=I.c8 l _ hH;exact⟨z,its,n,r,r.length,e⟩
theorem Ha {n:Nat}(h:n<=sizeLine):Builtin.List.listTooLong n=false:=by unfold Builtin.List.listTooLong;exact dc (by lia)
end
section
variable {X:Cx}
def BH:V ->List V ->Hp ->VK ->Prop:=λx vs H Q=> ∃l xs y,x= .ref l /\ vs= [y] /\ H l=some (.lst xs) /\ xs.length<sizeLine /\ Q .dS (upd H l (.lst (xs++ [y])))
theorem ml:MtM X "list.append" BH:=by intro pins s σ H x vs v us Q I rx rv h;obtain⟨l,xs,y,rfl,rfl,hH,hz,q⟩:=h;cases rx;obtain⟨u,rfl,ru⟩:=rv.one;obtain⟨z,its,n,r,hl,e⟩:=I.DE hH;refine NY F.slot_list_append ⟨_,e,rfl⟩ F.entry_list_append (F.args_list_append_2 _ _) (PySem.list_append l its.toArray n u (by rw[aO];lia)) ⟨e,?_⟩;refine⟨.dS,_,I.PD (its':=its++ [u]) hH e (by simp) (r.append (.cons ru .nil)) ?_,rfl,q⟩;rw[aL,cY];lia
def Kr:V ->List V ->Hp ->VK ->Prop:=λx vs H Q=> ∃l b xs zs,x= .ref l /\ vs= [.ref b] /\ H l=some (.lst xs) /\ H b=some (.lst zs) /\ xs.length+zs.length<=sizeLine /\ Q .dS (upd H l (.lst (xs++zs)))
theorem Rg:MtM X "list.extend" Kr:=by
 intro pins s σ H x vs v us Q I rx rv h;obtain⟨l,b,xs,zs,rfl,rfl,hH,hB,hz,q⟩:=h;cases rx;obtain⟨u,rfl,ru⟩:=rv.one;cases ru;obtain⟨z,its,n,r,hl,e⟩:=I.DE hH;obtain⟨z2,AA,n2,r2,Qf,e2⟩:=I.DE hB;have hsz:its.toArray.size+AA.toArray.size<=sizeLine:=by rw[aO,aO];lia
 have UD:¬(!its.toArray.isEmpty && Builtin.List.listTooLong (its.toArray.size+AA.toArray.size))=true:=by rw[Ha hsz,C8];exact aW
 refine NY F.slot_list_extend ⟨_,e,rfl⟩ F.entry_list_extend (F.args_list_extend_2 _ _) (AutoSeq1.list_extend_list_list_0 l its.toArray n b AA.toArray n2 UD (by rw[aO];lia) (by lia)) ⟨e,e2,?_⟩;refine⟨.dS,_,I.PD (its':=its++AA) hH e (by simp) (r.append r2) ?_,rfl,q⟩;rw[aL];lia
def To:R2:=λx y H Q=> ∃l b xs zs,x= .ref l /\ y= .ref b /\ H l=some (.lst xs) /\ H b=some (.lst zs) /\ xs.length+zs.length<=sizeLine /\ ∀p,H p=none ->Q (.ref p) (upd H p (.lst (xs++zs)))
theorem G2:tM X (binaryOp .Add) To:=by
 intro pins s σ H x y v u Q I rx ry h;obtain⟨l,b,xs,zs,rfl,rfl,hH,hB,hz,q⟩:=h;cases rx;cases ry;obtain⟨z,its,n,r,hl,e⟩:=I.DE hH;obtain⟨z2,AA,n2,r2,Qf,e2⟩:=I.DE hB;refine PySem.P.add_list e e2 ?_ (by rw[aO,aO];lia);have ea:its.toArray++AA.toArray=(its++AA).toArray:=by simp
 rw[ea];exact⟨.ref _,_,I.X0 (t':=s.toks) (r.append r2) (by rw[aL];lia),rfl,q _ I.fresh⟩
end
section
variable {κ:Type} [DecidableEq κ]
def iP (kvs:List (κ×V))(k:κ):Option V:=(kvs.find? λkv=>decide (kv.1=k)).map (·.2)
def putK (kvs:List (κ×V))(k:κ)(v:V):List (κ×V):=if(kvs.any λkv=>decide (kv.1=k))=true then kvs.map (λkv=>if kv.1=k then(kv.1,v) else kv) else kvs++ [(k,v)]
def qJ (kvs:List (κ×V))(k:κ):List (κ×V):=kvs.filter λkv=>decide (kv.1≠k)
theorem rZ {p:κ×V}{r:List (κ×V)}{k:κ}(e:p.1=k):iP (p::r) k=some p.2:=by simp[iP,cM,e]
theorem r8 {p:κ×V}{r:List (κ×V)}{k:κ}(e:¬p.1=k):iP (p::r) k=iP r k:=by simp[iP,cM,e]
theorem xJ (k:κ): ∀kvs:List (κ×V),(kvs.any λkv=>decide (kv.1=k))=(iP kvs k).isSome
 | []=>rfl
 | p::r=>by
  rw[E4];by_cases e:p.1=k
  ·simp only[rZ e,dw e,Bool.true_or,RP]
  ·rw[r8 e,dc e,Bool.false_or];exact xJ k r
theorem iI (kvs:List (κ×V))(k:κ)(v:V):(putK kvs k v).length<=kvs.length+1:=by
 unfold putK;split
 ·rw[aa];lia
 ·rw[aL,aG,pM];lia
theorem nX.mC {o:Option V}{u:Option Value}(r:nX o u):o.isSome=u.isSome:=by
 cases o with
 | none=>cases u with
  | none=>rfl
  | some _=>exact(show False from r).elim
 | some _=>cases u with
  | none=>exact(show False from r).elim
  | some _=>rfl
theorem nX.getD {o:Option V}{u:Option Value}{d:V}{d':Value}(r:nX o u)(rd:RelV d d'):RelV (o.getD d) (u.getD d'):=by
 cases o with
 | none=>cases u with
  | none=>exact rd
  | some _=>exact(show False from r).elim
 | some _=>cases u with
  | none=>exact(show False from r).elim
  | some _=>exact r
theorem KV.val {kvs:List (κ×V)}{vs:List (κ×Value)}(r:KV kvs vs)(k:κ):nX (iP kvs k) (valueAt vs k):=by
 unfold KV at r;induction r with
 | nil=>exact True.intro
 | @cons p q ps qs h t ih=>
  obtain⟨h1,h2⟩:=h;by_cases e:p.1=k
  ·have e':q.1=k:=h1.symm.trans e;have b:valueAt (q::qs) k=some q.2:=by simp[valueAt,cM,e']
   rw[rZ e,b];exact h2
  ·have e':¬q.1=k:=λz=>e (h1.trans z);have b:valueAt (q::qs) k=valueAt qs k:=by simp[valueAt,cM,e']
   rw[r8 e,b];exact ih
theorem KV.any {kvs:List (κ×V)}{vs:List (κ×Value)}(r:KV kvs vs)(k:κ):(kvs.any λkv=>decide (kv.1=k))=vs.any λkv=>decide (kv.1=k):=by
 unfold KV at r;induction r with
 | nil=>rfl
 | cons h t ih=>rw[E4,E4,ih,h.1]
theorem KV.O1 {kvs:List (κ×V)}{vs:List (κ×Value)}(r:KV kvs vs)(k:κ){y:V}{u:Value}(ry:RelV y u): KV (kvs.map λkv=>if kv.1=k then(kv.1,y) else kv) (vs.map λkv=>if kv.1=k then(kv.1,u) else kv):=by
 unfold KV at r ⊢;induction r with
 | nil=>exact .nil
 | @cons p q ps qs h t ih=>
  rw[aH,aH];refine .cons ?_ ih;obtain⟨h1,h2⟩:=h;by_cases e:p.1=k
  ·rw[ak e,ak (h1.symm.trans e)];exact⟨h1,ry⟩
  ·rw[aj e,aj (λz=>e (h1.trans z))];exact⟨h1,h2⟩
theorem KV.put {kvs:List (κ×V)}{vs:List (κ×Value)}(r:KV kvs vs)(k:κ){y:V}{u:Value}(ry:RelV y u):KV (putK kvs k y) (stored vs k u):=by
 unfold putK stored;rw[r.any k];by_cases e:(vs.any λkv=>decide (kv.1=k))=true
 ·rw[ak e,ak e];exact r.O1 k ry
 ·rw[aj e,aj e];exact Paired.snoc r ⟨rfl,ry⟩
theorem KV.drop {kvs:List (κ×V)}{vs:List (κ×Value)}(r:KV kvs vs)(k:κ):KV (qJ kvs k) (without vs k):=by
 unfold KV at r ⊢;unfold qJ without;induction r with
 | nil=>exact .nil
 | @cons p q ps qs h t ih=>
  obtain⟨h1,h2⟩:=h;rw[dR,dR];by_cases e:p.1=k
  ·have a:¬decide (p.1≠k)=true:=by simp[e]
   have b:¬decide (q.1≠k)=true:=by simp[h1.symm.trans e]
   rw[aj a,aj b];exact ih
  ·have e':¬q.1=k:=λz=>e (h1.trans z);have a:decide (p.1≠k)=true:=by simp[e]
   have b:decide (q.1≠k)=true:=by simp[e']
   rw[ak a,ak b];exact .cons ⟨h1,h2⟩ ih
theorem KV.keys {kvs:List (κ×V)}{vs:List (κ×Value)}(r:KV kvs vs):kvs.map (·.1)=vs.map (·.1):=by
 unfold KV at r;induction r with
 | nil=>rfl
 | cons h t ih=>rw[aH,aH,ih,h.1]
theorem KV.length {kvs:List (κ×V)}{vs:List (κ×Value)}(r:KV kvs vs):kvs.length=vs.length:=zl r
theorem Iq (kvs:List (κ×V))(k:κ):(qJ kvs k).length<=kvs.length:=eR _ _
end
theorem oY {P:Program}{w:World}{k:Key}{u:Value}(r:RelV (kV k) u):(cu P w).is k u=true:=by
 cases k with
 | inl i=>obtain⟨t,e⟩:=(show ∃t,u=Value.int i t from r);subst e;exact yx P w i t
 | inr x=>obtain⟨t,e⟩:=(show ∃t,u=Value.str x t from r);subst e;exact yw P w x t
theorem uV {P:Program}{w:World}: ∀ {ks:List Key} {us:List Value},Vals (ks.map kV) us ->ItemsAre (cu P w) ks us
 | [],_,r=>by rw[eB] at r;cases r;exact .nil
 | k::ks,_,r=>by
  rw[aH] at r;cases r with
  | cons h t=>exact .cons (oY h) (uV t)
abbrev KT (H:Hp):List (List Key×V) ->List (List Key×Addr×Value) ->Prop:=Paired λp q=>p.1=q.1 /\ H q.2.1=some (.tup (p.1.map kV)) /\ RelV p.2 q.2.2
theorem KT.val {H:Hp}{kvs:List (List Key×V)}{xs:List (List Key×Addr×Value)}(r:KT H kvs xs)(k:List Key):nX (iP kvs k) ((atKey xs k).map (·.2)):=by
 induction r with
 | nil=>exact True.intro
 | @cons p q ps qs h t ih=>
  obtain⟨h1,_,h2⟩:=h;by_cases e:p.1=k
  ·have e':q.1=k:=h1.symm.trans e;have b:atKey (q::qs) k=some q.2:=by simp[atKey,cM,e']
   rw[rZ e,b];exact h2
  ·have e':¬q.1=k:=λz=>e (h1.trans z);have b:atKey (q::qs) k=atKey qs k:=by simp[atKey,cM,e']
   rw[r8 e,b];exact ih
theorem KT.O1 {H:Hp}{kvs:List (List Key×V)}{xs:List (List Key×Addr×Value)}(r:KT H kvs xs)(k:List Key){y:V}{u:Value}(ry:RelV y u): KT H (kvs.map λkv=>if kv.1=k then(kv.1,y) else kv) (xs.map (putAt k u)):=by
 induction r with
 | nil=>exact .nil
 | @cons p q ps qs h t ih=>
  rw[aH,aH];refine .cons ?_ ih;obtain⟨h1,h2,h3⟩:=h;unfold putAt;by_cases e:p.1=k
  ·rw[ak e,ak (h1.symm.trans e)];exact⟨h1,h2,ry⟩
  ·rw[aj e,aj (λz=>e (h1.trans z))];exact⟨h1,h2,h3⟩
theorem KT.put {H:Hp}{kvs:List (List Key×V)}{xs:List (List Key×Addr×Value)}(r:KT H kvs xs)(k:List Key){b:Addr}{y:V}{u:Value}(hb:H b=some (.tup (k.map kV)))(ry:RelV y u): KT H (putK kvs k y) (storedH xs k b u):=by
 have e:(kvs.any λkv=>decide (kv.1=k))=(atKey xs k).isSome:=by rw[xJ,(r.val k).mC,Option.isSome_map]
 unfold putK storedH;rw[e];by_cases q:(atKey xs k).isSome=true
 ·rw[ak q,ak q];exact r.O1 k ry
 ·rw[aj q,aj q];exact Paired.snoc r ⟨rfl,hb,ry⟩
theorem KT.keeps {H H':Hp}{kvs:List (List Key×V)}{xs:List (List Key×Addr×Value)}(r:KT H kvs xs)(ht: ∀b ys,H b=some (.tup ys) ->H' b=some (.tup ys)):KT H' kvs xs:=Paired.Pw r λ_ _ z=>⟨z.1,ht _ _ z.2.1,z.2.2⟩
section
variable {P:Program}{w:World}{H:Hp}{h:Heap}{a:Addr}
theorem MN {u:HO}(ok:nv P w H h)(e:Rd H a u):d4 P w H h a u:=e.ok ok
theorem pC {kvs:List (Key×V)}(ok:nv P w H h)(e:Rd H a (.dK kvs)):kvs.length<=sizeLine /\ (a==sysModules)=false /\ ∃vs,KV kvs vs /\ h.DictOf (cu P w) a vs:=
 show d4 P w H h a (.dK kvs) from MN ok e
theorem yW {kvs:List (Key×V)}(ok:nv P w H h)(e:H a=some (.dK kvs)):kvs.length<=sizeLine /\ (a==sysModules)=false /\ ∃vs,KV kvs vs /\ h.DictOf (cu P w) a vs:=pC ok (.inl e)
theorem sT {ks:List Key}(ok:nv P w H h)(e:H a=some (.tup (ks.map kV))):(tupleKind (cu P w)).is h ks a:=by
 obtain⟨_,its,r,o,h1,h2,n,h3,_⟩:=(show d4 P w H h a (.tup (ks.map kV)) from ok a _ e)
 exact⟨o,its.toArray,n,h1,h2,h3,by simpa using uV r⟩
theorem vb {kvs:List (List Key×V)}(ok:nv P w H h)(e:Rd H a (.dT kvs)):kvs.length<=sizeLine /\ (a==sysModules)=false /\∃xs,KT H kvs xs /\ h.DictOfH (tupleKind (cu P w)) a xs:=by
 obtain⟨z,y,xs,r,o,es,ep,h1,h2,h3,h4,h5⟩:=(show d4 P w H h a (.dT kvs) from MN ok e)
 refine⟨z,y,xs,r,o,es,ep,h1,h2,h3,h4,λx hx=> ?_,h5⟩;have all: ∀ {l:List (List Key×V)} {m:List (List Key×Addr×Value)},KT H l m -> ∀x∈m,(tupleKind (cu P w)).is h x.1 x.2.1:=by
  intro l m q;induction q with
  | nil=>intro x hx;exact nomatch hx
  | @cons p q ps qs hq t ih=>
   intro x hx;rcases av.mp hx with e | hx
   ·subst e;exact sT ok (by rw[<- hq.1];exact hq.2.1)
   ·exact ih x hx
 exact all r x hx
theorem Vg {kvs:List (List Key×V)}(ok:nv P w H h)(e:H a=some (.dT kvs)):kvs.length<=sizeLine /\ (a==sysModules)=false /\∃xs,KT H kvs xs /\ h.DictOfH (tupleKind (cu P w)) a xs:=vb ok (.inl e)
end
def rF (H:Hp)(a:Addr)(y:V)(r:Option V):Prop:=(∃kvs k,Rd H a (.dK kvs) /\ y=kV k /\ r=iP kvs k) \/ ∃kvs k b,Rd H a (.dT kvs) /\ y= .ref b /\ H b=some (.tup (k.map kV)) /\ r=iP kvs k
def Jo (H:Hp)(a:Addr)(y v:V)(H':Hp):Prop:=(∃kvs k,H a=some (.dK kvs) /\ y=kV k /\ kvs.length<sizeLine /\ H'=upd H a (.dK (putK kvs k v))) \/∃kvs k b,H a=some (.dT kvs) /\ y= .ref b /\ H b=some (.tup (k.map kV)) /\ kvs.length<sizeLine /\ H'=upd H a (.dT (putK kvs k v))
theorem rF.k {H:Hp}{a:Addr}{kvs:List (Key×V)}{k:Key}(e:H a=some (.dK kvs)):rF H a (kV k) (iP kvs k):= .inl ⟨kvs,k, .inl e,rfl,rfl⟩
theorem Jo.k {H:Hp}{a:Addr}{kvs:List (Key×V)}{k:Key}{v:V}(e:H a=some (.dK kvs))(hl:kvs.length<sizeLine):Jo H a (kV k) v (upd H a (.dK (putK kvs k v))):= .inl ⟨kvs,k,e,rfl,hl,rfl⟩
section
variable {X:Cx}{pins:List (Addr×Obj)}{σ:St}{H:Hp}{s:Shared}{a:Addr}{y v:V}{u r:Value}{o:Option V}{A:Around}{E:Value ->Shared ->Prop}
theorem Inv.big (I:Inv X pins σ H s):sysModules<s.heap.objs.size:=by have h:mainGlobals<s.heap.objs.size:=(I.mod.glob.keeps I.bk).lt;exact vF (by decide) h
theorem Eg {Q:Value ->Shared ->Prop}(hu:A.units+1<cLine)(I:Inv X pins σ H s)(g:rF H a y (some v))(ry:RelV y u)(h: ∀w' s',Inv X pins σ H s' ->RelV v w' ->Q w' s'): wpAny (model X.prog X.w) A (getItem (.ref a) u) Q E s:=by
 rcases g with⟨kvs,k,e,ey,l⟩ | ⟨kvs,k,b,e,ey,eb,l⟩
 ·subst ey;obtain⟨z,hd,vs,rel,dd⟩:=pC I.c8 e;obtain⟨w',hw,wg⟩:=nX.some_of (v:=v) (o:=valueAt vs k) (by rw[l];exact rel.val k);exact wpAny_getItem_of (oY ry) dd.mapOf hw (h w' _ (I.tok _) wg)
 ·subst ey;cases (show u=Value.ref b from ry);obtain⟨z,hd,xs,rel,dd⟩:=vb I.c8 e;obtain⟨w',hw,wg⟩:=nX.some_of (v:=v) (o:=(atKey xs k).map (·.2)) (by rw[l];exact rel.val k);obtain⟨p,hp,Ys⟩:=Option.map_eq_some_iff.mp hw;refine wpAny_getItem_heap (mZ hu) (sT I.c8 eb) dd hp ?_;rw[Ys];exact h w' _ (I.tok _) wg
theorem LF {Q:Value ->Shared ->Prop}(hu:A.units+1<cLine)(I:Inv X pins σ H s)(g:rF H a y o)(ry:RelV y u)(h: ∀s',Inv X pins σ H s' ->Q (.bool (!o.isSome)) s'): wpAny (model X.prog X.w) A (compareOp .NotIn u (.ref a)) Q E s:=by
 rcases g with⟨kvs,k,e,ey,l⟩ | ⟨kvs,k,b,e,ey,eb,l⟩
 ·subst ey;obtain⟨z,hd,vs,rel,dd⟩:=pC I.c8 e;refine wpAny_notIn_of (oY ry) hd dd.mapOf ?_;rw[<- (rel.val k).mC, <- l];exact h _ (I.tok _)
 ·subst ey;cases (show u=Value.ref b from ry);obtain⟨z,hd,xs,rel,dd⟩:=vb I.c8 e;refine wpAny_notIn_heap (mZ hu) (sT I.c8 eb) hd dd ?_;have q:=(rel.val k).mC;rw[Option.isSome_map] at q;rw[<- q, <- l];exact h _ (I.tok _)
theorem pD {h':Heap}{t':Nat}{ob:HO}(I:Inv X pins σ H s)(mu:Vx (H a))(hs:Heap.SameBut a s.heap h')(he: ∃q,h'.get? a=some q)(new:d4 X.prog X.w (upd H a ob) h' a ob): Inv X pins σ (upd H a ob) {s with heap:=h',toks:=t'}:=I.write (x:=a) (e:=a) mu (.inl rfl) (λb q hb z=>(hs.2 b hb).trans z) he new
theorem tw {P:Program}{w:World}{H':Hp}{h':Heap}{kvs:List (Key×V)}{vs:List (Key×Value)}(z:kvs.length<=sizeLine)(hd:(a==sysModules)=false)(rel:KV kvs vs)(dd:h'.DictOf (cu P w) a vs): d4 P w H' h' a (.dK kvs):=⟨z,hd,vs,rel,dd⟩
theorem Ef {H':Hp}{Q:Unit ->Shared ->Prop}(hu:A.units+1<cLine)(I:Inv X pins σ H s)(g:Jo H a y v H')(ry:RelV y u)(rv:RelV v r)(h: ∀s',Inv X pins σ H' s' ->Q () s'): wpAny (model X.prog X.w) A (setItem (.ref a) u r) Q E s:=by
 rcases g with⟨kvs,k,e,ey,l,eH⟩ | ⟨kvs,k,b,e,ey,eb,l,eH⟩
 ·subst ey eH;obtain⟨z,hd,vs,rel,dd⟩:=yW I.c8 e;have hz:vs.length<=sizeLine:=by rw[<- rel.length];exact z
  have hl:(putK kvs k v).length<=sizeLine:=by have:=iI kvs k v;lia
  refine wpAny_setItem_pairs (hsz:=hz) (oY ry) dd λh' Ee hs=>h _ ?_;have he: ∃q,h'.get? a=some q:=let ⟨q,_,_,hq,_⟩:=Ee;⟨q,hq⟩
  exact pD I (by rw[e];exact True.intro) hs he (tw hl hd (rel.put k rv) Ee)
 ·subst ey eH;cases (show u=Value.ref b from ry);obtain⟨z,hd,xs,rel,dd⟩:=Vg I.c8 e;have hz:xs.length<=sizeLine:=by rw[<- zl rel];exact z
  have hl:(putK kvs k v).length<=sizeLine:=by have:=iI kvs k v;lia
  refine wpAny_setItem_heap (hsz:=hz) (mZ hu) (sT I.c8 eb) dd λh' Ee hs=>h _ ?_;obtain⟨q,es,ep,hq,h2,h3,h4,_,h5⟩:=Ee;refine pD I (by rw[e];exact True.intro) hs ⟨q,hq⟩ ⟨hl,hd,_,(rel.put k eb rv).keeps λc ys ec=> ?_,q,es,ep,hq,h2,h3,h4,h5⟩;rw[bC (TM ec e (λz=>nomatch z))];exact ec
end
section
variable {X:Cx}{pins:List (Addr×Obj)}{σ:St}{H:Hp}{s:Shared}{a:Addr}{kvs:List (Key×V)}{k:Key}{u:Value}{A:Around}{E:Value ->Shared ->Prop}
theorem Eh {Q:Unit ->Shared ->Prop}(I:Inv X pins σ H s)(e:H a=some (.dK kvs))(ry:RelV (kV k) u)(l:(iP kvs k).isSome=true)(h: ∀s',Inv X pins σ (upd H a (.dK (qJ kvs k))) s' ->Q () s'): wpAny (model X.prog X.w) A (delItem (.ref a) u) Q E s:=by
 obtain⟨z,hd,vs,rel,dd⟩:=yW I.c8 e;refine wpAny_delItem_slot dd.typeIs (by decide) Ey (mL Ey dd.typeIs PySem.F.entry_dict_delitem (PySem.F.args_dict_delitem_2 _ _) (meets_dict_delitem_pairs (cu X.prog X.w) a (oY ry)) ⟨vs,dd,by rw[<- rel.length];exact z,by rw[<- (rel.val k).mC];exact l,λh' Ee hs=>h _ ?_⟩);have he: ∃q,h'.get? a=some q:=let ⟨q,_,_,hq,_⟩:=Ee;⟨q,hq⟩
 exact pD I (by rw[e];exact True.intro) hs he (tw (a4 (Iq kvs k) z) hd (rel.drop k) Ee)
end
def Vv (i:Expr):Prop:= ∀ov iv,subscripted i false ov iv=operate [ov,iv] (getItem ov iv)
theorem Kh {prog:Program}{w:World}{A:Around}{E:Value ->Shared ->Prop}{s:Shared}{env:Env}{value slice:Expr}{pos:Pos}{T id:String}{Q:Value ->Shared ->Prop} (hl:typeLookup (.type T) "__getitem__" =pure (some (.builtin id))) (hs:Vv slice) (h:wpAny (model prog w) A (eval value env) (λo s₁=>wpAny (model prog w) A (eval slice env) (λi s₂=>s₂.TypeIs o T /\ wpAny (model prog w) A (getItem o i) Q E s₂) E s₁) E s): wpAny (model prog w) A (eval (.Subscript value slice pos) env) Q E s:=by
 refine Subscript_ (bJ h (λo s₁ h₁=>bJ h₁ (λi s₂ h₂=> ?_) λ_ _ x=>x) λ_ _ x=>x);obtain⟨hT,h₂⟩:=h₂;unfold subscriptTail;refine ao ?_;rw[getitemInPython_of_ne hT.not_modules];refine ao (wpAny_specialOf hT hl ?_);have fin:wpAny (model prog w) A (subscripted slice false o i) (λr s₃=>wpAny (model prog w) A (letTemporaryGo value o r >>=λ_=>pure r) Q E s₃) E s₂:=by rw[hs o i];exact wpAny_operating (bJ h₂ (λr s₃ h₃=>ao (wpAny_letTemporaryGo (aM h₃))) λ_ _ x=>x)
 first
 | exact aM (ao fin)
 | exact ao (aM (ao fin))
 | exact ao fin
theorem yY {X:Cx}{pins:List (Addr×Obj)}{σ:St}{H:Hp}{s:Shared}{a:Addr}{y:V}{o:Option V}(I:Inv X pins σ H s)(g:rF H a y o):s.TypeIs (.ref a) "dict" :=by
 rcases g with⟨kvs,k,e,_,_⟩ | ⟨kvs,k,b,e,_,_,_⟩
 ·obtain⟨_,_,vs,_,dd⟩:=pC I.c8 e;exact dd.typeIs
 ·obtain⟨_,_,xs,_,dd⟩:=vb I.c8 e;exact dd.typeIs
def Mv (td ty:TE):TE:=λσ H Q=>td σ H λx H1=>ty σ H1 λy H2=> ∃a v,x= .ref a /\ rF H2 a y (some v) /\ Q v H2
def Bn (ty td:TE):TE:=λσ H Q=>ty σ H λy H1=>td σ H1 λx H2=> ∃a o,x= .ref a /\ rF H2 a y o /\ Q (.bl (!o.isSome)) H2
def MK (td ty tv:TE):TS:=λD σ H=>tv σ H λv H1=>td σ H1 λx H2=>ty σ H2 λy H3=> ∃a H4,x= .ref a /\ Jo H3 a y v H4 /\ D.nx σ H4
def ML (td ty:TE):TS:=λD σ H=>td σ H λx H1=>ty σ H1 λy H2=> ∃a kvs k,x= .ref a /\ H2 a=some (.dK kvs) /\ y=kV k /\ (iP kvs k).isSome=true /\ D.nx σ (upd H2 a (.dK (qJ kvs k)))
section
variable {X:Cx}{o i e value:Expr}{pos pos' Dg:Pos}{td ty tv:TE}
theorem fJ (hu:X.A.units+1<cLine)(ho:PE X o td)(hi:PE X i ty)(hs:Vv i):PE X (.Subscript o i pos) (Mv td ty):=by intro pins s σ H Q I h;refine Kh PySem.F.slot_dict_getitem.lookup hs (dj (ho pins s σ H _ I h) λu s1 ⟨x,H1,I1,rx,q1⟩=>dj (hi pins s1 σ H1 _ I1 q1) λiv s2 ⟨y,H2,I2,ry,a,v,ex,g,q2⟩=> ?_);subst ex;obtain rfl:u=Value.ref a:=rx;exact⟨yY I2 g,Eg hu I2 g ry λw' s3 I3 wg=>⟨v,H2,I3,wg,q2⟩⟩
theorem Du (hu:X.A.units+1<cLine)(hi:PE X i ty)(ho:PE X o td):PC X .NotIn i o (Bn ty td):=by intro pins s σ H Q I h;refine dj (hi pins s σ H _ I h) λiv s1 ⟨y,H1,I1,ry,q1⟩=>dj (ho pins s1 σ H1 _ I1 q1) λu s2 ⟨x,H2,I2,rx,a,ov,ex,g,q2⟩=> ?_;subst ex;obtain rfl:u=Value.ref a:=rx;exact LF hu I2 g ry λs3 I3=>⟨.bl (!ov.isSome),H2,I3,rfl,q2⟩
theorem oK (hu:X.A.units+1<cLine)(ho:PE X o td)(hi:PE X i ty)(hv:PE X value tv)(hs:swapsWith value (some (.Subscript o i pos')) pos.line X.env=pure false): PS X (.Assign [.Subscript o i pos'] value pos) (MK td ty tv):=by intro pins s σ H D I h;refine wpAny_Assign_Subscript (dj (hv pins s σ H _ I h) λr s1 ⟨v,H1,I1,rv,q1⟩=>dj (ho pins s1 σ H1 _ I1 q1) λu s2 ⟨x,H2,I2,rx,q2⟩=>dj (hi pins s2 σ H2 _ I2 q2) λiv s3 ⟨y,H3,I3,ry,a,H4,ex,g,q3⟩=> ?_) hs;subst ex;obtain rfl:u=Value.ref a:=rx;exact Ef hu I3 g ry rv λs4 I4=>⟨σ,H4,I4,q3⟩
theorem Kv (ho:PE X o td)(hi:PE X i ty):PS X (.Delete [.Subscript o i Dg] pos) (ML td ty):=by intro pins s σ H D I h;refine wpAny_Delete (wpAny_deleteEach_cons (wpAny_delete_Subscript (dj (ho pins s σ H _ I h) λu s1 ⟨x,H1,I1,rx,q1⟩=>dj (hi pins s1 σ H1 _ I1 q1) λiv s2 ⟨y,H2,I2,ry,a,kvs,k,ex,e,ey,l,q2⟩=> ?_)));subst ex ey;obtain rfl:u=Value.ref a:=rx;exact Eh I2 e ry l λs3 I3=>wpAny_deleteEach_nil ⟨σ,_,I3,q2⟩
end
theorem yX {P:Program}{w:World}{H:Hp}(h:Heap)(hb:sysModules<h.objs.size):d4 P w H (h.push {cls:= .type "dict",data:= .dict #[]}) h.objs.size (.dK []):=⟨cU _,fD.mpr (a5 (aX hb)),[], .nil,Heap.DictOf.new h⟩
def FN:TE:=λ_ H Q=> ∀p,H p=none ->Q (.ref p) (upd H p (.dK []))
section
variable {X:Cx}{pos:Pos}
theorem km:PE X (.Dict [] [] pos) FN:=λpins s σ H Q I h=>wpAny_Dict_empty ⟨.ref s.heap.objs.size,_,I.laid (a:=s.heap.objs.size) (o:= .dK []) (t':=s.toks) (λ_ _ q=>ar _ q) (aq _) (yX s.heap I.big),rfl,h _ (I.c8.fresh (aq _))⟩
end
def zW:List (TE×TE) ->St ->Hp ->(List (V×V) ->Hp ->Prop) ->Prop
 | [],_,H,Q=>Q [] H
 | (tk,tv)::r,σ,H,Q=>tk σ H λx H1=>tv σ H1 λy H2=>zW r σ H2 λps H3=>Q ((x,y)::ps) H3
abbrev VV:List (V×V) ->List (Value×Value) ->Prop:=Paired λp q=>RelV p.1 q.1 /\ RelV p.2 q.2
def WY (X:Cx)(pos:Pos)(keys:List (Option Expr))(values:List Expr)(Kc:List (TE×TE)):Prop:=∀ (pins:List (Addr×Obj)) (s:Shared) (σ:St) (H:Hp) (Q:List (V×V) ->Hp ->Prop),Inv X pins σ H s ->zW Kc σ H Q ->wpAny (model X.prog X.w) X.A (evalPairs (pairTrees keys values X.env pos)) (λvs s'=> ∃ps H',Inv X pins σ H' s' /\ VV ps vs /\ Q ps H') X.xe s
theorem Kw {X:Cx}{pos:Pos}:WY X pos [] [] []:=λpins s σ H Q I h=>pairTrees_nil_walk ⟨[],H,I, .nil,h⟩
theorem Gz {X:Cx}{pos:Pos}{k v:Expr}{ks:List (Option Expr)}{vs:List Expr}{tk tv:TE}{Kc:List (TE×TE)}(hk:PE X k tk)(hv:PE X v tv)(hr:WY X pos ks vs Kc): WY X pos (some k::ks) (v::vs) ((tk,tv)::Kc):=λpins s σ H Q I h=>pairTrees_cons_walk (dj (hk pins s σ H _ I h) λu s1 ⟨x,H1,I1,rx,q1⟩=>dj (hv pins s1 σ H1 _ I1 q1) λw2 s2 ⟨y,H2,I2,ry,q2⟩=>dj (hr pins s2 σ H2 _ I2 q2) λws s3 ⟨ps,H3,I3,rel,q3⟩=>⟨(x,y)::ps,H3,I3, .cons ⟨rx,ry⟩ rel,q3⟩)
def lN (kvs more:List (Key×V)):List (Key×V):=more.foldl (λacc kv=>putK acc kv.1 kv.2) kvs
theorem KV.merge: ∀ {more:List (Key×V)} {rs:List (Key×Value)} {kvs:List (Key×V)} {vs:List (Key×Value)},KV more rs ->KV kvs vs ->KV (lN kvs more) (merged vs rs):=by
 intro more rs kvs vs r;unfold KV at r;induction r generalizing kvs vs with
 | nil=>intro q;exact q
 | @cons p q ps qs h t ih=>
  intro r0;have e:KV (putK kvs p.1 p.2) (stored vs q.1 q.2):=by have:=r0.put p.1 h.2;rw[<- h.1];exact this
  exact ih e
theorem ng: ∀ (more kvs:List (Key×V)),(lN kvs more).length<=kvs.length+more.length
 | [],kvs=>by show kvs.length<=kvs.length+0;lia
 | p::r,kvs=>by have h1:=ng r (putK kvs p.1 p.2);have h2:=iI kvs p.1 p.2;show(lN (putK kvs p.1 p.2) r).length<=_;rw[aG];lia
theorem tI {P:Program}{w:World}: ∀ {kvs:List (Key×V)} {ws:List (Value×Value)},VV (kvs.map λkv=>(kV kv.1,kv.2)) ws -> ∃rs,Carries (cu P w) ws rs /\ KV kvs rs
 | [],_,r=>by rw[eB] at r;cases r;exact⟨[],True.intro, .nil⟩
 | p ::kvs,_,r=>by
  rw[aH] at r;cases r with
  | @cons a b as bs h t=>obtain⟨rs,c,q⟩:=tI (P:=P) (w:=w) t;obtain⟨b1,b2⟩:=b;exact⟨(p.1,b2)::rs,⟨oY h.1,rfl,c⟩, .cons ⟨rfl,h.2⟩ q⟩
def FK (Kc:List (TE×TE)):TE:=λσ H Q=> ∀p,H p=none ->zW Kc σ (upd H p (.dK [])) λps H2=>H2 p=some (.dK []) /\ ∃kvs:List (Key×V),ps=kvs.map (λkv=>(kV kv.1,kv.2)) /\ kvs.length<=15 /\ Q (.ref p) (upd H2 p (.dK (lN [] kvs)))
theorem KA {X:Cx}{pos:Pos}{keys:List (Option Expr)}{values:List Expr}{Kc:List (TE×TE)}(h:WY X pos keys values Kc)(AK:keys.all (·.isSome)=true)(hl:keys.length=values.length)(h0:keys≠ []) (h15:keys.length<=15):PE X (.Dict keys values pos) (FK Kc):=by
 intro pins s σ H Q I q;have hn:=I.c8.fresh (aq s.heap.objs.size);have I1:=I.laid (a:=s.heap.objs.size) (o:= .dK []) (h':=s.heap.push {cls:= .type "dict",data:= .dict #[]}) (t':=s.toks) (λ_ _ q=>ar _ q) (aq _) (yX s.heap I.big);refine wpAny_Dict_walk (knd:=cu X.prog X.w) AK hl h0 h15 (dj (h pins _ σ _ _ I1 (q _ hn)) λws s2 ⟨ps,H2,I2,rel,e,kvs,ep,lk,q2⟩=> ?_);subst ep;obtain⟨rs,c,rk⟩:=tI (P:=X.prog) (w:=X.w) rel;obtain⟨z,hd,vs0,r0,dd⟩:=yW I2.c8 e;cases r0;refine⟨rs,c,dd,λh' Ee hs=>⟨.ref s.heap.objs.size,_,?_,rfl,q2⟩⟩;have hz:(lN [] kvs).length<=sizeLine:=by have h1:=ng kvs [];rw[pM] at h1;rw[cC];lia
 have he: ∃q,h'.get? s.heap.objs.size=some q:=let ⟨q,_,_,hq,_⟩:=Ee;⟨q,hq⟩
 exact pD I2 (by rw[e];exact True.intro) hs he (tw hz hd (rk.merge .nil) Ee)
structure M1 (X:Cx)(o:Expr)(m:Str)(apos:Pos)(e:Expr)(gx:Pos):Prop where
 base:attributeBase o m X.env (eval o X.env)=eval o X.env
 QD:((backTo gx (starEach [e] X.env)).all (λx=> !x.1) && (backToKw gx (keywordEach [] X.env)).all (λx=>x.1.isSome) && decide (([e]:List Expr).length+([]:List Keyword).length+(if([]:List Keyword).isEmpty then 0 else 1) <30))=true
 line:(apos.endLine==gx.line)=true
 trees:backTo gx (starEach [e] X.env)= [(false,eval e X.env)]
structure M2 (X:Cx)(o:Expr)(m:Str)(apos:Pos)(e f:Expr)(gx:Pos):Prop where
 base:attributeBase o m X.env (eval o X.env)=eval o X.env
 QD:((backTo gx (starEach [e,f] X.env)).all (λx=> !x.1) && (backToKw gx (keywordEach [] X.env)).all (λx=>x.1.isSome) && decide (([e,f]:List Expr).length+([]:List Keyword).length+(if([]:List Keyword).isEmpty then 0 else 1) <30))=true
 line:(apos.endLine==gx.line)=true
 trees:backTo gx (starEach [e,f] X.env)= [(false,eval e X.env),(false,eval f X.env)]
def IsD (H:Hp)(a:Addr):Prop:=(∃kvs,Rd H a (.dK kvs)) \/ ∃kvs,Rd H a (.dT kvs)
theorem wQ {X:Cx}{pins:List (Addr×Obj)}{σ:St}{H:Hp}{s:Shared}{a:Addr}(I:Inv X pins σ H s)(d:IsD H a): s.TypeIs (.ref a) "dict" /\ (∀b,Value.ref a= .ref b -> ∃ob,s.heap.get? b=some ob /\ ob.dict=none) /\ (a==sysModules)=false:=by
 rcases d with⟨kvs,e⟩ | ⟨kvs,e⟩
 ·obtain⟨_,hd,vs,_,dd⟩:=pC I.c8 e;refine⟨dd.typeIs,λb q=> ?_,hd⟩;cases q;obtain⟨ob,_,_,h1,h2,_⟩:=dd;exact⟨ob,h1,h2.2.1⟩
 ·obtain⟨_,hd,xs,_,dd⟩:=vb I.c8 e;refine⟨dd.typeIs,λb q=> ?_,hd⟩;cases q;obtain⟨ob,_,_,h1,h2,_⟩:=dd;exact⟨ob,h1,h2.2.1⟩
section
variable {X:Cx}{pins:List (Addr×Obj)}{σ:St}{H:Hp}{s:Shared}{a:Addr}{y d:V}{u r:Value}{o:Option V}{A:Around}{E:Value ->Shared ->Prop}
theorem QI {Q:Value ->Shared ->Prop}(hu:A.units+1<cLine)(I:Inv X pins σ H s)(g:rF H a y o)(ry:RelV y u)(rd:RelV d r)(h: ∀w' s',Inv X pins σ H s' ->RelV (o.getD d) w' ->Q w' s'): wpAny (model X.prog X.w) A (call (.builtin "dict.get") [.ref a,u,r]) Q E s:=by
 rcases g with⟨kvs,k,e,ey,l⟩ | ⟨kvs,k,b,e,ey,eb,l⟩
 ·subst ey;obtain⟨z,hd,vs,rel,dd⟩:=pC I.c8 e;refine mL pW dd.typeIs JN (Je _ _ _) (meets_dict_get_default (cu X.prog X.w) a (oY ry) hd r) ⟨_,dd.mapOf,h _ _ (I.tok _) ?_⟩;rw[l];exact(rel.val k).getD rd
 ·subst ey;cases (show u=Value.ref b from ry);obtain⟨z,hd,xs,rel,dd⟩:=vb I.c8 e;refine mL pW dd.typeIs JN (Je _ _ _) (meetsH_dict_get_default (tupleKind (cu X.prog X.w)) a b hd r) ⟨mZ hu,k,xs,sT I.c8 eb,dd,h _ _ (I.tok _) ?_⟩;rw[l];exact(rel.val k).getD rd
end
def FO (td ty tx:TE):TE:=λσ H Q=>td σ H λx H1=> ∃a,x= .ref a /\ IsD H1 a /\ ty σ H1 λy H2=>tx σ H2 λz H3=> ∃o,rF H3 a y o /\ Q (o.getD z) H3
section
variable {X:Cx}{o e f:Expr}{apos gx:Pos}{td ty tx:TE}
theorem oO (hu:X.A.units+1<cLine)(ho:PE X o td)(he:PE X e ty)(hf:PE X f tx)(m:M2 X o "get" apos e f gx):PE X (.Call (.Attribute o "get" apos) [e,f] [] gx) (FO td ty tx):=by intro pins s σ H Q I h;refine wpAny_Call_method m.base m.QD m.line iM pW PySem.F.type_dict_get (dj (ho pins s σ H _ I h) λu s1 ⟨x,H1,I1,rx,a,ex,d,q1⟩=> ?_);subst ex;obtain rfl:u=Value.ref a:=rx;obtain⟨t1,t2,_⟩:=wQ I1 d;refine⟨t1,t2,?_⟩;rw[m.trees];refine gv rfl (vL (du (dj (he pins s1 σ H1 _ I1 q1) λiv s2 ⟨y,H2,I2,ry,q2⟩=>du (dj (hf pins s2 σ H2 _ I2 q2) λfv s3 ⟨z,H3,I3,rz,ov,g,q3⟩=>fM ?_))));exact QI hu I3 g ry rz λw' s4 I4 wg=>⟨_,H3,I4,wg,q3⟩
end
end L2
namespace Att
open PySem PySem.W PySem.Calls PyProof.Rows
theorem rm {P:Params}{h:Heap}: ∀ (ns:List Int) (vs:List Value),WellAll P h vs (ns.map WData.int) ->IntsAre vs ns:=by
 intro ns;induction ns with
 | nil=>intro vs w;rw[eB] at w;cases w;exact .nil
 | cons n ns ih=>
  intro vs w;rw[aH] at w;cases w with
  | cons a b=>cases a;exact .cons _ _ (ih _ b)
theorem Dl {l:OpenLaw}{n:Nat}(hn:l.most=some n){P:Params}{h:Heap}{args:List WData}{vals:List Value} (Lg:l.row.toRowW.claim.pre args=true) (Uj:WellAll P h vals args): ∃a vs ns,vals= [Value.ref a] /\ args= [WData.list (ns.map WData.int)] /\ h.get? a=some {cls:= .type "list",data:= .seq vs.toArray} /\ IntsAre vs ns /\ ns.length<=n:=by
 have Wd:WShape.hasAll [] args [.list .int]=true:=(pre_splitW Lg).1;have hc:l.pre.holds [] {args:=args}=true:=(pre_splitW Lg).2;obtain⟨d,r,rfl,h1,h2⟩:=hasAllW_cons Wd;obtain rfl:=hasAllW_nil h2;obtain⟨xs,rfl,h3⟩:=hasW_list h1;obtain⟨ns,rfl⟩:=items_int h3;have hlen:ns.length<=n:=by
  unfold OpenLaw.pre at hc;have h4:(WTm.not (.lt (.lit (.int (n:Int))) (.len (.arg 0)))).holds [] {args:= [.list (ns.map .int)]}=true:=by have h4:=(holds_andW hc).1;rw[hn] at h4;exact h4
  have h5:=condW_of h4 (w_not (w_lt w_lit (w_len_list (w_arg rfl))));rw[aa] at h5;refine Nat.le_of_not_lt λq=> ?_;have q':(n:Int) < ((ns.length:Nat):Int):=by lia
  first
  | (rw[dw q'] at h5;exact absurd h5 (by decide))
  | (simp at h5;lia)
 cases Uj with
 | cons w1 w2=>
  cases w2;cases w1 with
  | list ho AK=>exact⟨_,_,ns,rfl,rfl,ho,rm ns _ AK,hlen⟩
theorem Dp (l:OpenLaw)(args:List WData):l.row.toRowW.claim.post args (.bool true) args=true:=postW_of (r:=l.row.toRowW) (X:=(true==true)) (show WShape.has [] (.bool true) .bool=true by first | rfl | decide | simp[WShape.has,WShape.arms,WShape.armsAll]) (show(WTm.eq .res (.lit (.bool true))).value [] {args:=args,res:=some (.bool true),after:=args}=some (.bool (true==true)) from w_eq_bool (w_res rfl) w_lit) rfl
theorem zi {l:OpenLaw}{n:Nat}{q:Program}{loose:List Str}{XP:(Str ->Option Value) ->Heap ->Prop}{YP:World ->Heap ->Prop}{d:DefRec} (hn:l.most=some n) (UU:d.params.defaults= []) (call: ∀ (w:World) (s₀ s₁:Shared) (mg mb:Str ->Option Value) (fa:Addr) (o:Obj) (pm cd doc:Value) (a:Addr) (vs:List Value) (ns:List Int),Ground q loose [] XP w s₀ mg mb s₁.heap ->YP w s₁.heap ->s₁.heap.get? fa=some o ->o.data= .func (docDef d.name d.params d.body d.scope pm cd doc) ->s₁.heap.CodeRec cd d.name ->mg d.name=some (.ref fa) ->s₁.heap.get? a=some {cls:= .type "list",data:= .seq vs.toArray} ->IntsAre vs ns ->ns.length<=n ->s₁.gens= #[] ->codeAny (model l.prog w) callerA (.call (.ref fa) ⟨[.ref a],[]⟩) (λr s'=>r= .ok (.ret (.bool true)) /\ OldK s₁.heap s'.heap /\ s'.os=s₁.os /\ AllBare s'.gens) s₁): WalkO q loose XP YP l.row.toRowW d [] (λf vs=>PySem.call f vs):=by intro w s₀ s₁ mg mb G Y fa o pm cd doc dV kV ho hd DY hD YC hg args vals as Lg aaM hrd Uj Qc;obtain rfl:dV= .none:=Dflts.none hD UU;obtain rfl:kV= .none:=Dflts.noKw hD;obtain⟨a,vs,ns,rfl,rfl,P6,hints,hlen⟩:=Dl hn Lg Uj;refine enter_call (rT (call w s₀ s₁ mg mb fa o pm cd doc a vs ns G Y ho (fd_plain hd) DY YC P6 hints hlen hg) λr s' hq=> ?_);obtain⟨rfl,h2,h3,h4⟩:=hq;exact⟨.inl ⟨.bool true, .bool true,[],rfl,λ_=>rfl, .bool true,Dp l _,λ_=>⟨List.Pairwise.nil,λ_ hm=>(nomatch hm)⟩⟩,h2,h3,h4⟩
end Att
namespace L2
open PySem PySem.Spec PyProof.Rows
theorem l6: ∀ {vs:List Value} {ns:List Int},IntsAre vs ns ->Vals (ns.map V.int) vs
 | _,_, .nil=> .nil
 | _,_, .cons n t h=> .cons ⟨t,rfl⟩ (l6 h)
def QR (H:Hp):Prop:= ∀b,H b=none \/ ∃o xs,H b=some (.nR o (.lst xs))
theorem Ho {P:Program}{w:World}{K:PySem.W.Frag}{mg mb:Str ->Option Value}{CX:Jp}{k:Nat}{fa a:Addr}{fd:FuncData}{x:Str}{sp:Sp}{s₁:Shared}{vs:List Value}{ns:List Int} (KX:K.In s₁.heap) (Nw:s₁.heap.Ns mainGlobals mg) (hb:s₁.heap.Ns builtinsNs mb) (RH: ∀x:Str,x≠ "__name__" ->mb x=bootBuiltins x) (YI:s₁.heap.NoLimit) (hg:s₁.gens= #[]) (ha:s₁.heap.get? a=some {cls:= .type "list",data:= .seq vs.toArray}) (hi:IntsAre vs ns) (hl:ns.length<=sizeLine) (hr:gJ k callerA) (F: ∀base:Heap,K.In base ->base.Ns mainGlobals mg ->eh P w K mg base CX k fa fd [x] sp) (U0: ∀ (s:Shared) (u:Value),BindsTo s fd ⟨[u],[]⟩ [(x,u)]) (yI: ∀H:Hp,QR H ->ix K H a (ns.map V.int) ->sp [.ref a] H (λv _=>v= .bl true) λ_ _ _=>False) (Zf: ∀H e s',CX [] H s₁ (λ_ _ _=>False) e s' ->False): codeAny (model P w) callerA (.call (.ref fa) ⟨[.ref a],[]⟩) (λr s'=>r= .ok (.ret (.bool true)) /\ OldK s₁.heap s'.heap /\ s'.os=s₁.os /\ AllBare s'.gens) s₁:=by
 have rv:=l6 hi;have X1:=hi.length;have core : ∀H:Hp,QR H ->ix K H a (ns.map V.int) ->nv P w H s₁.heap ->(∀b,H b≠none ->b=a) ->(H a≠none ->K.lookup a=none) ->codeAny (model P w) callerA (.call (.ref fa) ⟨[.ref a],[]⟩) (λr s'=>r= .ok (.ret (.bool true)) /\ OldK s₁.heap s'.heap /\ s'.os=s₁.os /\ AllBare s'.gens) s₁:=by
  intro H hO hS c8 hA hK;have C1: ∀ {b:Addr} {o:Obj},s₁.heap.get? b=some o ->H b=none ->(wZ s₁.heap H).get? b=some o:=λe n=>HU e n;have TL: ∀ {b:Addr} {o:Obj} {es:Array DictEntry} {ep:Nat},s₁.heap.get? b=some o ->o.data= .dict es ep ->H b=none:=λ{b o es ep} e d=>by
   cases q:H b with
   | none=>rfl
   | some u=>have e':b=a:=hA b (by rw[q];simp);subst e';rw[ha] at e;cases e;have d':Data.seq vs.toArray _=Data.dict es ep:=d;cases d'
  have VY: ∀ {b:Addr} {m:Str ->Option Value},s₁.heap.Ns b m ->(wZ s₁.heap H).Ns b m:=λ{b m} ⟨o,es,ep,e,d,r⟩=>⟨o,es,ep,C1 e (TL e d),d,r⟩
  have hKb:K.In (wZ s₁.heap H):=λb o e=>C1 (KX b o e) (by
   cases q:H b with
   | none=>rfl
   | some u=>have e':b=a:=hA b (by rw[q];simp);subst e';rw[hK (by rw[q];simp)] at e;cases e)
  have hM:Mod K mg (wZ s₁.heap H):=⟨hKb,VY Nw,⟨mb,VY hb,RH⟩,let ⟨mc,h1,h2⟩:=YI;⟨mc,VY h1,h2⟩⟩
  have e0:A4 P w K mg (wZ s₁.heap H) callerA [] s₁ H:=⟨rfl,hM,λb o e=>KS e,iZ (DW _ _),trivial,λb hb=>absurd (show b∈([]:List Addr) from hb) (by simp),c8, .of_eq hg⟩
  refine rT ((F _ hKb (VY Nw)).run callerA [] s₁ H ⟨[.ref a],[]⟩ [.ref a] [.ref a] _ _ hr e0 (U0 s₁ (.ref a)) (.cons rfl .nil) (yI H hO hS)) λr s' h=> ?_;cases r with
  | error e=>exact(Zf H e s' h).elim
  | ok fl =>
   cases fl with
   | next=>exact False.elim h
   | brk=>exact False.elim h
   | cont=>exact False.elim h
   | ret u=>
    obtain⟨v,H',os,bare,un,Yx,r',q⟩:=h;have q':v= .bl true:=q;subst q';obtain rfl:u=Value.bool true:=r';refine⟨rfl,OldK.of_keep λb o e=> ?_,os,bare⟩;cases q:H b with
    | none=>exact un.keep b o e q (by intro z;exact absurd (show b∈([]:List Addr) from z) (by simp)) (by simp)
    | some u=>
     rcases hO b with z | ⟨ob,xs,z⟩
     ·rw[q] at z;cases z
     ·have z2:=un.nO b ob _ z;obtain⟨e1,_⟩:=c8 b _ z;obtain⟨e2,_⟩:=Yx b _ z2;rw[e] at e1;cases e1;exact e2
 cases hk:K.lookup a with
 | some o=>have e:=KX a o hk;rw[ha] at e;cases e;refine core (λ_=>none) (λ_=> .inl rfl) (.inr ⟨_,vs.toArray,_,hk,rfl,rfl,rfl,by rw[aO,X1];exact hl,by simpa using rv⟩) (λb u z=>by have z':(none:Option HO)=some u:=z;cases z') (λb z=>absurd rfl z) λz=>absurd rfl z
 | none=>
  refine core (λb=>if b=a then some (.nR {cls:= .type "list",data:= .seq vs.toArray} (.lst (ns.map V.int))) else none) (λb=> ?_) (.inl (.inr ⟨{cls:= .type "list",data:= .seq vs.toArray},ak rfl⟩)) (λb u z=> ?_) (λb z=> ?_) λ_=>hk
  ·by_cases hb:b=a
   ·exact .inr ⟨_,_,ak hb⟩
   ·exact .inl (aj hb)
  ·by_cases hb:b=a
   ·have z':=(ak hb).symm.trans z;cases z';subst hb;exact⟨ha,by rw[aa];exact hl,vs,_,rv,ha⟩
   ·have z':=(aj hb).symm.trans z;cases z'
  ·by_cases hb:b=a
   ·exact hb
   ·exact absurd (aj hb) z
theorem J5 {l:PySem.W.OpenLaw}{n k:Nat}{q:Program}{loose:List Str}{XP:(Str ->Option Value) ->Heap ->Prop}{YP:World ->Heap ->Prop}{d:DefRec}{K:Params ->PySem.W.Frag}{CX:World ->Jp}{sp:World ->Sp}{x:Str} (hn:l.most=some n) (P8:n<=sizeLine) (UU:d.params.defaults= []) (hr:gJ k callerA) (hY: ∀ (w:World) (h:Heap),YP w h ->(K w.params).In h) (F : ∀ (w:World) (mg:Str ->Option Value) (fa:Addr) (h:Heap),(K w.params).In h ->h.Ns mainGlobals mg ->mg d.name=some (.ref fa) ->∃ fd:FuncData,(∀ (s:Shared) (u:Value),BindsTo s fd ⟨[u],[]⟩ [(x,u)]) /\∀base:Heap,(K w.params).In base ->base.Ns mainGlobals mg ->eh l.prog w (K w.params) mg base (CX w) k fa fd [x] (sp w)) (yI: ∀ (w:World) (H:Hp) (a:Addr) (ns:List Int),ns.length<=n ->QR H ->ix (K w.params) H a (ns.map V.int) ->sp w [.ref a] H (λv _=>v= .bl true) λ_ _ _=>False) (Zf: ∀ (w:World) (H:Hp) (s:Shared) (e:Value) (s':Shared),CX w [] H s (λ_ _ _=>False) e s' ->False): PySem.W.WalkO q loose XP YP l.row.toRowW d [] (λf vs=>PySem.call f vs):=by refine Att.zi hn UU λw s₀ s₁ mg mb fa o pm cd doc a vs ns G Y ho hd DY YC P6 hints hlen hg=> ?_;have KX:=hY w _ Y;obtain⟨fd,hb,hF⟩:=F w mg fa _ KX G.T.g YC;exact Ho KX G.T.g G.T.b G.T.builtins G.T.nolimit hg P6 hints (a4 hlen P8) hr hF hb (λH hO hS=>yI w H a ns hlen hO hS) λH e s'=>Zf w H s₁ e s'
def gS (s:Stmt):Arguments:=match s with
 | .FunctionDef _ a _ _ _ _ _ _ _ _=>a
 | _=> {posonlyargs:= [],args:= [],vararg:=none,kwonlyargs:= [],kw_defaults:= [],kwarg:=none,defaults:= []}
def fo (s:Stmt):List Stmt:=match s with
 | .FunctionDef _ _ b _ _ _ _ _ _ _=>b
 | _=> []
def aQ (s:Stmt):Scope:=match s with
 | .FunctionDef _ _ _ _ _ _ sc _ _ _=>sc
 | _=> {kind:= .function,names:= [],isGenerator:=false,isCoroutine:=false}
abbrev kJ:Jp:=λ_ _ _ _ _ _=>False
abbrev E0:XK:=λ_ _ _=>False
theorem MU {X:Cx}:Passes kJ X E0:=λ_ _ _ _ _ _ _ h=>h.elim
structure E5 (K:PySem.W.Frag)(x qual:Str)(st:Stmt)(f:Addr)(fd:FuncData):Prop where
 ex: ∃ (oc:Value) (od:Option Addr) (kV doc pm:Value) (an:Option Addr) (eQ ct:Value) (ER:Array (Option Value)),fd=PySem.W.fnOf x qual (gS st) (fo st) (aQ st) .none kV doc pm an eQ ct /\ K.lookup f=some ⟨oc,od, .func fd,ER⟩ /\ PySem.W.codeIn K eQ qual=true
 kp:PySem.W.keepIn K (.ref f)=true
section
variable {P:Program}{w:World}{K:PySem.W.Frag}{mg:Str ->Option Value}{base:Heap}
theorem E5.ok {x qual:Str}{st:Stmt}{f:Addr}{fd:FuncData}{N ps:List Str}{k:Nat}{sp:Sp}(F:E5 K x qual st f fd)(S:b7 N ps (aQ st))(len: ∀vs H Q E,sp vs H Q E ->vs.length=ps.length) (pj: ∀ (eQ:Value) (A:Around) (outer:List Env) (s:Shared) (H:Hp) (vs:List V) (Q:VK) (E:XK),gJ k (A.deeper (envOfC qual (aQ st) s.heap.objs.size f eQ)) ->sp vs H Q E ->∃t,zD (fT kJ P w K mg base N qual (aQ st) f eQ A outer s H E).Pm (fo st) t /\ t {nx:=λ_ H'=>Q .dS H',rt:=Q} (start N vs) H):eh P w K mg base kJ (k+1) f fd ps sp:=by obtain⟨oc,od,kV,doc,pm,an,eQ,ct,ER,rfl,lk,DY⟩:=F.ex;refine Vd lk DY S len λA outer s H vs Q E hr yI=> ?_;obtain⟨t,h,q⟩:=pj eQ A outer s H vs Q E hr yI;exact⟨t,h.Pm,q⟩
theorem E5.binds {x qual:Str}{st:Stmt}{f:Addr}{fd:FuncData}{ps:List Str}(F:E5 K x qual st f fd) (h: ∀ (kV doc pm:Value) (an:Option Addr) (eQ ct:Value) (us:List Value),us.length=ps.length ->bindArgs (PySem.W.fnOf x qual (gS st) (fo st) (aQ st) .none kV doc pm an eQ ct) ⟨us,[]⟩=pure (ps.zip us)):Binds K fd ps []:=by obtain⟨oc,od,kV,doc,pm,an,eQ,ct,ER,rfl,lk,DY⟩:=F.ex;exact .all (h kV doc pm an eQ ct)
theorem w8 {x qual:Str}{st:Stmt}{f:Addr}{oc:Value}{od an:Option Addr}{ER:Array (Option Value)}{kV doc pm eQ ct:Value}(l:K.lookup f=some ⟨oc,od, .func (PySem.W.fnOf x qual (gS st) (fo st) (aQ st) .none kV doc pm an eQ ct),ER⟩) (c:PySem.W.codeIn K eQ qual=true) (k:PySem.W.keepIn K (.ref f)=true):E5 K x qual st f (PySem.W.fnOf x qual (gS st) (fo st) (aQ st) .none kV doc pm an eQ ct):=⟨⟨oc,od,kV,doc,pm,an,eQ,ct,ER,rfl,l,c⟩,k⟩
end
theorem fK {A:Around}{k:Nat}(hr:gJ k A):A.units+1<cLine:=RQ (Nat.add_le_add_left (by decide:1<=64) _) hr.units
section
variable {X:Cx}
theorem pv (i:Nat){x:Str}{pos:Pos}(hN:X.N[i]? =some x:=by rfl)(hv:WW X.env.scope x:=by first | exact Or.inl rfl | exact Or.inr (Or.inl rfl) | exact Or.inr (Or.inr rfl))(hd:(x==("__debug__" :Str))=false:=by decide) (DY:(x==("__classdict__" :Str))=false:=by decide):PE X (.Name x pos) (Kf i):=O7 hN hv hd DY
end
def fE (H H':Hp):Prop:= ∀b o,H b=some o ->H' b=some o
theorem fE.trans {H H1 H2:Hp}(a:fE H H1)(b:fE H1 H2):fE H H2:=λc o h=>b c o (a c o h)
section
variable {κ:Type} [DecidableEq κ]
theorem BU: ∀ {l:List κ} {k:κ},l.Nodup ->¬k∈l ->(l++ [k]).Nodup
 | [],k,_,_=>by simp
 | a::r,k,h,hk=>by
  obtain⟨h1,h2⟩:=bw.mp h;show(a::(r++ [k])).Nodup;refine bw.mpr ⟨λm=> ?_,BU h2 λm=>hk (av.mpr (Or.inr m))⟩;rcases ax.mp m with q | q
  ·exact h1 q
  ·exact hk (av.mpr (Or.inl (ah.mp q).symm))
end
theorem cO {α:Type}{x y:Str}{c:α}{l:List (Str×α)}:((y,c)::l).lookup x=if x=y then some c else l.lookup x:=by
 by_cases h:x=y
 ·subst h;simp[xF]
 ·rw[aj h,xF];have:(x==y)=false:=by simpa using h
  rw[this]
theorem kT {env:Env}: ∀ (names:List (Str×NameKind)) (acc:List (Str×Addr)),(∀y∈names,y.2= .free -> ∃c,env.cells.lookup y.1=some c) ->(∀x c,acc.lookup x=some c ->env.cells.lookup x=some c) ->∃ cl,(forIn names acc λx s=>if(x.snd==NameKind.free)=true then(do let c <- cellOf env x.fst;pure (ForInStep.yield ((x.fst,c)::s)):Sem _) else pure (ForInStep.yield s))=(pure cl:Sem (List (Str×Addr))) /\(∀x c,cl.lookup x=some c ->env.cells.lookup x=some c) /\ (∀x,(acc.lookup x).isSome=true ->(cl.lookup x).isSome=true) /\ ∀y∈names,y.2= .free ->(cl.lookup y.1).isSome=true
 | [],acc,_,h2=>⟨acc,rfl,h2,λ_ h=>h,λ_ h=>absurd h (by simp)⟩
 | (n, k)::r,acc,h1,h2=>by
  by_cases hk:k=NameKind.free
  ·subst hk;obtain⟨c,hc⟩:=h1 (n, .free) aE rfl;have JD: ∀x c',((n,c)::acc).lookup x=some c' ->env.cells.lookup x=some c':=λx c' e=>by
    rw[cO] at e;by_cases hx:x=n
    ·rw[ak hx] at e;cases e;rw[hx];exact hc
    ·rw[aj hx] at e;exact h2 x c' e
   obtain⟨cl,e1,e2,e3,e4⟩:=kT r ((n,c)::acc) (λy hy=>h1 y (aw _ hy)) JD;refine⟨cl,?_,e2,λx hx=>e3 x ?_,λy hy hf=> ?_⟩
   ·rw[List.forIn_cons];have:cellOf env n=pure c:=by unfold cellOf;rw[hc]
    simp only[beq_self_eq_true,bN,this,pure_bind];exact e1
   ·rw[cO];by_cases iO:x=n
    ·rw[ak iO];rfl
    ·rw[aj iO];exact hx
   ·rcases av.mp hy with rfl | hy
    ·refine e3 n ?_;rw[cO,ak rfl];rfl
    ·exact e4 y hy hf
  ·obtain⟨cl,e1,e2,e3,e4⟩:=kT r acc (λy hy=>h1 y (aw _ hy)) h2;refine⟨cl,?_,e2,e3,λy hy hf=> ?_⟩
   ·rw[List.forIn_cons];have:(k==NameKind.free)=false:=by simpa using hk
    simp only[this,ay,bf,pure_bind];exact e1
   ·rcases av.mp hy with rfl | hy
    ·exact absurd hf hk
    ·exact e4 y hy hf
theorem tH {scope:Scope}{env:Env}(h: ∀y∈scope.names,y.2= .free -> ∃c,env.cells.lookup y.1=some c): ∃cl,closureFor scope env=pure cl /\ (∀x c,cl.lookup x=some c ->env.cells.lookup x=some c) /\ ∀y∈scope.names,y.2= .free ->(cl.lookup y.1).isSome=true:=by obtain⟨cl,e1,e2,_,e4⟩:=kT scope.names [] h (λ_ _ e=>by simp at e);refine⟨cl,?_,e2,e4⟩;simp only[closureFor];rw[e1,pure_bind]
theorem jq {env:Env}: ∀ {names:List (Str×NameKind)} {x:Str} {k:NameKind},(names.map λ(n,k)=>if(k==NameKind.free && env.scope.kind== .function && env.kindOf n==some .cell) then(n,NameKind.cell) else(n,k)).lookup x=some k ->names.lookup x=some k \/ (k= .cell /\ names.lookup x=some .free)
 | [],_,_,h=>by simp at h
 | (n, j)::r,x,k,h=>by
  have ih:= @jq env r x k;rw[aH] at h;by_cases hc:(j==NameKind.free && env.scope.kind== .function && env.kindOf n==some .cell)=true
  ·simp only[hc,bN] at h;rw[cO] at h;rw[cO];by_cases hx:x=n
   ·rw[ak hx] at h ⊢;cases h;have hj:j=NameKind.free:=by rw[gK,gK] at hc;exact eq_of_beq hc.1.1
    exact .inr ⟨rfl,by rw[hj]⟩
   ·rw[aj hx] at h ⊢;exact ih h
  ·simp only[hc,ay,bf] at h;rw[cO] at h;rw[cO];by_cases hx:x=n
   ·rw[ak hx] at h ⊢;exact .inl h
   ·rw[aj hx] at h ⊢;exact ih h
theorem iT {env:Env}: ∀ {names:List (Str×NameKind)} {x:Str},names.lookup x=some .free ->(names.map λ(n,k)=>if(k==NameKind.free && env.scope.kind== .function && env.kindOf n==some .cell) then(n,NameKind.cell) else(n,k)).lookup x=some .cell \/(names.map λ(n,k)=>if(k==NameKind.free && env.scope.kind== .function && env.kindOf n==some .cell) then(n,NameKind.cell) else(n,k)).lookup x=some .free
 | [],_,h=>by simp at h
 | (n,j)::r,x,h=>by
  have ih:= @iT env r x;rw[aH];rw[cO] at h;by_cases hc:(j==NameKind.free && env.scope.kind== .function && env.kindOf n==some .cell)=true
  ·simp only[hc,bN];rw[cO];by_cases hx:x=n
   ·rw[ak hx];exact .inl rfl
   ·rw[aj hx] at h ⊢;exact ih h
  ·simp only[hc,ay,bf];rw[cO];by_cases hx:x=n
   ·rw[ak hx] at h ⊢;cases h;exact .inr rfl
   ·rw[aj hx] at h ⊢;exact ih h
abbrev bV (X:Cx)(N':List Str)(scope:Scope)(cl:List (Str×Addr))(fp:List Addr)(s3:Shared)(H3:Hp):Cx:={X with N:=N',s₀:=s3,H₀:=H3,env:=compEnvC scope cl s3.heap.objs.size X.env,outer:=X.stack,stack:=X.stack,ex:=fp,fn:=λ_=>false,pn:= [],xe:=λ_ _=>False}
def lC (own:Nat)(fr:List Nat)(σ:St):St:=List.replicate own none++fr.map λj=>(σ[j]?).join
structure fq (X:Cx)(own:List Str)(fr:List Nat)(N':List Str)(scope:Scope):Prop where
 kind:scope.kind= .function
 names:N'=own++fr.filterMap (λj=>X.N[j]?)
 len:N'.length=own.length+fr.length
 nd:N'.Nodup
 sJ: ∀y∈scope.names,y.2≠ .cell
 loc: ∀y∈scope.names,y.2= .local ->scope.names.lookup y.1=some .local
 RK: ∀x∈fr.filterMap (λj=>X.N[j]?),scope.names.lookup x=some .free
 free: ∀y∈scope.names,y.2= .free ->X.env.kindOf y.1=some .cell \/ X.env.kindOf y.1=some .free
theorem pq {N:List Str}: ∀ {fr:List Nat} {k:Nat} {x:Str},(fr.filterMap (λj=>N[j]?)).length=fr.length ->(fr.filterMap (λj=>N[j]?))[k]? =some x -> ∃j,fr[k]? =some j /\ N[j]? =some x
 | [],_,_,_,e=>by simp at e
 | j ::r,k,x,hl,e=>by
  cases hj:N[j]? with
  | none=>rw[fG,hj] at hl;have:=E1 (λj=>N[j]?) r;simp only[aG] at hl;lia
  | some y=>
   rw[fG,hj] at hl e;simp only[aG,Nat.add_right_cancel_iff] at hl;cases k with
   | zero=>simp at e;exact⟨j,by simp,by rw[hj,e]⟩
   | succ k=>exact pq (k:=k) hl (by simpa using e)
section
variable {X:Cx}{pins:List (Addr×Obj)}{σ:St}{H:Hp}{s s3:Shared}
theorem yH {own N':List Str}{fr:List Nat}{scope:Scope}{cl:List (Str×Addr)}{fp:List Addr}{h':Heap}{t:Nat}(S:fq X own fr N' scope)(I:Inv X pins σ H s) (rB: ∀x c,cl.lookup x=some c ->X.env.cells.lookup x=some c) (uh: ∀y∈scope.names,y.2= .free ->(cl.lookup y.1).isSome=true) (w5: ∀b∈fp,kX X pins H b) (Qh: ∀b∈fp,b<s.heap.objs.size) (Nw:h'.Ns s.heap.objs.size (λ_=>none)) (hk: ∀b o,s.heap.get? b=some o ->h'.get? b=some o): Inv (bV X N' scope cl fp s H) [] (lC own.length fr σ) H {s with heap:=h',toks:=t}:=by
 have look: ∀x,(compEnvC scope cl s.heap.objs.size X.env).kindOf x=(relabel scope X.env).names.lookup x:=λ_=>rfl;have U9:(fr.filterMap (λj=>X.N[j]?)).length=fr.length:=by have:=S.len;rw[S.names,aL] at this;lia
 refine⟨⟨I.ok.mod,?_,I.ok.glob,I.ok.blt,aq _,λx y c e1 e2=>I.ok.inj x y c (rB _ _ e1) (rB _ _ e2),λx hx=> ?_,(λx c z _=>nomatch z),I.ok.hd,I.ok.frames, .inl rfl,λb hb=>⟨?_,λx c e=>(w5 b hb).2.2.2.2.1 x c (rB x c e)⟩,I.bs,a4 I.ok.JG I.sz,λb o e hb=> ?_,λb hb hz=> ?_,I.stack,I.Bp⟩,
  rfl,I.bare,Un.kept hk,⟨_,Nw,λi x v e1 e2 e3=> ?_⟩,λx c e=> ?_,I.c8.fresh (aq _),λx c e=>I.jw x c (rB x c e),λp hp=>absurd (show p∈([]:List (Addr×Obj)) from hp) (by simp),I.c8.kept hk,?_⟩
 ·show(relabel scope X.env).kind=_;exact S.kind
 ·have iO:scope.names.lookup x=some .free:=by
   rcases hx with hx | hx
   ·rcases jq hx with q | ⟨_,q⟩
    ·exact absurd rfl (S.sJ _ (dA q))
    ·exact q
   ·rcases jq hx with q | ⟨q,_⟩
    ·exact q
    ·cases q
  exact mO.mp (uh _ (dA iO) rfl)
 ·exact aX (Qh b hb)
 ·rcases (w5 b hb).2.2.2.1 with z | z
  ·exact I.ok.Hb b o e z
  ·exact absurd (bE (aB e) (a4 I.ok.JG z)) (cb _)
 ·rcases av.mp (I.z3 b hz) with q | q
  ·exact(w5 b hb).2.1 q
  ·exact(w5 b hb).2.2.1 q
 · -- a XS value
  have e1:(own++fr.filterMap (λj=>X.N[j]?))[i]? =some x:=by rw[<- S.names];exact e1
  unfold lC at e2
  by_cases hi:i<own.length
  ·rw[a9 (by simpa using hi),d7,ak hi] at e2;cases e2
  ·rw [aU (by simpa using hi),gj] at e2;rw[aU (by simpa using hi)] at e1;obtain⟨j,ej,ex⟩:=pq U9 e1;rw[aA,ej] at e2;have e2:(σ[j]?).join=some v:=by simpa using e2
   have e2':σ[j]? =some (some v):=by
    cases q:σ[j]? with
    | none=>rw[q] at e2;cases e2
    | some w=>rw[q] at e2;simp at e2;rw[e2]
   have hf:=S.RK x (ai e1);have hm:=dA hf;obtain⟨m,_,hl⟩:=I.loc;have vis:WW X.env.scope x:=by
    rcases S.free _ hm rfl with q | q
    ·exact .inr (.inl q)
    ·exact .inr (.inr q)
   obtain⟨u,r,l⟩:=hl j x v ex e2' vis;refine⟨u,r, .inr ⟨?_,?_⟩⟩
   ·exact iT hf
   ·rcases l with⟨k,_⟩ | ⟨_,c,ec,z⟩
    ·rcases S.free _ hm rfl with q | q
     ·rw[k] at q;cases q
     ·rw[k] at q;cases q
    ·obtain⟨c',WU⟩:=mO.mp (uh _ hm rfl);have:=rB _ _ WU;rw[ec] at this;cases this;exact⟨c,WU,z.keeps hk⟩
 ·obtain⟨v,z⟩:=I.cell x c (rB x c e);exact⟨v,z.keeps hk⟩
 ·show(lC own.length fr σ).length=N'.length;unfold lC;rw[aL,gj,aa,S.len]
end
def N8 (X:Cx)(cs:List Expr)(t:TT):Prop:=∀ (pins:List (Addr×Obj)) (s:Shared) (σ:St) (H:Hp) (Q:Bool ->Hp ->Prop),Inv X pins σ H s ->t σ H Q ->wpAny (model X.prog X.w) X.A (forIn cs true λc r=>if r=true then do let ok <- isTrue c X.env (eval c X.env);pure (ForInStep.yield ok) else pure (ForInStep.yield r)) (TP X pins σ Q) X.xe s
def SH:TT:=λ_ H Q=>Q true H
theorem jO {X:Cx}:N8 X [] SH:=λpins s σ H Q I h=>wpAny_tests_nil ⟨H,I,h⟩
theorem rL {X:Cx}{c:Expr}{t:TT}(h:PT X c t):N8 X [c] t:=λpins s σ H Q I q=>wpAny_tests_one (h pins s σ H Q I q)
section
variable {prog:Program}{w:World}{A:Around}{R:Result ->Shared ->Prop}{s:Shared}
theorem Ek {elt target iter:Expr}{ifs:List Expr}{scope:Scope}{pos:Pos}{it acc:Value}{env:Env}(I:Nat ->Shared ->Prop) (turn : ∀n s,I n s ->wpAny (model prog w) A (pyNext it) (λr s₁=>match r with
   | none=>R (.ok .next) s₁
   | some v=>wpAny (model prog w) A (letOwnedTupleGo target it v) (λ_ s₀=>wpAny (model prog w) A (assign target env v) (λ_ s₂=>
    wpAny (model prog w) A (forIn ifs true λc r=>if r=true then do let ok <- isTrue c env (eval c env);pure (ForInStep.yield ok) else pure (ForInStep.yield r)) (λok s₃=>if ok=true then wpAny (model prog w) A (eval elt env) (λx s₄=>wpAny (model prog w) A (call (.builtin "list.append") [acc,x]) (λ_ s₅=> ∃m,m<n /\ I m s₅) (λ_ _=>False) s₄) (λ_ _=>False) s₃ else ∃m,m<n /\ I m s₃) (λ_ _=>False) s₂)
    (λ_ _=>False) s₀) (λ_ _=>False) s₁) (λ_ _=>False) s)
  (n:Nat) (h:I n s):codeAny (model prog w) A (.compLoop (.ListComp elt [⟨target,iter,ifs,0⟩] scope pos) 0 it acc env) R s:=by
 refine codeAny_loop rfl I (λn s hI=> ?_) n h
 show wpAny _ A ((compTurn (.ListComp elt [⟨target,iter,ifs,0⟩] scope pos) 0 it acc env).onRaise (λx=>do noteFrame x env;theTreesLotGoes x)) _ _ s
 refine wpAny_noted ?_
 rw[compTurn_list]
 refine ao (iS (ao (bJ (turn n s hI) (λr s₁ h₁=> ?_) λ_ _ h'=>h'.elim)))
 cases r with
 | none=>exact aM h₁
 | some v=>
  refine ao (bJ h₁ (λ_ s₀ Uh=> ?_) λ_ _ h'=>h'.elim);refine ao (bJ Uh (λ_ s₂ h₂=> ?_) λ_ _ h'=>h'.elim);refine ao (bJ h₂ (λTF s₃ h₃=> ?_) λ_ _ h'=>h'.elim);cases TF with
  | false=>exact aM ⟨rfl,h₃⟩
  | true=>exact ao (ao (bJ h₃ (λx s₄ h₄=>ao (bJ h₄ (λ_ s₅ h₅=>aM (aM ⟨rfl,h₅⟩)) λ_ _ h'=>h'.elim)) λ_ _ h'=>h'.elim))
end
def Wk (σ0 σ2:St):Prop:=σ2.length=σ0.length /\ ∀ (i:Nat) v,σ0[i]? =some (some v) ->σ2[i]? =some (some v)
def L7 (own:Nat)(g:TG):Prop:= ∀ (c:St) (v:V) (H:Hp) (Q:St ->Hp ->Prop),g v (List.replicate own none++c) H Q ->g v (List.replicate own none++c) H λσ2 H2=>Wk (List.replicate own none++c) σ2 /\ Q σ2 H2
theorem fX:L7 1 (qF 0):=by
 intro c v H Q h;refine⟨⟨by simp,λi u e=> ?_⟩,h⟩;cases i with
 | zero=>simp at e
 | succ i=>simpa using e
theorem IQ {K:PySem.W.Frag}:L7 2 (Qx K 2 (Cq (qF 0) (Cq (qF 1) Qy))):=by
 rintro c v H Q ⟨a,xs,e,hs,hl,x,r,rfl,y,r',rfl,rfl,h⟩;refine⟨a,_,e,hs,hl,x,_,rfl,y,_,rfl,rfl,⟨by simp,λi u e=> ?_⟩,h⟩;match i with
 | 0=>simp at e
 | 1=>simp at e
 | i+2=>simpa using e
def NX (J:It)(own:Nat)(fr:List Nat)(g:TG)(tc:TT)(te:TE)(σ:St)(p:Addr)(H1:Hp)(Q:VK):Prop:=∃ W :Nat ->Nat ->List V ->Hp ->Prop,(∃m,W 0 m [] (upd H1 p (.lst []))) /\ ∀i m ys H',W i m ys H' ->H' p=some (.lst ys) /\((J.stop i H' /\ Q (.ref p) H') \/ (J.go i H' /\ ys.length<sizeLine /\ ∀x H2,J.Oj i H' x H2 ->g x (lC own fr σ) H2 λσ2 H3=>tc σ2 H3 λb H4=>if b=true then te σ2 H4 λy H5=> ∃zs,H5 p=some (.lst zs) /\ zs.length<sizeLine /\ ∃m',m'<m /\ W (i+1) m' (zs++ [y]) (upd H5 p (.lst (zs++ [y]))) else ∃zs m',m'<m /\ W (i+1) m' zs H4))
def Mx (wi:TI)(own:Nat)(fr:List Nat)(g:TG)(tc:TT)(te:TE):TE:=λσ H Q=>wi σ H λJ H1=> ∀p,H1 p=none ->NX J own fr g tc te σ p H1 Q
section
variable {X:Cx}{pins:List (Addr×Obj)}{σ:St}{H:Hp}{s s3:Shared}
theorem comp_back {N':List Str}{scope:Scope}{cl:List (Str×Addr)}{fp:List Addr}{BN:List (Addr×Obj)}{σ':St}{H':Hp}{s':Shared}(I3:Inv X pins σ H s3)(w5: ∀b∈fp,kX X pins H b) (Ic:Inv (bV X N' scope cl fp s3 H) BN σ' H' s'):Inv X pins σ H' s':=I3.Vi (ch:=fp) Ic.os Ic.base Ic.c8 Ic.bare λb hb=>⟨(w5 b hb).2.2.2.1,(w5 b hb).2.1,(w5 b hb).2.2.2.2.1,(w5 b hb).2.2.2.2.2⟩
theorem vm {C:Addr}{σ':St}{H':Hp}{s':Shared}{h':Heap}(I3:Inv X pins σ H s3)(hC:C=s3.heap.objs.size)(J:Inv X pins σ' H' s')(hn:H' C=none)(hs:Heap.SameBut C s'.heap h'):Inv X pins σ' H' {s' with heap:=h'}:=by
 subst hC;refine J.turned (t':=s'.toks) (it:=s3.heap.objs.size) (λb o hb e=>hs.extBut b o hb e) hn (iW I3.lt) (.inr I3.sz) (λx c e z=> ?_) λp hp z=> ?_
 ·obtain⟨v,q⟩:=I3.cell x c e;exact absurd q.lt (by rw[z];exact cb _)
 ·exact absurd (aB (I3.pin p hp).1) (by rw[z];exact cb _)
theorem AW {tg iter elt:Expr}{ifs:List Expr}{pos:Pos}{own N':List Str}{fr:List Nat}{scope:Scope}{cl:List (Str×Addr)}{fp:List Addr}{it:Addr}{tn:Nat ->Heap ->Prop}{J:It}{g:TG}{tc:TT}{te:TE}{Q:VK} {E:Value ->Shared ->Prop} {RR:Value ->Addr ->Result ->Shared ->Prop} (lQ:X.calm=true) (S:fq X own fr N' scope) (hg: ∀s3 H3,PG (bV X N' scope cl fp s3 H3) tg g) (hw:L7 own.length g) (hc: ∀s3 H3,N8 (bV X N' scope cl fp s3 H3) ifs tc) (he: ∀s3 H3,PE (bV X N' scope cl fp s3 H3) elt te) (rB: ∀x c,cl.lookup x=some c ->X.env.cells.lookup x=some c) (uh: ∀y∈scope.names,y.2= .free ->(cl.lookup y.1).isSome=true) (I:Inv X pins σ H s) (T:Turn X.prog X.w X.K tg J fp it tn) (st:tn 0 s.heap) (w5: ∀b∈fp,kX X pins H b) (h: ∀p,H p=none ->NX J own.length fr g tc te σ p H Q) (fin: ∀ (s3:Shared) (H3:Hp),Inv X pins σ H3 s3 ->(∀b∈fp,kX X pins H3 b) -> ∀ (D:Addr) (σ':St) (H':Hp) (s':Shared) (t:Nat),D<s3.heap.objs.size ->Inv (bV X N' scope cl fp s3 H3) [] σ' H' s' ->Q (.ref D) H' ->RR (.ref D) s3.heap.objs.size (.ok .next) s'): wpAny (model X.prog X.w) X.A (newList []) (λacc s₃=>wpAny (model X.prog X.w) X.A (newFunctionEnv scope X.env.globals cl [] X.env.qual none .none (some X.env)) (λIP s₄=>codeAny (model X.prog X.w) X.A (.compStart (.ListComp elt [⟨tg,iter,ifs,0⟩] scope pos) 0 (.ref it) acc {IP with scope:=relabel scope X.env}) (RR acc IP.locals) s₄) E s₃) E s:=by
 refine jM ?_;have hf:H s.heap.objs.size=none:=I.c8.fresh (aq _);obtain⟨W,⟨m0,w0⟩,turn⟩:=h _ hf;generalize e3:({s with heap:=s.heap.push {cls:= .type "list",dict:=none,data:= .seq ([]:List Value).toArray}}:Shared)=s3;have OP:s3.heap.objs.size=s.heap.objs.size+1:=by rw[<- e3];exact fk ..
 have Xc: ∀b o,s.heap.get? b=some o ->s3.heap.get? b=some o:=λb o e=>by rw[<- e3];exact ar _ e
 have I3:Inv X pins σ (upd H s.heap.objs.size (.lst [])) s3:=by rw[<- e3];exact I.laid (t':=s.toks) (λb u e=>ar _ e) (aq _) ⟨cU _,[],0, .nil,aS _ rfl⟩
 have Qz: ∀b∈fp,b<s.heap.objs.size:=λb hb=>by obtain⟨o,e,_⟩:=T.obj 0 _ st b hb;exact aB e
 have AI: ∀b∈fp,kX X pins (upd H s.heap.objs.size (.lst [])) b:=λb hb=>⟨by rw[bC (aX (Qz b hb))];exact(w5 b hb).1,(w5 b hb).2⟩
 refine wpAny_newFunctionEnv S.sJ (by intro y hy;simp at hy) (λh₁ P7 PZ=> ?_) S.kind;have old: ∀b o,s3.heap.get? b=some o ->h₁.get? b=some o:=λb o e=>PZ.extBut b o (aX (aB e)) (ar _ e);have Ic:=yH (t:=s3.toks+([]:List (Str×Value)).length) S I3 rB uh AI (λb hb=>by rw[OP];exact d6 (Qz b hb)) P7 old;have Dk:tn 0 h₁:=T.keep 0 _ _ st λb hb o e=>old b o (Xc b o e);have se: ∀ {H':Hp},(∀b∈fp,H' b=none) -> ∀b∈fp,kX (bV X N' scope cl fp s3 (upd H s.heap.objs.size (.lst []))) [] H' b:=λhn b hb=>by
  refine⟨hn b hb,?_,?_, .inl hb,λx c e=>(w5 b hb).2.2.2.2.1 x c (rB x c e),λp hp=>absurd (show p∈([]:List (Addr×Obj)) from hp) (by simp)⟩
  ·show b≠s3.heap.objs.size;rw[OP];exact aX (d6 (Qz b hb))
  ·exact Ic.ok.Eb b hb
 have loop:codeAny (model X.prog X.w) X.A (.compLoop (.ListComp elt [⟨tg,iter,ifs,0⟩] scope pos) 0 (.ref it) (.ref s.heap.objs.size) (compEnvC scope cl s3.heap.objs.size X.env)) (RR (.ref s.heap.objs.size) s3.heap.objs.size) {s3 with heap:=h₁,toks:=s3.toks+([]:List (Str×Value)).length}:=by
  refine Ek (λn s'=> ∃i ys H',Inv (bV X N' scope cl fp s3 (upd H s.heap.objs.size (.lst []))) [] (lC own.length fr σ) H' s' /\ tn i s'.heap /\ (∀b∈fp,H' b=none) /\ W i n ys H') ?_ m0 ⟨0,[],_,Ic,Dk,λb hb=>(AI b hb).1,w0⟩;rintro n s4 ⟨i,ys,H4,I4,gA,QB,w4⟩;obtain⟨D8,alt⟩:=turn i n ys H4 w4;rcases alt with⟨stop,q⟩ | ⟨go,hsz,step⟩
  ·refine dj (T.done (bV X N' scope cl fp s3 (upd H s.heap.objs.size (.lst []))) rfl rfl rfl lQ i [] s4 _ H4 (λ_ _=>False) I4 (se QB) gA stop) λr s5 ⟨hr,I5⟩=> ?_;subst hr;exact fin s3 _ I3 AI _ _ H4 s5 s5.toks (by rw[OP];exact eI _) I5 q
  ·refine dj (T.item (bV X N' scope cl fp s3 (upd H s.heap.objs.size (.lst []))) rfl rfl rfl lQ i [] s4 _ H4 (λ_ _=>False) I4 (se QB) gA go) λr s5 ⟨u,hr,h5⟩=> ?_;subst hr;refine dj h5 λ_ s6 ⟨x,H6,I6,r6,y6,OS,ZX⟩=> ?_;have I6':=I6.pinned (se ZX) (T.obj _ _ OS);have Mz:=hw _ x H6 _ (step x H6 y6);refine dj (hg s3 _ _ s6 _ H6 x u _ I6' r6 Mz) λ_ s7 ⟨σ7,H7,I7,wk,q7⟩=> ?_;have again: ∀ {H9:Hp} {s9:Shared} {Oi:List V},Inv (bV X N' scope cl fp s3 (upd H s.heap.objs.size (.lst []))) ([]++jr fp s6.heap) σ7 H9 s9 ->(∃m',m'<n /\ W (i+1) m' Oi H9) ->∃m,m<n /\ ∃i ys H',Inv (bV X N' scope cl fp s3 (upd H s.heap.objs.size (.lst []))) [] (lC own.length fr σ) H' s9 /\ tn i s9.heap /\ (∀b∈fp,H' b=none) /\ W i m ys H':=λ{H9 s9 Oi} I9 ⟨m',hm,w9⟩=>by
    refine⟨m',hm,i+1,Oi,H9,(I9.kf).weak ?_ wk.2,T.keep _ _ _ OS λb hb o e=>(I9.pin (b,o) (aT _ (aT _ (fQ hb e)))).1,λb hb=> ?_,w9⟩
    ·exact wk.1.symm
    ·obtain⟨o,e,d⟩:=T.obj _ _ OS b hb;exact(I9.pin (b,o) (aT _ (aT _ (fQ hb e)))).2.1
   refine dj (hc s3 _ _ s7 σ7 H7 _ I7 q7) λok s8 ⟨H8,I8,q8⟩=> ?_;cases ok with
   | false=>simp only[ay,bf] at q8 ⊢;obtain⟨zs,q8⟩:=q8;exact again I8 q8
   | true=>simp only[bN] at q8 ⊢;refine dj (he s3 _ _ s8 σ7 H8 _ I8 q8) λy s9 ⟨yv,H9,I9,ry,zs,hp9,hz9,q9⟩=> ?_;refine dj (ml _ s9 σ7 H9 (.ref s.heap.objs.size) [yv] (.ref s.heap.objs.size) [y] (λv H'=>H'=upd H9 s.heap.objs.size (.lst (zs++ [yv]))) I9 rfl (.cons ry .nil) ⟨_,zs,yv,rfl,rfl,hp9,hz9,rfl⟩) λv Xn ⟨_,RW,I10,_,e10⟩=> ?_;subst e10;exact again I10 q9
 exact codeAny_compStart_list loop (T.self _ 0 _ _ _ Dk loop)
end
section
variable {X:Cx}
theorem Cx.Ok.cellsOf {own N':List Str}{fr:List Nat}{scope:Scope}(ok:X.Ok)(S:fq X own fr N' scope): ∀y∈scope.names,y.2= .free -> ∃c,X.env.cells.lookup y.1=some c:=λy hy hf=>ok.has y.1 (S.free y hy hf)
theorem iC {tg iter elt:Expr}{ifs:List Expr}{pos:Pos}{own N':List Str}{fr:List Nat}{scope:Scope}{wi:TI}{g:TG}{tc:TT}{te:TE}(lQ:X.calm=true)(S:fq X own fr N' scope)(hi:PI X tg iter wi) (hg: ∀cl fp s3 H3,PG (bV X N' scope cl fp s3 H3) tg g) (hw:L7 own.length g) (hc: ∀cl fp s3 H3,N8 (bV X N' scope cl fp s3 H3) ifs tc) (he: ∀cl fp s3 H3,PE (bV X N' scope cl fp s3 H3) elt te) (hs: ∀x,foldedSetIterable iter X.env x=pure x:=by intro _;rfl):PE X (.ListComp elt [⟨tg,iter,ifs,0⟩] scope pos) (Mx wi own.length fr g tc te):=by intro pins s σ H Q I h;obtain⟨cl,HZ,rB,uh⟩:=tH (I.ok.cellsOf S);rw[eval_ListComp];refine Q5 (use:=none) rfl hs HZ S.kind S.loc (dj (hi pins s σ H _ I h) λv s1 h1=>dj h1 λUa s2 h2=> ?_);obtain⟨it,fp,tn,J,H2,e,I2,T,ox,f2,h2⟩:=h2;subst e;refine AW (RR:=λacc C=>compPost (model X.prog X.w) X.A X.xe none (EP X pins σ Q) acc C) lQ S (hg cl fp) hw (hc cl fp) (he cl fp) rB uh I2 T ox f2 h2 ?_;intro s3 H3 I3 f3 D σ' H' s' t hD Ic q;obtain⟨m,hn,_⟩:=Ic.loc;refine⟨m,hn,λh' Ut=>⟨.ref D,H',?_,rfl,q⟩⟩;exact vm I3 rfl (comp_back I3 f3 Ic) Ic.free Ut
end
inductive Dt where
 | dS | bl (b:Bool) | int (i:Int) | str (x:Str) | tup (l:List Dt) | lst (l:List Dt)
mutual
def Rep (K:PySem.W.Frag)(H:Hp):Dt ->V ->Prop
 | .dS,v=>v= .dS
 | .bl b,v=>v= .bl b
 | .int i,v=>v= .int i
 | .str x,v=>v= .str x
 | .tup l,v=> ∃a vs,v= .ref a /\ kD K H a vs /\ gX K H l vs
 | .lst l,v=> ∃a vs,v= .ref a /\ ix K H a vs /\ gX K H l vs
def gX (K:PySem.W.Frag)(H:Hp):List Dt ->List V ->Prop
 | [],vs=>vs= []
 | d::r,vs=> ∃v t,vs=v::t /\ Rep K H d v /\ gX K H r t
end
mutual
def ui:Dt ->Dt ->Bool
 | .dS, .dS=>true
 | .bl a, .bl b=>a==b
 | .bl a, .int b=>(if a then 1 else 0)==b
 | .int a, .bl b=>a==(if b then 1 else 0)
 | .int a, .int b=>a==b
 | .str a, .str b=>a==b
 | .tup a, .tup b=>xa a b
 | .lst a, .lst b=>xa a b
 | _,_=>false
def xa:List Dt ->List Dt ->Bool
 | [],[]=>true
 | x::xs,y::ys=>ui x y && xa xs ys
 | _,_=>false
end
mutual
def zA:Dt ->Nat
 | .tup l=>rD l+1
 | .lst l=>rD l+1
 | _=>0
def rD:List Dt ->Nat
 | []=>0
 | d::r=>max (zA d) (rD r)
end
theorem gX.length {K:PySem.W.Frag}{H:Hp}: ∀ {l:List Dt} {vs:List V},gX K H l vs ->l.length=vs.length
 | [],_,h=>by simp only[gX] at h;subst h;rfl
 | d::r,vs,h=>by simp only[gX] at h;obtain⟨v,t,rfl,_,h⟩:=h;simp[gX.length h]
theorem gX.at {K:PySem.W.Frag}{H:Hp}: ∀ {l:List Dt} {vs:List V} {j:Nat} {d:Dt},gX K H l vs ->l[j]? =some d -> ∃v,vs[j]? =some v /\ Rep K H d v
 | [],_,_,_,_,e=>by simp at e
 | d::r,vs,j,d',h,e=>by
  simp only[gX] at h;obtain⟨v,t,rfl,h1,h⟩:=h;cases j with
  | zero=>simp at e;subst e;exact⟨v,rfl,h1⟩
  | succ j=>simpa using gX.at (j:=j) h (by simpa using e)
theorem pA: ∀ {l:List Dt} {d:Dt},d∈l ->zA d<=rD l
 | [],_,h=>by simp at h
 | x::r,d,h=>by
  simp only[rD];rcases av.mp h with rfl | h
  ·exact Nat.le_max_left _ _
  ·exact a4 (pA h) (Nat.le_max_right _ _)
theorem kR: ∀ (a b:List Dt),xa a b=((List.range (min a.length b.length)).all (λj=>ui (a.getD j .dS) (b.getD j .dS)) && a.length==b.length)
 | [],[]=>rfl
 | [],y::ys=>by simp[xa]
 | x::xs,[]=>by simp[xa]
 | x::xs,y::ys=>by
  have e:min (x::xs).length (y::ys).length=min xs.length ys.length+1:=by simp only[aG];lia
  rw[xa,kR xs ys,e,List.range_succ_eq_map,List.all_cons,List.all_map];have e2:((x::xs).length==(y::ys).length)=(xs.length==ys.length):=by simp
  rw[e2,Bool.and_assoc];rfl
mutual
theorem pz: ∀d:Dt,ui d d=true
 | .dS=>rfl
 | .bl b=>by simp[ui]
 | .int i=>by simp[ui]
 | .str x=>by simp[ui]
 | .tup l=>by simp only[ui];exact qq l
 | .lst l=>by simp only[ui];exact qq l
theorem qq: ∀l:List Dt,xa l l=true
 | []=>rfl
 | x::xs=>by simp only[xa,pz x,qq xs,Bool.and_self]
end
theorem Un.sqT {K:PySem.W.Frag}{H H':Hp}(h: ∀b xs,Rd H b (.tup xs) ->Rd H' b (.tup xs)){a:Addr}{xs:List V}(q:kD K H a xs):kD K H' a xs:=by
 rcases q with q | q
 ·exact .inl (h _ _ q)
 ·exact .inr q
section
variable {X:Cx}{pins:List (Addr×Obj)}{σ:St}{H:Hp}{s:Shared}
mutual
theorem Rep.inj (I:Inv X pins σ H s): ∀ (d e:Dt) (v:V),Rep X.K H d v ->Rep X.K H e v ->d=e
 | .dS,e,v,h1,h2=>by simp only[Rep] at h1;subst h1;cases e<;>simp only[Rep] at h2<;>first | rfl | (cases h2;done) | (obtain⟨_,_,q,_⟩:=h2;cases q)
 | .bl b,e,v,h1,h2=>by simp only[Rep] at h1;subst h1;cases e<;>simp only[Rep] at h2<;>first | (cases h2;rfl) | (cases h2;done) | (obtain⟨_,_,q,_⟩:=h2;cases q)
 | .int b,e,v,h1,h2=>by simp only[Rep] at h1;subst h1;cases e<;>simp only[Rep] at h2<;>first | (cases h2;rfl) | (cases h2;done) | (obtain⟨_,_,q,_⟩:=h2;cases q)
 | .str b,e,v,h1,h2=>by simp only[Rep] at h1;subst h1;cases e<;>simp only[Rep] at h2<;>first | (cases h2;rfl) | (cases h2;done) | (obtain⟨_,_,q,_⟩:=h2;cases q)
 | .tup l,e,v,h1,h2=>by
  simp only[Rep] at h1;obtain⟨a,vs,rfl,hs,hr⟩:=h1;cases e<;>simp only[Rep] at h2<;>first | (cases h2;done) | skip
  ·obtain⟨a',Ss,q,gV,nM⟩:=h2;cases q;have:=I.p8 hs gV;subst this;rw[gX.inj I l _ vs hr nM]
  ·obtain⟨a',Ss,q,gV,nM⟩:=h2;cases q;obtain⟨its,_,ht,_⟩:=I.tuple hs;obtain⟨its',_,hl,_⟩:=I.list gV;exact absurd rfl (SeqAt.ne_of_list_tuple (s:=s) hl.isList ht)
 | .lst l,e,v,h1,h2=>by
  simp only[Rep] at h1;obtain⟨a,vs,rfl,hs,hr⟩:=h1;cases e<;>simp only[Rep] at h2<;>first | (cases h2;done) | skip
  ·obtain⟨a',Ss,q,gV,nM⟩:=h2;cases q;obtain⟨its,_,ht,_⟩:=I.tuple gV;obtain⟨its',_,hl,_⟩:=I.list hs;exact absurd rfl (SeqAt.ne_of_list_tuple (s:=s) hl.isList ht)
  ·obtain⟨a',Ss,q,gV,nM⟩:=h2;cases q;have:=I.list_inj hs gV;subst this;rw[gX.inj I l _ vs hr nM]
theorem gX.inj (I:Inv X pins σ H s): ∀ (l m:List Dt) (vs:List V),gX X.K H l vs ->gX X.K H m vs ->l=m
 | [],m,vs,h1,h2=>by
  simp only[gX] at h1;subst h1;cases m with
  | nil=>rfl
  | cons _ _=>simp only[gX] at h2;obtain⟨_,_,q,_⟩:=h2;cases q
 | d ::r,m,vs,h1,h2=>by
  simp only[gX] at h1;obtain⟨v,t,rfl,h1,h3⟩:=h1;cases m with
  | nil=>simp only[gX] at h2;cases h2
  | cons d' r'=>simp only[gX] at h2;obtain⟨v',t',q,h4,h5⟩:=h2;cases q;rw[Rep.inj I d d' v h1 h4,gX.inj I r r' t h3 h5]
end
theorem gX.items {l:List Dt}{vs:List V}{its:List Value}(h:gX X.K H l vs)(r:Vals vs its){j:Nat}(hj:j<its.length):Rep X.K H (l.getD j .dS) (vs.getD j .dS) /\ RelV (vs.getD j .dS) its[j] /\ l.getD j .dS∈l:=by
 have e1:=h.length;have e2:=r.length;have hl:j<l.length:=by lia
 obtain⟨v,hv,hr⟩:=h.at (ae hl);obtain⟨u,hu,ru⟩:=r.get hv;have e3:l.getD j .dS=l[j]:=by simp[List.getD,hl]
 have e4:vs.getD j .dS=v:=by simp[List.getD,hv]
 rw[ae hj] at hu;cases hu;rw[e3,e4];exact⟨hr,ru,bW hl⟩
theorem xb (I:Inv X pins σ H s): ∀ (n:Nat) (A:Around) (d e:Dt) (x y:V) (u v:Value),zA d<=n ->A.units+n<cLine ->Rep X.K H d x ->Rep X.K H e y ->RelV x u ->RelV y v ->SeqAt.EqAt A s u v (ui d e)
 | n, A, .tup l, .tup m,x,y,u,v,hn,hu,h1,h2,r1,r2=>by
  have Qv:=h1;have JD:=h2;simp only[Rep] at h1 h2;obtain⟨a,vs,rfl,hs,hr⟩:=h1;obtain⟨b,ws,rfl,gV,nM⟩:=h2;cases r1;cases r2;by_cases Ia:a=b
  ·subst Ia;rw[Rep.inj I _ _ _ Qv JD,pz];exact JK _
  ·obtain⟨its,rv,ht,_⟩:=I.tuple hs;obtain⟨its',Aa,pd,_⟩:=I.tuple gV;refine SeqAt.EqAt.of_refs Ia ?_;simp only[ui];simp only[zA] at hn;match n,hn with
   | n +1,hn=>
    have z:=SeqAt.RcAt.tuples (A:=A) (s:=s) (e:=λj=>ui (l.getD j .dS) (m.getD j .dS)) ht pd (by lia) λj g1 g2=>by
     obtain⟨q1,q2,q3⟩:=hr.items rv (j:=j) (by simpa using g1);obtain⟨q4,q5,q6⟩:=nM.items Aa (j:=j) (by simpa using g2);refine xb I n A.in1 _ _ _ _ _ _ ?_ ?_ q1 q4 (by simpa using q2) (by simpa using q5)
     ·have:=pA q3;lia
     ·show A.units+1+n<cLine;lia
    rw[kR,hr.length,nM.length,rv.length,Aa.length];simpa using z
 | n, A, .lst l, .lst m,x,y,u,v,hn,hu,h1,h2,r1,r2=>by
  have Qv:=h1;have JD:=h2;simp only[Rep] at h1 h2;obtain⟨a,vs,rfl,hs,hr⟩:=h1;obtain⟨b,ws,rfl,gV,nM⟩:=h2;cases r1;cases r2;by_cases Ia:a=b
  ·subst Ia;rw[Rep.inj I _ _ _ Qv JD,pz];exact JK _
  ·obtain⟨its,rv,ht,_⟩:=I.list hs;obtain⟨its',Aa,pd,_⟩:=I.list gV;refine SeqAt.EqAt.of_refs Ia ?_;simp only[ui];simp only[zA] at hn;by_cases hl:its.length=its'.length
   ·match n,hn with
    | n +1,hn=>
     have z:=SeqAt.RcAt.lists (A:=A) (s:=s) (e:=λj=>ui (l.getD j .dS) (m.getD j .dS)) ht.isList pd.isList (by simpa using hl) (by lia) λj g1 g2=>by
      obtain⟨q1,q2,q3⟩:=hr.items rv (j:=j) (by simpa using g1);obtain⟨q4,q5,q6⟩:=nM.items Aa (j:=j) (by simpa using g2);refine xb I n A.in1 _ _ _ _ _ _ ?_ ?_ q1 q4 (by simpa using q2) (by simpa using q5)
      ·have:=pA q3;lia
      ·show A.units+1+n<cLine;lia
     rw[kR,hr.length,nM.length,rv.length,Aa.length,hl];simpa [hl] using z
   ·have z:=RM (A:=A) (s:=s) ht.isList pd.isList (by simpa using hl) (by lia);have hf:(its.length==its'.length)=false:=by simpa using hl
    rw[kR,hr.length,nM.length,rv.length,Aa.length,hf,C8];exact z
 | n,A, .tup l, .lst m,x,y,u,v,hn,hu,h1,h2,r1,r2=>by simp only[Rep] at h1 h2;obtain⟨a,vs,rfl,hs,hr⟩:=h1;obtain⟨b,ws,rfl,gV,nM⟩:=h2;cases r1;cases r2;obtain⟨its,rv,ht,_⟩:=I.tuple hs;obtain⟨its',Aa,pd,_⟩:=I.list gV;exact SeqAt.EqAt.tuple_list ht pd.isList (by lia)
 | n,A, .lst l, .tup m,x,y,u,v,hn,hu,h1,h2,r1,r2=>by simp only[Rep] at h1 h2;obtain⟨a,vs,rfl,hs,hr⟩:=h1;obtain⟨b,ws,rfl,gV,nM⟩:=h2;cases r1;cases r2;obtain⟨its,rv,ht,_⟩:=I.list hs;obtain⟨its',Aa,pd,_⟩:=I.tuple gV;exact SeqAt.EqAt.list_tuple ht.isList pd (by lia)
 | n,A, .tup l, .dS,x,y,u,v,hn,hu,h1,h2,r1,r2=>by simp only[Rep] at h1 h2;obtain⟨a,vs,rfl,hs,hr⟩:=h1;subst h2;cases r1;cases r2;obtain⟨its,rv,ht,_⟩:=I.tuple hs;exact SeqAt.EqAt.tuple_none ht (by lia)
 | n,A, .tup l, .bl b,x,y,u,v,hn,hu,h1,h2,r1,r2=>by simp only[Rep] at h1 h2;obtain⟨a,vs,rfl,hs,hr⟩:=h1;subst h2;cases r1;cases r2;obtain⟨its,rv,ht,_⟩:=I.tuple hs;exact SeqAt.EqAt.tuple_bool b ht (by lia)
 | n,A, .tup l, .int b,x,y,u,v,hn,hu,h1,h2,r1,r2=>by simp only[Rep] at h1 h2;obtain⟨a,vs,rfl,hs,hr⟩:=h1;subst h2;cases r1;obtain⟨t,rfl⟩:=r2;obtain⟨its,rv,ht,_⟩:=I.tuple hs;exact SeqAt.EqAt.tuple_int b t ht (by lia)
 | n,A, .tup l, .str b,x,y,u,v,hn,hu,h1,h2,r1,r2=>by simp only[Rep] at h1 h2;obtain⟨a,vs,rfl,hs,hr⟩:=h1;subst h2;cases r1;obtain⟨t,rfl⟩:=r2;obtain⟨its,rv,ht,_⟩:=I.tuple hs;exact SeqAt.EqAt.tuple_str b t ht (by lia)
 | n,A, .lst l, .dS,x,y,u,v,hn,hu,h1,h2,r1,r2=>by simp only[Rep] at h1 h2;obtain⟨a,vs,rfl,hs,hr⟩:=h1;subst h2;cases r1;cases r2;obtain⟨its,rv,ht,_⟩:=I.list hs;exact SeqAt.EqAt.list_none ht.isList (by lia)
 | n,A, .lst l, .bl b,x,y,u,v,hn,hu,h1,h2,r1,r2=>by simp only[Rep] at h1 h2;obtain⟨a,vs,rfl,hs,hr⟩:=h1;subst h2;cases r1;cases r2;obtain⟨its,rv,ht,_⟩:=I.list hs;exact SeqAt.EqAt.list_bool b ht.isList (by lia)
 | n,A, .lst l, .int b,x,y,u,v,hn,hu,h1,h2,r1,r2=>by simp only[Rep] at h1 h2;obtain⟨a,vs,rfl,hs,hr⟩:=h1;subst h2;cases r1;obtain⟨t,rfl⟩:=r2;obtain⟨its,rv,ht,_⟩:=I.list hs;exact SeqAt.EqAt.list_int b t ht.isList (by lia)
 | n,A, .lst l, .str b,x,y,u,v,hn,hu,h1,h2,r1,r2=>by simp only[Rep] at h1 h2;obtain⟨a,vs,rfl,hs,hr⟩:=h1;subst h2;cases r1;obtain⟨t,rfl⟩:=r2;obtain⟨its,rv,ht,_⟩:=I.list hs;exact SeqAt.EqAt.list_str b t ht.isList (by lia)
 | n,A, .dS, .tup l,x,y,u,v,hn,hu,h1,h2,r1,r2=>by simp only[Rep] at h1 h2;obtain⟨a,vs,rfl,hs,hr⟩:=h2;subst h1;cases r2;cases r1;obtain⟨its,rv,ht,_⟩:=I.tuple hs;exact SeqAt.EqAt.none_tuple ht (by lia)
 | n,A, .bl b, .tup l,x,y,u,v,hn,hu,h1,h2,r1,r2=>by simp only[Rep] at h1 h2;obtain⟨a,vs,rfl,hs,hr⟩:=h2;subst h1;cases r2;cases r1;obtain⟨its,rv,ht,_⟩:=I.tuple hs;exact SeqAt.EqAt.bool_tuple b ht (by lia)
 | n,A, .int b, .tup l,x,y,u,v,hn,hu,h1,h2,r1,r2=>by simp only[Rep] at h1 h2;obtain⟨a,vs,rfl,hs,hr⟩:=h2;subst h1;cases r2;obtain⟨t,rfl⟩:=r1;obtain⟨its,rv,ht,_⟩:=I.tuple hs;exact SeqAt.EqAt.int_tuple b t ht (by lia)
 | n,A, .str b, .tup l,x,y,u,v,hn,hu,h1,h2,r1,r2=>by simp only[Rep] at h1 h2;obtain⟨a,vs,rfl,hs,hr⟩:=h2;subst h1;cases r2;obtain⟨t,rfl⟩:=r1;obtain⟨its,rv,ht,_⟩:=I.tuple hs;exact SeqAt.EqAt.str_tuple b t ht (by lia)
 | n,A, .dS, .lst l,x,y,u,v,hn,hu,h1,h2,r1,r2=>by simp only[Rep] at h1 h2;obtain⟨a,vs,rfl,hs,hr⟩:=h2;subst h1;cases r2;cases r1;obtain⟨its,rv,ht,_⟩:=I.list hs;exact SeqAt.EqAt.none_list ht.isList (by lia)
 | n,A, .bl b, .lst l,x,y,u,v,hn,hu,h1,h2,r1,r2=>by simp only[Rep] at h1 h2;obtain⟨a,vs,rfl,hs,hr⟩:=h2;subst h1;cases r2;cases r1;obtain⟨its,rv,ht,_⟩:=I.list hs;exact SeqAt.EqAt.bool_list b ht.isList (by lia)
 | n,A, .int b, .lst l,x,y,u,v,hn,hu,h1,h2,r1,r2=>by simp only[Rep] at h1 h2;obtain⟨a,vs,rfl,hs,hr⟩:=h2;subst h1;cases r2;obtain⟨t,rfl⟩:=r1;obtain⟨its,rv,ht,_⟩:=I.list hs;exact SeqAt.EqAt.int_list b t ht.isList (by lia)
 | n,A, .str b, .lst l,x,y,u,v,hn,hu,h1,h2,r1,r2=>by simp only[Rep] at h1 h2;obtain⟨a,vs,rfl,hs,hr⟩:=h2;subst h1;cases r2;obtain⟨t,rfl⟩:=r1;obtain⟨its,rv,ht,_⟩:=I.list hs;exact SeqAt.EqAt.str_list b t ht.isList (by lia)
 | n,A, .dS, .dS,x,y,u,v,hn,hu,h1,h2,r1,r2=>by simp only[Rep] at h1 h2;subst h1 h2;exact gf r1 r2 rfl rfl
 | n,A, .dS, .bl b,x,y,u,v,hn,hu,h1,h2,r1,r2=>by simp only[Rep] at h1 h2;subst h1 h2;exact gf r1 r2 rfl rfl
 | n,A, .dS, .int b,x,y,u,v,hn,hu,h1,h2,r1,r2=>by simp only[Rep] at h1 h2;subst h1 h2;exact gf r1 r2 rfl rfl
 | n,A, .dS, .str b,x,y,u,v,hn,hu,h1,h2,r1,r2=>by simp only[Rep] at h1 h2;subst h1 h2;exact gf r1 r2 rfl rfl
 | n,A, .bl a, .dS,x,y,u,v,hn,hu,h1,h2,r1,r2=>by simp only[Rep] at h1 h2;subst h1 h2;exact gf r1 r2 rfl rfl
 | n,A, .bl a, .bl b,x,y,u,v,hn,hu,h1,h2,r1,r2=>by simp only[Rep] at h1 h2;subst h1 h2;exact gf r1 r2 rfl rfl
 | n,A, .bl a, .int b,x,y,u,v,hn,hu,h1,h2,r1,r2=>by simp only[Rep] at h1 h2;subst h1 h2;exact gf r1 r2 rfl rfl
 | n,A, .bl a, .str b,x,y,u,v,hn,hu,h1,h2,r1,r2=>by simp only[Rep] at h1 h2;subst h1 h2;exact gf r1 r2 rfl rfl
 | n,A, .int a, .dS,x,y,u,v,hn,hu,h1,h2,r1,r2=>by simp only[Rep] at h1 h2;subst h1 h2;exact gf r1 r2 rfl rfl
 | n,A, .int a, .bl b,x,y,u,v,hn,hu,h1,h2,r1,r2=>by simp only[Rep] at h1 h2;subst h1 h2;exact gf r1 r2 rfl rfl
 | n,A, .int a, .int b,x,y,u,v,hn,hu,h1,h2,r1,r2=>by simp only[Rep] at h1 h2;subst h1 h2;exact gf r1 r2 rfl rfl
 | n,A, .int a, .str b,x,y,u,v,hn,hu,h1,h2,r1,r2=>by simp only[Rep] at h1 h2;subst h1 h2;exact gf r1 r2 rfl rfl
 | n,A, .str a, .dS,x,y,u,v,hn,hu,h1,h2,r1,r2=>by simp only[Rep] at h1 h2;subst h1 h2;exact gf r1 r2 rfl rfl
 | n,A, .str a, .bl b,x,y,u,v,hn,hu,h1,h2,r1,r2=>by simp only[Rep] at h1 h2;subst h1 h2;exact gf r1 r2 rfl rfl
 | n,A, .str a, .int b,x,y,u,v,hn,hu,h1,h2,r1,r2=>by simp only[Rep] at h1 h2;subst h1 h2;exact gf r1 r2 rfl rfl
 | n,A, .str a, .str b,x,y,u,v,hn,hu,h1,h2,r1,r2=>by simp only[Rep] at h1 h2;subst h1 h2;exact gf r1 r2 rfl rfl
end
end L2
namespace L2
open PySem PySem.Spec PyProof.Rows
def aap:Dt ->Bool
 | .tup _=>true
 | .lst _=>true
 | _=>false
def rG:Dt ->Dt ->Bool
 | .tup _, .tup _=>true
 | .lst _, .lst _=>true
 | _,_=>false
section
variable {X:Cx}
theorem Xr {pins:List (Addr×Obj)}{σ:St}{H:Hp}{s:Shared}(I:Inv X pins σ H s){A:Around}{d e:Dt}{x y:V}{u v:Value}(hs:rG d e=true)(hn:zA d<=50)(hu:A.units+60<cLine)(h1:Rep X.K H d x)(h2:Rep X.K H e y)(r1:RelV x u)(r2:RelV y v): SeqAt.RcAt A s u v (ui d e) /\ SeqAt.RcNeAt A s u v (!ui d e):=by
 cases d with
 | tup l=>
  cases e with
  | tup m=>
   simp only[Rep] at h1 h2;obtain⟨a,vs,rfl,hs,hr⟩:=h1;obtain⟨b,ws,rfl,gV,nM⟩:=h2;cases r1;cases r2;obtain⟨its,rv,ht,_⟩:=I.tuple hs;obtain⟨its',Aa,pd,_⟩:=I.tuple gV;simp only[ui];simp only[zA] at hn;have he: ∀j (g1:j<its.toArray.size) (g2:j<its'.toArray.size),SeqAt.EqAt A.in1 s its.toArray[j] its'.toArray[j] ((λj=>ui (l.getD j .dS) (m.getD j .dS)) j):=λj g1 g2=>by
    obtain⟨q1,q2,q3⟩:=hr.items rv (j:=j) (by simpa using g1);obtain⟨q4,q5,q6⟩:=nM.items Aa (j:=j) (by simpa using g2);refine xb I 50 A.in1 _ _ _ _ _ _ ?_ ?_ q1 q4 (by simpa using q2) (by simpa using q5)
    ·have:=pA q3;lia
    ·show A.units+1+50<cLine;lia
   have z:=SeqAt.RcAt.tuples (A:=A) (s:=s) ht pd (by lia) he;have z':=SeqAt.RcNeAt.tuples (A:=A) (s:=s) ht pd (by lia) he;rw[kR,hr.length,nM.length,rv.length,Aa.length];exact⟨by simpa using z,by simpa using z'⟩
  | _=>cases hs
 | lst l =>
  cases e with
  | lst m=>
   simp only[Rep] at h1 h2;obtain⟨a,vs,rfl,hs,hr⟩:=h1;obtain⟨b,ws,rfl,gV,nM⟩:=h2;cases r1;cases r2;obtain⟨its,rv,ht,_⟩:=I.list hs;obtain⟨its',Aa,pd,_⟩:=I.list gV;simp only[ui];simp only[zA] at hn;by_cases hl:its.length=its'.length
   ·have he: ∀j (g1:j<its.toArray.size) (g2:j<its'.toArray.size),SeqAt.EqAt A.in1 s its.toArray[j] its'.toArray[j] ((λj=>ui (l.getD j .dS) (m.getD j .dS)) j):=λj g1 g2=>by
     obtain⟨q1,q2,q3⟩:=hr.items rv (j:=j) (by simpa using g1);obtain⟨q4,q5,q6⟩:=nM.items Aa (j:=j) (by simpa using g2);refine xb I 50 A.in1 _ _ _ _ _ _ ?_ ?_ q1 q4 (by simpa using q2) (by simpa using q5)
     ·have:=pA q3;lia
     ·show A.units+1+50<cLine;lia
    have z:=SeqAt.RcAt.lists (A:=A) (s:=s) ht.isList pd.isList (by simpa using hl) (by lia) he;have z':=SeqAt.RcNeAt.lists (A:=A) (s:=s) ht.isList pd.isList (by simpa using hl) (by lia) he;rw[kR,hr.length,nM.length,rv.length,Aa.length,hl];exact⟨by simpa [hl] using z,by simpa [hl] using z'⟩
   ·have z:=RM (A:=A) (s:=s) ht.isList pd.isList (by simpa using hl) (by lia);have z':=SeqAt.RcNeAt.lists_lengths (A:=A) (s:=s) ht.isList pd.isList (by simpa using hl) (by lia);have hf:(its.length==its'.length)=false:=by simpa using hl
    rw[kR,hr.length,nM.length,rv.length,Aa.length,hf,C8];exact⟨z,z'⟩
  | _=>cases hs
 | _=>cases hs
def Tn (K:PySem.W.Frag):R2:=λx y H Q=> ∃d e,rG d e=true /\ zA d<=50 /\ Rep K H d x /\ Rep K H e y /\ Q (.bl (ui d e)) H
theorem G1 (hu:X.A.units+60<cLine):tM X (compareOp .Eq) (Tn X.K):=by intro pins s σ H x y v u Q I r1 r2 h;obtain⟨d,e,h0,hn,h1,h2,q⟩:=h;exact(Xr I h0 hn hu h1 h2 r1 r2).1 X.prog X.w X.xe _ ⟨.bl _,H,I,rfl,q⟩
theorem gJ.u60 {k:Nat}{A:Around}(r:gJ k A):A.units+60<cLine:=by have:=r.units;lia
theorem oZ: ∀ {ns:List Int} {us:List Value},Vals (ns.map V.int) us ->IntsAre us ns
 | [],_,h=>by cases h;exact .nil
 | n ::r,_,h=>by
  cases h with
  | cons h1 h2=>obtain⟨t,rfl⟩:=h1;exact .cons n t (oZ h2)
theorem Ce: ∀ {ks:List Int} {vs:List Value},vs.length=ks.length ->(∀ (j:Nat) (v:Value),vs[j]? =some v -> ∃ (k:Int) (t:Tok),ks[j]? =some k /\ v= .int k t) ->IntsAre vs ks
 | [],[],_,_=> .nil
 | [],_::_,h,_=>by simp at h
 | _::_,[],h,_=>by simp at h
 | k::ks,v::vs,h,hv=>by obtain⟨k',t,e1,e2⟩:=hv 0 v rfl;simp at e1;subst e1 e2;exact .cons k t (Ce (by simpa using h) λj u e=>by simpa using hv (j+1) u (by simpa using e))
def yg:List V ->Hp ->VK ->Prop:=λxs H Q=> ∃ (d:Addr) (kvs:List (Key×V)) (ks:List Int),xs= [.ref d] /\ H d=some (.dK kvs) /\ kvs.map (·.1)=ks.map Sum.inl /\ ks.length<=sizeLine /\ ∀ (p:Addr) (ns:List Int),H p=none ->ns.Perm ks ->ns.Pairwise (· <= ·) ->Q (.ref p) (upd H p (.lst (ns.map V.int)))
theorem fY (hc:X.calm=true):i0 X (.builtin "sorted") yg:=by
 intro pins s σ H xs us Q I r h;obtain⟨d,kvs,ks,rfl,hd,hk,U6,q⟩:=h;obtain⟨u,rfl,ru⟩:=vals1 r;cases ru;have hh:X.A.in1.handled=none:=I.ok.hd hc;obtain⟨hz,lo,vs,rel,dd⟩:=yW I.c8 hd;obtain⟨ep,Cn⟩:=dd.dictAt;have hlen:vs.length=ks.length:=by have e1:=congrArg List.length hk;rw[aa,aa] at e1;rw[<- rel.length,e1]
 refine Q2 kind_sorted plain_sorted entry_sorted (args_sorted1 _) ?_;unfold Builtin.«sorted»;refine ao (m:=checkCount "sorted" 1 1 _) (aM ?_);refine ao (PySem.W.kdu_collect (A:=X.A.in1) (PySem.W.kdl_dict (knd:=cu X.prog X.w) (kvs:=vs) (ep:=ep) lo) hh Cn (by rw[<- rel.length];exact hz) λh' tk acc HP D8=> ?_);have hl:acc.toList.length=ks.length:=by rw[cT,D8.1,hlen]
 have hI:IntsAre acc.toList ks:=Ce hl λj v e=>by
  obtain⟨k,x,hx,UK⟩:=D8.2 j v (by rw[<- gk];exact e);have UI:(kvs.map (·.1))[j]? =some k:=by
   have:(vs.map (·.1))[j]? =some k:=by rw[aA,hx];rfl
   rw[<- rel.keys] at this;exact this
  rw[hk,aA] at UI;cases e2:ks[j]? with
  | none=>rw[e2] at UI;cases UI
  | some n=>
   rw[e2] at UI;cases UI;have YM:oX (Sum.inl n) v=true:=UK;rcases dD YM with⟨i,t,e3,e4⟩ | ⟨x,t,e3,e4⟩
   ·cases e3;exact⟨n,t,rfl,e4⟩
   ·cases e3
 refine ao (Q4 ?_ (by rw[hl];exact U6));have ho:(h'.push (seqObj "list" acc.toList.toArray 0)).get? h'.objs.size=some (seqObj "list" acc.toList.toArray 0):=aS _ rfl;refine ao (d9 (qz slot_list_sort ⟨_,ho,rfl⟩ entry_list_sort (TS.uD (s:= {s with heap:=h'.push (seqObj "list" acc.toList.toArray 0),toks:=tk}) ho hI (by rw[hl];exact U6) λout KU a1 a2 a3=>⟨_,rfl,?_⟩) (args_list_sort _)));obtain⟨ee,Qp⟩:=sortedHeap_at (out:=out) ho;have I':Inv X pins σ H {s with heap:=h',toks:=tk}:=I.kept (t':=tk) HP;refine aM ⟨_,rfl, .ref h'.objs.size,_,I'.laid (t':=tk) (o:= .lst (KU.map V.int)) (λb o hb=> ?_) (aq _) ?_,rfl,q _ KU (I'.c8.fresh (aq _)) a2 a3⟩
 ·have f6:b<h'.objs.size:=aB hb;rw[sortedHeap_old (aX f6) (by rw[fk];exact d6 f6)];exact ar _ hb
 ·refine⟨?_,out.toList,ee,l6 a1,by simpa using Qp⟩;rw[aa,a2.length_eq];exact U6
end
theorem fq.of {X:Cx}{sc scope:Scope}{N own N':List Str}{fr:List Nat}(hsc:X.env.scope=sc)(hN:X.N=N)(kind:scope.kind= .function)(names:N'=own++fr.filterMap (λj=>N[j]?))(len:N'.length=own.length+fr.length)(nd:N'.Nodup) (sJ: ∀y∈scope.names,y.2≠ .cell) (loc: ∀y∈scope.names,y.2= .local ->scope.names.lookup y.1=some .local) (RK: ∀x∈fr.filterMap (λj=>N[j]?),scope.names.lookup x=some .free) (free: ∀y∈scope.names,y.2= .free ->sc.names.lookup y.1=some .cell \/ sc.names.lookup y.1=some .free):fq X own fr N' scope:=by subst hN hsc;exact⟨kind,names,len,nd,sJ,loc,RK,free⟩
structure pZ (K:PySem.W.Frag)(mg:Str ->Option Value)(x:Str)(ps:List Str)(st:Stmt)(f:Addr)(fd:FuncData):Prop where
 at_:mg x=some (.ref f)
 fn:E5 K x x st f fd
 bd:Binds K fd ps []
section
variable {X:Cx}{k:Nat}{f:Addr}{fd:FuncData}{ps:List Str}{sp:Sp}{x:Str}{st:Stmt}{p pos:Pos}{e:Expr}{es:List Expr}{t:TA}
theorem aY (C:pZ X.K X.mg x ps st f fd)(F:eh X.prog X.w X.K X.mg X.base kJ k f fd ps sp)(hr:gJ k X.A)(hg:Gl X x) (ha:PA X (e::es) t) (HW:(x==("__debug__" :Str))=false:=by decide) (he:starEach (e::es) X.env=(false,eval e X.env)::starEach es X.env:=by rfl) (uW:(backTo pos (starEach es X.env)).any (·.1)=false:=by rfl): PE X (.Call (.Name x p) (e::es) [] pos) (Bo sp [] E0 t):=KC F hr hg C.at_ C.fn.kp C.bd .nil MU ha HW he uW
end
theorem b8 {H:Hp}{p:Addr}{o:HO}(h:H p=none):fE H (upd H p o):=λb u e=>by rw[bC (dh e h)];exact e
def W5 (d:Addr)(H H':Hp):Prop:= ∀b o,b≠d ->H b=some o ->H' b=some o
theorem W5.trans {d:Addr}{H H1 H2:Hp}(a:W5 d H H1)(b:W5 d H1 H2):W5 d H H2:=λc o n h=>b c o n (a c o n h)
def bo (H H':Hp):Prop:= ∀b xs,Rd H b (.tup xs) ->Rd H' b (.tup xs)
theorem bo.refl (H:Hp):bo H H:=λ_ _ h=>h
theorem bo.trans {H H1 H2:Hp}(a:bo H H1)(b:bo H1 H2):bo H H2:=λc o h=>b c o (a c o h)
theorem fE.ts {H H':Hp}(a:fE H H'):bo H H':=λb xs h=>by
 rcases h with h | ⟨o,h⟩
 ·exact .inl (a _ _ h)
 ·exact .inr ⟨o,a _ _ h⟩
inductive Vr (K:PySem.W.Frag)(H:Hp):V ->Value ->Prop where
 | of {x:V} {t:Value} (h:qv K H x t):Vr K H x t
 | tup {a:Addr} {xs:List V} (h:kD K H a xs):Vr K H (.ref a) (.type "tuple")
 | lst {a:Addr} {xs:List V} (h:ix K H a xs):Vr K H (.ref a) (.type "list")
section
variable {X:Cx}
def Tj (K:PySem.W.Frag):List V ->Hp ->VK ->Prop:=λxs H Q=> ∃x T t b,xs= [x, .ty T] /\ Vr K H x t /\ PySem.W.kitOne K t (.type T)=some b /\ Q (.bl b) H
theorem ku:i0 X (.builtin "isinstance") (Tj X.K):=by
 intro pins s σ H xs us Q I r h;obtain⟨x,T,t,b,rfl,ty,e,q⟩:=h;obtain⟨u,w',rfl,ru,wg⟩:=vals2 r;cases wg;cases ty with
 | of ty=>exact DM I ru ty e λtk=>⟨.bl b,H,I.tok tk,rfl,q⟩
 | tup hs=>cases ru;obtain⟨its,rv,⟨o,h1,h2,_⟩,_⟩:=I.tuple hs;exact cD RN I.rh ⟨o,h1,h2⟩ e (λz=>nomatch z) λtk=>⟨.bl b,H,I.tok tk,rfl,q⟩
 | lst hs=>cases ru;obtain⟨its,rv,ht,_⟩:=I.list hs;obtain⟨o,h1,h2,_⟩:=ht.isList;exact cD vD I.rh ⟨o,h1,h2⟩ e (λz=>nomatch z) λtk=>⟨.bl b,H,I.tok tk,rfl,q⟩
end
end L2
namespace L2
open PySem PyProof.Rows PyProof.V PySem.Calls PySem.Spec
def ExcAt (a C:Addr)(h:Heap):Prop:= ∃o,h.get? a=some o /\ o.cls= .ref C
end L2
namespace WL
open PySem L2
inductive W where
 | v (x:V) | tup (l:List W)
inductive MO where
 | lst (l:List W) | dK (kvs:List (Key×W)) | ins (C dx:Addr) (fs:List (Str×W)) | exc (C:Addr) | fz (o:Obj) (ks:List (Key×V)) (kvs:List (Key×W))
abbrev Mp:=Addr ->Option MO
abbrev dB:=List (Option W)
abbrev WK:=W ->Mp ->Prop
abbrev WE:=dB ->Mp ->WK ->Prop
abbrev WT:=dB ->Mp ->(Bool ->Mp ->Prop) ->Prop
abbrev WA:=dB ->Mp ->(List W ->Mp ->Prop) ->Prop
abbrev WG:=W ->dB ->Mp ->(dB ->Mp ->Prop) ->Prop
abbrev LR:=List W ->dB ->Mp ->(dB ->Mp ->Prop) ->Prop
abbrev zB:=W ->W ->Mp ->WK ->Prop
abbrev C4:=List W ->Mp ->WK ->Prop
abbrev WI:=dB ->Mp ->(List W ->(Mp ->Prop) ->Mp ->Prop) ->Prop
structure kA where
 nx:dB ->Mp ->Prop
 rt:WK
 bk:dB ->Mp ->Prop:=λ_ _=>False
 ct:dB ->Mp ->Prop:=λ_ _=>False
abbrev WS:=kA ->dB ->Mp ->Prop
@[reducible] def wi (i:Int):W:= .v (.int i)
@[reducible] def wb (b:Bool):W:= .v (.bl b)
@[reducible] def wr (a:Addr):W:= .v (.ref a)
@[reducible] def ws (x:Str):W:= .v (.str x)
@[reducible] def wn:W:= .v .dS
def um (M:Mp)(a:Addr)(o:MO):Mp:=λb=>if b=a then some o else M b
theorem um_same {M:Mp}{a:Addr}{o:MO}:um M a o a=some o:=by unfold um;rw[ak rfl]
theorem aJ {M:Mp}{a b:Addr}{o:MO}(h:b≠a):um M a o b=M b:=by unfold um;rw[aj h]
theorem um_um {M:Mp}{a:Addr}{o u:MO}:um (um M a o) a u=um M a u:=by funext b;unfold um;split<;>rfl
theorem dG {M:Mp}{a b:Addr}{o:MO}(h:M a=some o)(h':M b=none):a≠b:=by intro e;subst e;rw[h] at h';cases h'
def Sm (M M':Mp):Prop:= ∀b o,M b=some o ->M' b=some o
theorem Sm.refl (M:Mp):Sm M M:=λ_ _ h=>h
theorem Sm.trans {M M1 M2:Mp}(a:Sm M M1)(b:Sm M1 M2):Sm M M2:=λc o h=>b c o (a c o h)
theorem c4 {M:Mp}{p:Addr}{o:MO}(h:M p=none):Sm M (um M p o):=λb u e=>by rw[aJ (dG e h)];exact e
theorem Sm.um {M M':Mp}{p:Addr}{o:MO}(a:Sm M M')(h:M p=none):Sm M (um M' p o):=λb u e=>by rw[aJ (dG e h)];exact a b u e
mutual
def WR (K:PySem.W.Frag)(H:Hp):W ->V ->Prop
 | .v x,v=>v=x
 | .tup l,v=> ∃a vs,v= .ref a /\ kD K H a vs /\ cF K H l vs
def cF (K:PySem.W.Frag)(H:Hp):List W ->List V ->Prop
 | [],vs=>vs= []
 | x::r,vs=> ∃v t,vs=v::t /\ WR K H x v /\ cF K H r t
end
mutual
theorem WR.ts {K:PySem.W.Frag}{H H':Hp}(a:bo H H'): ∀ (x:W) (v:V),WR K H x v ->WR K H' x v
 | .v x,v,h=>by simp only[WR] at h ⊢;exact h
 | .tup l,v,h=>by simp only[WR] at h ⊢;obtain⟨p,vs,e,hs,hr⟩:=h;exact⟨p,vs,e,Un.sqT a hs,cF.ts a l vs hr⟩
theorem cF.ts {K:PySem.W.Frag}{H H':Hp}(a:bo H H'): ∀ (l:List W) (vs:List V),cF K H l vs ->cF K H' l vs
 | [],vs,h=>by simp only[cF] at h ⊢;exact h
 | x::r,vs,h=>by simp only[cF] at h ⊢;obtain⟨v,t,e,h1,h2⟩:=h;exact⟨v,t,e,WR.ts a x v h1,cF.ts a r t h2⟩
end
theorem cF.length {K:PySem.W.Frag}{H:Hp}: ∀ {l:List W} {vs:List V},cF K H l vs ->vs.length=l.length
 | [],_,h=>by simp only[cF] at h;subst h;rfl
 | d::r,vs,h=>by simp only[cF] at h;obtain⟨v,t,rfl,_,h⟩:=h;simp[cF.length h]
theorem cF.at {K:PySem.W.Frag}{H:Hp}: ∀ {l:List W} {vs:List V} {j:Nat} {d:W},cF K H l vs ->l[j]? =some d -> ∃v,vs[j]? =some v /\ WR K H d v
 | [],_,_,_,_,e=>by simp at e
 | d::r,vs,j,d',h,e=>by
  simp only[cF] at h;obtain⟨v,t,rfl,h1,h⟩:=h;cases j with
  | zero=>simp at e;subst e;exact⟨v,rfl,h1⟩
  | succ j=>simpa using cF.at (j:=j) h (by simpa using e)
theorem cF.mk {K:PySem.W.Frag}{H:Hp}: ∀ {l:List W} {vs:List V},vs.length=l.length ->(∀ (j:Nat) d v,l[j]? =some d ->vs[j]? =some v ->WR K H d v) ->cF K H l vs
 | [],vs,h,_=>by simp only[cF];exact cI.mp h
 | d::r,[],h,_=>by simp at h
 | d::r,v::vs,h,k=>by simp only[cF];exact⟨v,vs,rfl,k 0 d v rfl rfl,cF.mk (by simpa using h) λj x u e1 e2=>k (j+1) x u (by simpa using e1) (by simpa using e2)⟩
theorem cF.back {K:PySem.W.Frag}{H:Hp}{l:List W}{vs:List V}{j:Nat}{v:V}(h:cF K H l vs)(e:vs[j]? =some v): ∃d,l[j]? =some d /\ WR K H d v:=by
 have hl:=h.length;have hj:j<l.length:=by have:=(ag.mp e).1;lia
 obtain⟨u,hu,r⟩:=h.at (j:=j) (d:=l[j]) (ae hj);rw[e] at hu;cases hu;exact⟨_,ae hj,r⟩
theorem cF.snoc {K:PySem.W.Frag}{H:Hp}{l:List W}{vs:List V}{d:W}{v:V}(h:cF K H l vs)(hr:WR K H d v):cF K H (l++ [d]) (vs++ [v]):=by
 have hl:=h.length;refine cF.mk (by simp[hl]) λj x u e1 e2=> ?_;by_cases hj:j<l.length
 ·rw[a9 hj] at e1;rw[a9 (by lia)] at e2;obtain⟨w,hw,r⟩:=h.at e1;rw[e2] at hw;cases hw;exact r
 ·rw[aU (by lia)] at e1;rw[aU (by lia),hl] at e2;cases hk:j - l.length with
  | zero=>rw[hk] at e1 e2;simp at e1 e2;subst e1 e2;exact hr
  | succ k=>rw[hk] at e1;simp at e1
theorem cF.append {K:PySem.W.Frag}{H:Hp}{l m:List W}{vs us:List V}(h:cF K H l vs)(h':cF K H m us):cF K H (l++m) (vs++us):=by
 have hl:=h.length;have sX:=h'.length;refine cF.mk (by simp[hl,sX]) λj x u e1 e2=> ?_;by_cases hj:j<l.length
 ·rw[a9 hj] at e1;rw[a9 (by lia)] at e2;obtain⟨w,hw,r⟩:=h.at e1;rw[e2] at hw;cases hw;exact r
 ·rw[aU (by lia)] at e1;rw[aU (by lia),hl] at e2;obtain⟨w,hw,r⟩:=h'.at e1;rw[e2] at hw;cases hw;exact r
theorem cF.drop {K:PySem.W.Frag}{H:Hp}{l:List W}{vs:List V}(n:Nat)(h:cF K H l vs):cF K H (l.drop n) (vs.drop n):=by refine cF.mk (by simp[h.length]) λj x u e1 e2=> ?_;rw[dQ] at e1 e2;obtain⟨w,hw,r⟩:=h.at e1;rw[e2] at hw;cases hw;exact r
theorem cF.take {K:PySem.W.Frag}{H:Hp}{l:List W}{vs:List V}(n:Nat)(h:cF K H l vs):cF K H (l.take n) (vs.take n):=by
 refine cF.mk (by simp[h.length]) λj x u e1 e2=> ?_;rw[lq] at e1 e2;split at e1
 ·rename_i hj;rw[ak hj] at e2;obtain⟨w,hw,r⟩:=h.at e1;rw[e2] at hw;cases hw;exact r
 ·cases e1
theorem cF.set {K:PySem.W.Frag}{H:Hp}{l:List W}{vs:List V}(n:Nat){d:W}{v:V}(h:cF K H l vs)(hr:WR K H d v):cF K H (l.set n d) (vs.set n v):=by
 have hl:=h.length;refine cF.mk (by simp[h.length]) λj x u e1 e2=> ?_;rw[dy] at e1 e2;split at e1
 ·rename_i hj;rw[ak hj] at e2;split at e1
  ·split at e2
   ·cases e1;cases e2;exact hr
   ·cases e2
  ·cases e1
 ·rename_i hj;rw[aj hj] at e2;obtain⟨w,hw,r⟩:=h.at e1;rw[e2] at hw;cases hw;exact r
theorem cF.nil {K:PySem.W.Frag}{H:Hp}:cF K H [] []:=by simp only[cF]
theorem cF.cons {K:PySem.W.Frag}{H:Hp}{x:W}{v:V}{l:List W}{vs:List V}(h:WR K H x v)(r:cF K H l vs):cF K H (x::l) (v::vs):=by simp only[cF];exact⟨v,vs,rfl,h,r⟩
theorem WR.v {K:PySem.W.Frag}{H:Hp}{x:V}:WR K H (.v x) x:=by simp only[WR]
theorem WR.eq {K:PySem.W.Frag}{H:Hp}{x v:V}(h:WR K H (.v x) v):v=x:=by simpa only[WR] using h
theorem WR.tup {K:PySem.W.Frag}{H:Hp}{l:List W}{v:V}(h:WR K H (.tup l) v): ∃a vs,v= .ref a /\ kD K H a vs /\ cF K H l vs:=by simpa only[WR] using h
theorem WR.Ri {K:PySem.W.Frag}{H:Hp}{l:List W}{a:Addr}{vs:List V}(h:kD K H a vs)(r:cF K H l vs):WR K H (.tup l) (.ref a):=by simp only[WR];exact⟨a,vs,rfl,h,r⟩
def KR (K:PySem.W.Frag)(H:Hp){κ:Type}:List (κ×W) ->List (κ×V) ->Prop:=Paired λp q=>p.1=q.1 /\ WR K H p.2 q.2
theorem KR.ts {K:PySem.W.Frag}{H H':Hp}{κ:Type}(a:bo H H'): ∀ {l:List (κ×W)} {vs:List (κ×V)},KR K H l vs ->KR K H' l vs
 | _,_, .nil=> .nil
 | _,_, .cons ⟨e,r⟩ t=> .cons ⟨e,r.ts a⟩ (KR.ts a t)
def MR (K:PySem.W.Frag)(H:Hp)(a:Addr):MO ->Prop
 | .lst l=> ∃vs,H a=some (.lst vs) /\ cF K H l vs
 | .dK kvs=> ∃ks,H a=some (.dK ks) /\ KR K H kvs ks
 | .ins C dx fs=> ∃ks,H a=some (.ins C dx ks) /\ KR K H fs ks
 | .exc C=>H a=some (.ext (ExcAt a C))
 | .fz o ks kvs=>H a=some (.nR o (.dK ks)) /\ KR K H kvs ks
theorem MR.some {K:PySem.W.Frag}{H:Hp}{a:Addr}{o:MO}(h:MR K H a o): ∃u,H a=some u:=by
 cases o with
 | lst l=>obtain⟨_,e,_⟩:=h;exact⟨_,e⟩
 | dK l=>obtain⟨_,e,_⟩:=h;exact⟨_,e⟩
 | ins C d l=>obtain⟨_,e,_⟩:=h;exact⟨_,e⟩
 | exc C=>exact⟨_,h⟩
 | fz o l l2=>exact⟨_,h.1⟩
theorem MR.mv {K:PySem.W.Frag}{H H':Hp}{a:Addr}{o:MO}(t:bo H H')(e:H' a=H a)(h:MR K H a o):MR K H' a o:=by
 cases o with
 | lst l=>obtain⟨vs,e1,r⟩:=h;exact⟨vs,e.trans e1,r.ts t⟩
 | dK l=>obtain⟨vs,e1,r⟩:=h;exact⟨vs,e.trans e1,r.ts t⟩
 | ins C d l=>obtain⟨vs,e1,r⟩:=h;exact⟨vs,e.trans e1,r.ts t⟩
 | exc C=>exact e.trans h
 | fz o l l2=>exact⟨e.trans h.1,h.2.ts t⟩
def gY (K:PySem.W.Frag)(M:Mp)(H:Hp):Prop:= ∀a o,M a=some o ->MR K H a o
theorem gY.fresh {K:PySem.W.Frag}{M:Mp}{H:Hp}(h:gY K M H){p:Addr}(hp:H p=none):M p=none:=by
 cases e:M p with
 | none=>rfl
 | some o=>obtain⟨u,hu⟩:=(h p o e).some;rw[hp] at hu;cases hu
theorem gY.new {K:PySem.W.Frag}{M:Mp}{H:Hp}(h:gY K M H){p:Addr}{u:HO}(hp:H p=none):gY K M (upd H p u):=λa o e=>by have:=h a o e;obtain⟨w,hw⟩:=this.some;exact this.mv (L2.fE.ts (b8 hp)) (bC (dh hw hp))
theorem Bd {H:Hp}{a:Addr}{o u:HO}(h:H a=some o)(hn: ∀xs,o≠ .tup xs)(hf: ∀b xs,o≠ .nR b (.tup xs)):bo H (upd H a u):=λb xs r=>by
 have nb:b≠a:=λe=>by
  subst e;rcases r with r | ⟨w,r⟩
  ·rw[h] at r;cases r;exact hn _ rfl
  ·rw[h] at r;cases r;exact hf _ _ rfl
 unfold Rd;rw[bC nb];exact r
theorem gY.put {K:PySem.W.Frag}{M:Mp}{H:Hp}(h:gY K M H){a:Addr}{o:MO}{u:HO}(t:bo H (upd H a u))(new:MR K (upd H a u) a o):gY K (um M a o) (upd H a u):=λb x e=>by
 by_cases hb:b=a
 ·subst hb;rw[um_same] at e;cases e;exact new
 ·rw[aJ hb] at e;exact(h b x e).mv t (bC hb)
theorem gY.rf {K:PySem.W.Frag}{M:Mp}{H:Hp}(h:gY K M H){p:Addr}{l:List W}{vs:List V}(hp:H p=none)(r:cF K H l vs):gY K (um M p (.lst l)) (upd H p (.lst vs)):=h.put (L2.fE.ts (b8 hp)) ⟨vs,bU,r.ts (L2.fE.ts (b8 hp))⟩
theorem nA {H:Hp}{a:Addr}{xs:List V}{u:HO}(h:H a=some (.lst xs)):bo H (upd H a u):=Bd h (λ_ z=>nomatch z) λ_ _ z=>nomatch z
theorem om {H:Hp}{a:Addr}{xs:List (Key×V)}{u:HO}(h:H a=some (.dK xs)):bo H (upd H a u):=Bd h (λ_ z=>nomatch z) λ_ _ z=>nomatch z
theorem OF {H:Hp}{a C d:Addr}{xs:List (Str×V)}{u:HO}(h:H a=some (.ins C d xs)):bo H (upd H a u):=Bd h (λ_ z=>nomatch z) λ_ _ z=>nomatch z
theorem gY.putL {K:PySem.W.Frag}{M:Mp}{H:Hp}(h:gY K M H){a:Addr}{xs:List V}{l:List W}{vs:List V}(e:H a=some (.lst xs))(r:cF K H l vs):gY K (um M a (.lst l)) (upd H a (.lst vs)):=h.put (nA e) ⟨vs,bU,r.ts (nA e)⟩
theorem gY.putD {K:PySem.W.Frag}{M:Mp}{H:Hp}(h:gY K M H){a:Addr}{xs:List (Key×V)}{l:List (Key×W)}{vs:List (Key×V)}(e:H a=some (.dK xs))(r:KR K H l vs):gY K (um M a (.dK l)) (upd H a (.dK vs)):=h.put (om e) ⟨vs,bU,KR.ts (om e) r⟩
def JI (K:PySem.W.Frag)(H:Hp)(ρ:dB)(σ:St):Prop:=ρ.length=σ.length /\ ∀ (i:Nat) x,ρ[i]? =some (some x) -> ∃v,σ[i]? =some (some v) /\ WR K H x v
theorem JI.ts {K:PySem.W.Frag}{H H':Hp}{ρ:dB}{σ:St}(t:bo H H')(h:JI K H ρ σ):JI K H' ρ σ:=⟨h.1,λi x e=>let ⟨v,a,r⟩:=h.2 i x e;⟨v,a,r.ts t⟩⟩
structure Ok (K:PySem.W.Frag)(ρ:dB)(M:Mp)(σ:St)(H:Hp):Prop where
 env:JI K H ρ σ
 hp:gY K M H
theorem Ok.mv {K:PySem.W.Frag}{ρ:dB}{M M':Mp}{σ:St}{H H':Hp}(o:Ok K ρ M σ H)(t:bo H H')(m:gY K M' H'):Ok K ρ M' σ H':=⟨o.env.ts t,m⟩
theorem JI.set {K:PySem.W.Frag}{H:Hp}{ρ:dB}{σ:St}(h:JI K H ρ σ)(i:Nat){x:W}{v:V}(r:WR K H x v):JI K H (ρ.set i (some x)) (σ.set i (some v)):=by
 refine⟨by simp[h.1],λj y e=> ?_⟩;rw[dy] at e ⊢;split at e
 ·rename_i hj;rw[ak hj];split at e
  ·rename_i f6;rw[ak (by rw[<- h.1];exact f6)];cases e;exact⟨v,rfl,r⟩
  ·cases e
 ·rename_i hj;rw[aj hj];exact h.2 j y e
section
variable (K:PySem.W.Frag)
class IE (t:TE) (w:outParam WE):Prop where
 imp: ∀ (ρ:dB) (M:Mp) (σ:St) (H:Hp) (q:WK) (Q:VK),Ok K ρ M σ H ->w ρ M q ->(∀x M' v H',q x M' ->bo H H' ->gY K M' H' ->WR K H' x v ->Q v H') ->t σ H Q
class IT (t:TT) (w:outParam WT):Prop where
 imp: ∀ (ρ:dB) (M:Mp) (σ:St) (H:Hp) (q:Bool ->Mp ->Prop) (Q:Bool ->Hp ->Prop),Ok K ρ M σ H ->w ρ M q ->(∀b M' H',q b M' ->bo H H' ->gY K M' H' ->Q b H') ->t σ H Q
class IA (t:TA) (w:outParam WA):Prop where
 imp: ∀ (ρ:dB) (M:Mp) (σ:St) (H:Hp) (q:List W ->Mp ->Prop) (Q:List V ->Hp ->Prop),Ok K ρ M σ H ->w ρ M q ->(∀x M' v H',q x M' ->bo H H' ->gY K M' H' ->cF K H' x v ->Q v H') ->t σ H Q
class IG (t:TG) (w:outParam WG):Prop where
 imp: ∀ (x:W) (v:V) (ρ:dB) (M:Mp) (σ:St) (H:Hp) (q:dB ->Mp ->Prop) (Q:St ->Hp ->Prop),Ok K ρ M σ H ->WR K H x v ->w x ρ M q ->(∀ρ' M' σ' H',q ρ' M' ->bo H H' ->Ok K ρ' M' σ' H' ->Q σ' H') ->t v σ H Q
class W3 (t:JJ) (w:outParam LR):Prop where
 imp: ∀ (x:List W) (v:List V) (ρ:dB) (M:Mp) (σ:St) (H:Hp) (q:dB ->Mp ->Prop) (Q:St ->Hp ->Prop),Ok K ρ M σ H ->cF K H x v ->w x ρ M q ->(∀ρ' M' σ' H',q ρ' M' ->bo H H' ->Ok K ρ' M' σ' H' ->Q σ' H') ->t v σ H Q
structure xv (H:Hp)(D':kA)(D:Ends):Prop where
 nx: ∀ρ' M' σ' H',D'.nx ρ' M' ->bo H H' ->Ok K ρ' M' σ' H' ->D.nx σ' H'
 rt: ∀x M' v H',D'.rt x M' ->bo H H' ->gY K M' H' ->WR K H' x v ->D.rt v H'
 bk: ∀ρ' M' σ' H',D'.bk ρ' M' ->bo H H' ->Ok K ρ' M' σ' H' ->D.bk σ' H'
 ct: ∀ρ' M' σ' H',D'.ct ρ' M' ->bo H H' ->Ok K ρ' M' σ' H' ->D.ct σ' H'
class IS (t:TS) (w:outParam WS):Prop where
 imp: ∀ (ρ:dB) (M:Mp) (σ:St) (H:Hp) (D':kA) (D:Ends),Ok K ρ M σ H ->w D' ρ M ->xv K H D' D ->t D σ H
class IR (r:R2) (w:outParam zB):Prop where
 imp: ∀ (x y:W) (v u:V) (M:Mp) (H:Hp) (q:WK) (Q:VK),gY K M H ->WR K H x v ->WR K H y u ->w x y M q ->(∀x M' v H',q x M' ->bo H H' ->gY K M' H' ->WR K H' x v ->Q v H') ->r v u H Q
class IU (r:V ->Hp ->VK ->Prop) (w:outParam (W ->Mp ->WK ->Prop)):Prop where
 imp: ∀ (x:W) (v:V) (M:Mp) (H:Hp) (q:WK) (Q:VK),gY K M H ->WR K H x v ->w x M q ->(∀x M' v H',q x M' ->bo H H' ->gY K M' H' ->WR K H' x v ->Q v H') ->r v H Q
class IC (r:List V ->Hp ->VK ->Prop) (w:outParam C4):Prop where
 imp: ∀ (x:List W) (v:List V) (M:Mp) (H:Hp) (q:WK) (Q:VK),gY K M H ->cF K H x v ->w x M q ->(∀x M' v H',q x M' ->bo H H' ->gY K M' H' ->WR K H' x v ->Q v H') ->r v H Q
end
theorem xv.mv {K:PySem.W.Frag}{H H':Hp}{D':kA}{D:Ends}(e:xv K H D' D)(t:bo H H'):xv K H' D' D:=⟨λa b c d h s=>e.nx a b c d h (t.trans s),λa b c d h s=>e.rt a b c d h (t.trans s),λa b c d h s=>e.bk a b c d h (t.trans s),λa b c d h s=>e.ct a b c d h (t.trans s)⟩
end WL
namespace WL
open PySem L2
section
variable {K:PySem.W.Frag}
def hV (i:Nat):WE:=λρ M q=>match ρ[i]? with
 | some (some x)=>q x M
 | _=>False
theorem Oo {i:Nat}{ρ:dB}{M:Mp}{q:WK}(h:hV i ρ M q): ∃x,ρ[i]? =some (some x) /\ q x M:=by
 unfold hV at h;split at h
 ·rename_i x e;exact⟨x,e,h⟩
 ·exact h.elim
instance {i:Nat}:IE K (Kf i) (hV i) where
 imp:=λρ M σ H q Q o h k=>let ⟨x,e,h⟩:=Oo h;let ⟨v,e',r⟩:=o.env.2 i x e;⟨v,e',k x M v H h (bo.refl H) o.hp r⟩
def wC (x:W):WE:=λ_ M q=>q x M
instance {v:V}:IE K (tC v) (wC (.v v)) where
 imp:=λρ M σ H q Q o h k=>k (.v v) M v H h (bo.refl H) o.hp WR.v
def wOp (r:zB)(a b:WE):WE:=λρ M q=>a ρ M λx M1=>b ρ M1 λy M2=>r x y M2 q
instance {r:R2}{w:zB}{ta tb:TE}{a b:WE} [ir:IR K r w] [ia:IE K ta a] [ib:IE K tb b]:IE K (SK r ta tb) (wOp w a b) where
 imp:=λρ M σ H q Q o h k=>ia.imp ρ M σ H _ _ o h λx M1 v H1 h1 t1 m1 r1=>ib.imp ρ M1 σ H1 _ _ (o.mv t1 m1) h1 λy M2 u H2 h2 t2 m2 r2=>ir.imp x y v u M2 H2 _ _ m2 (r1.ts t2) r2 h2 λz M3 v3 H3 h3 t3 m3 r3=>k z M3 v3 H3 h3 ((t1.trans t2).trans t3) m3 r3
def wUn (r:W ->Mp ->WK ->Prop)(a:WE):WE:=λρ M q=>a ρ M λx M1=>r x M1 q
instance {r:V ->Hp ->VK ->Prop}{w:W ->Mp ->WK ->Prop}{ta:TE}{a:WE} [ir:IU K r w] [ia:IE K ta a]:IE K (tUn r ta) (wUn w a) where
 imp:=λρ M σ H q Q o h k=>ia.imp ρ M σ H _ _ o h λx M1 v H1 h1 t1 m1 r1=>ir.imp x v M1 H1 _ _ m1 r1 h1 λz M3 v3 H3 h3 t3 m3 r3=>k z M3 v3 H3 h3 (t1.trans t3) m3 r3
def wI (C:Int ->Int ->Prop)(g:Int ->Int ->V):zB:=λx y M q=> ∃i j,x=wi i /\ y=wi j /\ C i j /\ q (.v (g i j)) M
def wI0 (g:Int ->Int ->V):zB:=λx y M q=> ∃i j,x=wi i /\ y=wi j /\ q (.v (g i j)) M
def wU (g:Int ->V):W ->Mp ->WK ->Prop:=λx M q=> ∃i,x=wi i /\ q (.v (g i)) M
instance {C:Int ->Int ->Prop}{g:Int ->Int ->V}:IR K (rI C g) (wI C g) where
 imp:=by rintro x y v u M H q Q m r1 r2 ⟨i,j,rfl,rfl,c,h⟩ k;exact⟨i,j,r1.eq,r2.eq,c,k _ M _ H h (bo.refl H) m WR.v⟩
instance {g:Int ->Int ->V}:IR K (MS g) (wI0 g) where
 imp:=by rintro x y v u M H q Q m r1 r2 ⟨i,j,rfl,rfl,h⟩ k;exact⟨i,j,r1.eq,r2.eq,k _ M _ H h (bo.refl H) m WR.v⟩
instance {g:Int ->V}:IU K (rU g) (wU g) where
 imp:=by rintro x v M H q Q m r1 ⟨i,rfl,h⟩ k;exact⟨i,r1.eq,k _ M _ H h (bo.refl H) m WR.v⟩
def wEq:zB:=λx y M q=> ∃a b,x= .v a /\ y= .v b /\ Kj a b=true /\ q (wb (decide (a=b))) M
def wNe:zB:=λx y M q=> ∃a b,x= .v a /\ y= .v b /\ Kj a b=true /\ q (wb (!decide (a=b))) M
instance:IR K rEq wEq where
 imp:=by rintro x y v u M H q Q m r1 r2 ⟨i,j,rfl,rfl,c,h⟩ k;cases r1.eq;cases r2.eq;exact⟨c,k _ M _ H h (bo.refl H) m WR.v⟩
instance:IR K rNe wNe where
 imp:=by rintro x y v u M H q Q m r1 r2 ⟨i,j,rfl,rfl,c,h⟩ k;cases r1.eq;cases r2.eq;exact⟨c,k _ M _ H h (bo.refl H) m WR.v⟩
def Fh (a:WE):WT:=λρ M q=>a ρ M λx M1=> ∃k,x=wb k /\ q k M1
instance {t:TE}{a:WE} [ia:IE K t a]:IT K (FG t) (Fh a) where
 imp:=λρ M σ H q Q o h k=>ia.imp ρ M σ H _ _ o h λx M1 v H1 ⟨b,e,h1⟩ t1 m1 r1=>by subst e;exact⟨b,r1.eq,k b M1 H1 h1 t1 m1⟩
instance {t:TE}{a:WE} [ia:IE K t a]:IT K (tB t) (Fh a) where
 imp:=λρ M σ H q Q o h k=>ia.imp ρ M σ H _ _ o h λx M1 v H1 ⟨b,e,h1⟩ t1 m1 r1=>by subst e;exact⟨b,r1.eq,k b M1 H1 h1 t1 m1⟩
def Sn (a b:WT):WT:=λρ M q=>a ρ M λc M1=>if c=true then b ρ M1 q else q false M1
def wOr (a b:WT):WT:=λρ M q=>a ρ M λc M1=>if c=true then q true M1 else b ρ M1 q
def Sb (a:WT):WT:=λρ M q=>a ρ M λc M1=>q (!c) M1
instance {t u:TT}{a b:WT} [ia:IT K t a] [ib:IT K u b]:IT K (SR t u) (Sn a b) where
 imp:=λρ M σ H q Q o h k=>ia.imp ρ M σ H _ _ o h λc M1 H1 h1 t1 m1=>by
  cases c with
  | true=>simp only[bN] at h1 ⊢;exact ib.imp ρ M1 σ H1 _ _ (o.mv t1 m1) h1 λb M2 H2 h2 t2 m2=>k b M2 H2 h2 (t1.trans t2) m2
  | false=>simp only[ay,bf] at h1 ⊢;exact k _ M1 H1 h1 t1 m1
instance {t u:TT}{a b:WT} [ia:IT K t a] [ib:IT K u b]:IT K (tOr t u) (wOr a b) where
 imp:=λρ M σ H q Q o h k=>ia.imp ρ M σ H _ _ o h λc M1 H1 h1 t1 m1=>by
  cases c with
  | false=>simp only[ay,bf] at h1 ⊢;exact ib.imp ρ M1 σ H1 _ _ (o.mv t1 m1) h1 λb M2 H2 h2 t2 m2=>k b M2 H2 h2 (t1.trans t2) m2
  | true=>simp only[bN] at h1 ⊢;exact k _ M1 H1 h1 t1 m1
instance {t:TT}{a:WT} [ia:IT K t a]:IT K (SM t) (Sb a) where
 imp:=λρ M σ H q Q o h k=>ia.imp ρ M σ H _ _ o h λc M1 H1 h1 t1 m1=>k _ M1 H1 h1 t1 m1
def Mi (a b:WE):WE:=λρ M q=>a ρ M λx M1=> ∃c,x=wb c /\ if c=true then b ρ M1 q else q (wb false) M1
def Mc (a:WE):WE:=λρ M q=>a ρ M λx M1=> ∃c,x=wb c /\ q (wb (!c)) M1
instance {t u:TE}{a b:WE} [ia:IE K t a] [ib:IE K u b]:IE K (My t u) (Mi a b) where
 imp:=λρ M σ H q Q o h k=>ia.imp ρ M σ H _ _ o h λx M1 v H1 ⟨c,e,h1⟩ t1 m1 r1=>by
  subst e;refine⟨c,r1.eq,?_⟩;cases c with
  | true=>simp only[bN] at h1 ⊢;exact ib.imp ρ M1 σ H1 _ _ (o.mv t1 m1) h1 λb M2 v H2 h2 t2 m2 r2=>k b M2 v H2 h2 (t1.trans t2) m2 r2
  | false=>simp only[ay,bf] at h1 ⊢;exact k _ M1 _ H1 h1 t1 m1 WR.v
instance {t:TE}{a:WE} [ia:IE K t a]:IE K (Mr t) (Mc a) where
 imp:=λρ M σ H q Q o h k=>ia.imp ρ M σ H _ _ o h λx M1 v H1 ⟨c,e,h1⟩ t1 m1 r1=>by subst e;exact⟨c,r1.eq,k _ M1 _ H1 h1 t1 m1 WR.v⟩
def Fv (r r':zB)(a b c:WE):WE:=λρ M q=>a ρ M λx M1=>b ρ M1 λy M2=>r x y M2 λz M3=> ∃k,z=wb k /\ if k=true then c ρ M3 λy' M4=>r' y y' M4 λz' M5=>q z' M5 else q (wb false) M3
def Sd:WA:=λ_ M q=>q [] M
def Mf (a:WE)(r:WA):WA:=λρ M q=>a ρ M λx M1=>r ρ M1 λxs M2=>q (x::xs) M2
instance:IA K OM Sd where
 imp:=λρ M σ H q Q o h k=>k [] M [] H h (bo.refl H) o.hp cF.nil
instance {t:TE}{u:TA}{a:WE}{b:WA} [ia:IE K t a] [ib:IA K u b]:IA K (FP t u) (Mf a b) where
 imp:=λρ M σ H q Q o h k=>ia.imp ρ M σ H _ _ o h λx M1 v H1 h1 t1 m1 r1=>ib.imp ρ M1 σ H1 _ _ (o.mv t1 m1) h1 λy M2 u H2 h2 t2 m2 r2=>k _ M2 _ H2 h2 (t1.trans t2) m2 (cF.cons (r1.ts t2) r2)
def R9 (a:WA):WE:=λρ M q=>a ρ M λxs M1=>xs.length<=sizeLine /\ q (.tup xs) M1
def Se (a:WA):WE:=λρ M q=>a ρ M λxs M1=>xs.length<=sizeLine /\ ∀p,M1 p=none ->q (wr p) (um M1 p (.lst xs))
instance {t:TA}{a:WA} [ia:IA K t a]:IE K (SI t) (R9 a) where
 imp:=λρ M σ H q Q o h k=>ia.imp ρ M σ H _ _ o h λx M1 v H1 ⟨hl,h1⟩ t1 m1 r1=>⟨by rw[r1.length];exact hl,λp hp=>k _ M1 _ _ h1 (t1.trans (L2.fE.ts (b8 hp))) (m1.new hp) (WR.Ri (kD.of bU) (r1.ts (L2.fE.ts (b8 hp))))⟩
instance {t:TA}{a:WA} [ia:IA K t a]:IE K (SN t) (Se a) where
 imp:=λρ M σ H q Q o h k=>ia.imp ρ M σ H _ _ o h λx M1 v H1 ⟨hl,h1⟩ t1 m1 r1=>⟨by rw[r1.length];exact hl,λp hp=>k _ _ _ _ (h1 p (m1.fresh hp)) (t1.trans (L2.fE.ts (b8 hp))) (m1.rf hp r1) WR.v⟩
def Sh:zB:=λx y M q=> ∃a l i u,x=wr a /\ y=wi i /\ M a=some (.lst l) /\ mX l i=some u /\ q u M
def Sf:zB:=λx y M q=> ∃l i u,x= .tup l /\ y=wi i /\ mX l i=some u /\ q u M
theorem cF.mX {H:Hp}{l:List W}{vs:List V}{i:Int}{u:W}(r:cF K H l vs)(e:mX l i=some u): ∃v,L2.mX vs i=some v /\ WR K H u v:=by
 unfold L2.mX at e ⊢;rw[r.length];cases h:sU l.length i with
 | none=>rw[h] at e;cases e
 | some j=>rw[h] at e;exact r.at e
instance:IR K (Ti K) Sh where
 imp:=by rintro x y v u M H q Q m r1 r2 ⟨a,l,i,z,rfl,rfl,hl,e,h⟩ k;obtain⟨vs,hv,r⟩:=m a _ hl;obtain⟨v',e',r'⟩:=r.mX e;exact⟨a,vs,i,v',r1.eq,r2.eq,ix.of hv,e',k _ M _ H h (bo.refl H) m r'⟩
instance:IR K (Th K) Sf where
 imp:=by rintro x y v u M H q Q m r1 r2 ⟨l,i,z,rfl,rfl,e,h⟩ k;obtain⟨a,vs,rfl,hv,r⟩:=r1.tup;obtain⟨v',e',r'⟩:=r.mX e;exact⟨a,vs,i,v',rfl,r2.eq,hv,e',k _ M _ H h (bo.refl H) m r'⟩
def AV (xs:List W)(lo hi:Option Int):List W:=(xs.drop (HT.sD xs.length 0 lo)).take (HT.sD xs.length xs.length hi - HT.sD xs.length 0 lo)
theorem cF.cut {H:Hp}{l:List W}{vs:List V}(lo hi:Option Int)(r:cF K H l vs):cF K H (AV l lo hi) (zb vs lo hi):=by unfold AV zb;rw[r.length];exact(r.drop _).take _
end
abbrev WO:=dB ->Mp ->(Option Int ->Mp ->Prop) ->Prop
class IO (K:PySem.W.Frag) (t:TO) (w:outParam WO):Prop where
 imp: ∀ (ρ:dB) (M:Mp) (σ:St) (H:Hp) (q:Option Int ->Mp ->Prop) (Q:Option Int ->Hp ->Prop),Ok K ρ M σ H ->w ρ M q ->(∀b M' H',q b M' ->bo H H' ->gY K M' H' ->Q b H') ->t σ H Q
abbrev Vq:=W ->Option Int ->Option Int ->Mp ->WK ->Prop
class ISl (K:PySem.W.Frag) (r:V ->Option Int ->Option Int ->Hp ->VK ->Prop) (w:outParam Vq):Prop where
 imp: ∀ (x:W) (v:V) (lo hi:Option Int) (M:Mp) (H:Hp) (q:WK) (Q:VK),gY K M H ->WR K H x v ->w x lo hi M q ->(∀x M' v H',q x M' ->bo H H' ->gY K M' H' ->WR K H' x v ->Q v H') ->r v lo hi H Q
section
variable {K:PySem.W.Frag}
def Bb:WO:=λ_ M q=>q none M
def Mb (a:WE):WO:=λρ M q=>a ρ M λx M1=> ∃i,x=wi i /\ q (some i) M1
instance:IO K Bl Bb where
 imp:=λρ M σ H q Q o h k=>k _ M H h (bo.refl H) o.hp
instance {t:TE}{a:WE} [ia:IE K t a]:IO K (Mq t) (Mb a) where
 imp:=λρ M σ H q Q o h k=>ia.imp ρ M σ H _ _ o h λx M1 v H1 ⟨i,e,h1⟩ t1 m1 r1=>by subst e;exact⟨i,r1.eq,k _ M1 H1 h1 t1 m1⟩
def wSl (r:Vq)(a:WE)(lo hi:WO):WE:=λρ M q=>a ρ M λx M1=>lo ρ M1 λl M2=>hi ρ M2 λu M3=>r x l u M3 q
instance {r:V ->Option Int ->Option Int ->Hp ->VK ->Prop}{w:Vq}{t:TE}{tl th:TO}{a:WE}{lo hi:WO} [ir:ISl K r w] [ia:IE K t a] [il:IO K tl lo] [ih:IO K th hi]:IE K (tSl r t tl th) (wSl w a lo hi) where
 imp:=λρ M σ H q Q o h k=>ia.imp ρ M σ H _ _ o h λx M1 v H1 h1 t1 m1 r1=>il.imp ρ M1 σ H1 _ _ (o.mv t1 m1) h1 λl M2 H2 h2 t2 m2=>ih.imp ρ M2 σ H2 _ _ (o.mv (t1.trans t2) m2) h2 λu M3 H3 h3 t3 m3=>ir.imp x v l u M3 H3 _ _ m3 (r1.ts (t2.trans t3)) h3 λy M4 v4 H4 h4 t4 m4 r4=>k y M4 v4 H4 h4 (((t1.trans t2).trans t3).trans t4) m4 r4
def R':Vq:=λx lo hi M q=> ∃a l,x=wr a /\ M a=some (.lst l) /\ ∀p,M p=none ->q (wr p) (um M p (.lst (AV l lo hi)))
instance:ISl K (Tf K) R' where
 imp:=by rintro x v lo hi M H q Q m r1 ⟨a,l,rfl,hl,h⟩ k;obtain⟨vs,hv,r⟩:=m a _ hl;exact⟨a,vs,r1.eq,ix.of hv,λp hp=>k _ _ _ _ (h p (m.fresh hp)) (L2.fE.ts (b8 hp)) (m.rf hp (r.cut lo hi)) WR.v⟩
def wCB (r:C4)(a:WA):WE:=λρ M q=>a ρ M λxs M1=>r xs M1 q
instance {r:List V ->Hp ->VK ->Prop}{w:C4}{t:TA}{a:WA} [ir:IC K r w] [ia:IA K t a]:IE K (Xh r t) (wCB w a) where
 imp:=λρ M σ H q Q o h k=>ia.imp ρ M σ H _ _ o h λx M1 v H1 h1 t1 m1 r1=>ir.imp x v M1 H1 _ _ m1 r1 h1 λy M4 v4 H4 h4 t4 m4 r4=>k y M4 v4 H4 h4 (t1.trans t4) m4 r4
abbrev mN:=List W ->Mp ->WK ->Prop
def oz (K:PySem.W.Frag)(p:mN):Sp:=λvs H Q _=> ∃ (xs:List W) (M:Mp) (q:WK),cF K H xs vs /\ gY K M H /\ p xs M q /\ ∀x M' v H',q x M' ->bo H H' ->gY K M' H' ->WR K H' x v ->Q v H'
def Mh (p:mN)(a:WA):WE:=λρ M q=>a ρ M λxs M1=>p xs M1 q
instance {p:mN}{E:XK}{t:TA}{a:WA} [ia:IA K t a]:IE K (Bo (oz K p) [] E t) (Mh p a) where
 imp:=λρ M σ H q Q o h k=>ia.imp ρ M σ H _ _ o h λx M1 v H1 h1 t1 m1 r1=>⟨x,M1,q,by rw[iz];exact r1,m1,h1,λy M4 v4 H4 h4 t4 m4 r4=>k y M4 v4 H4 h4 (t1.trans t4) m4 r4⟩
theorem okW {P:Program}{w:World}{mg:Str ->Option Value}{base:Heap}{x qual:Str}{st:Stmt}{f:Addr}{fd:FuncData}{N ps:List Str}{k:Nat}{p:mN}(F:E5 K x qual st f fd)(S:b7 N ps (aQ st))(len: ∀vs M q,p vs M q ->vs.length=ps.length) (pj: ∀ (eQ:Value) (A:Around) (outer:List Env) (s:Shared) (H:Hp) (E:XK),gJ k (A.deeper (PyProof.Rows.envOfC qual (aQ st) s.heap.objs.size f eQ)) ->∃t w',zD (fT kJ P w K mg base N qual (aQ st) f eQ A outer s H E).Pm (fo st) t /\ IS K t w' /\ ∀vs M q,p vs M q ->w' {nx:=λ_ M'=>q wn M',rt:=q} (vs.map some++List.replicate (N.length - vs.length) none) M): eh P w K mg base kJ (k+1) f fd ps (oz K p):=by
 refine E5.ok F S (λvs H Q E ⟨xs,M,q,r,m,h,_⟩=>by rw[r.length];exact len xs M q h) λeQ A outer s H vs Q E hr h=> ?_;obtain⟨t,w',h1,h2,h3⟩:=pj eQ A outer s H E hr;obtain⟨xs,M,q,r,m,h,k'⟩:=h;refine⟨t,h1,h2.imp _ M _ H _ _ ⟨⟨?_,λi x e=> ?_⟩,m⟩ (h3 xs M q h) ⟨λρ' M' σ' H' h ts o=>k' _ M' _ H' h ts o.hp WR.v,λx M' v H' h ts m' r'=>k' x M' v H' h ts m' r',λ_ _ _ _ h=>h.elim,λ_ _ _ _ h=>h.elim⟩⟩
 ·have:=r.length;simp[L2.start,this]
 ·have hl:=r.length;unfold L2.start;by_cases hi:i<xs.length
  ·rw[a9 (by simpa using hi),aA] at e;cases ex:xs[i]? with
   | none=>rw[ex] at e;cases e
   | some y=>rw[ex] at e;cases e;obtain⟨v,hv,rv⟩:=r.at ex;refine⟨v,?_,rv⟩;rw[a9 (by simp;lia),aA,hv];rfl
  ·rw[aU (by simpa using hi),d7] at e;split at e<;>cases e
def Tg (K:PySem.W.Frag):List V ->Hp ->VK ->Prop:=λxs H Q=> ∃p ys,xs= [.ref p] /\ (ix K H p ys \/ kD K H p ys) /\ Q (.int ys.length) H
theorem gE {X:Cx}:i0 X (.builtin "len") (Tg X.K):=xl
def Ot:C4:=λxs M q=>(∃a l,xs= [wr a] /\ M a=some (.lst l) /\ q (wi l.length) M) \/ ∃l,xs= [.tup l] /\ q (wi l.length) M
theorem cF.one {H:Hp}{x:W}{vs:List V}(h:cF K H [x] vs): ∃v,vs= [v] /\ WR K H x v:=by simp only[cF] at h;obtain⟨v,t,rfl,h1,rfl⟩:=h;exact⟨v,rfl,h1⟩
theorem cF.two {H:Hp}{x y:W}{vs:List V}(h:cF K H [x,y] vs): ∃v u,vs= [v,u] /\ WR K H x v /\ WR K H y u:=by simp only[cF] at h;obtain⟨v,t,rfl,h1,u,t',rfl,h2,rfl⟩:=h;exact⟨v,u,rfl,h1,h2⟩
instance:IC K (Tg K) Ot where
 imp :=by
  rintro xs v M H q Q m r1 h k;rcases h with⟨a,l,rfl,hl,h⟩ | ⟨l,rfl,h⟩
  ·obtain⟨v,rfl,r⟩:=r1.one;cases r.eq;obtain⟨vs,hv,rr⟩:=m a _ hl;refine⟨a,vs,rfl, .inl (ix.of hv),k _ M _ H h (bo.refl H) m ?_⟩;rw[rr.length];exact WR.v
  ·obtain⟨v,rfl,r⟩:=r1.one;obtain⟨a,vs,rfl,hv,rr⟩:=r.tup;refine⟨a,vs,rfl, .inr hv,k _ M _ H h (bo.refl H) m ?_⟩;rw[rr.length];exact WR.v
def Tq:List V ->Hp ->VK ->Prop:=λxs H Q=> ∃i,xs= [.int i] /\ Q (.int (if i<0 then -i else i)) H
theorem vo {X:Cx}:i0 X (.builtin "abs") Tq:=IV
def Sq:C4:=λxs M q=> ∃i,xs= [wi i] /\ q (wi (if i<0 then -i else i)) M
instance:IC K Tq Sq where
 imp:=by rintro xs v M H q Q m r1 ⟨i,rfl,h⟩ k;obtain⟨v,rfl,r⟩:=r1.one;cases r.eq;exact⟨i,rfl,k _ M _ H h (bo.refl H) m WR.v⟩
def BF (K:PySem.W.Frag):List V ->Hp ->VK ->Prop:=λxs H Q=> ∃p ys,xs= [.ref p] /\ (ix K H p ys \/ kD K H p ys) /\ ∀l,H l=none ->Q (.ref l) (upd H l (.lst ys))
theorem iw {X:Cx}:i0 X (.type "list") (BF X.K):=xk
def vP:C4:=λxs M q=> ∃l,((∃a,xs= [wr a] /\ M a=some (.lst l)) \/ xs= [.tup l]) /\ ∀p,M p=none ->q (wr p) (um M p (.lst l))
instance:IC K (BF K) vP where
 imp :=by
  rintro xs v M H q Q m r1 ⟨l,hx,h⟩ k;rcases hx with⟨a,rfl,hl⟩ | rfl
  ·obtain⟨v,rfl,r⟩:=r1.one;cases r.eq;obtain⟨vs,hv,rr⟩:=m a _ hl;exact⟨a,vs,rfl, .inl (ix.of hv),λp hp=>k _ _ _ _ (h p (m.fresh hp)) (L2.fE.ts (b8 hp)) (m.rf hp rr) WR.v⟩
  ·obtain⟨v,rfl,r⟩:=r1.one;obtain⟨a,vs,rfl,hv,rr⟩:=r.tup;exact⟨a,vs,rfl, .inr hv,λp hp=>k _ _ _ _ (h p (m.fresh hp)) (L2.fE.ts (b8 hp)) (m.rf hp rr) WR.v⟩
def yf (K:PySem.W.Frag):List V ->Hp ->VK ->Prop:=λxs H Q=> ∃p ys,xs= [.ref p] /\ ((ix K H p ys /\ ∀l,H l=none ->Q (.ref l) (upd H l (.tup ys))) \/ (kD K H p ys /\ Q (.ref p) H))
theorem lX {X:Cx}:i0 X (.type "tuple") (yf X.K):=uj
def xI:C4:=λxs M q=> ∃l,((∃a,xs= [wr a] /\ M a=some (.lst l)) \/ xs= [.tup l]) /\ q (.tup l) M
instance:IC K (yf K) xI where
 imp :=by
  rintro xs v M H q Q m r1 ⟨l,hx,h⟩ k;rcases hx with⟨a,rfl,hl⟩ | rfl
  ·obtain⟨v,rfl,r⟩:=r1.one;cases r.eq;obtain⟨vs,hv,rr⟩:=m a _ hl;exact⟨a,vs,rfl, .inl ⟨ix.of hv,λp hp=>k _ M _ _ h (L2.fE.ts (b8 hp)) (m.new hp) (WR.Ri (kD.of bU) (rr.ts (L2.fE.ts (b8 hp))))⟩⟩
  ·obtain⟨v,rfl,r⟩:=r1.one;obtain⟨a,vs,rfl,hv,rr⟩:=r.tup;exact⟨a,vs,rfl, .inr ⟨hv,k _ M _ H h (bo.refl H) m (WR.Ri hv rr)⟩⟩
theorem cF.ints {H:Hp}: ∀ {ns:List Int} {vs:List V},cF K H (ns.map wi) vs ->vs=ns.map V.int
 | [],vs,h=>by simpa only[eB,cF] using h
 | n::r,vs,h=>by simp only[aH,cF] at h;obtain⟨v,t,rfl,h1,h2⟩:=h;rw[cF.ints h2,h1.eq];rfl
theorem cF.ofInts {H:Hp}: ∀ (ns:List Int),cF K H (ns.map wi) (ns.map V.int)
 | []=>cF.nil
 | n::r=>cF.cons WR.v (cF.ofInts r)
def tyW (M:Mp):W ->Option Value
 | .v (.int _)=>some (.type "int")
 | .v (.bl _)=>some (.type "bool")
 | .v (.str _)=>some (.type "str")
 | .v .dS=>some (.type "NoneType")
 | .tup _=>some (.type "tuple")
 | .v (.ref a)=>match M a with
  | some (.lst _)=>some (.type "list")
  | _=>none
 | _=>none
def Si (K:PySem.W.Frag):C4:=λxs M q=> ∃x T t b,xs= [x, .v (.ty T)] /\ tyW M x=some t /\ PySem.W.kitOne K t (.type T)=some b /\ q (wb b) M
theorem Oz {H:Hp}{M:Mp}{x:W}{v:V}{t:Value}(m:gY K M H)(r:WR K H x v)(e:tyW M x=some t):Vr K H v t:=by
 cases x with
 | tup l=>obtain⟨a,vs,rfl,hv,rr⟩:=r.tup;cases e;exact .tup hv
 | v y =>
  cases r.eq;cases v with
  | int i=>cases e;exact .of (.int i)
  | bl i=>cases e;exact .of (.bl i)
  | str i=>cases e;exact .of (.str i)
  | dS=>cases e;exact .of .dS
  | ref a=>
   simp only[tyW] at e;cases ha:M a with
   | none=>rw[ha] at e;cases e
   | some o=>
    rw[ha] at e;cases o with
    | lst l=>cases e;obtain⟨vs,hv,_⟩:=m a _ ha;exact .lst (ix.of hv)
    | dK l=>cases e
    | ins C d l=>cases e
    | exc C=>cases e
    | fz o l l2=>cases e
  | AZ _=>cases e
  | Cs _=>cases e
  | ty _=>cases e
instance:IC K (Tj K) (Si K) where
 imp:=by rintro xs v M H q Q m r1 ⟨x,T,t,b,rfl,ht,e,h⟩ k;obtain⟨v,u,rfl,r,r'⟩:=r1.two;cases r'.eq;exact⟨v,T,t,b,rfl,Oz m r ht,e,k _ M _ H h (bo.refl H) m WR.v⟩
end
section
variable {K:PySem.W.Frag}
abbrev WM:=W ->List W ->Mp ->WK ->Prop
class IM (K:PySem.W.Frag) (r:V ->List V ->Hp ->VK ->Prop) (w:outParam WM):Prop where
 imp: ∀ (x:W) (v:V) (ys:List W) (us:List V) (M:Mp) (H:Hp) (q:WK) (Q:VK),gY K M H ->WR K H x v ->cF K H ys us ->w x ys M q ->(∀x M' v H',q x M' ->bo H H' ->gY K M' H' ->WR K H' x v ->Q v H') ->r v us H Q
def IsL (M:Mp)(x:W):Prop:= ∃a l,x=wr a /\ M a=some (.lst l)
theorem IsL.ty {M:Mp}{H:Hp}{x:W}{v:V}(m:gY K M H)(r:WR K H x v)(h:IsL M x):Xd K "list" v H:=by obtain⟨a,l,rfl,hl⟩:=h;cases r.eq;obtain⟨vs,hv,_⟩:=m a _ hl;exact .inl ⟨rfl,vs,ix.of hv⟩
def Xb (r:WM)(a:WE)(b:WA):WE:=λρ M q=>a ρ M λx M1=>IsL M1 x /\ b ρ M1 λxs M2=>r x xs M2 q
instance {r:V ->List V ->Hp ->VK ->Prop}{w:WM}{t:TE}{u:TA}{a:WE}{b:WA} [ir:IM K r w] [ia:IE K t a] [ib:IA K u b]:IE K (tBM K "list" r t u) (Xb w a b) where
 imp:=λρ M σ H q Q o h k=>ia.imp ρ M σ H _ _ o h λx M1 v H1 ⟨hl,h1⟩ t1 m1 r1=>⟨hl.ty m1 r1,ib.imp ρ M1 σ H1 _ _ (o.mv t1 m1) h1 λy M2 u H2 h2 t2 m2 r2=>ir.imp x v y u M2 H2 _ _ m2 (r1.ts t2) r2 h2 λz M3 v3 H3 h3 t3 m3 r3=>k z M3 v3 H3 h3 ((t1.trans t2).trans t3) m3 r3⟩
def Bc:WM:=λx ys M q=> ∃a l y,x=wr a /\ ys= [y] /\ M a=some (.lst l) /\ l.length<sizeLine /\ q wn (um M a (.lst (l++ [y])))
instance:IM K BH Bc where
 imp:=by rintro x v ys us M H q Q m r1 r2 ⟨a,l,y,rfl,rfl,hl,hn,h⟩ k;cases r1.eq;obtain⟨u,rfl,r⟩:=r2.one;obtain⟨vs,hv,rr⟩:=m a _ hl;exact⟨a,vs,u,rfl,rfl,hv,by rw[rr.length];exact hn,k _ _ _ _ h (nA hv) (m.putL hv (rr.snoc r)) WR.v⟩
def Sl:zB:=λx y M q=> ∃a b l l',x=wr a /\ y=wr b /\ M a=some (.lst l) /\ M b=some (.lst l') /\ l.length+l'.length<=sizeLine /\ ∀p,M p=none ->q (wr p) (um M p (.lst (l++l')))
instance:IR K To Sl where
 imp:=by rintro x y v u M H q Q m r1 r2 ⟨a,b,l,l',rfl,rfl,hl,sX,hn,h⟩ k;cases r1.eq;cases r2.eq;obtain⟨vs,hv,rr⟩:=m a _ hl;obtain⟨Ss,wX,S'⟩:=m b _ sX;exact⟨a,b,vs,Ss,rfl,rfl,hv,wX,by rw[rr.length,S'.length];exact hn,λp hp=>k _ _ _ _ (h p (m.fresh hp)) (L2.fE.ts (b8 hp)) (m.rf hp (rr.append S')) WR.v⟩
def J6 (M:Mp):W ->Bool ->Prop
 | .v .dS,k=>k=false
 | .v (.bl b),k=>k=b
 | .v (.int i),k=>k=(i !=0)
 | .v (.str y),k=>y.length<=sizeLine /\ k=((y.length:Int) !=0)
 | .v (.ref a),k=>(∃l,M a=some (.lst l) /\ k= !l.isEmpty) \/ (∃l,M a=some (.dK l) /\ k= !l.isEmpty)
 | .tup l,k=>k= !l.isEmpty
 | _,_=>False
def FF (K:PySem.W.Frag)(ta:TE):TT:=λσ H Q=>ta σ H λx H'=> ∃k,LS K x H' k /\ Q k H'
theorem Dm {X:Cx}{a:Expr}{ta:TE}(ha:PE X a ta)(he: ∀whole,isTrue a X.env whole=(do let v <- whole;standAt a.pos;holding [v] (truthy v)):=by intro _;rfl):PT X a (FF X.K ta):=Gv ha he
def Fg (a:WE):WT:=λρ M q=>a ρ M λx M1=> ∃k,J6 M1 x k /\ q k M1
theorem cF.isEmpty {H:Hp}{l:List W}{vs:List V}(r:cF K H l vs):vs.isEmpty=l.isEmpty:=by have:=r.length;cases l<;>cases vs<;>simp_all
theorem KR.isEmpty {H:Hp}{l:List (Key×W)}{vs:List (Key×V)}(r:KR K H l vs):vs.isEmpty=l.isEmpty:=by cases r<;>rfl
theorem J6.ok {M:Mp}{H:Hp}{x:W}{v:V}{k:Bool}(m:gY K M H)(r:WR K H x v)(h:J6 M x k):LS K v H k:=by
 cases x with
 | tup l=>obtain⟨a,vs,rfl,hv,rr⟩:=r.tup;exact .inr (.inl ⟨vs,hv,by rw[rr.isEmpty];exact h⟩)
 | v y =>
  cases r.eq;cases v with
  | ref a=>
   rcases h with⟨l,hl,e⟩ | ⟨l,hl,e⟩
   ·obtain⟨vs,hv,rr⟩:=m a _ hl;exact .inl ⟨vs,ix.of hv,by rw[rr.isEmpty];exact e⟩
   ·obtain⟨vs,hv,rr⟩:=m a _ hl;exact .inr (.inr ⟨vs,hv,by rw[rr.isEmpty];exact e⟩)
  | _=>first | exact h | exact(show False from h).elim
instance {t:TE}{a:WE} [ia:IE K t a]:IT K (FF K t) (Fg a) where
 imp:=λρ M σ H q Q o h k=>ia.imp ρ M σ H _ _ o h λx M1 v H1 ⟨b,hb,h1⟩ t1 m1 r1=>⟨b,hb.ok m1 r1,k b M1 H1 h1 t1 m1⟩
def gd:Key ->W
 | .inl k=>wi k
 | .inr x=>ws x
def fu (kvs:List (Key×W))(k:Key):Option W:=(kvs.find? λkv=>decide (kv.1=k)).map (·.2)
def ki (kvs:List (Key×W))(k:Key)(v:W):List (Key×W):=if(kvs.any λkv=>decide (kv.1=k))=true then kvs.map (λkv=>if kv.1=k then(kv.1,v) else kv) else kvs++ [(k,v)]
def vc (kvs:List (Key×W))(k:Key):List (Key×W):=kvs.filter λkv=>decide (kv.1≠k)
theorem KR.keys {H:Hp}: ∀ {l:List (Key×W)} {vs:List (Key×V)},KR K H l vs ->vs.map (·.1)=l.map (·.1)
 | _,_, .nil=>rfl
 | _,_, .cons ⟨e,r⟩ t=>by rw[aH,aH,KR.keys t,e]
theorem KR.length {H:Hp}{κ:Type}: ∀ {l:List (κ×W)} {vs:List (κ×V)},KR K H l vs ->vs.length=l.length
 | _,_, .nil=>rfl
 | _,_, .cons _ t=>by rw[aG,aG,KR.length t]
theorem KR.val {H:Hp}(k:Key): ∀ {l:List (Key×W)} {vs:List (Key×V)},KR K H l vs ->(fu l k=none /\ iP vs k=none) \/ ∃x v,fu l k=some x /\ iP vs k=some v /\ WR K H x v
 | _,_, .nil=> .inl ⟨rfl,rfl⟩
 | (k1,x)::l,(k2,v)::vs, .cons ⟨e,r⟩ t=>by
  have e:k1=k2:=e;subst e;unfold fu iP;rw[cM,cM];by_cases hk:k1=k
  ·simp only[hk,iJ];exact .inr ⟨x,v,rfl,rfl,r⟩
  ·simp only[hk,iV];exact KR.val k t
theorem KR.map {H:Hp}{k:Key}{x:W}{v:V}(rx:WR K H x v): ∀ {l:List (Key×W)} {vs:List (Key×V)},KR K H l vs ->KR K H (l.map (λkv=>if kv.1=k then(kv.1,x) else kv)) (vs.map (λkv=>if kv.1=k then(kv.1,v) else kv))
 | _,_, .nil=> .nil
 | (k1,y)::l,(k2,u)::vs, .cons ⟨e,r⟩ t=>by
  have e:k1=k2:=e;subst e;rw[aH,aH];refine .cons ?_ (KR.map rx t);by_cases hk:k1=k
  ·rw[ak hk,ak hk];exact⟨rfl,rx⟩
  ·rw[aj hk,aj hk];exact⟨rfl,r⟩
theorem KR.append {H:Hp}{k:Key}{x:W}{v:V}(rx:WR K H x v): ∀ {l:List (Key×W)} {vs:List (Key×V)},KR K H l vs ->KR K H (l++ [(k,x)]) (vs++ [(k,v)])
 | _,_, .nil=> .cons ⟨rfl,rx⟩ .nil
 | _,_, .cons r t=> .cons r (KR.append rx t)
theorem KR.put {H:Hp}{k:Key}{x:W}{v:V}(rx:WR K H x v){l:List (Key×W)}{vs:List (Key×V)}(r:KR K H l vs):KR K H (ki l k x) (putK vs k v):=by
 have ek:(l.any λkv=>decide (kv.1=k))=vs.any λkv=>decide (kv.1=k):=by
  have:=r.keys;have e1:(l.any λkv=>decide (kv.1=k))=(l.map (·.1)).any λy=>decide (y=k):=by rw[JT];rfl
  have e2:(vs.any λkv=>decide (kv.1=k))=(vs.map (·.1)).any λy=>decide (y=k):=by rw[JT];rfl
  rw[e1,e2,this]
 unfold ki putK;rw[ek];split
 ·exact KR.map rx r
 ·exact KR.append rx r
theorem KR.drop {H:Hp}{k:Key}: ∀ {l:List (Key×W)} {vs:List (Key×V)},KR K H l vs ->KR K H (vc l k) (qJ vs k)
 | _,_, .nil=> .nil
 | (k1,y)::l,(k2,u)::vs, .cons ⟨e,r⟩ t=>by
  have e:k1=k2:=e;subst e;unfold vc qJ;rw[dR,dR];by_cases hk:k1=k
  ·simp only[hk,ne_eq,not_true,iV,ay,bf];exact KR.drop t
  ·simp only[ne_eq,hk,not_false_eq_true,iJ,bN];exact .cons ⟨rfl,r⟩ (KR.drop t)
theorem mB {H:Hp}{k:Key}{v:V}(r:WR K H (gd k) v):v=kV k:=by cases k<;>exact r.eq
def Me:WE:=λ_ M q=> ∀p,M p=none ->q (wr p) (um M p (.dK []))
instance:IE K FN Me where
 imp:=λρ M σ H q Q o h k=>λp hp=>k _ _ _ _ (h p (o.hp.fresh hp)) (L2.fE.ts (b8 hp)) (o.hp.put (L2.fE.ts (b8 hp)) ⟨[],bU, .nil⟩) WR.v
def Ft (a b:WE):WE:=λρ M q=>a ρ M λx M1=>b ρ M1 λy M2=> ∃p kvs k z,x=wr p /\ M2 p=some (.dK kvs) /\ y=gd k /\ fu kvs k=some z /\ q z M2
instance {t u:TE}{a b:WE} [ia:IE K t a] [ib:IE K u b]:IE K (Mv t u) (Ft a b) where
 imp :=λρ M σ H q Q o h k=>ia.imp ρ M σ H _ _ o h λx M1 v H1 h1 t1 m1 r1=>ib.imp ρ M1 σ H1 _ _ (o.mv t1 m1) h1 λy M2 u H2 ⟨p,kvs,ky,z,e1,e2,e3,e4,h2⟩ t2 m2 r2=>by
  subst e1 e3;obtain⟨ks,hk,rr⟩:=m2 p _ e2;rcases rr.val ky with⟨n1,_⟩ | ⟨x',v',n1,n2,rx⟩
  ·rw[n1] at e4;cases e4
  ·rw[n1] at e4;cases e4;refine⟨p,v',r1.eq,?_,k _ M2 _ H2 h2 (t1.trans t2) m2 rx⟩;rw[mB r2, <- n2];exact rF.k hk
def vR (a b:WE):WE:=λρ M q=>a ρ M λy M1=>b ρ M1 λx M2=> ∃p kvs k,x=wr p /\ M2 p=some (.dK kvs) /\ y=gd k /\ q (wb (!(fu kvs k).isSome)) M2
theorem KR.some {H:Hp}(k:Key){l:List (Key×W)}{vs:List (Key×V)}(r:KR K H l vs):(iP vs k).isSome=(fu l k).isSome:=by rcases r.val k with⟨a,b⟩ | ⟨x,v,a,b,_⟩ <;>rw[a,b] <;>rfl
instance {t u:TE}{a b:WE} [ia:IE K t a] [ib:IE K u b]:IE K (Bn t u) (vR a b) where
 imp:=λρ M σ H q Q o h k=>ia.imp ρ M σ H _ _ o h λy M1 v H1 h1 t1 m1 r1=>ib.imp ρ M1 σ H1 _ _ (o.mv t1 m1) h1 λx M2 u H2 ⟨p,kvs,ky,e1,e2,e3,h2⟩ t2 m2 r2=>by subst e1 e3;obtain⟨ks,hk,rr⟩:=m2 p _ e2;refine⟨p,iP ks ky,r2.eq,by rw[mB r1];exact rF.k hk,k _ M2 _ H2 h2 (t1.trans t2) m2 ?_⟩;rw[rr.some];exact WR.v
def zL (a b c:WE):WE:=λρ M q=>a ρ M λx M1=> ∃p,x=wr p /\ (∃kvs,M1 p=some (.dK kvs)) /\ b ρ M1 λy M2=>c ρ M2 λz M3=> ∃kvs k,M3 p=some (.dK kvs) /\ y=gd k /\ q ((fu kvs k).getD z) M3
instance {t u s:TE}{a b c:WE} [ia:IE K t a] [ib:IE K u b] [ic:IE K s c]:IE K (FO t u s) (zL a b c) where
 imp:=λρ M σ H q Q o h k=>ia.imp ρ M σ H _ _ o h λx M1 v H1 ⟨p,e,⟨kvs,hp⟩,h1⟩ t1 m1 r1=>by
  subst e;obtain⟨ks,hk,rr⟩:=m1 p _ hp;refine⟨p,r1.eq, .inl ⟨ks, .inl hk⟩,ib.imp ρ M1 σ H1 _ _ (o.mv t1 m1) h1 λy M2 u H2 h2 t2 m2 r2=>ic.imp ρ M2 σ H2 _ _ (o.mv (t1.trans t2) m2) h2 λz M3 u3 H3 ⟨kvs,ky,e2,e3,h3⟩ t3 m3 r3=> ?_⟩;subst e3;obtain⟨ks,hk,rr⟩:=m3 p _ e2;refine⟨iP ks ky,by rw[mB (r2.ts t3)];exact rF.k hk,k _ M3 _ H3 h3 ((t1.trans t2).trans t3) m3 ?_⟩;rcases rr.val ky with⟨n1,n2⟩ | ⟨x',v',n1,n2,rx⟩
  ·rw[n1,n2];exact r3
  ·rw[n1,n2];exact rx
end
section
variable {K:PySem.W.Frag}
def Ml (i:Nat):WG:=λx ρ M q=>q (ρ.set i (some x)) M
instance {i:Nat}:IG K (qF i) (Ml i) where
 imp:=λx v ρ M σ H q Q o r h k=>k _ M _ H h (bo.refl H) ⟨o.env.set i r,o.hp⟩
def Ox:LR:=λxs ρ M q=>xs= [] /\ q ρ M
def Mm (a:WG)(b:LR):LR:=λxs ρ M q=> ∃x r,xs=x::r /\ a x ρ M λρ' M'=>b r ρ' M' q
instance:W3 K Qy Ox where
 imp:=λx v ρ M σ H q Q o r h k=>by obtain⟨rfl,h⟩:=h;exact⟨by simpa only[cF] using r,k _ M _ H h (bo.refl H) o⟩
instance {t:TG}{u:JJ}{a:WG}{b:LR} [ia:IG K t a] [ib:W3 K u b]:W3 K (Cq t u) (Mm a b) where
 imp:=λx v ρ M σ H q Q o r h k=>by obtain⟨y,rest,rfl,h⟩:=h;simp only[cF] at r;obtain⟨v1,t1,rfl,r1,r2⟩:=r;exact⟨v1,t1,rfl,ia.imp y v1 ρ M σ H _ _ o r1 h λρ' M' σ' H' h' ts o'=>ib.imp rest t1 ρ' M' σ' H' _ _ o' (r2.ts ts) h' λρ2 M2 σ2 H2 h2 Sz o2=>k ρ2 M2 σ2 H2 h2 (ts.trans Sz) o2⟩
def Su (n:Nat)(a:LR):WG:=λx ρ M q=> ∃l,x= .tup l /\ l.length=n /\ a l ρ M q
instance {n:Nat}{t:JJ}{a:LR} [ia:W3 K t a]:IG K (Qx K n t) (Su n a) where
 imp:=λx v ρ M σ H q Q o r h k=>by obtain⟨l,rfl,hl,h⟩:=h;obtain⟨a',vs,rfl,hv,rr⟩:=r.tup;exact⟨a',vs,rfl,hv,by rw[rr.length];exact hl,ia.imp l vs ρ M σ H _ _ o rr h k⟩
abbrev Jb:=W ->W ->W ->Mp ->(Mp ->Prop) ->Prop
class VA (K:PySem.W.Frag) (t:Jc) (w:outParam Jb):Prop where
 imp: ∀ (x y z:W) (v u r:V) (M:Mp) (H:Hp) (q:Mp ->Prop) (Q:Hp ->Prop),gY K M H ->WR K H x v ->WR K H y u ->WR K H z r ->w x y z M q ->(∀M' H',q M' ->bo H H' ->gY K M' H' ->Q H') ->t v u r H Q
def Ma:Jb:=λx y z M q=> ∃a l k j,x=wr a /\ y=wi k /\ M a=some (.lst l) /\ sU l.length k=some j /\ q (um M a (.lst (l.set j z)))
instance:VA K MP Ma where
 imp:=by rintro x y z v u r M H q Q m r1 r2 r3 ⟨a,l,i,j,rfl,rfl,hl,e,h⟩ k;obtain⟨vs,hv,rr⟩:=m a _ hl;exact⟨a,vs,i,j,r1.eq,r2.eq,hv,by rw[rr.length];exact e,k _ _ h (nA hv) (m.putL hv (rr.set j r3))⟩
def Sv (a b:WE)(s:Jb):WG:=λx ρ M q=>a ρ M λo M1=>b ρ M1 λi M2=>s o i x M2 λM3=>q ρ M3
instance {t u:TE}{s:Jc}{a b:WE}{w:Jb} [ia:IE K t a] [ib:IE K u b] [is:VA K s w]:IG K (U7 t u s) (Sv a b w) where
 imp:=λx v ρ M σ H q Q o r h k=>ia.imp ρ M σ H _ _ o h λy M1 v1 H1 h1 t1 m1 r1=>ib.imp ρ M1 σ H1 _ _ (o.mv t1 m1) h1 λz M2 v2 H2 h2 t2 m2 r2=>is.imp y z x v1 v2 v M2 H2 _ _ m2 (r1.ts t2) r2 (r.ts (t1.trans t2)) h2 λM3 H3 h3 t3 m3=>k ρ M3 σ H3 h3 ((t1.trans t2).trans t3) (o.mv ((t1.trans t2).trans t3) m3)
def MG:WS:=λD ρ M=>D.nx ρ M
instance:IS K Ms MG where
 imp:=λρ M σ H D' D o h e=>e.nx ρ M σ H h (bo.refl H) o
def Kk (a b:WS):WS:=λD ρ M=>a {D with nx:=b D} ρ M
instance {t u:TS}{a b:WS} [ia:IS K t a] [ib:IS K u b]:IS K (OL t u) (Kk a b) where
 imp:=λρ M σ H D' D o h e=>ia.imp ρ M σ H _ _ o h ⟨λρ' M' σ' H' h' ts o'=>ib.imp ρ' M' σ' H' D' D o' h' (e.mv ts),e.rt,e.bk,e.ct⟩
def MM:WS:=λD ρ M=>D.ct ρ M
instance:IS K Mw MM where
 imp:=λρ M σ H D' D o h e=>e.ct ρ M σ H h (bo.refl H) o
def MJ (a:WE):WS:=λD ρ M=>a ρ M λ_ M1=>D.nx ρ M1
instance {t:TE}{a:WE} [ia:IE K t a]:IS K (Mu t) (MJ a) where
 imp:=λρ M σ H D' D o h e=>ia.imp ρ M σ H _ _ o h λx M1 v H1 h1 t1 m1 r1=>e.nx ρ M1 σ H1 h1 t1 (o.mv t1 m1)
def S4 (a:WE):WS:=λD ρ M=>a ρ M D.rt
instance {t:TE}{a:WE} [ia:IE K t a]:IS K (SJ t) (S4 a) where
 imp:=λρ M σ H D' D o h e=>ia.imp ρ M σ H _ _ o h λx M1 v H1 h1 t1 m1 r1=>e.rt x M1 v H1 h1 t1 m1 r1
def MF:WS:=λD _ M=>D.rt wn M
instance:IS K Mo MF where
 imp:=λρ M σ H D' D o h e=>e.rt wn M .dS H h (bo.refl H) o.hp WR.v
def VQ (c:WT)(a b:WS):WS:=λD ρ M=>c ρ M λk M1=>if k=true then a D ρ M1 else b D ρ M1
instance {tc:TT}{t u:TS}{c:WT}{a b:WS} [ic:IT K tc c] [ia:IS K t a] [ib:IS K u b]:IS K (SO tc t u) (VQ c a b) where
 imp:=λρ M σ H D' D o h e=>ic.imp ρ M σ H _ _ o h λk M1 H1 h1 t1 m1=>by
  cases k with
  | true=>simp only[bN] at h1 ⊢;exact ia.imp ρ M1 σ H1 D' D (o.mv t1 m1) h1 (e.mv t1)
  | false=>simp only[ay,bf] at h1 ⊢;exact ib.imp ρ M1 σ H1 D' D (o.mv t1 m1) h1 (e.mv t1)
def S9 (a:WE)(g:WG):WS:=λD ρ M=>a ρ M λx M1=>g x ρ M1 D.nx
instance {t:TE}{g:TG}{a:WE}{w:WG} [ia:IE K t a] [ig:IG K g w]:IS K (Kg t g) (S9 a w) where
 imp:=λρ M σ H D' D o h e=>ia.imp ρ M σ H _ _ o h λx M1 v H1 h1 t1 m1 r1=>ig.imp x v ρ M1 σ H1 _ _ (o.mv t1 m1) r1 h1 λρ2 M2 σ2 H2 h2 t2 o2=>e.nx ρ2 M2 σ2 H2 h2 (t1.trans t2) o2
def z7 (a b c:WE):WS:=λD ρ M=>c ρ M λz M1=>a ρ M1 λx M2=>b ρ M2 λy M3=> ∃p kvs k,x=wr p /\ M3 p=some (.dK kvs) /\ y=gd k /\ kvs.length<sizeLine /\ D.nx ρ (um M3 p (.dK (ki kvs k z)))
instance {t u s:TE}{a b c:WE} [ia:IE K t a] [ib:IE K u b] [ic:IE K s c]:IS K (MK t u s) (z7 a b c) where
 imp :=λρ M σ H D' D o h e=>ic.imp ρ M σ H _ _ o h λz M1 v1 H1 h1 t1 m1 r1=>ia.imp ρ M1 σ H1 _ _ (o.mv t1 m1) h1 λx M2 v2 H2 h2 t2 m2 r2=>ib.imp ρ M2 σ H2 _ _ (o.mv (t1.trans t2) m2) h2 λy M3 v3 H3 ⟨p,kvs,k,e1,e2,e3,hl,h3⟩ t3 m3 r3=>by subst e1 e3;obtain⟨ks,hk,rr⟩:=m3 p _ e2;have ts:=om (u:= .dK (putK ks k v1)) hk;refine⟨p,_,r2.eq,?_,e.nx ρ _ σ (upd H3 p (.dK (putK ks k v1))) h3 (((t1.trans t2).trans t3).trans ts) (o.mv (((t1.trans t2).trans t3).trans ts) (m3.putD hk (KR.put (r1.ts (t2.trans t3)) rr)))⟩;rw[mB r3];exact Jo.k hk (by rw[rr.length];exact hl)
def z8 (a b:WE):WS:=λD ρ M=>a ρ M λx M1=>b ρ M1 λy M2=> ∃p kvs k,x=wr p /\ M2 p=some (.dK kvs) /\ y=gd k /\ (fu kvs k).isSome=true /\ D.nx ρ (um M2 p (.dK (vc kvs k)))
instance {t u:TE}{a b:WE} [ia:IE K t a] [ib:IE K u b]:IS K (ML t u) (z8 a b) where
 imp :=λρ M σ H D' D o h e=>ia.imp ρ M σ H _ _ o h λx M2 v2 H2 h2 t2 m2 r2=>ib.imp ρ M2 σ H2 _ _ (o.mv t2 m2) h2 λy M3 v3 H3 ⟨p,kvs,k,e1,e2,e3,hl,h3⟩ t3 m3 r3=>by subst e1 e3;obtain⟨ks,hk,rr⟩:=m3 p _ e2;have ts:=om (u:= .dK (qJ ks k)) hk;exact⟨p,ks,k,r2.eq,hk,mB r3,by rw[rr.some];exact hl,e.nx ρ _ σ _ h3 ((t2.trans t3).trans ts) (o.mv ((t2.trans t3).trans ts) (m3.putD hk rr.drop))⟩
def EC (K:PySem.W.Frag)(H1:Hp)(J:It)(xs:List W)(keep:Mp ->Prop):Prop:=∀i M H,bo H1 H ->gY K M H ->keep M ->(xs.length=i ->J.stop i H) /\ (i<xs.length ->J.go i H) /\ ∀v H',i<xs.length ->J.Oj i H v H' ->bo H H' /\ gY K M H' /\ ∃x,xs[i]? =some x /\ WR K H' x v
class II (K:PySem.W.Frag) (t:TI) (w:outParam WI):Prop where
 imp: ∀ (ρ:dB) (M:Mp) (σ:St) (H:Hp) (q:List W ->(Mp ->Prop) ->Mp ->Prop) (R:It ->Hp ->Prop),Ok K ρ M σ H ->w ρ M q ->(∀xs keep J M' H',q xs keep M' ->bo H H' ->gY K M' H' ->EC K H' J xs keep ->R J H') ->t σ H R
def Hw (a:WE):WI:=λρ M q=>a ρ M λx M1=> ∃p l,x=wr p /\ M1 p=some (.lst l) /\ q l (λM'=>M' p=some (.lst l)) M1
def T' (a:WE):WI:=λρ M q=>a ρ M λx M1=> ∃l,x= .tup l /\ q l (λ_=>True) M1
def gN (lo:Int)(n:Nat):List W:=(List.range n).map λ(k:Nat)=>wi (lo+(k:Int))
def Hv (a:WA):WI:=λρ M q=>a ρ M λxs M1=> ∃j:Int,xs= [wi j] /\ -(2 ^ 62) <=j /\ j<2 ^ 62 /\ q (gN 0 j.toNat) (λ_=>True) M1
theorem DL {H1:Hp}{p:Addr}{l:List W}:EC K H1 (Itl K p) l (λM'=>M' p=some (.lst l)):=by intro i M H ts m hk;obtain⟨vs,hv,rr⟩:=m p _ hk;have hl:=rr.length;refine⟨λh=>⟨vs,ix.of hv,by lia⟩,λh=>⟨vs,vs[i]'(by lia),ix.of hv,by simp⟩,λv H' hi y=> ?_⟩;obtain⟨rfl,y⟩:=y;have:=y vs (ix.of hv);obtain⟨d,hd,r⟩:=rr.back this;exact⟨bo.refl _,m,d,hd,r⟩
theorem Hy {H1:Hp}{p:Addr}{l:List W}{vs:List V}(hv:kD K H1 p vs)(rr:cF K H1 l vs):EC K H1 (Itt K p) l (λ_=>True):=by intro i M H ts m _;have wX:=Un.sqT ts hv;have S':=rr.ts ts;have hl:=S'.length;refine⟨λh=>⟨vs,wX,by lia⟩,λh=>⟨vs,vs[i]'(by lia),wX,by simp⟩,λv H' hi y=> ?_⟩;obtain⟨rfl,y⟩:=y;have:=y vs wX;obtain⟨d,hd,r⟩:=S'.back this;exact⟨bo.refl _,m,d,hd,r⟩
theorem Hz {H1:Hp}{lo:Int}{n:Nat}:EC K H1 (W0 lo n) (gN lo n) (λ_=>True):=by
 intro i M H ts m _;have hl:(gN lo n).length=n:=by simp[gN]
 rw[hl];refine⟨λh=>iZ h,λh=>h,λv H' hi y=> ?_⟩;obtain⟨rfl,y⟩:=y;refine⟨bo.refl _,m,wi (lo+i),?_,by rw[y];exact WR.v⟩;simp[gN,hi]
instance {t:TE}{a:WE} [ia:IE K t a]:II K (HC K t) (Hw a) where
 imp:=λρ M σ H q R o h k=>ia.imp ρ M σ H _ _ o h λx M1 v H1 ⟨p,l,e,hp,h1⟩ t1 m1 r1=>by subst e;obtain⟨vs,hv,rr⟩:=m1 p _ hp;exact⟨p,r1.eq,⟨vs,ix.of hv⟩,k l _ _ M1 H1 h1 t1 m1 DL⟩
instance {t:TE}{a:WE} [ia:IE K t a]:II K (Ug K t) (T' a) where
 imp:=λρ M σ H q R o h k=>ia.imp ρ M σ H _ _ o h λx M1 v H1 ⟨l,e,h1⟩ t1 m1 r1=>by subst e;obtain⟨p,vs,rfl,hv,rr⟩:=r1.tup;exact⟨p,rfl,⟨vs,hv⟩,k l _ _ M1 H1 h1 t1 m1 (Hy hv rr)⟩
instance {t:TA}{a:WA} [ia:IA K t a]:II K (Nj t) (Hv a) where
 imp:=λρ M σ H q R o h k=>ia.imp ρ M σ H _ _ o h λxs M1 v H1 ⟨j,e,h0,h1,h2⟩ t1 m1 r1=>by subst e;obtain⟨v,rfl,r⟩:=r1.one;cases r.eq;exact⟨j,rfl,h0,h1,k _ _ _ M1 H1 h2 t1 m1 Hz⟩
def S6 (it:WI)(g:WG)(b:WS):WS:=λD ρ M=>it ρ M λxs keep M1=> ∃I:Nat ->dB ->Mp ->Prop,I 0 ρ M1 /\ (∀i ρ M,i<=xs.length ->I i ρ M ->keep M) /\(∀i x ρ M,xs[i]? =some x ->I i ρ M ->g x ρ M λρ2 M2=>b {D with nx:=I (i+1),ct:=I (i+1),bk:=D.nx} ρ2 M2) /\ ∀ρ M,I xs.length ρ M ->D.nx ρ M
instance {ti:TI}{g:TG}{t:TS}{it:WI}{w:WG}{b:WS} [ii:II K ti it] [ig:IG K g w] [ib:IS K t b]:IS K (SQ ti g t) (S6 it w b) where
 imp :=λρ M σ H D' D o h e=>ii.imp ρ M σ H _ _ o h λxs keep J M1 H1 h1 t1 m1 ok=>by
  obtain⟨I,h0,hk,hs,hd⟩:=h1;refine⟨λi m σ' H'=>m=xs.length - i /\ i<=xs.length /\ ∃ρ' M',I i ρ' M' /\ bo H1 H' /\ Ok K ρ' M' σ' H',⟨_,rfl,cU _,ρ,M1,h0,bo.refl _,o.mv t1 m1⟩,?_⟩;rintro i m σ' H' ⟨rfl,hi,ρ',M',hI,ts,o'⟩;obtain⟨k1,k2,k3⟩:=ok i M' H' ts o'.hp (hk i ρ' M' hi hI);by_cases f6:i<xs.length
  ·refine .inr ⟨k2 f6,λσ2 H2=> ∃ρ2 M2,I (i+1) ρ2 M2 /\ bo H1 H2 /\ Ok K ρ2 M2 σ2 H2,λσ2 H2 ⟨ρ2,M2,a,b,c⟩=>⟨xs.length - (i+1),by lia,rfl,f6,ρ2,M2,a,b,c⟩,λv H2 y=> ?_⟩;obtain⟨ty,my,x,hx,r⟩:=k3 v H2 f6 y;replace ts:=ts.trans ty;refine ig.imp x v ρ' M' σ' H2 _ _ (o'.mv ty my) r (hs i x ρ' M' hx hI) λρ3 M3 σ3 H3 h3 t3 o3=>ib.imp ρ3 M3 σ3 H3 _ _ o3 h3 ⟨λa b c d h t o=>⟨a,b,h,(ts.trans t3).trans t,o⟩,λa b c d h t=>e.rt a b c d h (t1.trans ((ts.trans t3).trans t)),λa b c d h t=>e.nx a b c d h (t1.trans ((ts.trans t3).trans t)),λa b c d h t o=>⟨a,b,h,(ts.trans t3).trans t,o⟩⟩
  ·have e':i=xs.length:=by lia
   subst e';exact .inl ⟨k1 rfl,e.nx ρ' M' σ' H' (hd ρ' M' hI) (t1.trans ts) o'⟩
def z6 (c:WT)(b:WS):WS:=λD ρ M=> ∃I:Nat ->dB ->Mp ->Prop,(∃m,I m ρ M) /\ ∀m ρ M,I m ρ M ->c ρ M λk M1=>if k=true then b {D with nx:=λρ' M'=> ∃m',m'<m /\ I m' ρ' M',ct:=λρ' M'=> ∃m',m'<m /\ I m' ρ' M',bk:=D.nx} ρ M1 else D.nx ρ M1
instance {tc:TT}{t:TS}{c:WT}{b:WS} [ic:IT K tc c] [ib:IS K t b]:IS K (FE tc t) (z6 c b) where
 imp :=λρ M σ H D' D o ⟨I,⟨m,h0⟩,hs⟩ e=>by
  refine⟨λm σ' H'=> ∃ρ' M',I m ρ' M' /\ bo H H' /\ Ok K ρ' M' σ' H',⟨m,ρ,M,h0,bo.refl _,o⟩,?_⟩;rintro m σ' H' ⟨ρ',M',hI,ts,o'⟩;refine ic.imp ρ' M' σ' H' _ _ o' (hs m ρ' M' hI) λk M1 H1 h1 t1 m1=> ?_;cases k with
  | true=>simp only[bN] at h1 ⊢;refine⟨λσ2 H2=> ∃m',m'<m /\ ∃ρ2 M2,I m' ρ2 M2 /\ bo H H2 /\ Ok K ρ2 M2 σ2 H2,λσ2 H2 h=>h,ib.imp ρ' M1 σ' H1 _ _ (o'.mv t1 m1) h1 ⟨λa b c d ⟨m',hm,h⟩ t o=>⟨m',hm,a,b,h,(ts.trans t1).trans t,o⟩,λa b c d h t=>e.rt a b c d h ((ts.trans t1).trans t),λa b c d h t=>e.nx a b c d h ((ts.trans t1).trans t),λa b c d ⟨m',hm,h⟩ t o=>⟨m',hm,a,b,h,(ts.trans t1).trans t,o⟩⟩⟩
  | false=>simp only[ay,bf] at h1 ⊢;exact e.nx ρ' M1 σ' H1 h1 (ts.trans t1) (o'.mv t1 m1)
def capρ (own:Nat)(fr:List Nat)(ρ:dB):dB:=List.replicate own none++fr.map λj=>(ρ[j]?).join
theorem JI.RK {H:Hp}{ρ:dB}{σ:St}(own:Nat)(fr:List Nat)(h:JI K H ρ σ):JI K H (capρ own fr ρ) (lC own fr σ):=by
 unfold capρ lC;refine⟨by simp,λi x e=> ?_⟩;by_cases hi:i<own
 ·rw[a9 (by simpa using hi),d7,ak hi] at e;cases e
 ·rw [aU (by simpa using hi),gj,aA] at e;rw[aU (by simpa using hi),gj,aA];cases ej:fr[i - own]? with
  | none=>rw[ej] at e;cases e
  | some j=>
   rw[ej] at e;simp only[pK,vE] at e ⊢;cases er:ρ[j]? with
   | none=>rw[er] at e;cases e
   | some z=>rw[er] at e;simp only[Option.join_some] at e;subst e;obtain⟨v,ev,r⟩:=h.2 j x er;exact⟨v,by rw[ev];rfl,r⟩
def Mg (it:WI)(own:Nat)(fr:List Nat)(g:WG)(c:WT)(el:WE):WE:=λρ M q=>it ρ M λxs keep M1=>xs.length<=sizeLine /\ ∀p,M1 p=none -> ∃I:Nat ->List W ->Mp ->Prop,I 0 [] (um M1 p (.lst [])) /\(∀i ys M,i<=xs.length ->I i ys M ->keep M /\ M p=some (.lst ys) /\ ys.length<=i) /\(∀i x ys M,xs[i]? =some x ->I i ys M ->g x (capρ own fr ρ) M λρ2 M2=>c ρ2 M2 λb M3=>if b=true then el ρ2 M3 λy M4=>M4 p=some (.lst ys) /\ I (i+1) (ys++ [y]) (um M4 p (.lst (ys++ [y]))) else I (i+1) ys M3) /\∀ys M,I xs.length ys M ->q (wr p) M
instance {ti:TI}{own:Nat}{fr:List Nat}{g:TG}{tc:TT}{te:TE}{it:WI}{w:WG}{c:WT}{el:WE} [ii:II K ti it] [ig:IG K g w] [ic:IT K tc c] [ie:IE K te el]:IE K (Mx ti own fr g tc te) (Mg it own fr w c el) where
 imp :=λρ M σ H q Q o h k=>ii.imp ρ M σ H _ _ o h λxs keep J M1 H1 h1 t1 m1 ok=>by
  intro p hp;obtain⟨hz,h1⟩:=h1;obtain⟨I,h0,hk,hs,hd⟩:=h1 p (m1.fresh hp);have tp:=L2.fE.ts (b8 (o:= .lst []) hp);refine⟨λi m vs H'=>m=xs.length - i /\ i<=xs.length /\ ∃ys M',I i ys M' /\ bo H1 H' /\ gY K M' H' /\ cF K H' ys vs /\ H' p=some (.lst vs),⟨_,rfl,cU _,[],_,h0,tp,m1.rf hp cF.nil,cF.nil,bU⟩,?_⟩;rintro i m vs H' ⟨rfl,hi,ys,M',hI,ts,m',rv,hv⟩;refine⟨hv,?_⟩;obtain⟨kp,hMp,hyl⟩:=hk i ys M' hi hI;obtain⟨k1,k2,k3⟩:=ok i M' H' ts m' kp;by_cases f6:i<xs.length
  ·refine .inr ⟨k2 f6,by rw[rv.length];lia,λv H2 y=> ?_⟩;obtain⟨ty,my,x,hx,r⟩:=k3 v H2 f6 y;replace ts:=ts.trans ty;have oc:Ok K (capρ own fr ρ) M' (lC own fr σ) H2:=⟨(o.env.ts (t1.trans ts)).RK own fr,my⟩
   refine ig.imp x v _ M' _ H2 _ _ oc r (hs i x ys M' hx hI) λρ3 M3 σ3 H3 h3 t3 o3=>ic.imp ρ3 M3 σ3 H3 _ _ o3 h3 λb M4 H4 h4 t4 m4=> ?_;cases b with
   | true=>simp only[bN] at h4 ⊢;refine ie.imp ρ3 M4 σ3 H4 _ _ (o3.mv t4 m4) h4 λz M5 u H5 ⟨h5,h6⟩ t5 m5 r5=> ?_;obtain⟨Mj,HG,Kn⟩:=m5 p _ h5;have Xi:=(t3.trans t4).trans t5;have t6:=nA (u:= .lst (Mj++ [u])) HG;exact⟨Mj,HG,by rw[Kn.length];lia,_,by lia,rfl,f6,_,_,h6,(ts.trans Xi).trans t6,m5.putL HG (Kn.snoc r5),(Kn.snoc r5).ts t6,bU⟩
   | false=>simp only[ay,bf] at h4 ⊢;obtain⟨Mj,HG,Kn⟩:=m4 p _ (hk (i+1) ys M4 f6 h4).2.1;exact⟨Mj,_,by lia,rfl,f6,_,_,h4,ts.trans (t3.trans t4),m4,Kn,HG⟩
  ·have e':i=xs.length:=by lia
   subst e';exact .inl ⟨k1 rfl,k _ M' _ H' (hd ys M' hI) (t1.trans ts) m' WR.v⟩
def R8:WT:=λ_ M q=>q true M
instance:IT K SH R8 where
 imp:=λρ M σ H q Q o h k=>k _ M H h (bo.refl H) o.hp
end
section
variable {K:PySem.W.Frag}
theorem gY.sub {M M':Mp}{H:Hp}(s:Sm M M')(m:gY K M' H):gY K M H:=λa o e=>m a o (s a o e)
theorem rb {P:Program}{w:World}{mg:Str ->Option Value}{base:Heap}{x qual:Str}{st:Stmt}{f:Addr}{fd:FuncData}{N ps:List Str}{k:Nat}{p:mN}(F:E5 K x qual st f fd)(S:b7 N ps (aQ st))(len: ∀vs M q,p vs M q ->vs.length=ps.length) (pj: ∀ (eQ:Value) (A:Around) (outer:List Env) (s:Shared) (H:Hp) (E:XK),gJ k (A.deeper (PyProof.Rows.envOfC qual (aQ st) s.heap.objs.size f eQ)) ->∃t,zD (fT kJ P w K mg base N qual (aQ st) f eQ A outer s H E).Pm (fo st) t /\ ∃w',IS K t w' /\ ∀vs M q,p vs M q ->w' {nx:=λ_ M'=> ∃M0,Sm M0 M' /\ q wn M0,rt:=λx M'=> ∃M0,Sm M0 M' /\ q x M0} (vs.map some++List.replicate (N.length - vs.length) none) M): eh P w K mg base kJ (k+1) f fd ps (oz K p):=by
 have h:=okW (K:=K) (P:=P) (w:=w) (mg:=mg) (base:=base) (k:=k) (p:=λvs M q=> ∃q',p vs M q' /\ q=λx M'=> ∃M0,Sm M0 M' /\ q' x M0) F S (λvs M q ⟨q',h,_⟩=>len vs M q' h) λeQ A outer s H E hr=>by obtain⟨t,h1,w',h2,h3⟩:=pj eQ A outer s H E hr;refine⟨t,w',h1,h2,?_⟩;rintro vs M q ⟨q',h,rfl⟩;exact h3 vs M q' h
 refine h.imp λvs H Q E ⟨xs,M,q,r,m,hp,hk⟩=>⟨xs,M,_,r,m,⟨q,hp,rfl⟩,?_⟩
 rintro x M' v H' ⟨M0,s,hq⟩ ts m' r';exact hk x M0 v H' hq ts (m'.sub s) r'
theorem Ej {xs:List W}{keep:Mp ->Prop}{M1:Mp}{own:Nat}{fr:List Nat}{ρ:dB}{g:WG}{c:WT}{el:WE}{q:WK}(f:W ->Option W)(hz:xs.length<=sizeLine)(kq: ∀M,Sm M1 M ->keep M) (hs: ∀ (i:Nat) x,xs[i]? =some x -> ∀ (M:Mp) (N:Option W ->Mp ->Prop),Sm M1 M ->N (f x) M ->g x (capρ own fr ρ) M λρ2 M2=>c ρ2 M2 λb M3=>if b=true then el ρ2 M3 λy M4=>N (some y) M4 else N none M3) (hq: ∀p,M1 p=none ->q (wr p) (um M1 p (.lst (xs.filterMap f)))): xs.length<=sizeLine /\ ∀p,M1 p=none -> ∃I:Nat ->List W ->Mp ->Prop,I 0 [] (um M1 p (.lst [])) /\(∀i ys M,i<=xs.length ->I i ys M ->keep M /\ M p=some (.lst ys) /\ ys.length<=i) /\(∀i x ys M,xs[i]? =some x ->I i ys M ->g x (capρ own fr ρ) M λρ2 M2=>c ρ2 M2 λb M3=>if b=true then el ρ2 M3 λy M4=>M4 p=some (.lst ys) /\ I (i+1) (ys++ [y]) (um M4 p (.lst (ys++ [y]))) else I (i+1) ys M3) /\∀ys M,I xs.length ys M ->q (wr p) M:=by
 refine⟨hz,λp hp=>⟨λi ys M=>M=um M1 p (.lst ys) /\ ys=(xs.take i).filterMap f,⟨rfl,by simp⟩,?_,?_,?_⟩⟩
 ·rintro i ys M hi ⟨rfl,rfl⟩;refine⟨kq _ (c4 hp),um_same,a4 (E1 _ _) ?_⟩;rw[a6];lia
 ·rintro i x ys M hx ⟨rfl,rfl⟩;refine hs i x hx _ (λo M4=>match o with
  | some y=>M4 p=some (.lst ((xs.take i).filterMap f)) /\ (um M4 p (.lst ((xs.take i).filterMap f++ [y]))=um M1 p (.lst ((xs.take i).filterMap f++ [y])) /\ (xs.take i).filterMap f++ [y]=(xs.take (i+1)).filterMap f)
  | none=>M4=um M1 p (.lst ((xs.take i).filterMap f)) /\ (xs.take i).filterMap f=(xs.take (i+1)).filterMap f) (c4 hp) ?_
  have e:xs.take (i+1)=xs.take i++ [x]:=by rw[bD,hx];rfl
  cases hf:f x with
  | none=>exact⟨rfl,by rw[e,LW];simp[hf]⟩
  | some y=>exact⟨um_same,um_um,by rw[e,LW];simp[hf]⟩
 ·rintro ys M ⟨rfl,rfl⟩;rw[cn];exact hq p hp
mutual
def Ei:W ->Option Dt
 | .v .dS=>some .dS
 | .v (.bl b)=>some (.bl b)
 | .v (.int i)=>some (.int i)
 | .v (.str x)=>some (.str x)
 | .v _=>none
 | .tup l=>(qt l).map .tup
def qt:List W ->Option (List Dt)
 | []=>some []
 | x::r=>match Ei x,qt r with
  | some d,some l=>some (d::l)
  | _,_=>none
end
mutual
theorem Gj {H:Hp}: ∀ (x:W) (d:Dt) (v:V),Ei x=some d ->WR K H x v ->Rep K H d v
 | .v y,d,v,e,r=>by cases r.eq;cases y<;>simp only[Ei,vE,reduceCtorEq] at e<;>subst e<;>simp only[Rep]
 | .tup l,d,v,e,r=>by
  obtain⟨a,vs,rfl,hv,rr⟩:=r.tup;simp only[Ei] at e;cases hd:qt l with
  | none=>rw[hd] at e;cases e
  | some ds=>rw[hd] at e;cases e;simp only[Rep];exact⟨a,vs,rfl,hv,wq l ds vs hd rr⟩
theorem wq {H:Hp}: ∀ (l:List W) (ds:List Dt) (vs:List V),qt l=some ds ->cF K H l vs ->gX K H ds vs
 | [],ds,vs,e,r=>by simp only[qt] at e;cases e;simp only[cF] at r;simp only[gX];exact r
 | x ::l,ds,vs,e,r=>by
  simp only[qt] at e;cases hx:Ei x with
  | none=>rw[hx] at e;cases e
  | some d=>
   cases hl:qt l with
   | none=>rw[hx,hl] at e;cases e
   | some ds'=>rw[hx,hl] at e;cases e;simp only[cF] at r;obtain⟨v,t,rfl,r1,r2⟩:=r;simp only[gX];exact⟨v,t,rfl,Gj x d v hx r1,wq l ds' t hl r2⟩
end
def DR (M:Mp)(x:W)(d:Dt):Prop:=Ei x=some d \/ ∃a l ds,x=wr a /\ M a=some (.lst l) /\ qt l=some ds /\ d= .lst ds
theorem DR.rep {M:Mp}{H:Hp}{x:W}{d:Dt}{v:V}(m:gY K M H)(r:WR K H x v)(h:DR M x d):Rep K H d v:=by
 rcases h with h | ⟨a,l,ds,rfl,hl,e,rfl⟩
 ·exact Gj x d v h r
 ·cases r.eq;obtain⟨vs,hv,rr⟩:=m a _ hl;simp only[Rep];exact⟨a,vs,rfl,ix.of hv,wq l ds vs e rr⟩
def Sj:zB:=λx y M q=> ∃d e,DR M x d /\ DR M y e /\ rG d e=true /\ zA d<=50 /\ q (wb (ui d e)) M
instance:IR K (Tn K) Sj where
 imp:=by rintro x y v u M H q Q m r1 r2 ⟨d,e,h1,h2,h3,h4,h⟩ k;exact⟨d,e,h3,h4,h1.rep m r1,h2.rep m r2,k _ M _ H h (bo.refl H) m WR.v⟩
instance {r r':R2}{t u s:TE}{a b c:WE}{w w':zB} [ir:IR K r w] [ir':IR K r' w'] [ia:IE K t a] [ib:IE K u b] [ic:IE K s c]:IE K (FR r r' t u s) (Fv w w' a b c) where
 imp :=λρ M σ H q Q o h k=>ia.imp ρ M σ H _ _ o h λx M1 v H1 h1 t1 m1 r1=>ib.imp ρ M1 σ H1 _ _ (o.mv t1 m1) h1 λy M2 u H2 h2 t2 m2 r2=>ir.imp x y v u M2 H2 _ _ m2 (r1.ts t2) r2 h2 λz M3 v3 H3 ⟨kk,e,h3⟩ t3 m3 r3=>by
  subst e;refine⟨kk,r3.eq,?_⟩;cases kk with
  | true=>simp only[bN] at h3 ⊢;exact ic.imp ρ M3 σ H3 _ _ (o.mv ((t1.trans t2).trans t3) m3) h3 λy4 M4 v4 H4 h4 t4 m4 r4=>ir'.imp y y4 u v4 M4 H4 _ _ m4 (r2.ts (t3.trans t4)) r4 h4 λz5 M5 v5 H5 h5 t5 m5 r5=>k z5 M5 v5 H5 h5 ((((t1.trans t2).trans t3).trans t4).trans t5) m5 r5
  | false=>simp only[ay,bf] at h3 ⊢;exact k _ M3 _ H3 h3 ((t1.trans t2).trans t3) m3 WR.v
def Fi:C4:=λxs M q=> ∃ (d:Addr) (kvs:List (Key×W)) (ks:List Int),xs= [wr d] /\ M d=some (.dK kvs) /\ kvs.map (·.1)=ks.map Sum.inl /\ ks.length<=sizeLine /\ ∀ (p:Addr) (ns:List Int),M p=none ->ns.Perm ks ->ns.Pairwise (· <= ·) ->q (wr p) (um M p (.lst (ns.map wi)))
instance:IC K yg Fi where
 imp:=by rintro xs v M H q Q m r1 ⟨d,kvs,ks,rfl,hd,hk,hl,h⟩ k;obtain⟨v,rfl,r⟩:=r1.one;cases r.eq;obtain⟨vs,hv,rr⟩:=m d _ hd;exact⟨d,vs,ks,rfl,hv,by rw[rr.keys];exact hk,hl,λp ns hp h1 h2=>k _ _ _ _ (h p ns (m.fresh hp) h1 h2) (L2.fE.ts (b8 hp)) (m.rf hp (cF.ofInts ns)) WR.v⟩
end
end WL
namespace WL
open PySem L2
theorem atI_0 {α:Type}{a:α}{l:List α}:mX (a::l) 0=some a:=iF (j:=0) (by rfl)
theorem atI_1 {α:Type}{a b:α}{l:List α}:mX (a::b::l) 1=some b:=iF (j:=1) (by rfl)
theorem atI_2 {α:Type}{a b c:α}{l:List α}:mX (a::b::c::l) 2=some c:=iF (j:=2) (by rfl)
theorem atI_3 {α:Type}{a b c d:α}{l:List α}:mX (a::b::c::d::l) 3=some d:=iF (j:=3) (by rfl)
theorem ixN_1 {n:Nat}:sU (n+1+1) 1=some 1:=by unfold sU;rw[ak (by lia),ak (by lia)];rfl
theorem ixN_2 {n:Nat}:sU (n+1+1+1) 2=some 2:=by unfold sU;rw[ak (by lia),ak (by lia)];rfl
theorem ixN_3 {n:Nat}:sU (n+1+1+1+1) 3=some 3:=by unfold sU;rw[ak (by lia),ak (by lia)];rfl
theorem LO {α:Type}{l:List α}{i:Int}{a:α}(h0:0<=i)(h:l[i.toNat]? =some a):mX l i=some a:=by
 have e:((i.toNat:Nat):Int)=i:=by lia
 rw[<- e];exact iF h
theorem nj {M:Mp}{P:Mp ->Prop}(h:P M): ∃M0,Sm M0 M /\ P M0:=⟨M,Sm.refl M,h⟩
def NB (d:Addr)(M M':Mp):Prop:= ∀b,b≠d ->M' b=M b
theorem NB.refl (d:Addr)(M:Mp):NB d M M:=λ_ _=>rfl
theorem NB.trans {d:Addr}{M M1 M2:Mp}(a:NB d M M1)(b:NB d M1 M2):NB d M M2:=λc n=>(b c n).trans (a c n)
theorem NB.put {d:Addr}{M:Mp}{o:MO}:NB d M (um M d o):=λb n=>aJ n
def Dr (M:Mp)(d l:Addr):Prop:= ∃ (ns:List Int) (i c s:Int),M d=some (.lst [wr l,wi i,wi c,wi s]) /\ M l=some (.lst (ns.map wi)) /\ 0<=i /\ d≠l
theorem Dr.put {M:Mp}{d l p:Addr}{o:MO}(h:Dr M d l)(hp:M p=none):Dr (um M p o) d l:=by obtain⟨ns,i,c,s,h1,h2,h3,h4⟩:=h;exact⟨ns,i,c,s,by rw[aJ (dG h1 hp)];exact h1,by rw[aJ (dG h2 hp)];exact h2,h3,h4⟩
theorem Dr.O3 {M:Mp}{d l p:Addr}{o:MO}(h:Dr M d l)(hd:p≠d)(hl:p≠l):Dr (um M p o) d l:=by obtain⟨ns,i,c,s,h1,h2,h3,h4⟩:=h;exact⟨ns,i,c,s,by rw[aJ hd.symm];exact h1,by rw[aJ hl.symm];exact h2,h3,h4⟩
theorem Dr.ne {M:Mp}{d l p:Addr}(h:Dr M d l)(hp:M p=none):p≠d /\ p≠l:=by obtain⟨ns,i,c,s,h1,h2,h3,h4⟩:=h;exact⟨(dG h1 hp).symm,(dG h2 hp).symm⟩
def dI (q:Int×Int):W:= .tup [wi q.1,wi q.2]
def cR (l:List (Int×Int)):W:= .tup (l.map dI)
theorem pairs_at {l:List (Int×Int)}{i:Nat}{x:W}(h:(l.map dI)[i]? =some x): ∃q,l[i]? =some q /\ x=dI q:=by
 rw[aA] at h;cases e:l[i]? with
 | none=>rw[e] at h;cases h
 | some q=>rw[e] at h;cases h;exact⟨q,rfl,rfl⟩
theorem sW {l:List Int}{i:Nat}{x:W}(h:(l.map wi)[i]? =some x): ∃n,l[i]? =some n /\ x=wi n:=by
 rw[aA] at h;cases e:l[i]? with
 | none=>rw[e] at h;cases h
 | some q=>rw[e] at h;cases h;exact⟨q,rfl,rfl⟩
theorem oJ {lo:Int}{n i:Nat}{x:W}(h:(gN lo n)[i]? =some x):i<n /\ x=wi (lo+i):=by
 unfold gN at h;rw[aA] at h;by_cases hi:i<n
 ·rw[fF hi] at h;cases h;exact⟨hi,rfl⟩
 ·rw[cZ (by simpa using hi)] at h;cases h
theorem kh {lo:Int}{n:Nat}:(gN lo n).length=n:=by simp[gN]
def lstK (o:Option MO)(k:List W ->Prop):Prop:= ∃l,o=some (.lst l) /\ k l
def kS (o:Option MO)(k:List (Key×W) ->Prop):Prop:= ∃l,o=some (.dK l) /\ k l
def ue {α:Type}(o:Option α)(k:α ->Prop):Prop:= ∃a,o=some a /\ k a
def jA (C Q:Prop):Prop:=C /\ Q
def jv (b:Bool)(A B:Prop):Prop:=if b=true then A else B
def sL (M:Mp)(k:Addr ->Prop):Prop:= ∀p,M p=none ->k p
def IW (p:mN)(xs:List W)(M:Mp)(q:WK):Prop:=p xs M q
def Uc (x:W)(M:Mp)(q:Bool ->Mp ->Prop):Prop:= ∃k,x=wb k /\ q k M
def hW (x:W)(k:Addr ->Prop):Prop:= ∃a,x=wr a /\ k a
def tupK (x:W)(k:List W ->Prop):Prop:= ∃l,x= .tup l /\ k l
def OI (M:Mp)(x:W)(k:Bool ->Prop):Prop:= ∃b,J6 M x b /\ k b
def qm (x:W)(k:Key ->Prop):Prop:= ∃y,x=gd y /\ k y
def Vc (xs:List W)(keep:Mp ->Prop)(g:WG)(b:WS)(D:kA)(ρ:dB)(M1:Mp):Prop:= ∃I:Nat ->dB ->Mp ->Prop,I 0 ρ M1 /\ (∀i ρ M,i<=xs.length ->I i ρ M ->keep M) /\(∀i x ρ M,xs[i]? =some x ->I i ρ M ->g x ρ M λρ2 M2=>b {D with nx:=I (i+1),ct:=I (i+1),bk:=D.nx} ρ2 M2) /\ ∀ρ M,I xs.length ρ M ->D.nx ρ M
def vn (xs:List W)(keep:Mp ->Prop)(own:Nat)(fr:List Nat)(g:WG)(c:WT)(el:WE)(ρ:dB)(M1:Mp)(q:WK):Prop:=xs.length<=sizeLine /\ ∀p,M1 p=none -> ∃I:Nat ->List W ->Mp ->Prop,I 0 [] (um M1 p (.lst [])) /\(∀i ys M,i<=xs.length ->I i ys M ->keep M /\ M p=some (.lst ys) /\ ys.length<=i) /\(∀i x ys M,xs[i]? =some x ->I i ys M ->g x (capρ own fr ρ) M λρ2 M2=>c ρ2 M2 λb M3=>if b=true then el ρ2 M3 λy M4=>M4 p=some (.lst ys) /\ I (i+1) (ys++ [y]) (um M4 p (.lst (ys++ [y]))) else I (i+1) ys M3) /\∀ys M,I xs.length ys M ->q (wr p) M
def Ff (c:WT)(b:WS)(D:kA)(ρ:dB)(M:Mp):Prop:=z6 c b D ρ M
section
variable {M:Mp}{ρ:dB}{q:WK}{a b c:WE}{D:kA}
theorem lstK_e {l:List W}{k:List W ->Prop}:lstK (some (.lst l)) k=k l:=by apply propext;constructor;(· rintro⟨_,h,k⟩;cases h;exact k);(· intro h;exact⟨_,rfl,h⟩)
theorem dicK_e {l:List (Key×W)}{k:List (Key×W) ->Prop}:kS (some (.dK l)) k=k l:=by apply propext;constructor;(· rintro⟨_,h,k⟩;cases h;exact k);(· intro h;exact⟨_,rfl,h⟩)
theorem optK_e {α:Type}{x:α}{k:α ->Prop}:ue (some x) k=k x:=by apply propext;constructor;(· rintro⟨_,h,k⟩;cases h;exact k);(· intro h;exact⟨_,rfl,h⟩)
theorem andK_e {Q:Prop}:jA True Q=Q:=by simp[jA]
theorem iteK_t {A B:Prop}:jv true A B=A:=by simp[jv]
theorem iteK_f {A B:Prop}:jv false A B=B:=by simp[jv]
theorem isB_e {k:Bool}{q:Bool ->Mp ->Prop}:Uc (.v (.bl k)) M q=q k M:=by apply propext;constructor;(· rintro⟨_,h,k⟩;cases h;exact k);(· intro h;exact⟨_,rfl,h⟩)
theorem refK_e {x:Addr}{k:Addr ->Prop}:hW (.v (.ref x)) k=k x:=by apply propext;constructor;(· rintro⟨_,h,k⟩;cases h;exact k);(· intro h;exact⟨_,rfl,h⟩)
theorem tupK_e {x:List W}{k:List W ->Prop}:tupK (.tup x) k=k x:=by apply propext;constructor;(· rintro⟨_,h,k⟩;cases h;exact k);(· intro h;exact⟨_,rfl,h⟩)
theorem keyK_i {i:Int}{k:Key ->Prop}:qm (.v (.int i)) k=k (.inl i):=by apply propext;constructor;(· rintro⟨y,h,z⟩;cases y<;>cases h;exact z);(· intro h;exact⟨.inl i,rfl,h⟩)
theorem wVar_0 {x:W}{r:dB}:hV 0 (some x::r) M q=q x M:=rfl
theorem wVar_1 {x0:Option W}{x:W}{r:dB}:hV 1 (x0::some x::r) M q=q x M:=rfl
theorem wVar_2 {x0 x1:Option W}{x:W}{r:dB}:hV 2 (x0::x1::some x::r) M q=q x M:=rfl
theorem wVar_3 {x0 x1 x2:Option W}{x:W}{r:dB}:hV 3 (x0::x1::x2::some x::r) M q=q x M:=rfl
theorem wVar_4 {x0 x1 x2 x3:Option W}{x:W}{r:dB}:hV 4 (x0::x1::x2::x3::some x::r) M q=q x M:=rfl
theorem wVar_5 {x0 x1 x2 x3 x4:Option W}{x:W}{r:dB}:hV 5 (x0::x1::x2::x3::x4::some x::r) M q=q x M:=rfl
theorem wVar_6 {x0 x1 x2 x3 x4 x5:Option W}{x:W}{r:dB}:hV 6 (x0::x1::x2::x3::x4::x5::some x::r) M q=q x M:=rfl
theorem wVar_7 {x0 x1 x2 x3 x4 x5 x6:Option W}{x:W}{r:dB}:hV 7 (x0::x1::x2::x3::x4::x5::x6::some x::r) M q=q x M:=rfl
theorem wVar_8 {x0 x1 x2 x3 x4 x5 x6 x7:Option W}{x:W}{r:dB}:hV 8 (x0::x1::x2::x3::x4::x5::x6::x7::some x::r) M q=q x M:=rfl
theorem wVar_9 {x0 x1 x2 x3 x4 x5 x6 x7 x8:Option W}{x:W}{r:dB}:hV 9 (x0::x1::x2::x3::x4::x5::x6::x7::x8::some x::r) M q=q x M:=rfl
theorem wVar_10 {x0 x1 x2 x3 x4 x5 x6 x7 x8 x9:Option W}{x:W}{r:dB}:hV 10 (x0::x1::x2::x3::x4::x5::x6::x7::x8::x9::some x::r) M q=q x M:=rfl
theorem wVar_11 {x0 x1 x2 x3 x4 x5 x6 x7 x8 x9 qZ:Option W}{x:W}{r:dB}:hV 11 (x0::x1::x2::x3::x4::x5::x6::x7::x8::x9::qZ::some x::r) M q=q x M:=rfl
theorem wVar_12 {x0 x1 x2 x3 x4 x5 x6 x7 x8 x9 qZ rW:Option W}{x:W}{r:dB}:hV 12 (x0::x1::x2::x3::x4::x5::x6::x7::x8::x9::qZ::rW::some x::r) M q=q x M:=rfl
theorem wVar_13 {x0 x1 x2 x3 x4 x5 x6 x7 x8 x9 qZ rW tY:Option W}{x:W}{r:dB}:hV 13 (x0::x1::x2::x3::x4::x5::x6::x7::x8::x9::qZ::rW::tY::some x::r) M q=q x M:=rfl
theorem wVar_14 {x0 x1 x2 x3 x4 x5 x6 x7 x8 x9 qZ rW tY vM:Option W}{x:W}{r:dB}:hV 14 (x0::x1::x2::x3::x4::x5::x6::x7::x8::x9::qZ::rW::tY::vM::some x::r) M q=q x M:=rfl
theorem wVar_15 {x0 x1 x2 x3 x4 x5 x6 x7 x8 x9 qZ rW tY vM xH:Option W}{x:W}{r:dB}:hV 15 (x0::x1::x2::x3::x4::x5::x6::x7::x8::x9::qZ::rW::tY::vM::xH::some x::r) M q=q x M:=rfl
theorem wVar_16 {x0 x1 x2 x3 x4 x5 x6 x7 x8 x9 qZ rW tY vM xH zH:Option W}{x:W}{r:dB}:hV 16 (x0::x1::x2::x3::x4::x5::x6::x7::x8::x9::qZ::rW::tY::vM::xH::zH::some x::r) M q=q x M:=rfl
theorem wVar_17 {x0 x1 x2 x3 x4 x5 x6 x7 x8 x9 qZ rW tY vM xH zH Dc:Option W}{x:W}{r:dB}:hV 17 (x0::x1::x2::x3::x4::x5::x6::x7::x8::x9::qZ::rW::tY::vM::xH::zH::Dc::some x::r) M q=q x M:=rfl
theorem wVar_18 {x0 x1 x2 x3 x4 x5 x6 x7 x8 x9 qZ rW tY vM xH zH Dc E8:Option W}{x:W}{r:dB}:hV 18 (x0::x1::x2::x3::x4::x5::x6::x7::x8::x9::qZ::rW::tY::vM::xH::zH::Dc::E8::some x::r) M q=q x M:=rfl
theorem wVar_19 {x0 x1 x2 x3 x4 x5 x6 x7 x8 x9 qZ rW tY vM xH zH Dc E8 JZ:Option W}{x:W}{r:dB}:hV 19 (x0::x1::x2::x3::x4::x5::x6::x7::x8::x9::qZ::rW::tY::vM::xH::zH::Dc::E8::JZ::some x::r) M q=q x M:=rfl
theorem wVar_20 {x0 x1 x2 x3 x4 x5 x6 x7 x8 x9 qZ rW tY vM xH zH Dc E8 JZ Ol:Option W}{x:W}{r:dB}:hV 20 (x0::x1::x2::x3::x4::x5::x6::x7::x8::x9::qZ::rW::tY::vM::xH::zH::Dc::E8::JZ::Ol::some x::r) M q=q x M:=rfl
theorem wVar_21 {x0 x1 x2 x3 x4 x5 x6 x7 x8 x9 qZ rW tY vM xH zH Dc E8 JZ Ol RY:Option W}{x:W}{r:dB}:hV 21 (x0::x1::x2::x3::x4::x5::x6::x7::x8::x9::qZ::rW::tY::vM::xH::zH::Dc::E8::JZ::Ol::RY::some x::r) M q=q x M:=rfl
theorem wVar_22 {x0 x1 x2 x3 x4 x5 x6 x7 x8 x9 qZ rW tY vM xH zH Dc E8 JZ Ol RY W7:Option W}{x:W}{r:dB}:hV 22 (x0::x1::x2::x3::x4::x5::x6::x7::x8::x9::qZ::rW::tY::vM::xH::zH::Dc::E8::JZ::Ol::RY::W7::some x::r) M q=q x M:=rfl
theorem wVar_23 {x0 x1 x2 x3 x4 x5 x6 x7 x8 x9 qZ rW tY vM xH zH Dc E8 JZ Ol RY W7 x22:Option W}{x:W}{r:dB}:hV 23 (x0::x1::x2::x3::x4::x5::x6::x7::x8::x9::qZ::rW::tY::vM::xH::zH::Dc::E8::JZ::Ol::RY::W7::x22::some x::r) M q=q x M:=rfl
theorem wC_e {x:W}:wC x ρ M q=q x M:=rfl
theorem wOp_e {r:zB}:wOp r a b ρ M q=a ρ M λx M1=>b ρ M1 λy M2=>r x y M2 q:=rfl
theorem wUn_e {r:W ->Mp ->WK ->Prop}:wUn r a ρ M q=a ρ M λx M1=>r x M1 q:=rfl
theorem wI_e {C:Int ->Int ->Prop}{g:Int ->Int ->V}{i j:Int}:wI C g (.v (.int i)) (.v (.int j)) M q=jA (C i j) (q (.v (g i j)) M):=by apply propext;constructor;(· rintro⟨_,_,h1,h2,k⟩;cases h1;cases h2;exact k);(· intro h;exact⟨_,_,rfl,rfl,h⟩)
theorem wI0_e {g:Int ->Int ->V}{i j:Int}:wI0 g (.v (.int i)) (.v (.int j)) M q=q (.v (g i j)) M:=by apply propext;constructor;(· rintro⟨_,_,h1,h2,k⟩;cases h1;cases h2;exact k);(· intro h;exact⟨_,_,rfl,rfl,h⟩)
theorem wU_e {g:Int ->V}{i:Int}:wU g (.v (.int i)) M q=q (.v (g i)) M:=by apply propext;constructor;(· rintro⟨_,h,k⟩;cases h;exact k);(· intro h;exact⟨_,rfl,h⟩)
theorem wEq_i {i j:Int}:wEq (.v (.int i)) (.v (.int j)) M q=q (wb (decide (i=j))) M:=by apply propext;constructor;(· rintro⟨_,_,h1,h2,_,k⟩;cases h1;cases h2;simpa using k);(· intro h;exact⟨_,_,rfl,rfl,rfl,by simpa using h⟩)
theorem wNe_i {i j:Int}:wNe (.v (.int i)) (.v (.int j)) M q=q (wb (!decide (i=j))) M:=by apply propext;constructor;(· rintro⟨_,_,h1,h2,_,k⟩;cases h1;cases h2;simpa using k);(· intro h;exact⟨_,_,rfl,rfl,rfl,by simpa using h⟩)
theorem wTest_e {q:Bool ->Mp ->Prop}:Fh a ρ M q=a ρ M λx M1=>Uc x M1 q:=rfl
theorem wAnd_e {a b:WT}{q:Bool ->Mp ->Prop}:Sn a b ρ M q=a ρ M λc M1=>jv c (b ρ M1 q) (q false M1):=rfl
theorem wOr_e {a b:WT}{q:Bool ->Mp ->Prop}:wOr a b ρ M q=a ρ M λc M1=>jv c (q true M1) (b ρ M1 q):=rfl
theorem wNot_e {a:WT}{q:Bool ->Mp ->Prop}:Sb a ρ M q=a ρ M λc M1=>q (!c) M1:=rfl
theorem wAndV_e:Mi a b ρ M q=a ρ M λx M1=>Uc x M1 λc M1=>jv c (b ρ M1 q) (q (wb false) M1):=rfl
theorem wNotV_e:Mc a ρ M q=a ρ M λx M1=>Uc x M1 λc M1=>q (wb (!c)) M1:=rfl
theorem wChain_e {r r':zB}:Fv r r' a b c ρ M q=a ρ M λx M1=>b ρ M1 λy M2=>r x y M2 λz M3=>Uc z M3 λk M3=>jv k (c ρ M3 λy' M4=>r' y y' M4 q) (q (wb false) M3):=rfl
theorem wNil_e {q:List W ->Mp ->Prop}:Sd ρ M q=q [] M:=rfl
theorem wCons_e {r:WA}{q:List W ->Mp ->Prop}:Mf a r ρ M q=a ρ M λx M1=>r ρ M1 λxs M2=>q (x::xs) M2:=rfl
theorem wTup_e {a:WA}:R9 a ρ M q=a ρ M λxs M1=>jA (xs.length<=sizeLine) (q (.tup xs) M1):=rfl
theorem wLst_e {a:WA}:Se a ρ M q=a ρ M λxs M1=>jA (xs.length<=sizeLine) (sL M1 λp=>q (wr p) (um M1 p (.lst xs))):=rfl
theorem wIxL_e {x:Addr}{i:Int}:Sh (.v (.ref x)) (.v (.int i)) M q=lstK (M x) λl=>ue (mX l i) λu=>q u M:=by apply propext;constructor;(· rintro⟨_,l,_,u,h1,h2,h3,h4,k⟩;cases h1;cases h2;exact⟨l,h3,u,h4,k⟩);(· rintro⟨l,h3,u,h4,k⟩;exact⟨_,l,_,u,rfl,rfl,h3,h4,k⟩)
theorem wIxT_e {l:List W}{i:Int}:Sf (.tup l) (.v (.int i)) M q=ue (mX l i) λu=>q u M:=by apply propext;constructor;(· rintro⟨_,_,u,h1,h2,h4,k⟩;cases h1;cases h2;exact⟨u,h4,k⟩);(· rintro⟨u,h4,k⟩;exact⟨_,_,u,rfl,rfl,h4,k⟩)
theorem wNoPart_e {q:Option Int ->Mp ->Prop}:Bb ρ M q=q none M:=rfl
def Lb (x:W)(k:Int ->Prop):Prop:= ∃i,x=wi i /\ k i
theorem intK_e {i:Int}{k:Int ->Prop}:Lb (.v (.int i)) k=k i:=by apply propext;constructor;(· rintro⟨_,h,k⟩;cases h;exact k);(· intro h;exact⟨_,rfl,h⟩)
theorem wPart_e {q:Option Int ->Mp ->Prop}:Mb a ρ M q=a ρ M λx M1=>Lb x λi=>q (some i) M1:=rfl
theorem wSl_e {r:Vq}{lo hi:WO}:wSl r a lo hi ρ M q=a ρ M λx M1=>lo ρ M1 λl M2=>hi ρ M2 λu M3=>r x l u M3 q:=rfl
theorem wSlL_e {x:Addr}{lo hi:Option Int}:R' (.v (.ref x)) lo hi M q=lstK (M x) λl=>sL M λp=>q (wr p) (um M p (.lst (AV l lo hi))):=by apply propext;constructor;(· rintro⟨_,l,h1,h3,k⟩;cases h1;exact⟨l,h3,k⟩);(· rintro⟨l,h3,k⟩;exact⟨_,l,rfl,h3,k⟩)
theorem wCB_e {r:C4}{a:WA}:wCB r a ρ M q=a ρ M λxs M1=>r xs M1 q:=rfl
theorem wCall_e {p:mN}{a:WA}:Mh p a ρ M q=a ρ M λxs M1=>IW p xs M1 q:=rfl
theorem wLen_l {x:Addr}:Ot [.v (.ref x)] M q=lstK (M x) λl=>q (wi l.length) M:=by apply propext;constructor;(· rintro(⟨_,l,h1,h2,k⟩ | ⟨_,h1,_⟩);(· cases h1;exact⟨l,h2,k⟩);cases h1);(· rintro⟨l,h3,k⟩;exact .inl ⟨_,l,rfl,h3,k⟩)
theorem wLen_t {l:List W}:Ot [.tup l] M q=q (wi l.length) M:=by apply propext;constructor;(· rintro(⟨_,l,h1,h2,k⟩ | ⟨_,h1,k⟩);(· cases h1);cases h1;exact k);(· intro k;exact .inr ⟨l,rfl,k⟩)
theorem wAbs_e {i:Int}:Sq [.v (.int i)] M q=q (wi (if i<0 then -i else i)) M:=by apply propext;constructor;(· rintro⟨_,h,k⟩;cases h;exact k);(· intro h;exact⟨_,rfl,h⟩)
theorem wListOf_l {x:Addr}:vP [.v (.ref x)] M q=lstK (M x) λl=>sL M λp=>q (wr p) (um M p (.lst l)):=by apply propext;constructor;(· rintro⟨l,⟨_,h1,h2⟩ | h1,k⟩;(· cases h1;exact⟨l,h2,k⟩);cases h1);(· rintro⟨l,h3,k⟩;exact⟨l, .inl ⟨_,rfl,h3⟩,k⟩)
theorem wListOf_t {l:List W}:vP [.tup l] M q=sL M λp=>q (wr p) (um M p (.lst l)):=by apply propext;constructor;(· rintro⟨l,⟨_,h1,h2⟩ | h1,k⟩;(· cases h1);cases h1;exact k);(· intro k;exact⟨l, .inr rfl,k⟩)
theorem wTupleOf_l {x:Addr}:xI [.v (.ref x)] M q=lstK (M x) λl=>q (.tup l) M:=by apply propext;constructor;(· rintro⟨l,⟨_,h1,h2⟩ | h1,k⟩;(· cases h1;exact⟨l,h2,k⟩);cases h1);(· rintro⟨l,h3,k⟩;exact⟨l, .inl ⟨_,rfl,h3⟩,k⟩)
theorem wIsX_e {K:PySem.W.Frag}{x:W}{T:String}:Si K [x, .v (.ty T)] M q=ue (tyW M x) λt=>ue (PySem.W.kitOne K t (.type T)) λb=>q (wb b) M:=by apply propext;constructor;(· rintro⟨_,_,t,b,h1,h2,h3,k⟩;cases h1;exact⟨t,h2,b,h3,k⟩);(· rintro⟨t,h2,b,h3,k⟩;exact⟨_,_,t,b,rfl,h2,h3,k⟩)
theorem kit_int_int {K:PySem.W.Frag}:PySem.W.kitOne K (.type "int") (.type "int")=some true:=rfl
theorem kit_int_bool {K:PySem.W.Frag}:PySem.W.kitOne K (.type "int") (.type "bool")=some false:=rfl
theorem kit_int_str {K:PySem.W.Frag}:PySem.W.kitOne K (.type "int") (.type "str")=some false:=rfl
theorem kit_int_tuple {K:PySem.W.Frag}:PySem.W.kitOne K (.type "int") (.type "tuple")=some false:=rfl
theorem kit_int_list {K:PySem.W.Frag}:PySem.W.kitOne K (.type "int") (.type "list")=some false:=rfl
theorem kit_bool_int {K:PySem.W.Frag}:PySem.W.kitOne K (.type "bool") (.type "int")=some true:=rfl
theorem kit_bool_bool {K:PySem.W.Frag}:PySem.W.kitOne K (.type "bool") (.type "bool")=some true:=rfl
theorem kit_bool_str {K:PySem.W.Frag}:PySem.W.kitOne K (.type "bool") (.type "str")=some false:=rfl
theorem kit_bool_tuple {K:PySem.W.Frag}:PySem.W.kitOne K (.type "bool") (.type "tuple")=some false:=rfl
theorem kit_bool_list {K:PySem.W.Frag}:PySem.W.kitOne K (.type "bool") (.type "list")=some false:=rfl
theorem kit_str_int {K:PySem.W.Frag}:PySem.W.kitOne K (.type "str") (.type "int")=some false:=rfl
theorem kit_str_bool {K:PySem.W.Frag}:PySem.W.kitOne K (.type "str") (.type "bool")=some false:=rfl
theorem kit_str_str {K:PySem.W.Frag}:PySem.W.kitOne K (.type "str") (.type "str")=some true:=rfl
theorem kit_str_tuple {K:PySem.W.Frag}:PySem.W.kitOne K (.type "str") (.type "tuple")=some false:=rfl
theorem kit_str_list {K:PySem.W.Frag}:PySem.W.kitOne K (.type "str") (.type "list")=some false:=rfl
theorem kit_NoneType_int {K:PySem.W.Frag}:PySem.W.kitOne K (.type "NoneType") (.type "int")=some false:=rfl
theorem kit_NoneType_bool {K:PySem.W.Frag}:PySem.W.kitOne K (.type "NoneType") (.type "bool")=some false:=rfl
theorem kit_NoneType_str {K:PySem.W.Frag}:PySem.W.kitOne K (.type "NoneType") (.type "str")=some false:=rfl
theorem kit_NoneType_tuple {K:PySem.W.Frag}:PySem.W.kitOne K (.type "NoneType") (.type "tuple")=some false:=rfl
theorem kit_NoneType_list {K:PySem.W.Frag}:PySem.W.kitOne K (.type "NoneType") (.type "list")=some false:=rfl
theorem kit_tuple_int {K:PySem.W.Frag}:PySem.W.kitOne K (.type "tuple") (.type "int")=some false:=rfl
theorem kit_tuple_bool {K:PySem.W.Frag}:PySem.W.kitOne K (.type "tuple") (.type "bool")=some false:=rfl
theorem kit_tuple_str {K:PySem.W.Frag}:PySem.W.kitOne K (.type "tuple") (.type "str")=some false:=rfl
theorem kit_tuple_tuple {K:PySem.W.Frag}:PySem.W.kitOne K (.type "tuple") (.type "tuple")=some true:=rfl
theorem kit_tuple_list {K:PySem.W.Frag}:PySem.W.kitOne K (.type "tuple") (.type "list")=some false:=rfl
theorem kit_list_int {K:PySem.W.Frag}:PySem.W.kitOne K (.type "list") (.type "int")=some false:=rfl
theorem kit_list_bool {K:PySem.W.Frag}:PySem.W.kitOne K (.type "list") (.type "bool")=some false:=rfl
theorem kit_list_str {K:PySem.W.Frag}:PySem.W.kitOne K (.type "list") (.type "str")=some false:=rfl
theorem kit_list_tuple {K:PySem.W.Frag}:PySem.W.kitOne K (.type "list") (.type "tuple")=some false:=rfl
theorem kit_list_list {K:PySem.W.Frag}:PySem.W.kitOne K (.type "list") (.type "list")=some true:=rfl
theorem wBM_e {r:WM}{b:WA}:Xb r a b ρ M q=a ρ M λx M1=>hW x λp=>lstK (M1 p) λ_=>b ρ M1 λxs M2=>r x xs M2 q:=by unfold Xb IsL hW lstK;congr 1;funext x M1;apply propext;constructor;(· rintro⟨⟨p,l,h1,h2⟩,k⟩;exact⟨p,h1,l,h2,k⟩);(· rintro⟨p,h1,l,h2,k⟩;exact⟨⟨p,l,h1,h2⟩,k⟩)
theorem wAppend_e {x:Addr}{y:W}:Bc (.v (.ref x)) [y] M q=lstK (M x) λl=>jA (l.length<sizeLine) (q wn (um M x (.lst (l++ [y])))):=by apply propext;constructor;(· rintro⟨_,l,_,h1,h2,h3,h4,k⟩;cases h1;cases h2;exact⟨l,h3,h4,k⟩);(· rintro⟨l,h3,h4,k⟩;exact⟨_,l,_,rfl,rfl,h3,h4,k⟩)
theorem wCat_e {x y:Addr}:Sl (.v (.ref x)) (.v (.ref y)) M q=lstK (M x) λl=>lstK (M y) λl'=>jA (l.length+l'.length<=sizeLine) (sL M λp=>q (wr p) (um M p (.lst (l++l')))):=by apply propext;constructor;(· rintro⟨_,_,l,l',h1,h2,h3,h4,h5,k⟩;cases h1;cases h2;exact⟨l,h3,l',h4,h5,k⟩);(· rintro⟨l,h3,l',h4,h5,k⟩;exact⟨_,_,l,l',rfl,rfl,h3,h4,h5,k⟩)
theorem wTruth_e {q:Bool ->Mp ->Prop}:Fg a ρ M q=a ρ M λx M1=>OI M1 x λk=>q k M1:=rfl
theorem wDNew_e:Me ρ M q=sL M λp=>q (wr p) (um M p (.dK [])):=rfl
theorem wDGet_e:Ft a b ρ M q=a ρ M λx M1=>b ρ M1 λy M2=>hW x λp=>qm y λk=>kS (M2 p) λkvs=>ue (fu kvs k) λz=>q z M2:=by unfold Ft hW qm kS ue;congr 1;funext x M1;congr 1;funext y M2;apply propext;constructor;(· rintro⟨p,kvs,k,z,h1,h2,h3,h4,h⟩;exact⟨p,h1,k,h3,kvs,h2,z,h4,h⟩);(· rintro⟨p,h1,k,h3,kvs,h2,z,h4,h⟩;exact⟨p,kvs,k,z,h1,h2,h3,h4,h⟩)
theorem wDNotIn_e:vR a b ρ M q=a ρ M λy M1=>b ρ M1 λx M2=>hW x λp=>qm y λk=>kS (M2 p) λkvs=>q (wb (!(fu kvs k).isSome)) M2:=by unfold vR hW qm kS;congr 1;funext x M1;congr 1;funext y M2;apply propext;constructor;(· rintro⟨p,kvs,k,h1,h2,h3,h⟩;exact⟨p,h1,k,h3,kvs,h2,h⟩);(· rintro⟨p,h1,k,h3,kvs,h2,h⟩;exact⟨p,kvs,k,h1,h2,h3,h⟩)
theorem wDGet2_e:zL a b c ρ M q=a ρ M λx M1=>hW x λp=>kS (M1 p) λ_=>b ρ M1 λy M2=>c ρ M2 λz M3=>qm y λk=>kS (M3 p) λkvs=>q ((fu kvs k).getD z) M3:=by
 unfold zL hW qm kS;congr 1;funext x M1;apply propext;constructor
 ·rintro⟨p,h1,⟨kvs,h2⟩,h⟩;refine⟨p,h1,kvs,h2,?_⟩;have e:(λy M2=>c ρ M2 λz M3=> ∃kvs k,M3 p=some (.dK kvs) /\ y=gd k /\ q ((fu kvs k).getD z) M3)=(λy M2=>c ρ M2 λz M3=> ∃k,y=gd k /\ ∃kvs,M3 p=some (.dK kvs) /\ q ((fu kvs k).getD z) M3):=by
   funext y M2;congr 1;funext z M3;apply propext;constructor
   ·rintro⟨a,b,c,d,e⟩;exact⟨b,d,a,c,e⟩
   ·rintro⟨b,d,a,c,e⟩;exact⟨a,b,c,d,e⟩
  rw[<- e];exact h
 ·rintro⟨p,h1,kvs,h2,h⟩;refine⟨p,h1,⟨kvs,h2⟩,?_⟩;have e:(λy M2=>c ρ M2 λz M3=> ∃kvs k,M3 p=some (.dK kvs) /\ y=gd k /\ q ((fu kvs k).getD z) M3)=(λy M2=>c ρ M2 λz M3=> ∃k,y=gd k /\ ∃kvs,M3 p=some (.dK kvs) /\ q ((fu kvs k).getD z) M3):=by
   funext y M2;congr 1;funext z M3;apply propext;constructor
   ·rintro⟨a,b,c,d,e⟩;exact⟨b,d,a,c,e⟩
   ·rintro⟨b,d,a,c,e⟩;exact⟨a,b,c,d,e⟩
  rw[e];exact h
theorem cP {a b:WS}:Kk a b D ρ M=a {nx:=b D,rt:=D.rt,bk:=D.bk,ct:=D.ct} ρ M:=rfl
theorem sNext_e:MG D ρ M=D.nx ρ M:=rfl
theorem sCont_e:MM D ρ M=D.ct ρ M:=rfl
theorem sDrop_e:MJ a D ρ M=a ρ M λ_ M1=>D.nx ρ M1:=rfl
theorem sRet_e:S4 a D ρ M=a ρ M D.rt:=rfl
theorem sRetN_e:MF D ρ M=D.rt wn M:=rfl
theorem sIf_e {c:WT}{a b:WS}:VQ c a b D ρ M=c ρ M λk M1=>jv k (a D ρ M1) (b D ρ M1):=rfl
theorem sAsg_e {g:WG}:S9 a g D ρ M=a ρ M λx M1=>g x ρ M1 D.nx:=rfl
theorem sDPutW_e:z7 a b c D ρ M=c ρ M λz M1=>a ρ M1 λx M2=>b ρ M2 λy M3=>hW x λp=>qm y λk=>kS (M3 p) λkvs=>jA (kvs.length<sizeLine) (D.nx ρ (um M3 p (.dK (ki kvs k z)))):=by unfold z7 hW qm kS jA;congr 1;funext z M1;congr 1;funext x M2;congr 1;funext y M3;apply propext;constructor;(· rintro⟨p,kvs,k,h1,h2,h3,h4,h⟩;exact⟨p,h1,k,h3,kvs,h2,h4,h⟩);(· rintro⟨p,h1,k,h3,kvs,h2,h4,h⟩;exact⟨p,kvs,k,h1,h2,h3,h4,h⟩)
theorem sFor_e {it:WI}{g:WG}{b:WS}:S6 it g b D ρ M=it ρ M λxs keep M1=>Vc xs keep g b D ρ M1:=rfl
theorem sWhile_e {c:WT}{b:WS}:z6 c b D ρ M=Ff c b D ρ M:=rfl
theorem vName_e {i:Nat}{x:W}{q:dB ->Mp ->Prop}:Ml i x ρ M q=q (ρ.set i (some x)) M:=rfl
theorem vNil_e {q:dB ->Mp ->Prop}:Ox [] ρ M q=q ρ M:=by simp[Ox]
theorem vCons_e {a:WG}{b:LR}{x:W}{r:List W}{q:dB ->Mp ->Prop}:Mm a b (x::r) ρ M q=a x ρ M λρ' M'=>b r ρ' M' q:=by apply propext;constructor;(· rintro⟨_,_,h,k⟩;cases h;exact k);(· intro h;exact⟨_,_,rfl,h⟩)
theorem vTup_e {n:Nat}{a:LR}{l:List W}{q:dB ->Mp ->Prop}:Su n a (.tup l) ρ M q=jA (l.length=n) (a l ρ M q):=by apply propext;constructor;(· rintro⟨_,h,k⟩;cases h;exact k);(· intro h;exact⟨_,rfl,h⟩)
theorem vSub_e {s:Jb}{x:W}{q:dB ->Mp ->Prop}:Sv a b s x ρ M q=a ρ M λo M1=>b ρ M1 λi M2=>s o i x M2 λM3=>q ρ M3:=rfl
theorem wSetL_e {x:Addr}{i:Int}{z:W}{q:Mp ->Prop}:Ma (.v (.ref x)) (.v (.int i)) z M q=lstK (M x) λl=>ue (sU l.length i) λj=>q (um M x (.lst (l.set j z))):=by apply propext;constructor;(· rintro⟨_,l,_,j,h1,h2,h3,h4,k⟩;cases h1;cases h2;exact⟨l,h3,j,h4,k⟩);(· rintro⟨l,h3,j,h4,k⟩;exact⟨_,l,_,j,rfl,rfl,h3,h4,k⟩)
theorem jList_e {q:List W ->(Mp ->Prop) ->Mp ->Prop}:Hw a ρ M q=a ρ M λx M1=>hW x λp=>lstK (M1 p) λl=>q l (λM'=>M' p=some (.lst l)) M1:=by unfold Hw hW lstK;congr 1;funext x M1;apply propext;constructor;(· rintro⟨p,l,h1,h2,h⟩;exact⟨p,h1,l,h2,h⟩);(· rintro⟨p,h1,l,h2,h⟩;exact⟨p,l,h1,h2,h⟩)
theorem jTup_e {q:List W ->(Mp ->Prop) ->Mp ->Prop}:T' a ρ M q=a ρ M λx M1=>tupK x λl=>q l (λ_=>True) M1:=rfl
def G4 (xs:List W)(k:W ->Prop):Prop:= ∃x,xs= [x] /\ k x
theorem oneK_e {x:W}{k:W ->Prop}:G4 [x] k=k x:=by apply propext;constructor;(· rintro⟨_,h,k⟩;cases h;exact k);(· intro h;exact⟨_,rfl,h⟩)
theorem jRng1_e {a:WA}{q:List W ->(Mp ->Prop) ->Mp ->Prop}:Hv a ρ M q=a ρ M λxs M1=>G4 xs λx=>Lb x λj=>jA (-(2 ^ 62) <=j /\ j<2 ^ 62) (q (gN 0 j.toNat) (λ_=>True) M1):=by unfold Hv G4 Lb jA;congr 1;funext x M1;apply propext;constructor;(· rintro⟨j,h1,h2,h3,h⟩;exact⟨_,h1,j,rfl,⟨h2,h3⟩,h⟩);(· rintro⟨_,h1,j,rfl,⟨h2,h3⟩,h⟩;exact⟨j,h1,h2,h3,h⟩)
theorem wComp_e {it:WI}{own:Nat}{fr:List Nat}{g:WG}{c:WT}{el:WE}:Mg it own fr g c el ρ M q=it ρ M λxs keep M1=>vn xs keep own fr g c el ρ M1 q:=rfl
theorem wYes_e {q:Bool ->Mp ->Prop}:R8 ρ M q=q true M:=rfl
end
theorem sl1:(1<=sizeLine)=True:=by rw[cC];decide
theorem sl2:(2<=sizeLine)=True:=by rw[cC];decide
theorem sl3:(3<=sizeLine)=True:=by rw[cC];decide
theorem sl4:(4<=sizeLine)=True:=by rw[cC];decide
theorem sl0:(0<=sizeLine)=True:=by simp
theorem d5 {c A B:Prop} [Decidable c](h1:c ->A)(h2:¬c ->B):jv (decide c) A B:=by
 unfold jv;by_cases h:c
 ·rw[ak (dw h)];exact h1 h
 ·rw[aj (by simpa using h)];exact h2 h
theorem wO {c A B:Prop} [Decidable c](h1:¬c ->A)(h2:c ->B):jv (!decide c) A B:=by
 unfold jv;by_cases h:c
 ·rw[aj (by simpa using h)];exact h2 h
 ·rw[ak (by simpa using h)];exact h1 h
theorem nT {xs:List W}{keep:Mp ->Prop}{M1:Mp}{own:Nat}{fr:List Nat}{ρ:dB}{g:WG}{c:WT}{el:WE}{q:WK}(f:W ->Option W)(hz:xs.length<=sizeLine)(kq: ∀M,Sm M1 M ->keep M) (hs: ∀ (i:Nat) x,xs[i]? =some x -> ∀ (M:Mp) (N:Option W ->Mp ->Prop),Sm M1 M ->N (f x) M ->g x (capρ own fr ρ) M λρ2 M2=>c ρ2 M2 λb M3=>jv b (el ρ2 M3 λy M4=>N (some y) M4) (N none M3)) (hq: ∀p,M1 p=none ->q (wr p) (um M1 p (.lst (xs.filterMap f)))):vn xs keep own fr g c el ρ M1 q:=Ej f hz kq hs hq
end WL
namespace WL
def hold (f:dB ->Mp ->Prop)(ρ:dB)(M:Mp):Prop:=f ρ M
theorem lP {f:dB ->Mp ->Prop}{ρ:dB}{M:Mp}(h:f ρ M):hold f ρ M:=h
theorem eV {a b:WS}{D:kA}{ρ:dB}{M:Mp}:Kk a b D ρ M=a {nx:=hold (b D),rt:=D.rt,bk:=D.bk,ct:=D.ct} ρ M:=rfl
theorem HB {c:WT}{a b R:WS}{D:kA}{ρ:dB}{M:Mp}(Mid:dB ->Mp ->Prop)(rest: ∀ρ M,Mid ρ M ->R D ρ M)(h: ∀N:dB ->Mp ->Prop,(∀ρ M,Mid ρ M ->N ρ M) ->VQ c a b {nx:=N,rt:=D.rt,bk:=D.bk,ct:=D.ct} ρ M):Kk (VQ c a b) R D ρ M:=h _ rest
theorem kr {xs:List W}{keep:Mp ->Prop}{g:WG}{b:WS}{D:kA}{ρ:dB}{M1:Mp}(I:Nat ->dB ->Mp ->Prop)(h0:I 0 ρ M1)(hk: ∀i ρ M,i<=xs.length ->I i ρ M ->keep M) (hs: ∀i x ρ M,xs[i]? =some x ->I i ρ M -> ∀N:dB ->Mp ->Prop,(∀ρ' M',I (i+1) ρ' M' ->N ρ' M') ->g x ρ M λρ2 M2=>b {nx:=N,rt:=D.rt,bk:=D.nx,ct:=N} ρ2 M2) (hd: ∀ρ M,I xs.length ρ M ->D.nx ρ M):Vc xs keep g b D ρ M1:=⟨I,h0,hk,λi x ρ M hx hI=>hs i x ρ M hx hI _ λ_ _ h=>h,hd⟩
theorem J1 {c:WT}{b:WS}{D:kA}{ρ:dB}{M:Mp}(I:Nat ->dB ->Mp ->Prop)(m:Nat)(h0:I m ρ M) (hs: ∀m ρ M,I m ρ M -> ∀N:dB ->Mp ->Prop,(∀m' ρ' M',m'<m ->I m' ρ' M' ->N ρ' M') ->c ρ M λk M1=>jv k (b {nx:=N,rt:=D.rt,bk:=D.nx,ct:=N} ρ M1) (D.nx ρ M1)):Ff c b D ρ M:=⟨I,⟨m,h0⟩,λm ρ M hI=>hs m ρ M hI _ λm' _ _ hm h=>⟨m',hm,h⟩⟩
end WL
namespace WP
open PySem L2 WL
abbrev Pt:=List (Int×Int)
def look:Pt ->Int ->Int
 | [],_=>0
 | q::r,x=>if q.1=x then q.2 else look r x
def dE (p:Int)(l:Pt):Prop:=(∀q∈l,0<q.2 /\ q.2<p) /\ l.Pairwise (λa b=>a.1<b.1)
def dP:Pt ->Int ->Int
 | [],_=>0
 | q::r,x=>(if q.1=x then q.2 else 0)+dP r x
theorem ji (a b:Pt)(x:Int):dP (a++b) x=dP a x+dP b x:=by
 induction a with
 | nil=>simp[dP]
 | cons q r ih=>rw[jF,dP,dP,ih];lia
theorem oo (a:Pt)(q:Int×Int)(x:Int):dP (a++ [q]) x=dP a x+if q.1=x then q.2 else 0:=by rw[ji];simp[dP]
theorem eZ {l:Pt}{x:Int}(h: ∀q∈l,q.1≠x):look l x=0:=by
 induction l with
 | nil=>rfl
 | cons q r ih=>rw[look,aj (h q (by simp)),ih λz hz=>h z (by simp[hz])]
theorem Bh {l:Pt}{x:Int}(h: ∀q∈l,q.1≠x):dP l x=0:=by
 induction l with
 | nil=>rfl
 | cons q r ih=>rw[dP,aj (h q (by simp)),ih λz hz=>h z (by simp[hz])];rfl
theorem xM {l:Pt}(h:l.Pairwise (λa b=>a.1<b.1))(x:Int):dP l x=look l x:=by
 induction l with
 | nil=>rfl
 | cons q r ih=>
  rw[bT] at h;rw[dP,look,ih h.2];by_cases e:q.1=x
  ·rw[ak e,ak e,eZ]
   ·lia
   ·intro z hz;have:=h.1 z hz;lia
  ·rw[aj e,aj e];lia
theorem Hg {l:Pt}(h:l.Pairwise (λa b=>a.1<b.1)){q:Int×Int}(hq:q∈l):look l q.1=q.2:=by
 induction l with
 | nil=>cases hq
 | cons a r ih=>
  rw[bT] at h;rw[look];rcases av.mp hq with rfl | hq
  ·rw[ak rfl]
  ·rw[aj (by have:=h.1 q hq;lia),ih h.2 hq]
theorem nL {p:Int}{l:Pt}(hp:0<p)(h:dE p l)(x:Int):0<=look l x /\ look l x<p:=by
 induction l with
 | nil=>rw[look];lia
 | cons q r ih=>
  rw[look];split
  ·have:=h.1 q (by simp);lia
  ·exact ih ⟨λz hz=>h.1 z (by simp[hz]),(bT.mp h.2).2⟩
theorem dE.tail {p:Int}{q:Int×Int}{r:Pt}(h:dE p (q::r)):dE p r:=⟨λz hz=>h.1 z (by simp[hz]),(bT.mp h.2).2⟩
theorem dE.nil {p:Int}:dE p []:=⟨λ_ h=>absurd h (by simp),List.Pairwise.nil⟩
theorem wF {p p':Int}: ∀ {a b:Pt},dE p a ->dE p' b ->(∀x,look a x=look b x) ->a=b
 | [],[],_,_,_=>rfl
 | [],q::r,_,hb,h=>by have:=h q.1;rw[look,look,ak rfl] at this;have:=hb.1 q (by simp);lia
 | q::r,[],ha,_,h=>by have:=h q.1;rw[look,look,ak rfl] at this;have:=ha.1 q (by simp);lia
 | q ::r,q'::r',ha,hb,h=>by
  have pa:=ha.1 q (by simp);have pb:=hb.1 q' (by simp);have sa:=(bT.mp ha.2).1;have sb:=(bT.mp hb.2).1;have e1:q.1=q'.1:=by
   rcases l4 q.1 q'.1 with l | l | l
   ·have e:=h q.1;rw[look,ak rfl,look,aj (by lia),eZ (λz hz=>by have:=sb z hz;lia)] at e;lia
   ·exact l
   ·have e:=h q'.1;rw[look,aj (by lia),eZ (λz hz=>by have:=sa z hz;lia),look,ak rfl] at e;lia
  have e2:q.2=q'.2:=by have e:=h q.1;rw[look,ak rfl,look,ak e1.symm] at e;exact e
  have e:r=r':=wF ha.tail hb.tail λx=>by
   by_cases hx:q.1=x
   ·rw[eZ (λz hz=>by have:=sa z hz;lia),eZ (λz hz=>by have:=sb z hz;lia)]
   ·have e:=h x;rwa [look,aj hx,look,aj (by lia)] at e
  rw[e,Prod.ext e1 e2]
def jB (p:Int):Pt ->Int ->Int ->Pt
 | [],x,s=>if s % p=0 then [] else [(x,s % p)]
 | q::r,x,s=>if x<q.1 then(if s % p=0 then q::r else(x,s % p)::q::r) else if x=q.1 then(if(q.2+s) % p=0 then r else(x,(q.2+s) % p)::r) else q::jB p r x s
def lA (p:Int)(ps:Pt):Pt:=ps.foldl (λa q=>jB p a q.1 q.2) []
theorem vA {p:Int}{l:Pt}{x s:Int}{z:Int×Int}(h:z∈jB p l x s):z.1=x \/ z∈l:=by
 induction l with
 | nil=>
  rw[jB] at h;split at h
  ·cases h
  ·left;rw[ah.mp h]
 | cons q r ih=>
  rw[jB] at h;split at h
  ·split at h
   ·exact .inr h
   ·rcases av.mp h with h | h
    ·left;rw[h]
    ·exact .inr h
  ·split at h
   ·split at h
    ·exact .inr (by simp[h])
    ·rcases av.mp h with h | h
     ·left;rw[h]
     ·exact .inr (by simp[h])
   ·rcases av.mp h with h | h
    ·exact .inr (by simp[h])
    ·rcases ih h with h | h
     ·exact .inl h
     ·exact .inr (by simp[h])
theorem Ao {p s:Int}(hp:0<p)(h:¬s % p=0):0<s % p /\ s % p<p:=by have:=cN s (show p≠0 by lia);have:=cz s hp;lia
theorem Eu {p:Int}(hp:0<p){l:Pt}{x s:Int}(h:dE p l):dE p (jB p l x s):=by
 induction l with
 | nil=>
  rw[jB];split
  ·exact dE.nil
  ·rename_i hs;exact⟨λq hq=>by rw[ah.mp hq];exact Ao hp hs,by simp⟩
 | cons q r ih=>
  have sa:=(bT.mp h.2).1;rw[jB];split
  ·rename_i hx;split
   ·exact h
   ·rename_i hs;refine⟨λz hz=> ?_,bT.mpr ⟨λz hz=> ?_,h.2⟩⟩
    ·rcases av.mp hz with rfl | hz
     ·exact Ao hp hs
     ·exact h.1 z hz
    ·rcases av.mp hz with rfl | hz
     ·exact hx
     ·have:=sa z hz;show x<z.1;lia
  ·split
   ·rename_i hx;split
    ·exact h.tail
    ·rename_i hs;refine⟨λz hz=> ?_,bT.mpr ⟨λz hz=> ?_,h.tail.2⟩⟩
     ·rcases av.mp hz with rfl | hz
      ·exact Ao hp hs
      ·exact h.1 z (by simp[hz])
     ·have:=sa z hz;show x<z.1;lia
   ·rename_i h1 h2;have ih':=ih h.tail;refine⟨λz hz=> ?_,bT.mpr ⟨λz hz=> ?_,ih'.2⟩⟩
    ·rcases av.mp hz with rfl | hz
     ·exact h.1 z (by simp)
     ·exact ih'.1 z hz
    ·rcases vA hz with e | hz
     ·lia
     ·exact sa z hz
theorem Au {p:Int}(hp:0<p){l:Pt}{x s:Int}(h:dE p l)(y:Int):look (jB p l x s) y=if y=x then(look l x+s) % p else look l y:=by
 induction l with
 | nil=>
  rw[jB];by_cases hs:s % p=0
  ·rw[ak hs];simp[look,hs]
  ·rw[aj hs];by_cases e:y=x
   ·subst e;simp[look]
   ·rw[aj e];simp[look,a5 e]
 | cons q r ih=>
  have sa:=(bT.mp h.2).1;have qr:=h.1 q (by simp);rw[jB];split
  ·rename_i hx;have hn:look (q::r) x=0:=eZ (λz hz=>by
    rcases av.mp hz with rfl | hz
    ·lia
    ·have:=sa z hz;lia)
   rw[hn,bP];split
   ·rename_i hs;by_cases e:y=x
    ·rw[ak e,e,hn,hs]
    ·rw[aj e]
   ·by_cases e:y=x
    ·rw[ak e,look,ak e.symm]
    ·rw[aj e,look,aj (a5 e)]
  ·split
   ·rename_i hx;have hq:look (q::r) x=q.2:=by rw[look,ak hx.symm]
    rw[hq];split
    ·rename_i hs;by_cases e:y=x
     ·rw[ak e,hs,eZ (λz hz=>by have:=sa z hz;lia)]
     ·rw[aj e,look,aj (by lia)]
    ·by_cases e:y=x
     ·rw[ak e,look,ak e.symm]
     ·rw[aj e,look,aj (a5 e),look,aj (by lia)]
   ·rename_i h1 h2;rw[look,ih h.tail];by_cases e:y=x
    ·rw[ak e,ak e,aj (by lia)];conv=>rhs;rw[look,aj (by lia)]
    ·rw[aj e,aj e,look]
theorem oR (p:Int)(ps:Pt)(q:Int×Int):lA p (ps++ [q])=jB p (lA p ps) q.1 q.2:=by unfold lA;rw[List.foldl_append];rfl
theorem iq {α:Type}{P:List α ->Prop}(h0:P [])(h1: ∀l a,P l ->P (l++ [a]))(l:List α):P l:=by
 have key: ∀n:Nat, ∀l:List α,l.length=n ->P l:=by
  intro n;induction n with
  | zero=>intro l hl;rw[cI.mp hl];exact h0
  | succ n ih=>
   intro l hl;have c9:l≠ []:=by intro e;rw[e] at hl;cases hl
   rw[<- kc c9];exact h1 _ _ (ih _ (by rw[List.length_dropLast];lia))
 exact key _ l rfl
theorem mj {p:Int}(hp:0<p)(ps:Pt):dE p (lA p ps):=by
 induction ps using iq with
 | h0=>exact dE.nil
 | h1 l a ih=>rw[oR];exact Eu hp ih
theorem sO {p:Int}(hp:0<p)(ps:Pt)(x:Int):look (lA p ps) x=dP ps x % p:=by
 induction ps using iq with
 | h0=>simp[lA,look,dP]
 | h1 l a ih=>
  rw[oR,Au hp (mj hp l),oo];by_cases e:x=a.1
  ·subst e;rw[ak rfl,ak rfl,ih,fh]
  ·rw[aj e,aj (a5 e),ih,bu]
theorem Ew {p:Int}{l:Pt}{x s:Int}:(jB p l x s).length<=l.length+1:=by
 induction l with
 | nil=>rw[jB];split<;>simp
 | cons q r ih=>
  rw[jB];split
  ·split<;>simp
  ·split
   ·split<;>simp<;>lia
   ·simp;exact ih
theorem KW (p:Int)(ps:Pt):(lA p ps).length<=ps.length:=by
 induction ps using iq with
 | h0=>simp[lA]
 | h1 l a ih=>rw[oR,aL];exact a4 Ew (by simp;exact ih)
theorem Pl {p:Int}{ps:Pt}{z:Int×Int}(h:z∈lA p ps): ∃q∈ps,q.1=z.1:=by
 induction ps using iq generalizing z with
 | h0=>simp[lA] at h
 | h1 l a ih=>
  rw[oR] at h;rcases vA h with e | h
  ·exact⟨a,by simp,e.symm⟩
  ·obtain⟨q,h1,h2⟩:=ih h;exact⟨q,by simp[h1],h2⟩
def f' (m:Pt):List (Key×W):=m.map λq=>((Sum.inl q.1:Key),wi q.2)
def mT (m:Pt)(x v:Int):Pt:=if(m.any λq=>decide (q.1=x))=true then m.map (λq=>if q.1=x then(q.1,v) else q) else m++ [(x,v)]
theorem pI {m:Pt}{x:Int}:(m.any λq=>decide (q.1=x))=true↔x∈m.map (·.1):=by
 rw[List.any_eq_true,af];constructor
 ·rintro⟨q,hq,e⟩;exact⟨q,hq,by simpa using e⟩
 ·rintro⟨q,hq,e⟩;exact⟨q,hq,by simpa using e⟩
theorem wW (a b:Int):decide ((Sum.inl a:Key)=Sum.inl b)=decide (a=b):=by simp
theorem rK (m:Pt)(x v:Int):ki (f' m) (.inl x) (wi v)=f' (mT m x v):=by
 unfold ki mT;have e:((f' m).any λkv=>decide (kv.1=(Sum.inl x:Key)))=m.any λq=>decide (q.1=x):=by unfold f';rw[JT];congr 1;funext q;exact wW _ _
 rw[e];split
 ·unfold f';rw[aD,aD];apply bF;intro q _;show(if(Sum.inl q.1:Key)=Sum.inl x then((Sum.inl q.1:Key),wi v) else(Sum.inl q.1,wi q.2))=((Sum.inl (if q.1=x then(q.1,v) else q).1:Key),wi (if q.1=x then(q.1,v) else q).2)
  by_cases hq:q.1=x
  ·rw[ak (by rw[hq]),ak hq]
  ·rw[aj (λz=>hq (N6 z)),aj hq]
 ·unfold f';rw[aN];rfl
theorem vT (m:Pt)(x:Int):fu (f' m) (.inl x)=(m.find? λq=>decide (q.1=x)).map λq=>wi q.2:=by
 unfold fu f';rw[List.find?_map,Option.map_map];have e:((λkv:Key×W=>decide (kv.1=(Sum.inl x:Key))) ∘ λq:Int×Int=>((Sum.inl q.1:Key),wi q.2))=λq=>decide (q.1=x):=by funext q;exact wW _ _
 rw[e];rfl
theorem mJ {m:Pt}{x:Int}:(m.find? λq=>decide (q.1=x))=none /\ look m x=0 /\ x∉m.map (·.1) \/ ∃q,(m.find? λq=>decide (q.1=x))=some q /\ look m x=q.2:=by
 induction m with
 | nil=>exact .inl ⟨rfl,rfl,by simp⟩
 | cons q r ih=>
  rw[cM,look];by_cases e:q.1=x
  ·simp only[e,iJ];exact .inr ⟨q,rfl,by simp⟩
  ·simp only[e,iV,bf];rcases ih with⟨h1,h2,h3⟩ | h
   ·exact .inl ⟨h1,h2,by rw[aH,av,not_or];exact⟨a5 e,h3⟩⟩
   ·exact .inr h
theorem rP (m:Pt)(x:Int):(fu (f' m) (.inl x)).getD (wi 0)=wi (look m x):=by rw[vT];rcases mJ (m:=m) (x:=x) with⟨h1,h2,_⟩ | ⟨q,h1,h2⟩ <;>rw[h1,h2] <;>rfl
theorem rY {m:Pt}{x:Int}(h:x∈m.map (·.1)):fu (f' m) (.inl x)=some (wi (look m x)):=by
 rw[vT];rcases mJ (m:=m) (x:=x) with⟨_,_,h3⟩ | ⟨q,h1,h2⟩
 ·exact absurd h h3
 ·rw[h1,h2];rfl
theorem yB (m:Pt):(f' m).map (·.1)=(m.map (·.1)).map Sum.inl:=by unfold f';rw[aD,aD];rfl
theorem uU {m:Pt}{x v:Int}:(mT m x v).map (·.1)=if x∈m.map (·.1) then m.map (·.1) else m.map (·.1)++ [x]:=by
 unfold mT;by_cases h:x∈m.map (·.1)
 ·rw[ak (pI.mpr h),ak h,aD];apply bF;intro q _;show(if q.1=x then(q.1,v) else q).1=q.1;split<;>rfl
 ·rw[aj (λe=>h (pI.mp e)),aj h,aN];rfl
theorem wK {m:Pt}{x v:Int}(h:(m.map (·.1)).Nodup):((mT m x v).map (·.1)).Nodup:=by
 rw[uU];by_cases e:x∈m.map (·.1)
 ·rw[ak e];exact h
 ·rw[aj e];exact BU h e
theorem sR {m:Pt}{x v:Int}:(mT m x v).length<=m.length+1:=by
 unfold mT;split
 ·rw[aa];lia
 ·simp
theorem qj {m:Pt}{x v y:Int}:look (mT m x v) y=if y=x then v else look m y:=by
 unfold mT;by_cases h:x∈m.map (·.1)
 ·rw [ak (pI.mpr h)];have key: ∀m:Pt,look (m.map (λq=>if q.1=x then(q.1,v) else q)) y=if y=x /\ x∈m.map (·.1) then v else look m y:=by
   intro m;induction m with
   | nil=>simp[look]
   | cons q r ih=>
    rw[aH,look,look,ih];by_cases hq:q.1=x
    ·by_cases hy:y=x
     ·subst hy;simp[hq]
     ·simp[hq,hy,a5 hy]
    ·by_cases hy:y=x
     ·subst hy;have:(y∈(q::r).map (·.1))=(y∈r.map (·.1)):=by rw[aH,av];simp[a5 hq]
      simp only[this,hq,bf]
     ·simp[hq,hy]
  rw[key];simp[h]
 ·rw [aj (λe=>h (pI.mp e))];have key: ∀m:Pt,x∉m.map (·.1) ->look (m++ [(x,v)]) y=if y=x then v else look m y:=by
   intro m;induction m with
   | nil=>
    intro _;by_cases e:y=x
    ·simp[look,e]
    ·simp[look,e,a5 e]
   | cons q r ih=>
    intro hn;rw[aH,av,not_or] at hn;rw[jF,look,look,ih hn.2];by_cases e:y=x
    ·subst e;simp[a5 hn.1]
    ·simp[e]
  exact key m h
def sel (m:Pt)(ns:List Int):Pt:=ns.filterMap λx=>if look m x=0 then none else some (x,look m x)
theorem yz {m:Pt}{x:Int}: ∀ {ns:List Int},ns.Nodup ->look (sel m ns) x=if x∈ns then look m x else 0
 | [],_=>rfl
 | n ::r,h=>by
  rw[bw] at h;have ih:=yz (m:=m) (x:=x) h.2;unfold sel at ih ⊢;rw[fG];by_cases e:look m n=0
  ·rw[ak e];show look (r.filterMap _) x=_;rw[ih];by_cases hx:x=n
   ·subst hx;rw[aj h.1,ak (by simp),e]
   ·simp[hx]
  ·rw[aj e];show look ((n,look m n)::r.filterMap _) x=_;rw[look,ih];by_cases hx:x=n
   ·subst hx;rw[ak rfl,ak (by simp)]
   ·rw[aj (a5 hx)];simp[hx]
theorem uC {ns:List Int}(h1:ns.Pairwise (· <= ·))(h2:ns.Nodup):ns.Pairwise (· < ·):=by refine(List.Pairwise.and h1 h2).imp ?_;rintro a b ⟨h,n⟩;lia
theorem Bz {p:Int}(hp:0<p){ps m:Pt}{ns:List Int}(hn:(m.map (·.1)).Nodup)(ht: ∀x,look m x=dP ps x % p)(c6:ns.Perm (m.map (·.1)))(hs:ns.Pairwise (· <= ·)):sel m ns=lA p ps:=by
 have nd:=c6.nodup_iff.mpr hn;have st:=uC hs nd;refine wF (p:=p) ⟨?_,?_⟩ (mj hp ps) λx=> ?_
 ·intro q hq;obtain⟨x,hx,e⟩:=tV.mp hq;split at e
  ·cases e
  ·rename_i h0;cases e;have:=ht x;have:=cN (dP ps x) (show p≠0 by lia);have:=cz (dP ps x) hp;show 0<look m x /\ look m x<p;lia
 ·unfold sel;refine List.Pairwise.filterMap _ ?_ st;intro a b Ia c hc d hd;split at hc<;>cases hc;split at hd<;>cases hd;exact Ia
 ·rw[yz nd,sO hp];split
  ·exact ht x
  ·rename_i hx;rw[<- ht x,eZ];intro q hq e;exact hx (c6.mem_iff.mpr (by rw[<- e];exact QU hq))
theorem je {ks:List Int}: ∀ {l:List Int},ks.Nodup ->(∀k∈ks,k∈l) ->ks.length<=l.length:=by
 induction ks with
 | nil=>intro l _ _;simp
 | cons k r ih=>
  intro l hn hs;rw[bw] at hn;have hk:k∈l:=hs k (by simp);have:=ih (l:=l.erase k) hn.2 λz hz=>by have Yb:z≠k:=λe=>hn.1 (e▸hz);exact(Ob Yb).mpr (hs z (by simp[hz]))
  rw[E2 hk] at this;have:0<l.length:=JR hk;rw[aG];lia
def W4 (_:Pt):Prop:=True
theorem QD {ps:Pt}:W4 ps:=trivial
theorem Lz {ps:Pt}(h:ps.length<64):W4 ps:=trivial
theorem yy {m:Pt}{x v k:Int}(h:k∈(mT m x v).map (·.1)):k=x \/ k∈m.map (·.1):=by
 rw[uU] at h;split at h
 ·exact .inr h
 ·rcases ax.mp h with h | h
  ·exact .inr h
  ·exact .inl (ah.mp h)
end WP
namespace WQ
open PySem L2 WL WP
def Tu:mN:=λxs M q=> ∃ (d l:Addr) (n:Int),xs= [wr d,wi n] /\ Dr M d l /\ 0<n /\ n<1073741824 /\ ∀ (r:Int) (M':Mp),0<=r ->r<n ->Dr M' d l ->NB d M M' ->q (wi r) M'
def pP:mN:=λxs M q=> ∃ (d l:Addr),xs= [wr d] /\ Dr M d l /\ ∀ (p:Int) (M':Mp),(p=2 \/ p=3 \/ p=5 \/ p=7) ->Dr M' d l ->NB d M M' ->q (wi p) M'
def MV:mN:=λxs M q=> ∃ (a:Addr) (p:Int) (ps:Pt),xs= [wi p,wr a] /\ M a=some (.lst (ps.map dI)) /\ 0<p /\ W4 ps /\ ps.length<=16000000 /\ q (cR (lA p ps)) M
def GR:mN:=λxs M q=> ∃ (d l:Addr) (p most mW:Int),xs= [wr d,wi p,wi most,wi mW] /\ Dr M d l /\ 2<=p /\ p<1000 /\ 0<=most /\ most<63 /\ 0<=mW /\ mW<100000000 /\∀ (ps:Pt) (M':Mp),(ps.length:Int) <=most ->(∀z∈ps, -mW<=z.1 /\ z.1<=mW /\ 0<z.2 /\ z.2<p) ->Dr M' d l ->NB d M M' ->q (cR (lA p ps)) M'
def mv (pH:Int)(l:Pt):Pt:=l.map λz=>(z.1+pH,z.2)
def Xx:mN:=λxs M q=> ∃i:Int,xs= [wi i] /\ q (wb true) M
def Pc:mN:=λxs M q=> ∃ (p:Int) (pat:Pt),xs= [wi p,cR pat] /\ dE p pat /\ pat.length<=16000000 /\ q (wb true) M
def tm (n:Int)(l:Pt):Pt:=l.map λz=>(z.1,z.2*n)
def wL (b n:Int)(l:Pt):Pt:=l.map λz=>(z.1+b,z.2*n)
def Xw:mN:=λxs M q=> ∃ (p:Int) (a b:Pt) (y n:Int),xs= [wi p,cR a,cR b,wi y,wi n] /\ 0<p /\ W4 (a++wL y n b) /\ a.length<=8000000 /\ b.length<=8000000 /\ (∀z∈b,0<=z.2 /\ z.2<1000) /\ q (cR (lA p (a++wL y n b))) M
theorem big {n:Nat}(h:n<=16000000):n<=sizeLine:=a4 h (by rw[cC];decide)
theorem uk {n:Nat}(h:n<=16000000):n<sizeLine:=RQ h (by rw[cC];decide)
theorem V4 {l:Pt}:mv 0 l=l:=by
 unfold mv;have:(λz:Int×Int=>(z.1+0,z.2))=id:=by funext z;rw[bu];rfl
 rw[this,Oc]
theorem V9 {b:Int}{l:Pt}{x:Int}:look (mv b l) x=look l (x - b):=by
 induction l with
 | nil=>rfl
 | cons q r ih=>
  show look ((q.1+b,q.2)::mv b r) x=_;rw[look,look,ih];by_cases e:q.1+b=x
  ·rw[ak e,ak (by lia)]
  ·rw[aj e,aj (by lia)]
theorem vV {n:Int}{l:Pt}{x:Int}:dP (tm n l) x=dP l x*n:=by
 induction l with
 | nil=>simp[tm,dP]
 | cons q r ih=>show dP ((q.1,q.2*n)::tm n r) x=_;rw[dP,dP,ih,fi];split<;>simp
theorem Pu {b n:Int}{l:Pt}:wL b n l=tm n (mv b l):=by unfold wL tm mv;rw[aD];rfl
theorem zT {b:Int}{l:Pt}{x:Int}:dP (mv b l) x=dP l (x - b):=by
 induction l with
 | nil=>rfl
 | cons q r ih=>
  show dP ((q.1+b,q.2)::mv b r) x=_;rw[dP,dP,ih];by_cases e:q.1+b=x
  ·rw[ak e,ak (by lia)]
  ·rw[aj e,aj (by lia)]
theorem Iy (q:Int×Int):Ei (dI q)=some (.tup [.int q.1, .int q.2]):=by simp[dI,Ei,qt]
theorem tD: ∀l:Pt,qt (l.map dI)=some (l.map λq=> .tup [.int q.1, .int q.2])
 | []=>rfl
 | q::r=>by rw[aH,qt,Iy,tD r];rfl
def GQ (l:Pt):Dt:= .tup (l.map λq=> .tup [.int q.1, .int q.2])
theorem LG (l:Pt):Ei (cR l)=some (GQ l):=by rw[cR,Ei,tD];rfl
theorem tq: ∀l:Pt,rD (l.map λq=> .tup [.int q.1, .int q.2]) <=1
 | []=>by simp[rD]
 | q::r=>by rw[aH,rD];have:=tq r;simp only[zA,rD];lia
def Bv (K:PySem.W.Frag):Sp:=λvs H Q _=> ∃ (a:Addr) (ns:List Int),vs= [.ref a] /\ ix K H a (ns.map V.int) /\ ∀ (d l:Addr) (ms:List Int) (H':Hp),d≠l ->H' d=some (.lst [.ref l, .int 0, .int 0, .int 11]) ->H' l=some (.lst (ms.map V.int)) ->Q (.ref d) H'
def xS (K:PySem.W.Frag):Sp:=λvs H Q _=> ∃ (a:Addr) (ns:List Int),vs= [.ref a] /\ ix K H a (ns.map V.int) /\ ∀H',Q (.bl true) H'
theorem TH {P:Program}{w:World}{K:PySem.W.Frag}{mg:Str ->Option Value}{base:Heap}{x qual z:Str}{st:Stmt}{f:Addr}{fd:FuncData}{N:List Str}{k:Nat}(F:E5 K x qual st f fd)(S:b7 N [z] (aQ st))(hN:2<=N.length) (pj: ∀ (eQ:Value) (A:Around) (outer:List Env) (s:Shared) (H:Hp) (E:XK),gJ k (A.deeper (PyProof.Rows.envOfC qual (aQ st) s.heap.objs.size f eQ)) ->∃ R,zD (fT kJ P w K mg base N qual (aQ st) f eQ A outer s H E).Pm (fo st) (OL (Kg (Bo (Bv K) [] E0 (FP (Kf 0) OM)) (qF 1)) R) /\∃w',IS K R w' /\ ∀d l M,Dr M d l ->w' {nx:=λ_ _=>False,rt:=λx _=>x=wb true} (none::some (wr d)::List.replicate (N.length - 2) none) M): eh P w K mg base kJ (k+1) f fd [z] (xS K):=by
 refine E5.ok F S (λvs H Q E ⟨a,ns,h,_⟩=>by rw[h];rfl) λeQ A outer s H vs Q E hr h=> ?_;obtain⟨R,h1,w',h2,h3⟩:=pj eQ A outer s H E hr;obtain⟨a,ns,rfl,hs,hq⟩:=h;refine⟨_,h1,?_⟩;obtain⟨n,hn⟩: ∃n,N.length=n+2:=⟨N.length - 2,by lia⟩
 have e0:L2.start N [V.ref a]=some (V.ref a)::none::List.replicate n none:=by unfold L2.start;rw[hn];rfl
 rw[e0];refine⟨_,rfl,a,ns,rfl,hs,λd l ms H' c9 hd hl=> ?_⟩;show R _ _ H';refine h2.imp (none::some (wr d)::List.replicate (N.length - 2) none) (um (um (λ_=>none) l (.lst (ms.map wi))) d (.lst [wr l,wi 0,wi 0,wi 11])) _ H' _ _ ⟨⟨?_,λi y e=> ?_⟩,λb o e=> ?_⟩ (h3 d l _ ⟨ms,0,0,11,um_same,by rw[aJ (a5 c9),um_same],by decide,c9⟩) ⟨λ_ _ _ _ h=>h.elim,λy M' v H2 e _ _ r=> ?_,λ_ _ _ _ h=>h.elim,λ_ _ _ _ h=>h.elim⟩
 ·simp[hn]
 ·match i with
  | 0=>simp at e
  | 1=>simp at e;subst e;exact⟨.ref d,rfl,WR.v⟩
  | i+2=>simp[d7] at e
 ·by_cases hb:b=d
  ·subst hb;rw[um_same] at e;cases e;exact⟨_,hd,cF.cons WR.v (cF.cons WR.v (cF.cons WR.v (cF.cons WR.v cF.nil)))⟩
  ·rw[aJ hb] at e;by_cases n6:b=l
   ·subst n6;rw[um_same] at e;cases e;exact⟨_,hl,cF.ofInts ms⟩
   ·rw[aJ n6] at e;cases e
 ·subst e;rw[r.eq];exact hq H2
abbrev Rd:=Int×Pt
def jn (p:Int)(a b:Rd):Rd:=(a.1+b.1,lA p (a.2++mv a.1 b.2))
def bk (p:Int)(a:Rd):Rd:=(-a.1,lA p (tm (-1) (mv (-a.1) a.2)))
end WQ
namespace WL
open PySem PySem.Spec PyProof.Rows L2
theorem nW (bt:Nat ->Nat ->Bool): ∀k,PySem.argBest bt k<=k
 | 0=>aq _
 | k+1=>by
  unfold PySem.argBest;split
  ·exact aq _
  ·exact Nat.le_succ_of_le (nW bt k)
theorem qR (val:Nat ->Int): ∀k j,j<=k ->val j<=val (PySem.argBest (λi j=>decide (val i >val j)) k)
 | 0, j, h => by have:j=0:=by omega
                 subst this;exact aV _
 | k + 1,j,h=>by
  have ih:=qR val k;unfold PySem.argBest;by_cases hb:val (k+1) >val (PySem.argBest (λi j=>decide (val i >val j)) k)
  ·rw[ak (dw hb)];rcases dU j (k+1) with h' | h'
   ·have:=ih j (by omega);omega
   ·have:j=k+1:=by omega
    subst this;exact aV _
  ·rw[aj (by simpa using hb)];rcases dU j (k+1) with h' | h'
   ·exact ih j (by omega)
   ·have:j=k+1:=by omega
    subst this;omega
theorem qQ (val:Nat ->Int): ∀k j,j<=k ->val (PySem.argBest (λi j=>decide (val i<val j)) k) <=val j
 | 0, j, h => by have:j=0:=by omega
                 subst this;exact aV _
 | k + 1,j,h=>by
  have ih:=qQ val k;unfold PySem.argBest;by_cases hb:val (k+1) <val (PySem.argBest (λi j=>decide (val i<val j)) k)
  ·rw[ak (dw hb)];rcases dU j (k+1) with h' | h'
   ·have:=ih j (by omega);omega
   ·have:j=k+1:=by omega
    subst this;exact aV _
  ·rw[aj (by simpa using hb)];rcases dU j (k+1) with h' | h'
   ·exact ih j (by omega)
   ·have:j=k+1:=by omega
    subst this;omega
def qV (ns:List Int)(m:Int):Prop:=m∈ns /\ ∀x∈ns,x<=m
def jD (ns:List Int)(m:Int):Prop:=m∈ns /\ ∀x∈ns,m<=x
section
variable {X:Cx}
theorem Cd {its:List Value}{ns:List Int}(rv:Vals (ns.map V.int) its){i:Nat}{v:Value}(e:its.toArray[i]? =some v): ∃t,v= .int (ns.getD i 0) t /\ i<ns.length:=by
 have e':its[i]? =some v:=by simpa using e
 have hlen:=rv.length;have hi:i<ns.length:=by have:=(ag.mp e').1;rw[aa] at hlen;omega
 obtain⟨w',hw,wg⟩:=rv.get (i:=i) (x:= .int ns[i]) (by rw[aA,ae hi];rfl);rw[e'] at hw;cases hw;obtain⟨t,rfl⟩:=wg;exact⟨t,by simp[List.getD,hi],hi⟩
theorem NL {ns:List Int}{i:Nat}(h:i<ns.length):ns.getD i 0=ns[i]:=by simp[List.getD,h]
theorem Vk {ns:List Int}(hn:ns≠ []):qV ns (ns.getD (PySem.argBest (λi j=>decide (ns.getD i 0 >ns.getD j 0)) (ns.length - 1)) 0):=by
 have hl:0<ns.length:=kG.mpr hn;have hb:=nW (λi j=>decide (ns.getD i 0 >ns.getD j 0)) (ns.length - 1);have hi:PySem.argBest (λi j=>decide (ns.getD i 0 >ns.getD j 0)) (ns.length - 1) <ns.length:=by omega
 refine⟨?_,λx hx=> ?_⟩
 ·rw[NL hi];exact bW hi
 ·obtain⟨j,hj,rfl⟩:=gF.mp hx;have:=qR (λi=>ns.getD i 0) (ns.length - 1) j (by omega);have e:ns.getD j 0=ns[j]:=by simp[List.getD,hj]
  simp only[e] at this;exact this
theorem IX {ns:List Int}(hn:ns≠ []):jD ns (ns.getD (PySem.argBest (λi j=>decide (ns.getD i 0<ns.getD j 0)) (ns.length - 1)) 0):=by
 have hl:0<ns.length:=kG.mpr hn;have hb:=nW (λi j=>decide (ns.getD i 0<ns.getD j 0)) (ns.length - 1);have hi:PySem.argBest (λi j=>decide (ns.getD i 0<ns.getD j 0)) (ns.length - 1) <ns.length:=by omega
 refine⟨?_,λx hx=> ?_⟩
 ·rw[NL hi];exact bW hi
 ·obtain⟨j,hj,rfl⟩:=gF.mp hx;have:=qQ (λi=>ns.getD i 0) (ns.length - 1) j (by omega);have e:ns.getD j 0=ns[j]:=by simp[List.getD,hj]
  simp only[e] at this;exact this
variable {K:PySem.W.Frag}
end
end WL
namespace WQ
open PySem L2 WL WP
def prc (p s:Int):Int:=if p - s<s then p - s else s
def MA (a:Rd):List Int:=0::a.1::a.2.map (·.1)
def QP (i:Int):Int:=if i<0 then -i else i
def fwv (p:Int)(a:Rd)(lo hi:Int):Int:=2*(hi - lo) - QP a.1+(a.2.map λz=>prc p z.2).sum
theorem jD.uniq {ns:List Int}{a b:Int}(h:jD ns a)(h':jD ns b):a=b:=by have:=h.2 b h'.1;have:=h'.2 a h.1;lia
theorem qV.uniq {ns:List Int}{a b:Int}(h:qV ns a)(h':qV ns b):a=b:=by have:=h.2 b h'.1;have:=h'.2 a h.1;lia
def hit (e n x:Int):Bool:=decide (x.fmod e=0) && (decide (0<=x.fdiv e) && decide (x.fdiv e<n))
end WQ
namespace EN
open PySem PySem.Spec PyProof.Rows L2
open Sem (wp)
open AutoSeq1 (wpAny_loadPart')
section
variable {prog:Program}{w:World}{A:Around}{E:Value ->Shared ->Prop}{s:Shared}
theorem An {j t:Addr}{i:Nat}{its:Array Value}{x:Value}{Q:Value ->Shared ->Prop}(hj:s.heap.IsTupleIter j t i)(ht:s.heap.IsTuple t its)(hx:its[i]? =some x) (hQ: ∀h',h'.IsTupleIter j t (i+1) ->Heap.SameBut j s.heap h' ->Q x {s with heap:=h'}):wpAny (model prog w) A (Builtin.SmallTypes.nextOf (.ref j)) Q E s:=by obtain⟨oj,Nu,hcj,Lu⟩:=id hj;obtain⟨ot,Yw,_,nt,Y1⟩:=ht;unfold Builtin.SmallTypes.nextOf;refine ao (wpAny_callSpecial?_slot (name:=Str.ofString "__next__") hj.typeIs gZ (qz gZ hj.typeIs L5 ?_ (JY _)));show wpAny _ _ (field (.ref j) 0 >>=_) _ _ s;refine ao (Fd Nu Lu (x:= .ref t) rfl ?_);show wpAny _ _ (if(Value.ref t==Value.none)=true then _ else _) _ _ s;rw[aj (show ¬((Value.ref t==Value.none)=true) from λz=>aW z)];show wpAny _ _ (field (.ref j) 1 >>=_) _ _ s;refine ao (Fd Nu Lu (x:= .int i 0) rfl ?_);show wpAny _ _ (seqItems? (.ref t) >>=_) _ _ s;refine ao (jL Yw Y1 ?_);simp only[vI,hx];refine ao (wpAny_setField Nu Lu (by simp) (aM ⟨x,rfl,aM (hQ _ ?_ (Heap.SameBut.update ..))⟩));exact⟨_,kH _ Nu (Obj.isFreed_of_fields (Obj.data_mapFields Lu _)),(Obj.cls_mapFields ..).trans hcj,by rw[Obj.data_mapFields Lu];simp[rawInt]⟩
theorem Dy {j t:Addr}{i:Nat}{its:Array Value}{Q:Value ->Shared ->Prop}(hh:A.handled=none)(hj:s.heap.IsTupleIter j t i)(ht:s.heap.IsTuple t its)(hx:its[i]? =none) (hE: ∀h' e,Heap.ExtBut j s.heap h' ->(∃o,h'.get? e=some o /\ o.cls= .type "StopIteration") ->E (.ref e) {s with heap:=h'}):wpAny (model prog w) A (Builtin.SmallTypes.nextOf (.ref j)) Q E s:=by
 obtain⟨oj,Nu,hcj,Lu⟩:=id hj;obtain⟨ot,Yw,_,nt,Y1⟩:=ht;unfold Builtin.SmallTypes.nextOf;refine ao (wpAny_callSpecial?_slot (name:=Str.ofString "__next__") hj.typeIs gZ (qz gZ hj.typeIs L5 ?_ (JY _)));show wpAny _ _ (field (.ref j) 0 >>=_) _ _ s;refine ao (Fd Nu Lu (x:= .ref t) rfl ?_);show wpAny _ _ (if(Value.ref t==Value.none)=true then _ else _) _ _ s;rw[aj (show ¬((Value.ref t==Value.none)=true) from λz=>aW z)];show wpAny _ _ (field (.ref j) 1 >>=_) _ _ s;refine ao (Fd Nu Lu (x:= .int i 0) rfl ?_);show wpAny _ _ (seqItems? (.ref t) >>=_) _ _ s;refine ao (jL Yw Y1 ?_);simp only[vI,hx];refine ao (gr (ao (wpAny_setField Nu Lu (by simp) ?_)));show wpAny _ _ (newExc (.type "StopIteration") [] >>=_) _ _ _;refine ao ?_;simp only[newExc,newTuple];refine ao (jM ?_ (by size_fits));refine ao (m:=firstArgMember _ _) (wpAny_of_eq (a:=Value.none) (by first | rfl | (simp only[firstArgMember];rfl)) ?_);refine jM ?_ (by size_fits);simp only[raiseNew];refine ao (wpAny_handled ?_);first | rw[show A.in1.handled=none from hh] | rw[hh]
 refine ao (aM (wpAny_throw ?_));exact hE _ _ (((Heap.SameBut.update ..).extBut.push _).push _) ⟨_,aS _ rfl,rfl⟩
end
theorem Ir {prog:Program}{w:World}{A:Around}(hh:A.handled=none)(j t:Addr)(c9:t≠j)(its:Array Value): Draws prog w A j [j,t] its.size (λi v=>its[i]? =some v) (λi h=>h.IsTupleIter j t i /\ h.IsTuple t its) where
 live:=λ_ _ st=>let ⟨o,ho,_⟩:=st.1;⟨o,ho⟩
 frame:=λ_ _ _ st hk=>⟨let ⟨o,ho,r⟩:=st.1;⟨o,hk j (by simp) o ho,r⟩,let ⟨o,ho,r⟩:=st.2;⟨o,hk t (by simp) o ho,r⟩⟩
 item:=λi s Q E hi st hQ=>by refine An st.1 st.2 (x:=its[i]) (by simp[hi]) λh' jH gV=> ?_;exact hQ _ h' s.toks (by simp[hi]) ⟨jH,st.2.extBut gV.extBut c9⟩ gV
 done:=λs Q E st hE=>Dy hh st.1 st.2 (by simp) hE
end EN
namespace EN
open PySem PySem.Spec PyProof.Rows L2 WL
section
variable {X:Cx}{pins:List (Addr×Obj)}{σ:L2.St}{H:Hp}{s:Shared}{h':Heap}
theorem wR {e j:Addr}{xs:List V}{t':Nat}(I:Inv X pins σ H s)(k: ∀b o,b≠e ->b≠j ->s.heap.get? b=some o ->h'.get? b=some o)(fe:kX X pins H e)(fj:kX X pins H j) (new:d4 X.prog X.w (upd H s.heap.objs.size (.tup xs)) h' s.heap.objs.size (.tup xs)):Inv X pins σ (upd H s.heap.objs.size (.tup xs)) {s with heap:=h',toks:=t'}:=by
 have UQ:H s.heap.objs.size=none:=I.c8.fresh (aq _);have ne: ∀ {b u},H b=some u ->b≠e /\ b≠j:=λ{b u} q=>⟨dh q fe.1,dh q fj.1⟩
 have nm: ∀ {b:Addr},b∉ [e,j] ->b≠e /\ b≠j:=λ{b} q=>by simpa using q
 refine I.call (ch:= [e,j]) (g':=s.gens) (d':=s.drawn) ⟨λb o q n _ hc=>k b o (nm hc).1 (nm hc).2 q,λb o q n _ hc=>⟨o.slots,k b o (nm hc).1 (nm hc).2 q⟩,λb o q n hc=> ?_,λb o q hc=>⟨o,k b o (nm hc).1 (nm hc).2 q⟩,λb ys q=> ?_,λb o u q=> ?_,λb ps q=>⟨#[],?_⟩⟩ ?_ I.bare ?_
 ·rw[bC (aX (aB q))];exact n
 ·rw[bC (dh q UQ)];exact q
 ·rw[bC (dh q UQ)];exact q
 ·rw[bC (dh q UQ),q];simp
 ·intro b u q;by_cases hb:b=s.heap.objs.size
  ·subst hb;rw[bU] at q;cases q;exact new
  ·rw[bC hb] at q;refine(I.c8 b u q).r9 (λc v hc r=> ?_) (λc r=>by rw[bC (dh r UQ)];exact r) λc ys r=>by rw[bC (dh r UQ)];exact r
   rcases hc with rfl | hc
   ·exact k _ v (ne q).1 (ne q).2 r
   ·exact k _ v (ne hc).1 (ne hc).2 r
 ·intro b hb;rcases av.mp hb with rfl | hb
  ·exact⟨fe.2.2.2.1,fe.2.1,fe.2.2.2.2.1,fe.2.2.2.2.2⟩
  ·rw[ah.mp hb];exact⟨fj.2.2.2.1,fj.2.1,fj.2.2.2.2.1,fj.2.2.2.2.2⟩
end
def aam (K:PySem.W.Frag)(a:Addr):It:=⟨λi H=> ∃xs x,kD K H a xs /\ xs[i]? =some x,λi H v H'=> ∃p x,H p=none /\ H'=upd H p (.tup [.int i,x]) /\ v= .ref p /\ ∀xs,kD K H a xs ->xs[i]? =some x,λi H=> ∃xs,kD K H a xs /\ xs.length=i⟩
def Jg (K:PySem.W.Frag)(a:Addr):It:=⟨λi H=> ∃xs x,ix K H a xs /\ xs[i]? =some x,λi H v H'=> ∃p x,H p=none /\ H'=upd H p (.tup [.int i,x]) /\ v= .ref p /\ ∀xs,ix K H a xs ->xs[i]? =some x,λi H=> ∃xs,ix K H a xs /\ xs.length=i⟩
theorem OD {P:Program}{w:World}{K:PySem.W.Frag}{elts:List Expr}{x1}{pos:Pos}(a e j:Addr)(Qi:e≠j):Turn P w K (.Tuple elts x1 pos) (aam K a) [e,j] e (λi h=>(∃old,IsEnum h e j i old) /\ h.IsTupleIter j a i) where
 mem:=by simp
 obj:=λi h st b hb=>by
  obtain⟨⟨old,he⟩,o,hj,c,d⟩:=st;rcases av.mp hb with rfl | hb
  ·exact⟨_,he,λv z=>nomatch z⟩
  ·rw[ah.mp hb];exact⟨o,hj,λv z=>by rw[d] at z;cases z⟩
 keep:=λi h h' st k=>by obtain⟨⟨old,he⟩,o,hj,r⟩:=st;exact⟨⟨old,k e (by simp) _ he⟩,o,k j (by simp) o hj,r⟩
 item := by
  intro X hP hw hK hc i pins s σ H E I hf st hg;subst hP hw hK;obtain⟨xs,x,hq,hx⟩:=hg;obtain⟨its,rv,p,hz⟩:=I.tuple hq;obtain⟨⟨old,he⟩,hj⟩:=st;have fe:=hf e (by simp);have fj:=hf j (by simp);have hit:s.heap.IsTuple a its.toArray:=p;have ha:a≠j:=λz=>by obtain⟨o,h1,c1,_⟩:=hit;obtain⟨o2,h2,c2,_⟩:=hj;rw[z] at h1;rw[h1] at h2;cases h2;rw[c1] at c2;simp at c2
  have Y9:a≠e:=λz=>by obtain⟨o,h1,c1,_⟩:=hit;rw[z] at h1;rw[he] at h1;cases h1;simp at c1
  have hi:i<its.toArray.size:=by have:=(ag.mp hx).1;have:=rv.length;simp;lia
  refine wpAny_pyNext_enum_itemD (Ir (show X.A.in1.handled=none from I.ok.hd hc) j a ha its.toArray) he ⟨hj,hit⟩ hi Qi (by simp[Qi,a5 Y9]) λy h' tk hy ho mE ht hsz hk=> ?_;refine⟨_,rfl,L9 ho λh2 JB mF=> ?_⟩;obtain⟨u,hu,ru⟩:=rv.get hx;have eu:u=y:=by
   have:its.toArray[i]? =some u:=by simpa using hu
   rw[hy] at this;exact(br this).symm
  subst eu;have NG:s.heap.objs.size≠e:=iW (aB he);refine⟨.ref s.heap.objs.size,upd H s.heap.objs.size (.tup [.int i,x]),wR (t':=tk+1) I (λb o hb n6 q=>(mF.2 b hb).trans (hk b o hb n6 q)) fe fj ⟨by rw[cC];show 2<=16777216;decide,[.int i tk,u], .cons ⟨_,rfl⟩ (.cons ru .nil),?_⟩,rfl,⟨_,x,I.c8.fresh (aq _),rfl,rfl,λys HF=>by rw[I.p8 HF hq];exact hx⟩,⟨⟨u,by simpa using JB⟩,?_⟩,λb hb=> ?_⟩
  ·exact⟨_,(mF.2 _ NG).trans ht,rfl,_,rfl,rfl⟩
  ·obtain⟨⟨o,h1,r⟩,_⟩:=mE;exact⟨o,(mF.2 j (a5 Qi)).trans h1,r⟩
  ·have:H b=none:=(hf b hb).1;rw[bC (λz=> ?_)]
   ·exact this
   ·obtain⟨o,h1,_⟩:=hj;rcases av.mp hb with rfl | hb
    ·exact NG z.symm
    ·rw[ah.mp hb] at z;exact absurd (aB h1) (by rw[z];exact cb _)
 done:=by
   intro X hP hw hK hc i pins s σ H E I hf st hg;subst hP hw hK;obtain⟨xs,hq,hx⟩:=hg;obtain⟨its,rv,p,hz⟩:=I.tuple hq;obtain⟨⟨old,he⟩,hj⟩:=st;have hit:s.heap.IsTuple a its.toArray:=p;have ha:a≠j:=λz=>by obtain⟨o,h1,c1,_⟩:=hit;obtain⟨o2,h2,c2,_⟩:=hj;rw[z] at h1;rw[h1] at h2;cases h2;rw[c1] at c2;simp at c2
   obtain⟨f0,f1,f2,f3,f4,f5⟩:=hf j (by simp);have hl:i=its.toArray.size:=by have:=rv.length;simp;lia
   refine wpAny_pyNext_enum_endD (Ir (show X.A.in1.handled=none from I.ok.hd hc) j a ha its.toArray) he ⟨hl▸hj,hit⟩ λh2 eb=>⟨rfl,I.turned (t':=s.toks) (λb o hb q=>eb b o hb q) f0 f1 f3 f4 f5⟩
 self:=λ_ _ _ _ _ st h=>let ⟨⟨_,he⟩,_⟩:=st;Ba he h
theorem zS {P:Program}{w:World}{K:PySem.W.Frag}{elts:List Expr}{x1}{pos:Pos}(a e j:Addr)(Qi:e≠j):Turn P w K (.Tuple elts x1 pos) (Jg K a) [e,j] e (λi h=>(∃old,IsEnum h e j i old) /\ h.IsListIter j a i) where
 mem:=by simp
 obj:=λi h st b hb=>by
  obtain⟨⟨old,he⟩,o,hj,c,d⟩:=st;rcases av.mp hb with rfl | hb
  ·exact⟨_,he,λv z=>nomatch z⟩
  ·rw[ah.mp hb];exact⟨o,hj,λv z=>by rw[d] at z;cases z⟩
 keep:=λi h h' st k=>by obtain⟨⟨old,he⟩,o,hj,r⟩:=st;exact⟨⟨old,k e (by simp) _ he⟩,o,k j (by simp) o hj,r⟩
 item := by
  intro X hP hw hK hc i pins s σ H E I hf st hg;subst hP hw hK;obtain⟨xs,x,hq,hx⟩:=hg;obtain⟨its,rv,p,hz⟩:=I.list hq;obtain⟨⟨old,he⟩,hj⟩:=st;have fe:=hf e (by simp);have fj:=hf j (by simp);have hit:s.heap.IsList a its.toArray:=p.isList;have ha:a≠j:=λz=>by obtain⟨o,h1,c1,_⟩:=hit;obtain⟨o2,h2,c2,_⟩:=hj;rw[z] at h1;rw[h1] at h2;cases h2;rw[c1] at c2;simp at c2
  have Y9:a≠e:=λz=>by obtain⟨o,h1,c1,_⟩:=hit;rw[z] at h1;rw[he] at h1;cases h1;simp at c1
  have hi:i<its.toArray.size:=by have:=(ag.mp hx).1;have:=rv.length;simp;lia
  refine wpAny_pyNext_enum_itemD (Draws.list (show X.A.in1.handled=none from I.ok.hd hc) j a ha its.toArray) he ⟨hj,hit⟩ hi Qi (by simp[Qi,a5 Y9]) λy h' tk hy ho mE ht hsz hk=> ?_;refine⟨_,rfl,L9 ho λh2 JB mF=> ?_⟩;obtain⟨u,hu,ru⟩:=rv.get hx;have eu:u=y:=by
   have:its.toArray[i]? =some u:=by simpa using hu
   rw[hy] at this;exact(br this).symm
  subst eu;have NG:s.heap.objs.size≠e:=iW (aB he);refine⟨.ref s.heap.objs.size,upd H s.heap.objs.size (.tup [.int i,x]),wR (t':=tk+1) I (λb o hb n6 q=>(mF.2 b hb).trans (hk b o hb n6 q)) fe fj ⟨by rw[cC];show 2<=16777216;decide,[.int i tk,u], .cons ⟨_,rfl⟩ (.cons ru .nil),?_⟩,rfl,⟨_,x,I.c8.fresh (aq _),rfl,rfl,λys HF=>by rw[I.list_inj HF hq];exact hx⟩,⟨⟨u,by simpa using JB⟩,?_⟩,λb hb=> ?_⟩
  ·exact⟨_,(mF.2 _ NG).trans ht,rfl,_,rfl,rfl⟩
  ·obtain⟨⟨o,h1,r⟩,_⟩:=mE;exact⟨o,(mF.2 j (a5 Qi)).trans h1,r⟩
  ·have:H b=none:=(hf b hb).1;rw[bC (λz=> ?_)]
   ·exact this
   ·obtain⟨o,h1,_⟩:=hj;rcases av.mp hb with rfl | hb
    ·exact NG z.symm
    ·rw[ah.mp hb] at z;exact absurd (aB h1) (by rw[z];exact cb _)
 done:=by
   intro X hP hw hK hc i pins s σ H E I hf st hg;subst hP hw hK;obtain⟨xs,hq,hx⟩:=hg;obtain⟨its,rv,p,hz⟩:=I.list hq;obtain⟨⟨old,he⟩,hj⟩:=st;have hit:s.heap.IsList a its.toArray:=p.isList;have ha:a≠j:=λz=>by obtain⟨o,h1,c1,_⟩:=hit;obtain⟨o2,h2,c2,_⟩:=hj;rw[z] at h1;rw[h1] at h2;cases h2;rw[c1] at c2;simp at c2
   obtain⟨f0,f1,f2,f3,f4,f5⟩:=hf j (by simp);have hl:i=its.toArray.size:=by have:=rv.length;simp;lia
   refine wpAny_pyNext_enum_endD (Draws.list (show X.A.in1.handled=none from I.ok.hd hc) j a ha its.toArray) he ⟨hl▸hj,hit⟩ λh2 eb=>⟨rfl,I.turned (t':=s.toks) (λb o hb q=>eb b o hb q) f0 f1 f3 f4 f5⟩
 self:=λ_ _ _ _ _ st h=>let ⟨⟨_,he⟩,_⟩:=st;Ba he h
section
variable {X:Cx}{elts:List Expr}{x1:_}{Dg:Pos}
def HE (K:PySem.W.Frag)(tl:TA):TI:=λσ H R=>tl σ H λvs H1=> ∃a,vs= [.ref a] /\ (∃xs,ix K H1 a xs) /\ R (Jg K a) H1
theorem GG {l:Expr}{tl:TA}{p pos:Pos}{tg:Expr}(et:tg= .Tuple elts x1 Dg)(hg:Gl X "enumerate")(hm:X.mg "enumerate" =none)(ha:PA X [l] tl)(hs:starEach [l] X.env= [(false,eval l X.env)]:=by rfl):PI X tg (.Call (.Name "enumerate" p) [l] [] pos) (HE X.K tl):=by
 subst et;intro pins s σ H R I h;refine Call_ (iR I hg hm Boot.«enumerate» (bO (dj (ha pos pins s σ H _ I h) λus s1 ⟨vs,H1,I1,r1,q1⟩=> ?_) hs rfl));obtain⟨a,e,⟨xs,hq⟩,q⟩:=q1;subst e;obtain⟨v,rfl,rv1⟩:=vals1 r1;cases rv1;obtain⟨its,rv,ht,hz⟩:=I1.list hq;refine call_enumerate_list ht.isList λh2 he hj hsz hk=> ?_;have I2:Inv X pins σ H1 {s1 with heap:=h2}:=I1.kept (t':=s1.toks) hk;refine Ba he ?_;refine⟨_,[s1.heap.objs.size+1,s1.heap.objs.size],_,_,H1,rfl,I2,zS a (s1.heap.objs.size+1) s1.heap.objs.size (Nat.succ_ne_self _),⟨⟨_,he⟩,hj⟩,λb hb=> ?_,q⟩;rcases av.mp hb with rfl | hb
 ·exact I1.AO (N9 _) (I1.c8.fresh (N9 _))
 ·rw[ah.mp hb];exact I1.AO (aq _) (I1.c8.fresh (aq _))
end
end EN
namespace WL
open PySem PySem.Spec PyProof.Rows L2 EN
section
variable {X:Cx}
def Tp (K:PySem.W.Frag):List V ->Hp ->VK ->Prop:=λxs H Q=> ∃ (l:Addr) (bs:List Bool),xs= [.ref l] /\ ix K H l (bs.map V.bl) /\ Q (.bl (bs.all id)) H
theorem PV {its:List Value}{bs:List Bool}(rv:Vals (bs.map V.bl) its){i:Nat}{v:Value}(e:its.toArray[i]? =some v):v= .bool (bs.getD i false) /\ i<bs.length:=by
 have e':its[i]? =some v:=by simpa using e
 have hlen:=rv.length;have hi:i<bs.length:=by have:=(ag.mp e').1;rw[aa] at hlen;lia
 obtain⟨w',hw,wg⟩:=rv.get (i:=i) (x:= .bl bs[i]) (by rw[aA,ae hi];rfl);rw[e'] at hw;cases hw;cases wg;exact⟨by simp[List.getD,hi],hi⟩
theorem range_all (bs:List Bool):(List.range bs.length).all (λi=>bs.getD i false)=bs.all id:=by
 apply ke.mpr;rw[xG,xG];constructor
 ·intro h x hx;obtain⟨i,hi,rfl⟩:=gF.mp hx;have:=h i (c7.mpr hi);simpa [List.getD,hi] using this
 ·intro h i hi;rw[c7] at hi;have:=h bs[i] (bW hi);simpa [List.getD,hi] using this
theorem Ep (hc:X.calm=true):i0 X (.builtin "all") (Tp X.K):=by
 intro pins s σ H xs us Q I r h;obtain⟨l,bs,rfl,hs,q⟩:=h;obtain⟨u,rfl,ru⟩:=vals1 r;cases ru;obtain⟨its,rv,ht,hz⟩:=I.list hs;have hh:X.A.in1.handled=none:=I.ok.hd hc;have hlen:its.toArray.size=bs.length:=by have:=rv.length;rw[aa] at this;simpa using this.symm
 have f6:l<s.heap.objs.size:=by obtain⟨_,e,_⟩:=ht.isList;exact aB e
 refine PySem.call_all_walkS (A9 ht.isList ?_);refine⟨s.heap.objs.size,_,_,_,its.toArray.size,_,_,λi=>bs.getD i false,rfl,(Walks.list hh s.heap.objs.size l (aX f6) its.toArray).toS,⟨⟨_,aS _ rfl,rfl,rfl⟩,ht.isList.push _⟩,λi v s' Q' E' e hq=> ?_,λs' hm=> ?_⟩
 ·obtain⟨rfl,_⟩:=PV rv e;exact df hq
 ·have hk: ∀b o,s.heap.get? b=some o ->s'.heap.get? b=some o:=λb o e=>hm.heap b o (λhI=>absurd (aB e) (by rw[ah.mp hI];exact cb _)) (ar _ e);rw[Moved.eq_with hm,hlen,range_all];exact⟨.bl _,H,I.kept (t':=s'.toks) hk,rfl,q⟩
variable {K:PySem.W.Frag}
theorem cF.bools {H:Hp}: ∀ {bs:List Bool} {vs:List V},cF K H (bs.map wb) vs ->vs=bs.map V.bl
 | [],vs,h=>by simpa only[eB,cF] using h
 | n::r,vs,h=>by simp only[aH,cF] at h;obtain⟨v,t,rfl,h1,h2⟩:=h;rw[cF.bools h2,h1.eq];rfl
def So:C4:=λxs M q=> ∃ (a:Addr) (bs:List Bool),xs= [wr a] /\ M a=some (.lst (bs.map wb)) /\ q (wb (bs.all id)) M
instance:IC K (Tp K) So where
 imp:=by rintro xs v M H q Q m r1 ⟨a,ns,rfl,hl,h⟩ k;obtain⟨v,rfl,r⟩:=r1.one;cases r.eq;obtain⟨vs,hv,rr⟩:=m a _ hl;cases rr.bools;exact⟨a,ns,rfl,ix.of hv,k _ M _ H h (bo.refl H) m WR.v⟩
def jx (l:List W):List W:=(List.range l.length).map λ(i:Nat)=> .tup [wi i,l.getD i wn]
theorem LC {l:List W}{i:Nat}{x:W}(h:(jx l)[i]? =some x): ∃y,l[i]? =some y /\ x= .tup [wi i,y]:=by
 unfold jx at h;rw[aA] at h;by_cases hi:i<l.length
 ·rw[fF hi] at h;cases h;exact⟨l[i],ae hi,by simp[List.getD,hi]⟩
 ·rw[cZ (by simpa using hi)] at h;cases h
theorem Io {l:List W}:(jx l).length=l.length:=by simp[jx]
theorem LB {l:List W}{i:Nat}{y:W}(h:l[i]? =some y):(jx l)[i]? =some (.tup [wi i,y]):=by obtain⟨hi,rfl⟩:=ag.mp h;unfold jx;rw[aA,fF hi];simp[List.getD,hi]
def Az (a:WA):WI:=λρ M q=>a ρ M λxs M1=> ∃p l,xs= [wr p] /\ M1 p=some (.lst l) /\ q (jx l) (λM'=>M' p=some (.lst l)) M1
theorem Ii {M:Mp}{H:Hp}{i:Nat}{l:List W}{vs:List V}{p:Addr}{x:V}(m:gY K M H)(rr:cF K H l vs)(hi:vs[i]? =some x)(hp:H p=none): bo H (upd H p (.tup [.int i,x])) /\ gY K M (upd H p (.tup [.int i,x])) /\ ∃z,(jx l)[i]? =some z /\ WR K (upd H p (.tup [.int i,x])) z (.ref p):=by obtain⟨d,hd,r⟩:=rr.back hi;have ts:=L2.fE.ts (b8 (o:= .tup [.int i,x]) hp);exact⟨ts,m.new hp,_,LB hd,WR.Ri (kD.of bU) (cF.cons WR.v (cF.cons (r.ts ts) cF.nil))⟩
theorem AD {H1:Hp}{p:Addr}{l:List W}: ∀i M H,bo H1 H ->gY K M H ->M p=some (.lst l) ->((jx l).length=i ->(Jg K p).stop i H) /\ (i< (jx l).length ->(Jg K p).go i H) /\ ∀v H',i< (jx l).length ->(Jg K p).Oj i H v H' ->bo H H' /\ gY K M H' /\ ∃x,(jx l)[i]? =some x /\ WR K H' x v:=by intro i M H ts m hk;obtain⟨vs,hv,rr⟩:=m p _ hk;have hl:=rr.length;rw[Io];refine⟨λh=>⟨vs,ix.of hv,by lia⟩,λh=>⟨vs,vs[i]'(by lia),ix.of hv,by simp⟩,λv H' hi y=> ?_⟩;obtain⟨q,x,hq,rfl,rfl,y⟩:=y;exact Ii m rr (y vs (ix.of hv)) hq
instance {t:TA}{a:WA} [ia:IA K t a]:II K (HE K t) (Az a) where
 imp:=λρ M σ H q R o h k=>ia.imp ρ M σ H _ _ o h λxs M1 v H1 ⟨p,l,e,hp,h1⟩ t1 m1 r1=>by subst e;obtain⟨v,rfl,r⟩:=r1.one;cases r.eq;obtain⟨vs,hv,rr⟩:=m1 p _ hp;exact⟨p,rfl,⟨vs,ix.of hv⟩,k _ _ _ M1 H1 h1 t1 m1 AD⟩
theorem Hx {a:WA}{ρ:dB}{M:Mp}{q:List W ->(Mp ->Prop) ->Mp ->Prop}:Az a ρ M q=a ρ M λxs M1=>G4 xs λx=>hW x λp=>lstK (M1 p) λl=>q (jx l) (λM'=>M' p=some (.lst l)) M1:=by
 unfold Az G4 hW lstK;congr 1;funext xs M1;apply propext;constructor
 ·rintro⟨p,l,h,h2,k⟩;exact⟨_,h,p,rfl,l,h2,k⟩
 ·rintro⟨_,h,p,rfl,l,h2,k⟩;exact⟨p,l,h,h2,k⟩
end
end WL
namespace WL
open PySem L2
theorem IF {xs:List W}{keep:Mp ->Prop}{M1:Mp}{own:Nat}{fr:List Nat}{ρ:dB}{g:WG}{c:WT}{el:WE}{q:WK}(hz:xs.length<=sizeLine) (h: ∀p,M1 p=none -> ∃I:Nat ->List W ->Mp ->Prop,I 0 [] (um M1 p (.lst [])) /\ (∀i ys M,i<=xs.length ->I i ys M ->keep M /\ M p=some (.lst ys) /\ ys.length<=i) /\(∀i x ys M,xs[i]? =some x ->I i ys M -> ∀N:List W ->Mp ->Prop,(∀ys M,I (i+1) ys M ->N ys M) ->g x (capρ own fr ρ) M λρ2 M2=>c ρ2 M2 λb M3=>jv b (el ρ2 M3 λy M4=>M4 p=some (.lst ys) /\ N (ys++ [y]) (um M4 p (.lst (ys++ [y])))) (N ys M3)) /\∀ys M,I xs.length ys M ->q (wr p) M):vn xs keep own fr g c el ρ M1 q:=by refine⟨hz,λp hp=> ?_⟩;obtain⟨I,h0,h1,h2,h3⟩:=h p hp;exact⟨I,h0,h1,λi x ys M hx hI=>h2 i x ys M hx hI _ λ_ _ z=>z,h3⟩
theorem Ow {x:Addr}{M:Mp}{q:WK}{bs:List Bool}(h:M x=some (.lst (bs.map wb)))(k:q (wb (bs.all id)) M):So [wr x] M q:=⟨x,bs,rfl,h,k⟩
end WL
namespace WQ
open PySem L2 WL WP
def Od (p:Int)(l:List Int):Prop:=(∀x∈l,0<=x /\ x<p) /\ ∀x,l.getLast? =some x ->x≠0
def Ja (row:List Int)(k:Nat)(x:Int):List Int:=row.set k (row.getD k 0+x)
def putK (row:List Int)(o:Nat)(l:List Int)(n:Nat):List Int:=(List.range n).foldl (λr i=>Ja r (o+i) (l.getD i 0)) row
def TY (row:List Int)(k:Nat)(x:Int)(b:List Int):Nat ->List Int
 | 0=>row
 | j+1=>Ja (TY row k x b j) (k+j) (x*b.getD j 0)
def pw (p s:Int):Nat ->Int
 | 0=>1
 | n+1=>pw p s n*s % p
def GU:mN:=λxs M q=> ∃ (p s:Int),xs= [wi p,wi s] /\ (p=2 \/ p=3 \/ p=5 \/ p=7) /\ 0<s /\ s<p /\ ∀r,0<r ->r<p ->r*s % p=1 ->q (wi r) M
theorem O2: ∀ (p s:Int),(p=2 \/ p=3 \/ p=5 \/ p=7) ->0<s ->s<p ->0<pw p s (p - 2).toNat /\ pw p s (p - 2).toNat<p /\ pw p s (p - 2).toNat*s % p=1:=by
 intro p s hp h0 h1;have hs:s=1 \/ s=2 \/ s=3 \/ s=4 \/ s=5 \/ s=6:=by lia
 rcases hp with rfl | rfl | rfl | rfl<;>rcases hs with rfl | rfl | rfl | rfl | rfl | rfl<;>first | decide | lia
end WQ
namespace WL
open PySem L2 PySem.Spec PyProof.Rows
abbrev WX:=Addr ->Mp ->Prop
section
variable {K:PySem.W.Frag}
def up (e:WX):WX:=λC M'=> ∃M0,Sm M0 M' /\ e C M0
end
end WL
namespace WL
open PySem L2
def Pn:W ->Bool
 | .v x=>decide (x=V.dS)
 | .tup _=>false
def MQ:R2:=λx y H Q=>y= .dS /\ Q (.bl (!decide (x=V.dS))) H
def Sa:zB:=λx y M q=>y=wn /\ q (wb (!Pn x)) M
instance {K:PySem.W.Frag}:IR K MQ Sa where
 imp:=by
  rintro x y v u M H q Q m r1 r2 ⟨rfl,h⟩ k;refine⟨r2.eq,k _ M _ H h (bo.refl H) m ?_⟩;cases x with
  | v x=>rw[r1.eq];exact WR.v
  | tup l=>obtain⟨a,vs,rfl,_⟩:=r1.tup;exact WR.v
theorem GY {X:Cx}:tM X (compareOp .IsNot) MQ:=KL
theorem Im {M:Mp}{q:WK}{x y:W}{d:Dt}(hx:DR M x d)(hy:DR M y d)(hd:zA d<=50)(hs:rG d d=true)(h:q (wb true) M):Sj x y M q:=⟨d,d,hx,hy,hs,hd,by rw[pz];exact h⟩
def aab {α:Type}(f:α ->W)(g:α ->Dt):Prop:= ∀a,Ei (f a)=some (g a)
theorem y9 {α:Type}{f:α ->W}{g:α ->Dt}(h:aab f g): ∀l:List α,qt (l.map f)=some (l.map g)
 | []=>rfl
 | a::l=>by rw[aH,qt,h a,y9 h l];rfl
theorem yU {α:Type}{g:α ->Dt}{n:Nat}(h: ∀a,zA (g a) <=n): ∀l:List α,rD (l.map g) <=n
 | []=>by simp[rD]
 | a::l=>by rw[aH,rD];have:=h a;have:=yU h l;lia
end WL
namespace L2
open PySem PySem.Spec PyProof.Rows
def Keeps (S:Nat ->Prop)(g:TG):Prop:= ∀ (σ:St) (v:V) (H:Hp) (Q:St ->Hp ->Prop),g v σ H Q ->g v σ H λσ2 H2=>(σ2.length=σ.length /\ ∀i,¬S i ->σ2[i]? =σ[i]?) /\ Q σ2 H2
theorem yE {S:Nat ->Prop}{n:Nat}(h:S n):Keeps S (qF n):=by intro σ v H Q q;refine⟨⟨by simp,λi hi=> ?_⟩,q⟩;rw[qT];intro e;subst e;exact hi h
theorem C0 {own:Nat}{fr:List Nat}{σ:St}{i:Nat}{v:V}(h:(lC own fr σ)[i]? =some (some v)):own<=i:=by
 unfold lC at h;rcases dU i own with c | c
 ·rw[a9 (by simpa using c),d7,ak c] at h;cases h
 ·exact c
def inW (Fe:TI)(g2:TG)(xx:TT)(te:TE)(σ2:St)(p:Addr)(H4:Hp)(N:List V ->Hp ->Prop):Prop:=Fe σ2 H4 λJ2 H5=> ∃Z:Nat ->Nat ->List V ->Hp ->Prop,(∃m zs,Z 0 m zs H5) /\ ∀j k zs H6,Z j k zs H6 ->H6 p=some (.lst zs) /\((J2.stop j H6 /\ N zs H6) \/ (J2.go j H6 /\ zs.length<sizeLine /\ ∀y H7,J2.Oj j H6 y H7 ->g2 y σ2 H7 λσ3 H8=>xx σ3 H8 λc H9=>if c=true then te σ3 H9 λz RW=> ∃ws,RW p=some (.lst ws) /\ ws.length<sizeLine /\ ∃k',k'<k /\ Z (j+1) k' (ws++ [z]) (upd RW p (.lst (ws++ [z]))) else ∃ws k',k'<k /\ Z (j+1) k' ws H9))
def IH (J:It)(own:Nat)(fr:List Nat)(g:TG)(tc:TT)(Fe:TI)(g2:TG)(xx:TT)(te:TE)(σ:St)(p:Addr)(H1:Hp)(Q:VK):Prop:=∃ W :Nat ->Nat ->List V ->Hp ->Prop,(∃m,W 0 m [] (upd H1 p (.lst []))) /\ ∀i m ys H',W i m ys H' ->H' p=some (.lst ys) /\((J.stop i H' /\ Q (.ref p) H') \/ (J.go i H' /\ ∀x H2,J.Oj i H' x H2 ->g x (lC own fr σ) H2 λσ2 H3=>tc σ2 H3 λb H4=>if b=true then inW Fe g2 xx te σ2 p H4 λzs H5=> ∃m',m'<m /\ W (i+1) m' zs H5 else ∃zs m',m'<m /\ W (i+1) m' zs H4))
def FQ (wi:TI)(own:Nat)(fr:List Nat)(g:TG)(tc:TT)(Fe:TI)(g2:TG)(xx:TT)(te:TE):TE:=λσ H Q=>wi σ H λJ H1=> ∀p,H1 p=none ->IH J own fr g tc Fe g2 xx te σ p H1 Q
section
variable {prog:Program}{w:World}{A:Around}{R:Result ->Shared ->Prop}{s:Shared}
abbrev wM (elt tg iter:Expr)(ifs:List Expr)(lE di:Expr)(gq:List Expr)(scope:Scope)(pos:Pos):Expr:= .ListComp elt [⟨tg,iter,ifs,0⟩,⟨lE,di,gq,0⟩] scope pos
theorem Kb (elt tg iter:Expr)(ifs:List Expr)(lE di:Expr)(gq:List Expr)(scope:Scope)(pos:Pos)(it acc:Value)(env:Env): compTurn (wM elt tg iter ifs lE di gq scope pos) 0 it acc env=(do
 standAt iter.pos
 let r <- pyNext it
 match r with
 | none=>pure (.done .next)
 | some v=>do
  letOwnedTupleGo tg it v
  assign tg env v
  let ok <- forIn ifs true λc r=>if r=true then do let ok <- isTrue c env (eval c env);pure (ForInStep.yield ok) else pure (ForInStep.yield r)
  if ok=true then do
   let x <- eval di env
   standAt di.pos
   let x <- foldedSetIterable di env x
   let i2 <- holding [x] (pyIter x)
   let _ <- runOwn (.compStart (wM elt tg iter ifs lE di gq scope pos) 1 i2 acc env) env
   again (.compLoop (wM elt tg iter ifs lE di gq scope pos) 0 it acc env)
  else again (.compLoop (wM elt tg iter ifs lE di gq scope pos) 0 it acc env)):=by rfl
theorem Ka (elt tg iter:Expr)(ifs:List Expr)(lE di:Expr)(gq:List Expr)(scope:Scope)(pos:Pos)(it acc:Value)(env:Env): compTurn (wM elt tg iter ifs lE di gq scope pos) 1 it acc env=(do
 standAt di.pos
 let r <- pyNext it
 match r with
 | none=>pure (.done .next)
 | some v=>do
  letOwnedTupleGo lE it v
  assign lE env v
  let ok <- forIn gq true λc r=>if r=true then do let ok <- isTrue c env (eval c env);pure (ForInStep.yield ok) else pure (ForInStep.yield r)
  if ok=true then do
   ((do let _ <- call (.builtin "list.append") [acc, <- eval elt env]):Sem Unit)
   again (.compLoop (wM elt tg iter ifs lE di gq scope pos) 1 it acc env)
  else again (.compLoop (wM elt tg iter ifs lE di gq scope pos) 1 it acc env)):=by rfl
theorem FW {elt tg iter:Expr}{ifs:List Expr}{lE di:Expr}{gq:List Expr}{scope:Scope}{pos:Pos}{it acc:Value}{env:Env} (h0:codeAny (model prog w) A (.compLoop (wM elt tg iter ifs lE di gq scope pos) 1 it acc env) R s) (h:wpAny (model prog w) A (pyIter it) (λX9 s'=>codeAny (model prog w) A (.compLoop (wM elt tg iter ifs lE di gq scope pos) 1 X9 acc env) R s') (notedBy (model prog w) A env λx s'=>R (.error x) s') s): codeAny (model prog w) A (.compStart (wM elt tg iter ifs lE di gq scope pos) 1 it acc env) R s:=by
 refine codeAny_of_tree ?_;show wpAny _ _ ((compStart (wM elt tg iter ifs lE di gq scope pos) 1 it acc env).onRaise (λx=>do noteFrame x env;standAt theWindowsPlace)) _ _ s;refine wpAny_notedAt ?_;unfold compStart;show wpAny _ _ (ask >>=_) _ _ s;refine ao (wpAny_askSetting (wpAny_ite ?_));split
 ·first
  | exact ao (aM (aM (And.intro rfl h0)))
  | exact aM (And.intro rfl h0)
 ·first
  | exact ao (gr (ao (iS (ao (bJ h (λX9 s' h'=>aM (And.intro rfl h')) λ_ _ x=>x)))))
  | (refine ao (gr ?_);show wpAny _ _ (standAt di.pos >>=_) _ _ s;exact ao (iS (ao (bJ h (λX9 s' h'=>aM (And.intro rfl h')) λ_ _ x=>x))))
theorem K5 {elt tg iter:Expr}{ifs:List Expr}{lE di:Expr}{gq:List Expr}{scope:Scope}{pos:Pos}{it acc:Value}{env:Env}(I:Nat ->Shared ->Prop) (turn : ∀n s,I n s ->wpAny (model prog w) A (pyNext it) (λr s₁=>match r with
   | none=>R (.ok .next) s₁
   | some v=>wpAny (model prog w) A (letOwnedTupleGo lE it v) (λ_ s₀=>wpAny (model prog w) A (assign lE env v) (λ_ s₂=>
    wpAny (model prog w) A (forIn gq true λc r=>if r=true then do let ok <- isTrue c env (eval c env);pure (ForInStep.yield ok) else pure (ForInStep.yield r)) (λok s₃=>if ok=true then wpAny (model prog w) A (eval elt env) (λx s₄=>wpAny (model prog w) A (call (.builtin "list.append") [acc,x]) (λ_ s₅=> ∃m,m<n /\ I m s₅) (λ_ _=>False) s₄) (λ_ _=>False) s₃ else ∃m,m<n /\ I m s₃) (λ_ _=>False) s₂)
    (λ_ _=>False) s₀) (λ_ _=>False) s₁) (λ_ _=>False) s)
  (n:Nat) (h:I n s):codeAny (model prog w) A (.compLoop (wM elt tg iter ifs lE di gq scope pos) 1 it acc env) R s:=by
 refine codeAny_loop rfl I (λn s hI=> ?_) n h
 show wpAny _ A ((compTurn (wM elt tg iter ifs lE di gq scope pos) 1 it acc env).onRaise (λx=>do noteFrame x env;theTreesLotGoes x)) _ _ s
 refine wpAny_noted ?_
 rw[Ka]
 refine ao (iS (ao (bJ (turn n s hI) (λr s₁ h₁=> ?_) λ_ _ h'=>h'.elim)))
 cases r with
 | none=>exact aM h₁
 | some v=>
  refine ao (bJ h₁ (λ_ s₀ Uh=> ?_) λ_ _ h'=>h'.elim);refine ao (bJ Uh (λ_ s₂ h₂=> ?_) λ_ _ h'=>h'.elim);refine ao (bJ h₂ (λTF s₃ h₃=> ?_) λ_ _ h'=>h'.elim);cases TF with
  | false=>exact aM ⟨rfl,h₃⟩
  | true=>exact ao (ao (bJ h₃ (λx s₄ h₄=>ao (bJ h₄ (λ_ s₅ h₅=>aM (aM ⟨rfl,h₅⟩)) λ_ _ h'=>h'.elim)) λ_ _ h'=>h'.elim))
theorem K6 {elt tg iter:Expr}{ifs:List Expr}{lE di:Expr}{gq:List Expr}{scope:Scope}{pos:Pos}{it acc:Value}{env:Env}(I:Nat ->Shared ->Prop)(hs: ∀x,foldedSetIterable di env x=pure x) (turn : ∀n s,I n s ->wpAny (model prog w) A (pyNext it) (λr s₁=>match r with
   | none=>R (.ok .next) s₁
   | some v=>wpAny (model prog w) A (letOwnedTupleGo tg it v) (λ_ s₀=>wpAny (model prog w) A (assign tg env v) (λ_ s₂=>
    wpAny (model prog w) A (forIn ifs true λc r=>if r=true then do let ok <- isTrue c env (eval c env);pure (ForInStep.yield ok) else pure (ForInStep.yield r)) (λok s₃=>if ok=true then wpAny (model prog w) A (eval di env) (λx s₄=>wpAny (model prog w) A (pyIter x) (λi2 s₅=>codeAny (model prog w) (A.mark none) (.compStart (wM elt tg iter ifs lE di gq scope pos) 1 i2 acc env) (λr s₆=>match r with | .ok _=> ∃m,m<n /\ I m s₆ | .error _=>False) s₅) (λ_ _=>False) s₄) (λ_ _=>False) s₃ else ∃m,m<n /\ I m s₃) (λ_ _=>False) s₂)
    (λ_ _=>False) s₀) (λ_ _=>False) s₁) (λ_ _=>False) s)
  (n:Nat) (h:I n s):codeAny (model prog w) A (.compLoop (wM elt tg iter ifs lE di gq scope pos) 0 it acc env) R s:=by
 refine codeAny_loop rfl I (λn s hI=> ?_) n h
 show wpAny _ A ((compTurn (wM elt tg iter ifs lE di gq scope pos) 0 it acc env).onRaise (λx=>do noteFrame x env;theTreesLotGoes x)) _ _ s
 refine wpAny_noted ?_
 rw[Kb]
 refine ao (iS (ao (bJ (turn n s hI) (λr s₁ h₁=> ?_) λ_ _ h'=>h'.elim)))
 cases r with
 | none=>exact aM h₁
 | some v=>
  refine ao (bJ h₁ (λ_ s₀ Uh=> ?_) λ_ _ h'=>h'.elim);refine ao (bJ Uh (λ_ s₂ h₂=> ?_) λ_ _ h'=>h'.elim);refine ao (bJ h₂ (λTF s₃ h₃=> ?_) λ_ _ h'=>h'.elim);cases TF with
  | false=>exact aM ⟨rfl,h₃⟩
  | true=>
   refine ao (bJ h₃ (λx s₄ h₄=> ?_) λ_ _ h'=>h'.elim);refine ao (iS ?_);rw[hs];refine ao (aM (ao (d9 (bJ h₄ (λi2 s₅ h₅=> ?_) λ_ _ h'=>h'.elim))));refine ao (wpAny_runOwn ?_);refine rT h₅ λr s' z=> ?_;cases r with
   | ok f=>exact aM ⟨rfl,z⟩
   | error e=>exact z.elim
end
section
variable {X:Cx}{pins:List (Addr×Obj)}{σ:St}{H:Hp}{s s3:Shared}
theorem zd {tg iter elt:Expr}{ifs:List Expr}{lE di:Expr}{gq:List Expr}{pos:Pos}{own N':List Str}{fr:List Nat}{n1:Nat}{scope:Scope}{cl:List (Str×Addr)}{fp:List Addr}{it:Addr}{tn:Nat ->Heap ->Prop}{J:It}{g:TG}{tc:TT}{Fe:TI}{g2:TG}{xx:TT}{te:TE}{Q:VK} {E:Value ->Shared ->Prop} {RR:Value ->Addr ->Result ->Shared ->Prop} (lQ:X.calm=true) (S:fq X own fr N' scope) (hg: ∀s3 H3,PG (bV X N' scope cl fp s3 H3) tg g) (UB:n1<=own.length) (hw:Keeps (λi=>i<n1) g) (hc: ∀s3 H3,N8 (bV X N' scope cl fp s3 H3) ifs tc) (YT: ∀s3 H3,PI (bV X N' scope cl fp s3 H3) lE di Fe) (YW: ∀s3 H3,PG (bV X N' scope cl fp s3 H3) lE g2) (Yh:Keeps (λi=>n1<=i /\ i<own.length) g2) (RF: ∀s3 H3,N8 (bV X N' scope cl fp s3 H3) gq xx) (he: ∀s3 H3,PE (bV X N' scope cl fp s3 H3) elt te) (mF: ∀s3 H3 x,foldedSetIterable di (bV X N' scope cl fp s3 H3).env x=pure x) (rB: ∀x c,cl.lookup x=some c ->X.env.cells.lookup x=some c) (uh: ∀y∈scope.names,y.2= .free ->(cl.lookup y.1).isSome=true) (I:Inv X pins σ H s) (T:Turn X.prog X.w X.K tg J fp it tn) (st:tn 0 s.heap) (w5: ∀b∈fp,kX X pins H b) (h: ∀p,H p=none ->IH J own.length fr g tc Fe g2 xx te σ p H Q) (fin: ∀ (s3:Shared) (H3:Hp),Inv X pins σ H3 s3 ->(∀b∈fp,kX X pins H3 b) -> ∀ (D:Addr) (σ':St) (H':Hp) (s':Shared) (t:Nat),D<s3.heap.objs.size ->Inv (bV X N' scope cl fp s3 H3) [] σ' H' s' ->Q (.ref D) H' ->RR (.ref D) s3.heap.objs.size (.ok .next) s'): wpAny (model X.prog X.w) X.A (newList []) (λacc s₃=>wpAny (model X.prog X.w) X.A (newFunctionEnv scope X.env.globals cl [] X.env.qual none .none (some X.env)) (λIP s₄=>codeAny (model X.prog X.w) X.A (.compStart (wM elt tg iter ifs lE di gq scope pos) 0 (.ref it) acc {IP with scope:=relabel scope X.env}) (RR acc IP.locals) s₄) E s₃) E s:=by
 refine jM ?_;have hf:H s.heap.objs.size=none:=I.c8.fresh (aq _);obtain⟨W,⟨m0,w0⟩,turn⟩:=h _ hf;generalize e3:({s with heap:=s.heap.push {cls:= .type "list",dict:=none,data:= .seq ([]:List Value).toArray}}:Shared)=s3;have OP:s3.heap.objs.size=s.heap.objs.size+1:=by rw[<- e3];exact fk ..
 have Xc: ∀b o,s.heap.get? b=some o ->s3.heap.get? b=some o:=λb o e=>by rw[<- e3];exact ar _ e
 have I3:Inv X pins σ (upd H s.heap.objs.size (.lst [])) s3:=by rw[<- e3];exact I.laid (t':=s.toks) (λb u e=>ar _ e) (aq _) ⟨cU _,[],0, .nil,aS _ rfl⟩
 have Qz: ∀b∈fp,b<s.heap.objs.size:=λb hb=>by obtain⟨o,e,_⟩:=T.obj 0 _ st b hb;exact aB e
 have AI: ∀b∈fp,kX X pins (upd H s.heap.objs.size (.lst [])) b:=λb hb=>⟨by rw[bC (aX (Qz b hb))];exact(w5 b hb).1,(w5 b hb).2⟩
 refine wpAny_newFunctionEnv S.sJ (by intro y hy;simp at hy) (λh₁ P7 PZ=> ?_) S.kind;have old: ∀b o,s3.heap.get? b=some o ->h₁.get? b=some o:=λb o e=>PZ.extBut b o (aX (aB e)) (ar _ e);have Ic:=yH (t:=s3.toks+([]:List (Str×Value)).length) S I3 rB uh AI (λb hb=>by rw[OP];exact d6 (Qz b hb)) P7 old;have Dk:tn 0 h₁:=T.keep 0 _ _ st λb hb o e=>old b o (Xc b o e);have se: ∀ {H':Hp},(∀b∈fp,H' b=none) -> ∀b∈fp,kX (bV X N' scope cl fp s3 (upd H s.heap.objs.size (.lst []))) [] H' b:=λhn b hb=>by
  refine⟨hn b hb,?_,?_, .inl hb,λx c e=>(w5 b hb).2.2.2.2.1 x c (rB x c e),λp hp=>absurd (show p∈([]:List (Addr×Obj)) from hp) (by simp)⟩
  ·show b≠s3.heap.objs.size;rw[OP];exact aX (d6 (Qz b hb))
  ·exact Ic.ok.Eb b hb
 have loop : codeAny (model X.prog X.w) X.A (.compLoop (wM elt tg iter ifs lE di gq scope pos) 0 (.ref it) (.ref s.heap.objs.size) (compEnvC scope cl s3.heap.objs.size X.env)) (RR (.ref s.heap.objs.size) s3.heap.objs.size) {s3 with heap:=h₁,toks:=s3.toks+([]:List (Str×Value)).length}:=by
  refine K6 (λn s'=> ∃i ys H',Inv (bV X N' scope cl fp s3 (upd H s.heap.objs.size (.lst []))) [] (lC own.length fr σ) H' s' /\ tn i s'.heap /\ (∀b∈fp,H' b=none) /\ W i n ys H') (mF s3 H) ?_ m0 ⟨0,[],_,Ic,Dk,λb hb=>(AI b hb).1,w0⟩;rintro n s4 ⟨i,ys,H4,I4,gA,QB,w4⟩;obtain⟨D8,alt⟩:=turn i n ys H4 w4;rcases alt with⟨stop,q⟩ | ⟨go,step⟩
  ·refine dj (T.done (bV X N' scope cl fp s3 (upd H s.heap.objs.size (.lst []))) rfl rfl rfl lQ i [] s4 _ H4 (λ_ _=>False) I4 (se QB) gA stop) λr s5 ⟨hr,I5⟩=> ?_;subst hr;exact fin s3 _ I3 AI _ _ H4 s5 s5.toks (by rw[OP];exact eI _) I5 q
  ·refine dj (T.item (bV X N' scope cl fp s3 (upd H s.heap.objs.size (.lst []))) rfl rfl rfl lQ i [] s4 _ H4 (λ_ _=>False) I4 (se QB) gA go) λr s5 ⟨u,hr,h5⟩=> ?_;subst hr;refine dj h5 λ_ s6 ⟨x,H6,I6,r6,y6,OS,ZX⟩=> ?_;have I6':=I6.pinned (se ZX) (T.obj _ _ OS);have Mz:=hw _ x H6 _ (step x H6 y6);refine dj (hg s3 _ _ s6 _ H6 x u _ I6' r6 Mz) λ_ s7 ⟨σ7,H7,I7,wk,q7⟩=> ?_;have wk1: ∀ (j:Nat) v,(lC own.length fr σ)[j]? =some (some v) ->σ7[j]? =some (some v):=λj v e=>by rw[wk.2 j (by have:=C0 e;lia)];exact e
   have wk2: ∀j,n1<=j ->j<own.length -> ∀v,σ7[j]? ≠some (some v):=λj h1 h2 v e=>by rw[wk.2 j (by lia)] at e;have:=C0 e;lia
   have again: ∀ {σ9:St} {H9:Hp} {s9:Shared} {Oi:List V},σ9.length=σ7.length ->(∀ (j:Nat) v,σ7[j]? =some (some v) ->σ9[j]? =some (some v)) ->Inv (bV X N' scope cl fp s3 (upd H s.heap.objs.size (.lst []))) ([]++jr fp s6.heap) σ9 H9 s9 ->(∃m',m'<n /\ W (i+1) m' Oi H9) ->∃m,m<n /\ ∃i ys H',Inv (bV X N' scope cl fp s3 (upd H s.heap.objs.size (.lst []))) [] (lC own.length fr σ) H' s9 /\ tn i s9.heap /\ (∀b∈fp,H' b=none) /\ W i m ys H':=λ{σ9 H9 s9 Oi} hl9 hv9 I9 ⟨m',hm,w9⟩=>by
    refine⟨m',hm,i+1,Oi,H9,(I9.kf).weak ?_ λj v e=>hv9 j v (wk1 j v e),T.keep _ _ _ OS λb hb o e=>(I9.pin (b,o) (aT _ (aT _ (fQ hb e)))).1,λb hb=> ?_,w9⟩
    ·rw[hl9,wk.1]
    ·obtain⟨o,e,d⟩:=T.obj _ _ OS b hb;exact(I9.pin (b,o) (aT _ (aT _ (fQ hb e)))).2.1
   refine dj (hc s3 _ _ s7 σ7 H7 _ I7 q7) λok s8 ⟨H8,I8,q8⟩=> ?_;cases ok with
   | false=>simp only[ay,bf] at q8 ⊢;obtain⟨zs,q8⟩:=q8;exact again rfl (λ_ _ e=>e) I8 q8
   | true =>
    simp only[bN] at q8 ⊢;refine dj (YT s3 _ _ s8 σ7 H8 _ I8 q8) λv2 s9 h9=>dj h9 λUa Xn Wz=> ?_;obtain⟨yG,Vb,tn2,J2,RW,e10,I10,T2,SY,f10,Z,⟨mz,z0,AG⟩,Sx⟩:=Wz;subst e10;have FU: ∀ {H':Hp},(∀b∈Vb,H' b=none) -> ∀b∈Vb,kX (bV X N' scope cl fp s3 (upd H s.heap.objs.size (.lst []))) ([]++jr fp s6.heap) H' b:=λhn b hb=>⟨hn b hb,(f10 b hb).2⟩
    have Na:codeAny (model X.prog X.w) X.A (.compLoop (wM elt tg iter ifs lE di gq scope pos) 1 (.ref yG) (.ref s.heap.objs.size) (compEnvC scope cl s3.heap.objs.size X.env)) (λr s₆=>match r with
    | .ok _=> ∃m,m<n /\ ∃i ys H',Inv (bV X N' scope cl fp s3 (upd H s.heap.objs.size (.lst []))) [] (lC own.length fr σ) H' s₆ /\ tn i s₆.heap /\ (∀b∈fp,H' b=none) /\ W i m ys H'
    | .error _=>False) Xn:=by
     refine K5 (λk s'=> ∃j zs H',Inv (bV X N' scope cl fp s3 (upd H s.heap.objs.size (.lst []))) ([]++jr fp s6.heap) σ7 H' s' /\ tn2 j s'.heap /\ (∀b∈Vb,H' b=none) /\ Z j k zs H') ?_ mz ⟨0,z0,RW,I10,SY,λb hb=>(f10 b hb).1,AG⟩
     rintro k s11 ⟨j,zs,H11,I11,SX,Va,z11⟩
     obtain⟨aaF,aai⟩:=Sx j k zs H11 z11
     rcases aai with⟨SS,qN⟩ | ⟨go2,hsz2,SW⟩
     ·refine dj (T2.done (bV X N' scope cl fp s3 (upd H s.heap.objs.size (.lst []))) rfl rfl rfl lQ j _ s11 _ H11 (λ_ _=>False) I11 (FU Va) SX SS) λr s12 ⟨hr,I12⟩=> ?_;subst hr;exact again rfl (λ_ _ e=>e) I12 qN
     ·refine dj (T2.item (bV X N' scope cl fp s3 (upd H s.heap.objs.size (.lst []))) rfl rfl rfl lQ j _ s11 _ H11 (λ_ _=>False) I11 (FU Va) SX go2) λr s12 ⟨u2,hr,h12⟩=> ?_;subst hr;refine dj h12 λ_ s13 ⟨x2,H13,I13,r13,y13,OT,ZY⟩=> ?_;have aan:=I13.pinned (FU ZY) (T2.obj _ _ OT);have Xj:=Yh _ x2 H13 _ (SW x2 H13 y13);refine dj (YW s3 _ _ s13 _ H13 x2 u2 _ aan r13 Xj) λ_ s14 ⟨σ14,H14,I14,RZ,q14⟩=> ?_;have N3: ∀ {H9:Hp} {s9:Shared} {ws:List V},Inv (bV X N' scope cl fp s3 (upd H s.heap.objs.size (.lst []))) (([]++jr fp s6.heap)++jr Vb s13.heap) σ14 H9 s9 ->(∃k',k'<k /\ Z (j+1) k' ws H9) ->∃m,m<k /\ ∃j zs H',Inv (bV X N' scope cl fp s3 (upd H s.heap.objs.size (.lst []))) ([]++jr fp s6.heap) σ7 H' s9 /\ tn2 j s9.heap /\ (∀b∈Vb,H' b=none) /\ Z j m zs H':=λ{H9 s9 ws} I9 ⟨k',xC,z9⟩=>by
       refine⟨k',xC,j+1,ws,H9,(I9.kf).weak RZ.1.symm λa v e=> ?_,T2.keep _ _ _ OT λb hb o e=>(I9.pin (b,o) (aT _ (aT _ (fQ hb e)))).1,λb hb=> ?_,z9⟩
       ·rw[RZ.2 a λhS=>wk2 a hS.1 hS.2 v e];exact e
       ·obtain⟨o,e,d⟩:=T2.obj _ _ OT b hb;exact(I9.pin (b,o) (aT _ (aT _ (fQ hb e)))).2.1
      refine dj (RF s3 _ _ s14 σ14 H14 _ I14 q14) λXE s15 ⟨H15,I15,Rc⟩=> ?_;cases XE with
      | false=>simp only[ay,bf] at Rc ⊢;obtain⟨ws,Rc⟩:=Rc;exact N3 I15 Rc
      | true=>simp only[bN] at Rc ⊢;refine dj (he s3 _ _ s15 σ14 H15 _ I15 Rc) λy s16 ⟨yv,H16,I16,ry,ws,Yt,Yc,q16⟩=> ?_;refine dj (ml _ s16 σ14 H16 (.ref s.heap.objs.size) [yv] (.ref s.heap.objs.size) [y] (λv H'=>H'=upd H16 s.heap.objs.size (.lst (ws++ [yv]))) I16 rfl (.cons ry .nil) ⟨_,ws,yv,rfl,rfl,Yt,Yc,rfl⟩) λv s17 ⟨_,H17,I17,_,e17⟩=> ?_;subst e17;exact N3 I17 q16
    show codeAny _ X.A _ _ Xn;exact FW Na (T2.self _ 0 _ _ _ SY Na)
 exact codeAny_compStart_list loop (T.self _ 0 _ _ _ Dk loop)
end
section
variable {X:Cx}
theorem GN {tg iter elt:Expr}{ifs:List Expr}{lE di:Expr}{gq:List Expr}{pos:Pos}{own N':List Str}{fr:List Nat}{n1:Nat}{scope:Scope}{wi:TI}{g:TG}{tc:TT}{Fe:TI}{g2:TG}{xx:TT}{te:TE}(lQ:X.calm=true)(S:fq X own fr N' scope)(hi:PI X tg iter wi) (hg: ∀cl fp s3 H3,PG (bV X N' scope cl fp s3 H3) tg g) (UB:n1<=own.length) (hw:Keeps (λi=>i<n1) g) (hc: ∀cl fp s3 H3,N8 (bV X N' scope cl fp s3 H3) ifs tc) (YT: ∀cl fp s3 H3,PI (bV X N' scope cl fp s3 H3) lE di Fe) (YW: ∀cl fp s3 H3,PG (bV X N' scope cl fp s3 H3) lE g2) (Yh:Keeps (λi=>n1<=i /\ i<own.length) g2) (RF: ∀cl fp s3 H3,N8 (bV X N' scope cl fp s3 H3) gq xx) (he: ∀cl fp s3 H3,PE (bV X N' scope cl fp s3 H3) elt te) (hs: ∀x,foldedSetIterable iter X.env x=pure x:=by intro _;rfl) (mF: ∀cl fp s3 H3 x,foldedSetIterable di (bV X N' scope cl fp s3 H3).env x=pure x:=by intro _ _ _ _ _;rfl):PE X (.ListComp elt [⟨tg,iter,ifs,0⟩,⟨lE,di,gq,0⟩] scope pos) (FQ wi own.length fr g tc Fe g2 xx te):=by intro pins s σ H Q I h;obtain⟨cl,HZ,rB,uh⟩:=tH (I.ok.cellsOf S);rw[eval_ListComp];refine Q5 (use:=none) rfl hs HZ S.kind S.loc (dj (hi pins s σ H _ I h) λv s1 h1=>dj h1 λUa s2 h2=> ?_);obtain⟨it,fp,tn,J,H2,e,I2,T,ox,f2,h2⟩:=h2;subst e;refine zd (RR:=λacc C=>compPost (model X.prog X.w) X.A X.xe none (EP X pins σ Q) acc C) lQ S (hg cl fp) UB hw (hc cl fp) (YT cl fp) (YW cl fp) Yh (RF cl fp) (he cl fp) (mF cl fp) rB uh I2 T ox f2 h2 ?_;intro s3 H3 I3 f3 D σ' H' s' t hD Ic q;obtain⟨m,hn,_⟩:=Ic.loc;refine⟨m,hn,λh' Ut=>⟨.ref D,H',?_,rfl,q⟩⟩;exact vm I3 rfl (comp_back I3 f3 Ic) Ic.free Ut
end
end L2
namespace WL
open PySem L2
section
variable {K:PySem.W.Frag}
def PX (xw:List W)(gD:Mp ->Prop)(g2:WG)(c2:WT)(el:WE)(ρ2:dB)(p:Addr)(ys:List W)(M4:Mp)(N:List W ->Mp ->Prop):Prop:=∃ I2:Nat ->List W ->Mp ->Prop,I2 0 ys M4 /\ (∀j zs M,j<=xw.length ->I2 j zs M ->gD M /\ M p=some (.lst zs) /\ zs.length<sizeLine) /\(∀j y zs M,xw[j]? =some y ->I2 j zs M ->g2 y ρ2 M λρ3 M5=>c2 ρ3 M5 λb M6=>if b=true then el ρ3 M6 λz M7=>M7 p=some (.lst zs) /\ I2 (j+1) (zs++ [z]) (um M7 p (.lst (zs++ [z]))) else I2 (j+1) zs M6) /\∀zs M,I2 xw.length zs M ->N zs M
def xh (xs:List W)(keep:Mp ->Prop)(own:Nat)(fr:List Nat)(g:WG)(c:WT)(yG:WI)(g2:WG)(c2:WT)(el:WE)(ρ:dB)(M1:Mp)(q:WK):Prop:= ∀p,M1 p=none -> ∃I:Nat ->List W ->Mp ->Prop,I 0 [] (um M1 p (.lst [])) /\(∀i ys M,i<=xs.length ->I i ys M ->keep M /\ M p=some (.lst ys)) /\(∀i x ys M,xs[i]? =some x ->I i ys M ->g x (capρ own fr ρ) M λρ2 M2=>c ρ2 M2 λb M3=>if b=true then yG ρ2 M3 λxw gD M4=>PX xw gD g2 c2 el ρ2 p ys M4 (I (i+1)) else I (i+1) ys M3) /\∀ys M,I xs.length ys M ->q (wr p) M
def Fu (it:WI)(own:Nat)(fr:List Nat)(g:WG)(c:WT)(yG:WI)(g2:WG)(c2:WT)(el:WE):WE:=λρ M q=>it ρ M λxs keep M1=>xh xs keep own fr g c yG g2 c2 el ρ M1 q
theorem wComp2_e {it:WI}{own:Nat}{fr:List Nat}{g:WG}{c:WT}{yG:WI}{g2:WG}{c2:WT}{el:WE}{ρ:dB}{M:Mp}{q:WK}:Fu it own fr g c yG g2 c2 el ρ M q=it ρ M λxs keep M1=>xh xs keep own fr g c yG g2 c2 el ρ M1 q:=rfl
instance {ti:TI}{own:Nat}{fr:List Nat}{g:TG}{tc:TT}{ti2:TI}{g2:TG}{xx:TT}{te:TE}{it:WI}{w:WG}{c:WT}{yG:WI}{w2:WG}{c2:WT}{el:WE} [ii:II K ti it] [ig:IG K g w] [ic:IT K tc c] [ii2:II K ti2 yG] [ig2:IG K g2 w2] [ic2:IT K xx c2] [ie:IE K te el]: IE K (FQ ti own fr g tc ti2 g2 xx te) (Fu it own fr w c yG w2 c2 el) where
 imp := λρ M σ H q Q o h k=>ii.imp ρ M σ H _ _ o h λxs keep J M1 H1 h1 t1 m1 ok=>by
  intro p hp;obtain⟨I,h0,hk,hs,hd⟩:=h1 p (m1.fresh hp);have tp:=L2.fE.ts (b8 (o:= .lst []) hp);refine⟨λi m vs H'=>m=xs.length - i /\ i<=xs.length /\ ∃ys M',I i ys M' /\ bo H1 H' /\ gY K M' H' /\ cF K H' ys vs /\ H' p=some (.lst vs),⟨_,rfl,cU _,[],_,h0,tp,m1.rf hp cF.nil,cF.nil,bU⟩,?_⟩;rintro i m vs H' ⟨rfl,hi,ys,M',hI,ts,m',rv,hv⟩;refine⟨hv,?_⟩;obtain⟨kp,hMp⟩:=hk i ys M' hi hI;obtain⟨k1,k2,k3⟩:=ok i M' H' ts m' kp;by_cases f6:i<xs.length
  ·refine .inr ⟨k2 f6,λv H2 y=> ?_⟩;obtain⟨ty,my,x,hx,r⟩:=k3 v H2 f6 y;replace ts:=ts.trans ty;have oc:Ok K (capρ own fr ρ) M' (lC own fr σ) H2:=⟨(o.env.ts (t1.trans ts)).RK own fr,my⟩
   refine ig.imp x v _ M' _ H2 _ _ oc r (hs i x ys M' hx hI) λρ3 M3 σ3 H3 h3 t3 o3=>ic.imp ρ3 M3 σ3 H3 _ _ o3 h3 λb M4 H4 h4 t4 m4=> ?_;cases b with
   | true=>
    simp only[bN] at h4 ⊢;refine ii2.imp ρ3 M4 σ3 H4 _ _ (o3.mv t4 m4) h4 λxw gD J2 M5 H5 h5 t5 m5 XE=> ?_;obtain⟨I2,h20,HR,mF,hd2⟩:=h5;have tt5:=ts.trans ((t3.trans t4).trans t5);have at5: ∀ {M6:Mp} {H6:Hp} {zs:List W},M6 p=some (.lst zs) ->gY K M6 H6 -> ∃vs,H6 p=some (.lst vs) /\ cF K H6 zs vs:=λh m=>by obtain⟨vs,hv,rr⟩:=m p _ h;exact⟨vs,hv,rr⟩
    obtain⟨Mj,HG,Kn⟩:=at5 (HR 0 ys M5 (cU _) h20).2.1 m5;refine⟨λj m vs H'=>m=xw.length - j /\ j<=xw.length /\ ∃zs M',I2 j zs M' /\ bo H5 H' /\ gY K M' H' /\ cF K H' zs vs /\ H' p=some (.lst vs),⟨_,Mj,rfl,cU _,ys,M5,h20,bo.refl _,m5,Kn,HG⟩,?_⟩;rintro j m2 vs6 H6 ⟨rfl,hj,zs,M6,Ze,Sy,m6,rv6,hv6⟩;refine⟨hv6,?_⟩;obtain⟨K9,aaR,hzl⟩:=HR j zs M6 hj Ze;obtain⟨a1,a2,a3⟩:=XE j M6 H6 Sy m6 K9;by_cases yJ:j<xw.length
    ·refine .inr ⟨a2 yJ,by rw[rv6.length];exact hzl,λu7 H7 y7=> ?_⟩;obtain⟨Xe,my7,x7,hx7,r7⟩:=a3 u7 H7 yJ y7;have o7:Ok K ρ3 M6 σ3 H7:=⟨o3.env.ts ((t4.trans t5).trans (Sy.trans Xe)),my7⟩
     refine ig2.imp x7 u7 ρ3 M6 σ3 H7 _ _ o7 r7 (mF j x7 zs M6 hx7 Ze) λρ8 M8 σ8 H8 h8 t8 o8=>ic2.imp ρ8 M8 σ8 H8 _ _ o8 h8 λb9 M9 H9 h9 t9 m9=> ?_;cases b9 with
     | true=>simp only[bN] at h9 ⊢;refine ie.imp ρ8 M9 σ8 H9 _ _ (o8.mv t9 m9) h9 λz M10 u RW ⟨Wz,h11⟩ t10 m10 r10=> ?_;obtain⟨J8,HH,Gg⟩:=m10 p _ Wz;have t11:=nA (u:= .lst (J8++ [u])) HH;refine⟨J8,HH,by rw[Gg.length];exact hzl,_,?_,rfl,yJ,_,_,h11,((((Sy.trans Xe).trans t8).trans t9).trans t10).trans t11,m10.putL HH (Gg.snoc r10),(Gg.snoc r10).ts t11,bU⟩;lia
     | false=>simp only[ay,bf] at h9 ⊢;obtain⟨J8,HH,Gg⟩:=at5 (HR (j+1) zs M9 yJ h9).2.1 m9;refine⟨J8,_,?_,rfl,yJ,_,_,h9,((Sy.trans Xe).trans t8).trans t9,m9,Gg,HH⟩;lia
    ·have e':j=xw.length:=by lia
     subst e';refine .inl ⟨a1 rfl,_,?_,rfl,f6,zs,M6,hd2 zs M6 Ze,tt5.trans Sy,m6,rv6,hv6⟩;lia
   | false=>simp only[ay,bf] at h4 ⊢;obtain⟨Mj,HG,Kn⟩:=m4 p _ (hk (i+1) ys M4 f6 h4).2;refine⟨Mj,_,?_,rfl,f6,_,_,h4,ts.trans (t3.trans t4),m4,Kn,HG⟩;lia
  ·have e':i=xs.length:=by lia
   subst e';exact .inl ⟨k1 rfl,k _ M' _ H' (hd ys M' hI) (t1.trans ts) m' WR.v⟩
theorem nK {α:Type}{f:α ->W}{l:List α}{i:Nat}{x:W}(h:(l.map f)[i]? =some x): ∃a,l[i]? =some a /\ x=f a:=by
 rw[aA] at h;cases e:l[i]? with
 | none=>rw[e] at h;cases h
 | some a=>rw[e] at h;cases h;exact⟨a,rfl,rfl⟩
theorem RJ {α β:Type}{l:List α}{fW:α ->W}(inner:α ->List β)(gW:β ->W)(eW:α ->β ->W){keep:Mp ->Prop}{M1:Mp}{own:Nat}{fr:List Nat}{ρ:dB}{g:WG}{c:WT}{yG:WI}{g2:WG}{c2:WT}{el:WE}{q:WK} (hz:(l.map λa=>(inner a).length).sum<sizeLine) (kq: ∀M,Sm M1 M ->keep M) (hs: ∀a∈l, ∀M,Sm M1 M -> ∀ (B:dB ->List W ->(Mp ->Prop) ->Mp ->Prop) (N0:Mp ->Prop),(∀ρ2 gD,(∀M',Sm M1 M' ->gD M') ->(∀b∈inner a, ∀M',Sm M1 M' -> ∀N:Option W ->Mp ->Prop,N (some (eW a b)) M' ->g2 (gW b) ρ2 M' λρ3 M5=>c2 ρ3 M5 λb M6=>jv b (el ρ3 M6 λz M7=>N (some z) M7) (N none M6)) ->B ρ2 ((inner a).map gW) gD M) ->g (fW a) (capρ own fr ρ) M λρ2 M2=>c ρ2 M2 λb M3=>jv b (yG ρ2 M3 λxw gD M4=>B ρ2 xw gD M4) (N0 M3)) (hq: ∀p,M1 p=none ->q (wr p) (um M1 p (.lst (l.map λa=>(inner a).map (eW a)).flatten))): xh (l.map fW) keep own fr g c yG g2 c2 el ρ M1 q:=by
 intro p hp;have hlen: ∀k:List α,(k.map λa=>(inner a).map (eW a)).flatten.length=(k.map λa=>(inner a).length).sum:=λk=>by rw[List.length_flatten,aD];congr 1;apply bF;intro a _;simp
 have Uq: ∀i:Nat,((l.take i).map λa=>(inner a).length).sum<=(l.map λa=>(inner a).length).sum:=λi=>by
  have e:(l.map λa=>(inner a).length)=((l.take i).map λa=>(inner a).length)++((l.drop i).map λa=>(inner a).length):=by rw[<- aN,a8]
  rw[e,zE];lia
 refine⟨λi ys M=>M=um M1 p (.lst ys) /\ ys=((l.take i).map λa=>(inner a).map (eW a)).flatten,⟨rfl,by simp⟩,?_,?_,?_⟩
 ·rintro i ys M hi ⟨rfl,rfl⟩;exact⟨kq _ (c4 hp),um_same⟩
 ·rintro i x ys M hx ⟨rfl,rfl⟩;obtain⟨a,ha,rfl⟩:=nK hx;have e:l.take (i+1)=l.take i++ [a]:=by rw[bD,ha];rfl
  have eF:((l.take (i+1)).map λa=>(inner a).map (eW a)).flatten=((l.take i).map λa=>(inner a).map (eW a)).flatten++(inner a).map (eW a):=by rw[e,aN,List.flatten_append];simp
  have eS:((l.take (i+1)).map λa=>(inner a).length).sum=((l.take i).map λa=>(inner a).length).sum+(inner a).length:=by rw[e,aN,zE];simp
  refine hs a (ai ha) _ (c4 hp) (λρ2 xw gD M4=>PX xw gD g2 c2 el ρ2 p ((l.take i).map λa=>(inner a).map (eW a)).flatten M4 λys M=>M=um M1 p (.lst ys) /\ ys=((l.take (i+1)).map λa=>(inner a).map (eW a)).flatten) (λM=>M=um M1 p (.lst ((l.take i).map λa=>(inner a).map (eW a)).flatten) /\ ((l.take i).map λa=>(inner a).map (eW a)).flatten=((l.take (i+1)).map λa=>(inner a).map (eW a)).flatten) ?_;intro ρ2 gD HR mF;refine⟨λj zs M=>M=um M1 p (.lst zs) /\ zs=((l.take i).map λa=>(inner a).map (eW a)).flatten++((inner a).take j).map (eW a),⟨rfl,by simp⟩,?_,?_,?_⟩
  ·rintro j zs M hj ⟨rfl,rfl⟩;refine⟨HR _ (c4 hp),um_same,?_⟩;rw[aL,hlen,aa,a6];have b3:=Uq (i+1);rw[eS] at b3;lia
  ·rintro j y zs M hy ⟨rfl,rfl⟩;obtain⟨b,hb,rfl⟩:=nK hy;have e2:(inner a).take (j+1)=(inner a).take j++ [b]:=by rw[bD,hb];rfl
   refine mF b (ai hb) _ (c4 hp) (λo M4=>match o with
   | some z=>M4 p=some (.lst (((l.take i).map λa=>(inner a).map (eW a)).flatten++((inner a).take j).map (eW a))) /\ (um M4 p (.lst (((l.take i).map λa=>(inner a).map (eW a)).flatten++((inner a).take j).map (eW a)++ [z]))=um M1 p (.lst (((l.take i).map λa=>(inner a).map (eW a)).flatten++((inner a).take j).map (eW a)++ [z])) /\ ((l.take i).map λa=>(inner a).map (eW a)).flatten++((inner a).take j).map (eW a)++ [z]=((l.take i).map λa=>(inner a).map (eW a)).flatten++((inner a).take (j+1)).map (eW a))
   | none=>M4=um M1 p (.lst (((l.take i).map λa=>(inner a).map (eW a)).flatten++((inner a).take j).map (eW a))) /\ ((l.take i).map λa=>(inner a).map (eW a)).flatten++((inner a).take j).map (eW a)=((l.take i).map λa=>(inner a).map (eW a)).flatten++((inner a).take (j+1)).map (eW a)) ?_
   exact⟨um_same,um_um,by rw[e2,aN];simp⟩
  ·rintro zs M ⟨rfl,rfl⟩;exact⟨rfl,by rw[eF,aa,cn]⟩
 ·rintro ys M ⟨rfl,rfl⟩;rw[aa,cn];exact hq p hp
theorem comp_map {α:Type}{l:List α}{fW:α ->W}(pr:α ->Bool)(eW:α ->W){keep:Mp ->Prop}{M1:Mp}{own:Nat}{fr:List Nat}{ρ:dB}{g:WG}{c:WT}{el:WE}{q:WK}(hz:l.length<=sizeLine)(kq: ∀M,Sm M1 M ->keep M) (hs: ∀a∈l, ∀ (M:Mp) (N:Option W ->Mp ->Prop),Sm M1 M ->N (if pr a=true then some (eW a) else none) M ->g (fW a) (capρ own fr ρ) M λρ2 M2=>c ρ2 M2 λb M3=>jv b (el ρ2 M3 λy M4=>N (some y) M4) (N none M3)) (hq: ∀p,M1 p=none ->q (wr p) (um M1 p (.lst ((l.filter pr).map eW)))):vn (l.map fW) keep own fr g c el ρ M1 q:=by
 refine⟨by rw[aa];exact hz,λp hp=>⟨λi ys M=>M=um M1 p (.lst ys) /\ ys=((l.take i).filter pr).map eW,⟨rfl,by simp⟩,?_,?_,?_⟩⟩
 ·rintro i ys M hi ⟨rfl,rfl⟩;refine⟨kq _ (c4 hp),um_same,?_⟩;rw[aa];refine a4 (eR _ _) ?_;rw[a6];lia
 ·rintro i x ys M hx ⟨rfl,rfl⟩;obtain⟨a,ha,rfl⟩:=nK hx;have e:l.take (i+1)=l.take i++ [a]:=by rw[bD,ha];rfl
  refine hs a (ai ha) _ (λo M4=>match o with
  | some y=>M4 p=some (.lst (((l.take i).filter pr).map eW)) /\ (um M4 p (.lst (((l.take i).filter pr).map eW++ [y]))=um M1 p (.lst (((l.take i).filter pr).map eW++ [y])) /\ ((l.take i).filter pr).map eW++ [y]=((l.take (i+1)).filter pr).map eW)
  | none=>M4=um M1 p (.lst (((l.take i).filter pr).map eW)) /\ ((l.take i).filter pr).map eW=((l.take (i+1)).filter pr).map eW) (c4 hp) ?_
  cases hf:pr a with
  | false=>rw[aj (by simp)];exact⟨rfl,by rw[e,RU];simp[hf]⟩
  | true=>rw[ak rfl];exact⟨um_same,um_um,by rw[e,RU];simp[hf]⟩
 ·rintro ys M ⟨rfl,rfl⟩;rw[aa,cn];exact hq p hp
theorem ze {α:Type}{l:List α}{fW:α ->W}(eW:α ->W){keep:Mp ->Prop}{M1:Mp}{own:Nat}{fr:List Nat}{ρ:dB}{g:WG}{c:WT}{el:WE}{q:WK}(hz:l.length<=sizeLine)(kq: ∀M,Sm M1 M ->keep M) (hs: ∀a∈l, ∀ (M:Mp) (N:Option W ->Mp ->Prop),Sm M1 M ->N (some (eW a)) M ->g (fW a) (capρ own fr ρ) M λρ2 M2=>c ρ2 M2 λb M3=>jv b (el ρ2 M3 λy M4=>N (some y) M4) (N none M3)) (hq: ∀p,M1 p=none ->q (wr p) (um M1 p (.lst (l.map eW)))):vn (l.map fW) keep own fr g c el ρ M1 q:=by refine comp_map (λ_=>true) eW hz kq (λa ha M N s h=>hs a ha M N s (by simpa using h)) λp hp=> ?_;have e:l.filter (λ_=>true)=l:=List.filter_eq_self.mpr λ_ _=>rfl;rw[e];exact hq p hp
end
end WL
namespace L2
open PySem PySem.Spec PyProof.Rows
def Js (a b c:Int):Nat:=(Builtin.Range.rangeSize a b c).toNat
theorem ye {a b:Int}:Js a b (-1)=(a - b).toNat:=by
 unfold Js Builtin.Range.rangeSize;rw[aj (by decide)];split
 ·rw[show -(-1:Int)=1 by decide,Int.ediv_one];lia
 ·show(0:Int).toNat=_;lia
def QX (lo c:Int)(n:Nat):It:=⟨λi _=>i<n,λi H x H'=>H'=H /\ x= .int (lo+i*c),λi _=>n<=i⟩
theorem xK {P:Program}{w:World}{K:PySem.W.Frag}{tg:Expr}(it:Addr)(lo c:Int)(n:Nat):Turn P w K tg (QX lo c n) [it] it (λi h=>IsRangeIter h it (lo+(i:Nat)*c) ((n:Int) - (i:Nat)) c) where
 mem:=by simp
 obj :=λi h st b hb=>by
  have e:b=it:=by simpa using hb
  subst e;exact⟨_,st,λv z=>by have z':Data.fields _=Data.cell v:=z;cases z'⟩
 keep:=λi h h' st k=>k it (by simp) _ st
 item:=by intro X hP hw hK hc i pins s σ H E I hf st hg;subst hP hw hK;obtain⟨f0,f1,f2,f3,f4,f5⟩:=hf it (by simp);have W:=Walks.range (prog:=X.prog) (w:=X.w) (I.ok.hd hc) it lo c n;refine W.item i s _ _ hg st λv h' tk hv bB kk=> ?_;obtain⟨t,rfl⟩:=hv;have I1:Inv X pins σ H {s with heap:=h',toks:=tk}:=I.turned (λb o hb e=>kk b o (by simpa using hb) e) f0 f1 f3 f4 f5;exact⟨_,rfl,Cp (s:= {s with heap:=h',toks:=tk}) (n:= "range_iterator") bB rfl rfl (by decide) ⟨.int (lo+i*c),H,I1,⟨t,rfl⟩,⟨rfl,rfl⟩,bB,λb hb=>(hf b hb).1⟩⟩
 done:=by intro X hP hw hK hc i pins s σ H E I hf st hg;subst hP hw hK;obtain⟨f0,f1,f2,f3,f4,f5⟩:=hf it (by simp);exact wpAny_pyNext_range_end (I.ok.hd hc) st (by have:n<=i:=hg;lia) λh' eb=>⟨rfl,I.turned (t':=s.toks) (λb o hb e=>eb b o hb e) f0 f1 f3 f4 f5⟩
 self:=λ_ _ _ _ _ st h=>wpAny_pyIter_rangeiter st h
def A2 (a b c:Int):Prop:=c≠0 /\ c.natAbs<1000000 /\ a.natAbs<1000000000 /\ b.natAbs<1000000000
theorem qf {a b c:Int}(h:c≠0):0<=Builtin.Range.rangeSize a b c:=by
 unfold Builtin.Range.rangeSize;split
 ·split
  ·have:=Int.ediv_nonneg (a:=b - a - 1) (b:=c) (by lia) (by lia);lia
  ·exact aV _
 ·split
  ·have:=Int.ediv_nonneg (a:=a - b - 1) (b:= -c) (by lia) (by lia);lia
  ·exact aV _
theorem xU {a b c:Int}(h:A2 a b c):Builtin.Range.small a b c=true:=by
 obtain⟨h0,h1,h2,h3⟩:=h;have hs:Builtin.Range.rangeSize a b c<=2000000001:=by
  unfold Builtin.Range.rangeSize;split
  ·split
   ·have:=Int.ediv_le_self (a:=b - a - 1) c (by lia);lia
   ·lia
  ·split
   ·have:=Int.ediv_le_self (a:=a - b - 1) (-c) (by lia);lia
   ·lia
 have xA:=qf (a:=a) (b:=b) h0;unfold Builtin.Range.small;simp only[Builtin.Range.rangeFitsLong,gK,Bool.or_eq_true,cq,n8];refine⟨⟨⟨⟨⟨by lia,by lia⟩,by lia,by lia⟩,by lia,by lia⟩,by lia,by lia⟩, .inr ?_⟩;split
 ·rw[gK,cq,cq];lia
 ·rw[gK,cq,cq];lia
section
variable {X:Cx}{tg:Expr}
def Nh (ta:TA):TI:=λσ H R=>ta σ H λvs H1=> ∃i j c:Int,vs= [.int i, .int j, .int c] /\ A2 i j c /\ R (QX i c (Js i j c)) H1
theorem Dq {a b c:Expr}{ta:TA}{p pos:Pos}(hg:Gl X "range")(hm:X.mg "range" =none)(ha:PA X [a,b,c] ta)(hs:starEach [a,b,c] X.env=(false,eval a X.env)::starEach [b,c] X.env:=by rfl)(mF:(backTo pos (starEach [b,c] X.env)).any (·.1)=false:=by rfl): PI X tg (.Call (.Name "range" p) [a,b,c] [] pos) (Nh ta):=by
 intro pins s σ H R I h;refine Call_ (iR I hg hm boot_range (bO (dj (ha pos pins s σ H _ I h) λus s1 ⟨vs,H1,I1,r1,q1⟩=> ?_) hs mF));obtain⟨i,j,c,e,rg,q⟩:=q1;subst e;cases r1 with
 | cons r rr=>
  cases rr with
  | cons r' rr=>
   cases rr with
   | cons Tr rr=>
    cases rr;obtain⟨t,rfl⟩:=r;obtain⟨t',rfl⟩:=r';obtain⟨OO,rfl⟩:=Tr;refine call_range_3 rg.1 ?_ (.inl (JO (by have:=rg.2.1;lia)));refine wpAny_pyIter_range (Jh ..) (xU rg) ?_;have I2:Inv X pins σ H1 {s1 with heap:=s1.heap.push {cls:= .type "range",data:= .fields #[.int i t, .int j t', .int c OO]},toks:=s1.toks}:=I1.kept λb o e=>ar _ e;refine⟨(s1.heap.push {cls:= .type "range",data:= .fields #[.int i t, .int j t', .int c OO]}).objs.size,[(s1.heap.push {cls:= .type "range",data:= .fields #[.int i t, .int j t', .int c OO]}).objs.size],_,_,H1,rfl,I2.kept (t':=s1.toks) λb o e=>ar _ e,xK _ i c (Js i j c),?_,λb hb=> ?_,q⟩
    ·have e1:i+((0:Nat):Int)*c=i:=by simp
     have e2:((Js i j c:Nat):Int) - ((0:Nat):Int)=Builtin.Range.rangeSize i j c:=by unfold Js;have:=qf (a:=i) (b:=j) rg.1;lia
     show IsRangeIter _ _ (i+((0:Nat):Int)*c) (((Js i j c:Nat):Int) - ((0:Nat):Int)) c;rw[e1,e2];exact aS _ rfl
    ·have e:b=(s1.heap.push {cls:= .type "range",data:= .fields #[.int i t, .int j t', .int c OO]}).objs.size:=by simpa using hb
     subst e;exact I2.AO (aq _) (I2.c8.fresh (aq _))
end
end L2
namespace WL
open PySem L2
def qA (lo c:Int)(n:Nat):List W:=(List.range n).map λ(k:Nat)=>wi (lo+(k:Int)*c)
theorem xR {lo c:Int}{n:Nat}:(qA lo c n).length=n:=by simp[qA]
theorem step_at {lo c:Int}{n i:Nat}{x:W}(h:(qA lo c n)[i]? =some x):i<n /\ x=wi (lo+i*c):=by
 unfold qA at h;rw[aA] at h;by_cases hi:i<n
 ·rw[fF hi] at h;cases h;exact⟨hi,rfl⟩
 ·rw[cZ (by simpa using hi)] at h;cases h
section
variable {K:PySem.W.Frag}
def Nd (a:WA):WI:=λρ M q=>a ρ M λxs M1=> ∃i j c:Int,xs= [wi i,wi j,wi c] /\ A2 i j c /\ q (qA i c (Js i j c)) (λ_=>True) M1
theorem DK {H1:Hp}{lo c:Int}{n:Nat}:EC K H1 (QX lo c n) (qA lo c n) (λ_=>True):=by intro i M H ts m _;rw[xR];refine⟨λh=>iZ h,λh=>h,λv H' hi y=> ?_⟩;obtain⟨rfl,y⟩:=y;refine⟨bo.refl _,m,wi (lo+i*c),?_,by rw[y];exact WR.v⟩;simp[qA,hi]
theorem cF.three {H:Hp}{x y z:W}{vs:List V}(h:cF K H [x,y,z] vs): ∃v u t,vs= [v,u,t] /\ WR K H x v /\ WR K H y u /\ WR K H z t:=by simp only[cF] at h;obtain⟨v,t,rfl,h1,u,t',rfl,h2,s,OO,rfl,h3,rfl⟩:=h;exact⟨v,u,s,rfl,h1,h2,h3⟩
instance {t:TA}{a:WA} [ia:IA K t a]:II K (Nh t) (Nd a) where
 imp:=λρ M σ H q R o h k=>ia.imp ρ M σ H _ _ o h λxs M1 v H1 ⟨i,j,c,e,h0,h2⟩ t1 m1 r1=>by subst e;obtain⟨v,u,s,rfl,r,r',Tr⟩:=r1.three;cases r.eq;cases r'.eq;cases Tr.eq;exact⟨i,j,c,rfl,h0,k _ _ _ M1 H1 h2 t1 m1 DK⟩
theorem jRng3_e {a:WA}{ρ:dB}{M:Mp}{q:List W ->(Mp ->Prop) ->Mp ->Prop}:Nd a ρ M q=a ρ M λxs M1=> ∃i j c:Int,xs= [wi i,wi j,wi c] /\ A2 i j c /\ q (qA i c (Js i j c)) (λ_=>True) M1:=rfl
end
end WL
namespace WQ
open PySem L2 WL WP
def cv (a b:List Int):Nat ->Nat ->Int
 | 0,_=>0
 | k+1,n=>cv a b k n+if k<=n then a.getD k 0*b.getD (n - k) 0 else 0
structure IsPart (p:Int)(one other q r:List Int):Prop where
 qs:Od p q
 rs:Od p r
 len:r.length<other.length
 ql:q.length<=one.length
 eq: ∀n,one.getD n 0 % p=(cv q other q.length n+r.getD n 0) % p
end WQ
namespace L2
open PySem PySem.Spec PyProof.Rows
section
variable {X:Cx}{pins:List (Addr×Obj)}{σ:St}{H:Hp}{s:Shared}{a:Addr}{kvs:List (Key×V)}{k:Key}{d:V}{u r:Value}{A:Around}{E:Value ->Shared ->Prop}
theorem QH {Q:Value ->Shared ->Prop}(I:Inv X pins σ H s)(e:H a=some (.dK kvs))(ry:RelV (kV k) u)(rd:RelV d r)(z1:kvs.length<sizeLine)(h1: ∀v w' s',iP kvs k=some v ->Inv X pins σ H s' ->RelV v w' ->Q w' s')(h2: ∀s',iP kvs k=none ->Inv X pins σ (upd H a (.dK (putK kvs k d))) s' ->Q r s'): wpAny (model X.prog X.w) A (call (.builtin "dict.setdefault") [.ref a,u,r]) Q E s:=by
 obtain⟨z,hd,vs,rel,dd⟩:=yW I.c8 e;have hz:vs.length<=sizeLine:=by rw[<- rel.length];exact z
 have hl:(putK kvs k d).length<=sizeLine:=by have:=iI kvs k d;lia
 have rv:=rel.val k;refine mL zC dd.typeIs PySem.F.entry_dict_setdefault (PySem.F.args_dict_setdefault_3 _ _ _) (kt_meets_setdefault (cu X.prog X.w) a (oY ry) hd r) ⟨vs,dd,hz,λv hv=> ?_,λhn h' Ee hs=> ?_⟩
 ·rw[hv] at rv;cases hk:iP kvs k with
  | none=>rw[hk] at rv;exact absurd rv (by intro h;cases h)
  | some x=>rw[hk] at rv;exact h1 x v _ hk (I.tok _) (by first | exact rv | (cases rv;assumption))
 ·rw[hn] at rv;cases hk:iP kvs k with
  | some x=>rw[hk] at rv;exact absurd rv (by intro h;cases h)
  | none=>
   refine h2 _ hk ?_;have he: ∃q,h'.get? a=some q:=let ⟨q,_,_,hq,_⟩:=Ee;⟨q,hq⟩
   exact pD I (by rw[e];exact True.intro) hs he (tw hl hd (rel.put k rd) Ee)
end
def FL (td ty tx:TE):TE:=λσ H Q=>td σ H λx H1=> ∃a,x= .ref a /\ IsD H1 a /\ ty σ H1 λy H2=>tx σ H2 λz H3=> ∃kvs k,H3 a=some (.dK kvs) /\ y=kV k /\ kvs.length<sizeLine /\(∀v,iP kvs k=some v ->Q v H3) /\ (iP kvs k=none ->Q z (upd H3 a (.dK (putK kvs k z))))
section
variable {X:Cx}{o e f:Expr}{apos gx:Pos}{td ty tx:TE}
theorem GK (ho:PE X o td)(he:PE X e ty)(hf:PE X f tx)(m:M2 X o "setdefault" apos e f gx):PE X (.Call (.Attribute o "setdefault" apos) [e,f] [] gx) (FL td ty tx):=by intro pins s σ H Q I h;refine wpAny_Call_method m.base m.QD m.line iM zC PySem.F.type_dict_setdefault (dj (ho pins s σ H _ I h) λu s1 ⟨x,H1,I1,rx,a,ex,d,q1⟩=> ?_);subst ex;obtain rfl:u=Value.ref a:=rx;obtain⟨t1,t2,_⟩:=wQ I1 d;refine⟨t1,t2,?_⟩;rw[m.trees];refine gv rfl (vL (du (dj (he pins s1 σ H1 _ I1 q1) λiv s2 ⟨y,H2,I2,ry,q2⟩=>du (dj (hf pins s2 σ H2 _ I2 q2) λfv s3 ⟨z,H3,I3,rz,kvs,k,ea,ey,z1,q3,q4⟩=>fM ?_))));subst ey;exact QH I3 ea ry rz z1 (λv w' s4 hv I4 wg=>⟨_,H3,I4,wg,q3 v hv⟩) λs4 hn I4=>⟨z,_,I4,rz,q4 hn⟩
end
end L2
namespace WL
open PySem L2
variable {K:PySem.W.Frag}
def zK (a b c:WE):WE:=λρ M q=>a ρ M λx M1=> ∃p,x=wr p /\ (∃kvs,M1 p=some (.dK kvs)) /\ b ρ M1 λy M2=>c ρ M2 λz M3=> ∃kvs k,M3 p=some (.dK kvs) /\ y=gd k /\ kvs.length<sizeLine /\ (∀x,fu kvs k=some x ->q x M3) /\ (fu kvs k=none ->q z (um M3 p (.dK (ki kvs k z))))
instance {t u s:TE}{a b c:WE} [ia:IE K t a] [ib:IE K u b] [ic:IE K s c]:IE K (FL t u s) (zK a b c) where
 imp :=λρ M σ H q Q o h k=>ia.imp ρ M σ H _ _ o h λx M1 v H1 ⟨p,e,⟨kvs,hp⟩,h1⟩ t1 m1 r1=>by
  subst e;obtain⟨ks,hk,rr⟩:=m1 p _ hp;refine⟨p,r1.eq, .inl ⟨ks, .inl hk⟩,ib.imp ρ M1 σ H1 _ _ (o.mv t1 m1) h1 λy M2 u H2 h2 t2 m2 r2=>ic.imp ρ M2 σ H2 _ _ (o.mv (t1.trans t2) m2) h2 λz M3 u3 H3 ⟨kvs,ky,e2,e3,hl,h3,h4⟩ t3 m3 r3=> ?_⟩;subst e3;obtain⟨ks,hk,rr⟩:=m3 p _ e2;have ts:=om (u:= .dK (putK ks ky u3)) hk;refine⟨ks,ky,hk,mB (r2.ts t3),by rw[rr.length];exact hl,λv hv=> ?_,λhn=> ?_⟩
  ·rcases rr.val ky with⟨n1,n2⟩ | ⟨x',v',n1,n2,rx⟩
   ·rw[n2] at hv;cases hv
   ·rw[n2] at hv;cases hv;exact k _ M3 _ H3 (h3 _ n1) ((t1.trans t2).trans t3) m3 rx
  ·rcases rr.val ky with⟨n1,n2⟩ | ⟨x',v',n1,n2,rx⟩
   ·exact k _ _ _ _ (h4 n1) (((t1.trans t2).trans t3).trans ts) (m3.putD hk (KR.put r3 rr)) (r3.ts ts)
   ·rw[n2] at hn;cases hn
def uF (o:Option W)(q:W ->Prop)(n:Prop):Prop:=(∀x,o=some x ->q x) /\ (o=none ->n)
theorem wDSetD_e {a b c:WE}{ρ:dB}{M:Mp}{q:WK}:zK a b c ρ M q=a ρ M λx M1=>hW x λp=>kS (M1 p) λ_=>b ρ M1 λy M2=>c ρ M2 λz M3=>qm y λk=>kS (M3 p) λkvs=>jA (kvs.length<sizeLine) (uF (fu kvs k) (λx=>q x M3) (q z (um M3 p (.dK (ki kvs k z))))):=by
 unfold zK hW qm kS jA uF;congr 1;funext x M1;apply propext;constructor;all_goals
  have e: ∀p:Addr,(λy M2=>c ρ M2 λz M3=> ∃kvs k,M3 p=some (.dK kvs) /\ y=gd k /\ kvs.length<sizeLine /\ (∀x,fu kvs k=some x ->q x M3) /\ (fu kvs k=none ->q z (um M3 p (.dK (ki kvs k z)))))=(λy M2=>c ρ M2 λz M3=> ∃k,y=gd k /\ ∃kvs,M3 p=some (.dK kvs) /\ kvs.length<sizeLine /\ (∀x,fu kvs k=some x ->q x M3) /\ (fu kvs k=none ->q z (um M3 p (.dK (ki kvs k z))))):=λp=>by
   funext y M2;congr 1;funext z M3;apply propext;constructor
   ·rintro⟨a,b,c,d,e⟩;exact⟨b,d,a,c,e⟩
   ·rintro⟨b,d,a,c,e⟩;exact⟨a,b,c,d,e⟩
 ·rintro⟨p,h1,⟨kvs,h2⟩,h⟩;exact⟨p,h1,kvs,h2,e p▸h⟩
 ·rintro⟨p,h1,kvs,h2,h⟩;exact⟨p,h1,⟨kvs,h2⟩,(e p).symm▸h⟩
theorem setdK_s {x:W}{q:W ->Prop}{n:Prop}:uF (some x) q n=q x:=by apply propext;unfold uF;constructor;(· intro h;exact h.1 x rfl);(· intro h;exact⟨λy e=>by cases e;exact h,λe=>nomatch e⟩)
theorem setdK_n {q:W ->Prop}{n:Prop}:uF none q n=n:=by apply propext;unfold uF;constructor;(· intro h;exact h.2 rfl);(· intro h;exact⟨λy e=>(nomatch e),λ_=>h⟩)
end WL
namespace WL
open PySem L2
theorem ID {α:Type}{l:List α}{fW:α ->W}(eW:α ->W){keep:Mp ->Prop}{M1:Mp}{own:Nat}{fr:List Nat}{ρ:dB}{g:WG}{c:WT}{el:WE}{q:WK}(hz:l.length<=sizeLine)(kq: ∀M,Sm M1 M ->keep M) (hs: ∀a∈l, ∀ (M:Mp) (N:Option W ->Mp ->Prop),Sm M1 M ->(∀M',Sm M M' ->N (some (eW a)) M') ->g (fW a) (capρ own fr ρ) M λρ2 M2=>c ρ2 M2 λb M3=>jv b (el ρ2 M3 λy M4=>N (some y) M4) (N none M3)) (hq: ∀p M',M1 p=none ->Sm M1 M' ->M' p=some (.lst (l.map eW)) ->q (wr p) M'):vn (l.map fW) keep own fr g c el ρ M1 q:=by
 refine⟨by rw[aa];exact hz,λp hp=>⟨λi ys M=>M p=some (.lst ys) /\ Sm M1 M /\ ys=(l.take i).map eW,⟨um_same,c4 hp,by simp⟩,?_,?_,?_⟩⟩
 ·rintro i ys M hi ⟨h1,h2,rfl⟩;refine⟨kq _ h2,h1,?_⟩;rw[aa,a6];lia
 ·rintro i x ys M hx ⟨h1,h2,rfl⟩;obtain⟨a,ha,rfl⟩:=nK hx;have e:l.take (i+1)=l.take i++ [a]:=by rw[bD,ha];rfl
  refine hs a (ai ha) _ (λo M4=>match o with
  | some y=>M4 p=some (.lst ((l.take i).map eW)) /\ um M4 p (.lst ((l.take i).map eW++ [y])) p=some (.lst ((l.take i).map eW++ [y])) /\ Sm M1 (um M4 p (.lst ((l.take i).map eW++ [y]))) /\ (l.take i).map eW++ [y]=(l.take (i+1)).map eW
  | none=>M4 p=some (.lst ((l.take i).map eW)) /\ Sm M1 M4 /\ (l.take i).map eW=(l.take (i+1)).map eW) h2 λM' s'=>⟨s' _ _ h1,um_same,λc o ec=>by rw[aJ (dG ec hp)];exact s' _ _ (h2 _ _ ec),by rw[e,aN];rfl⟩
 ·rintro ys M ⟨h1,h2,rfl⟩;rw[aa,cn] at h1;exact hq p M hp h2 h1
end WL
namespace WQ
open PySem L2 WL WP
def cs (n r:Int)(l:Pt):Int:=((l.filter λz=>decide (z.1 % n=r)).map (·.2)).sum
end WQ
namespace L2
open PySem PySem.Spec PyProof.Rows
section
variable {X:Cx}{tg l:Expr}{tl:TE}{K:PySem.W.Frag}
theorem GF (hK:X.K=K)(hl:PE X l tl):PI X tg l (HC K tl):=by subst hK;exact fI hl
end
end L2
namespace WQ
open PySem L2 WL WP
abbrev Cf:=Nat ->Int
def act:Nat ->Cf ->Cf ->Int
 | 0,f,g=>f 0*g 0
 | n+1,f,g=>f 0*g (n+1)+act n (λi=>f (i+1)) g
def co (l:List Int):Cf:=λi=>l.getD i 0
def Mult (p:Int)(a g:Cf):Prop:= ∃ (E:Cf) (N:Nat),(∀i,N<=i ->E i % p=0) /\ ∀n,a n % p=act n E g % p
def vB (p:Int)(a g h:Cf):Prop:= ∃ (A B:Cf) (N:Nat),(∀i,N<=i ->A i % p=0 /\ B i % p=0) /\ ∀n,a n % p=(act n A g+act n B h) % p
end WQ
namespace L2
open PySem PySem.Spec PyProof.Rows
def Nb (kvs:List (Str×V))(k:Str):Option V:=(kvs.find? λkv=>decide (kv.1=k)).map (·.2)
end L2
namespace WL
open PySem L2
variable {K:PySem.W.Frag}
class KT (K:PySem.W.Frag) (kvs:List (Str×V)) (tb:outParam (List (Str×W))):Prop where
 rel: ∀k:Str,((tb.find? λkv=>decide (kv.1=k)).map (·.2)=none /\ Nb kvs k=none) \/ ∃x v,(tb.find? λkv=>decide (kv.1=k)).map (·.2)=some x /\ Nb kvs k=some v /\ ∀H,WR K H x v
end WL
namespace WQ
open PySem L2 WL WP
def FV (p:Int)(a:Rd)(v:Int):Prop:= ∃lo hi,jD (MA a) lo /\ qV (MA a) hi /\ v=fwv p a lo hi
open Classical in
noncomputable def fv (p:Int) (a:Rd):Int:=if h: ∃v,FV p a v then h.choose else 0
def names:List Str:= ["on","back","up","down"]
def Mz (p:Int)(s:Str):Rd:=if s= "on" then(1,[]) else if s= "back" then(-1,[]) else if s= "up" then(0,[(0,1)]) else(0,[(0,p - 1)])
noncomputable def mW (p:Int) (a:Rd) (s:Str):Bool:=decide (fv p (jn p a (Mz p s)) >fv p a)
def OR (a b:Int):List Str:=List.replicate (a - b).natAbs (if a<=b then "on" else "back")
def OC (p s:Int):List Str:=if s<=p - s then List.replicate s.toNat "up" else List.replicate (p - s).toNat "down"
def Ko (p:Int):Int ->Pt ->List Str
 | _,[]=> []
 | here,z::r=>OR here z.1++OC p z.2++Ko p z.1 r
def pairsOf (p:Int)(z:Int×Int):Pt:=if z.2<=p - z.2 then List.replicate z.2.toNat (z.1,1) else List.replicate (p - z.2).toNat (z.1, -1)
def Xa:Int ->Pt ->Int
 | _,[]=>0
 | here,z::r=>QP (here - z.1)+Xa z.1 r
structure Inv (n:Nat)(s:Int×Pt)(lo hi:Int):Prop where
 l0:lo<=0
 h0:0<=hi
 l1:lo<=s.1
 h1:s.1<=hi
 pl: ∀z∈s.2,lo<=z.1 /\ z.1<=hi
 on: ∀z∈s.2,z.2=1 \/ z.2= -1
 le:2*(hi - lo) - QP s.1+s.2.length<=n
end WQ
namespace L2
open PySem PySem.Spec PyProof.Rows
theorem Inv.freeze {X:Cx}{pins:List (Addr×Obj)}{σ:St}{H:Hp}{s:Shared}{d:Addr}{kvs:List (Key×V)}{o:Obj}(I:Inv X pins σ H s)(e:H d=some (.dK kvs))(ho:s.heap.get? d=some o): Inv X pins σ (upd H d (.nR o (.dK kvs))) s:=by
 have ne: ∀ {b u},H b=some u ->u≠ .dK kvs ->b≠d:=λ{b u} h n z=>by subst z;rw[e] at h;exact n (br h).symm
 have K2: ∀ {b},H b=none ->b≠d:=λ{b} h z=>by subst z;rw[e] at h;cases h
 refine⟨I.ok,I.os,I.bare,⟨I.base.keep,I.base.slot,λb u h1 h2 h3=> ?_,I.base.there,λb xs h=> ?_,λb o' u h=> ?_,λb ps h=> ?_⟩,I.loc,I.cell,?_,λx c h=> ?_,λp hp=> ?_,λb u h=> ?_,I.len⟩
 ·have z:=I.base.free b u h1 h2 h3;rw[bC (K2 z)];exact z
 ·have z:=I.base.p6 b xs h;rw[bC (ne z (λq=>nomatch q))];exact z
 ·have z:=I.base.nO b o' u h;rw[bC (ne z (λq=>nomatch q))];exact z
 ·obtain⟨more,z⟩:=I.base.p9 b ps h;exact⟨more,by rw[bC (ne z (λq=>nomatch q))];exact z⟩
 ·rw[bC (K2 I.free)];exact I.free
 ·rw[bC (K2 (I.jw x c h))];exact I.jw x c h
 ·obtain⟨a1,a2,a3⟩:=I.pin p hp;exact⟨a1,by rw[bC (K2 a2)];exact a2,a3⟩
 ·have ow: ∀c,H c=some (.own b) ->upd H d (.nR o (.dK kvs)) c=some (.own b):=λc r=>by rw[bC (ne r (λq=>nomatch q))];exact r
  have tu: ∀c xs,H c=some (.tup xs) ->upd H d (.nR o (.dK kvs)) c=some (.tup xs):=λc xs r=>by rw[bC (ne r (λq=>nomatch q))];exact r
  by_cases hb:b=d
  ·subst hb;rw[bU] at h;cases h;exact⟨ho,(I.c8 b _ e).r9 (λ_ _ _ h=>h) ow tu⟩
  ·rw[bC hb] at h;exact(I.c8 b u h).r9 (λ_ _ _ h=>h) ow tu
theorem Ig {X:Cx}{pins:List (Addr×Obj)}{σ:St}{H:Hp}{s:Shared}{d:Addr}{o:Obj}{kvs:List (Key×V)}{es:Array DictEntry}{ep:Nat}(I:Inv X pins σ H s)(ho:o.data= .dict es ep)(e:H d=some (.nR o (.dK kvs))): ∃vs,KV kvs vs /\ s.heap.DictAt (cu X.prog X.w) d vs ep:=by
 obtain⟨h0,_,_,vs,rel,o',WJ,WN,h1,h2,h3,h4⟩:=(show d4 X.prog X.w H s.heap d (.nR o (.dK kvs)) from I.c8 d _ e)
 rw[h0] at h1;cases h1;rw[ho] at h3;cases h3;exact⟨vs,rel,o,es,h0,h2,ho,h4⟩
end L2
namespace WL
open PySem L2
variable {K:PySem.W.Frag}
theorem sS {H:Hp}: ∀ {kvs:List (Key×W)} {vs:List (Key×V)},KR K H kvs vs ->kvs.length=vs.length
 | _,_, .nil=>rfl
 | _,_, .cons _ t=>by rw[aG,aG,sS t]
end WL
namespace WQ
open PySem L2 WL WP
def Vh (n:Int):Pt ->Int ->Int
 | [],_=>0
 | z::r,k=>(if z.1 % n=k then z.2 else 0)+Vh n r k
def fl (p:Int)(m:Nat)(f:Pt):List Int:=(List.range m).map λ(k:Nat)=>Vh m f k % p
end WQ
namespace L2
open PySem PySem.Spec PyProof.Rows
section
variable {X:Cx}
def Gi (i:Int)(n:Nat):List V:=(List.range n).map λ(k:Nat)=> .int (i+(k:Int))
def FJ (ta:TA):TE:=λσ H Q=>ta σ H λvs H1=> ∃i j:Int,vs= [.int i, .int j] /\ (-(2 ^ 62) <=i /\ i<2 ^ 62 /\ -(2 ^ 62) <=j /\ j<2 ^ 62) /\ (j - i).toNat<=16000000 /\ ∀l,H1 l=none ->Q (.ref l) (upd H1 l (.lst (Gi i (j - i).toNat)))
theorem J9 {i:Int}{n:Nat}{acc:Array Value}(h:ItemsOf (λj v=> ∃t,v=Value.int (i+(j:Int)*1) t) acc n):Vals (Gi i n) acc.toList:=by
 obtain⟨hl,hv⟩:=h;have Qf:acc.toList.length=n:=by simpa using hl
 have key: ∀ (k:Nat) (l:List Value) (m:Nat),l.length=m ->(∀j v,l[j]? =some v -> ∃t,v=Value.int (i+((k+j:Nat):Int)) t) ->Vals ((List.range' k m).map λ(k:Nat)=>V.int (i+(k:Int))) l:=by
  intro k l;induction l generalizing k with
  | nil=>intro m hm _;subst hm;exact .nil
  | cons v r ih=>
   intro m hm hj;subst hm;rw[aG,List.range'_succ,aH];refine .cons ?_ (ih (k+1) r.length rfl λj v' e=> ?_)
   ·obtain⟨t,e⟩:=hj 0 v rfl;exact⟨t,by simpa using e⟩
   ·obtain⟨t,e'⟩:=hj (j+1) v' (by rw[d8];exact e);exact⟨t,by rw[e'];congr 2<;>lia⟩
 have:=key 0 acc.toList n Qf λj v e=>by obtain⟨t,e'⟩:=hv j v (by rw[<- gk];exact e);exact⟨t,by rw[e'];congr 2<;>lia⟩
 unfold Gi;rw[Oa];exact this
theorem Ag {a b:Expr}{ta:TA}{p1 p2 GA wA:Pos}(UP:Gl X "list")(Qa:X.mg "list" =none)(hg:Gl X "range")(hm:X.mg "range" =none)(hc:X.calm=true)(ha:PA X [a,b] ta) (hs:starEach [a,b] X.env= [(false,eval a X.env),(false,eval b X.env)]:=by rfl) (mF:starEach [b] X.env= [(false,eval b X.env)]:=by rfl) (ht:starEach [.Call (.Name "range" p2) [a,b] [] wA] X.env= [(false,eval (.Call (.Name "range" p2) [a,b] [] wA) X.env)]:=by rfl): PE X (.Call (.Name "list" p1) [.Call (.Name "range" p2) [a,b] [] wA] [] GA) (FJ ta):=by
 intro pins s σ H Q I h;refine Call_ (iR I UP Qa boot_list (bO ?_ ht rfl));rw[ht];refine du (Call_ (iR I hg hm boot_range (bO (dj (ha wA pins s σ H _ I h) λus s1 ⟨vs,H1,I1,r1,q1⟩=> ?_) (by rw[hs,mF]) (by rw[mF];rfl))));obtain⟨i,j,e,⟨q1,q2,q3,q4⟩,hn,q⟩:=q1;subst e;cases r1 with
 | cons r rr=>
  cases rr with
  | cons r' rr=>cases rr;obtain⟨t,rfl⟩:=r;obtain⟨t',rfl⟩:=r';refine call_range_2 (fM ?_);have I2:Inv X pins σ H1 {s1 with heap:=s1.heap.push {cls:= .type "range",data:= .fields #[.int i t, .int j t', .int 1 s1.toks]},toks:=s1.toks+1}:=I1.kept λb o e=>ar _ e;refine call_list_range (n:=(j - i).toNat) (I1.ok.hd hc) (Jh ..) (small_one q1 q2 q3 q4) (by rw[rangeSize_one];split<;>lia) (by lia) λh' tk QO c' kp HV items=> ?_;have hv:=J9 items;refine⟨.ref _,_,I2.laid (t':=tk) kp (aq _) (show d4 X.prog X.w _ h' _ (.lst (Gi i (j - i).toNat)) from⟨?_,QO.toList,c',hv,by simpa using HV⟩),rfl,q _ (I2.c8.fresh (aq _))⟩;unfold Gi;rw[aa,cV];exact a4 hn (by rw[cC];decide)
end
end L2
namespace WL
open PySem L2
variable {K:PySem.W.Frag}
def Fp (a:WA):WE:=λρ M q=>a ρ M λxs M1=> ∃i j:Int,xs= [wi i,wi j] /\ (-(2 ^ 62) <=i /\ i<2 ^ 62 /\ -(2 ^ 62) <=j /\ j<2 ^ 62) /\ (j - i).toNat<=16000000 /\ ∀l,M1 l=none ->q (wr l) (um M1 l (.lst (gN i (j - i).toNat)))
theorem Gh {H:Hp}(i:Int): ∀ (l:List Nat),cF K H (l.map λ(k:Nat)=>wi (i+(k:Int))) (l.map λ(k:Nat)=>V.int (i+(k:Int)))
 | []=>by simp only[eB,cF]
 | k::r=>by simp only[aH,cF];exact⟨_,_,rfl,WR.v,Gh i r⟩
instance {t:TA}{a:WA} [ia:IA K t a]:IE K (FJ t) (Fp a) where
 imp:=λρ M σ H q Q o h k=>ia.imp ρ M σ H _ _ o h λxs M1 vs H1 ⟨i,j,ex,h1,h2,h3⟩ t1 m1 r1=>by subst ex;obtain⟨v,u,rfl,r,r'⟩:=r1.two;cases r.eq;cases r'.eq;exact⟨i,j,rfl,h1,h2,λp hp=>k _ _ _ _ (h3 p (m1.fresh hp)) (t1.trans (L2.fE.ts (b8 hp))) (m1.rf hp (Gh i _)) WR.v⟩
theorem Fo {a:WA}{ρ:dB}{M:Mp}{q:WK}:Fp a ρ M q=a ρ M λxs M1=> ∃i j:Int,xs= [wi i,wi j] /\ (-(2 ^ 62) <=i /\ i<2 ^ 62 /\ -(2 ^ 62) <=j /\ j<2 ^ 62) /\ (j - i).toNat<=16000000 /\ sL M1 λl=>q (wr l) (um M1 l (.lst (gN i (j - i).toNat))):=rfl
end WL
namespace WQ
open PySem L2 WL WP
structure Wk (a:Rd)(sp:Int)(wk:List Int)(st sg t:Int)(N:Nat):Prop where
 s1:sg=1 \/ sg= -1
 t0:0<t
 sp:sp=sg*t
 wk:wk=(List.range N).map λ(k:Nat)=>st+sg*(k:Int)
 all: ∀z∈a.2, ∃j:Nat,j<N /\ z.1=st+sg*(j:Int)
end WQ
namespace L2
open PySem PySem.Spec PyProof.Rows
theorem yl {X:Cx}{pos:Pos}{k v:Expr}{tk tv:TE}(hk:PE X k tk)(hv:PE X v tv):PE X (.Dict [some k] [v] pos) (FK [(tk,tv)]):=KA (Gz hk hv Kw) rfl rfl (by simp) (by simp)
end L2
namespace WL
open PySem L2
variable {K:PySem.W.Frag}
def Fs (a b:WE):WE:=λρ M q=> ∀p,M p=none ->a ρ (um M p (.dK [])) λx M1=>b ρ M1 λy M2=>M2 p=some (.dK []) /\ ∃k,x=gd k /\ q (wr p) (um M2 p (.dK [(k,y)]))
instance {tk tv:TE}{a b:WE} [ia:IE K tk a] [ib:IE K tv b]:IE K (FK [(tk,tv)]) (Fs a b) where
 imp :=λρ M σ H q Q o h k=>λp hp=>by
  have t0:bo H (upd H p (.dK [])):=L2.fE.ts (b8 hp);have m0:gY K (um M p (.dK [])) (upd H p (.dK [])):=o.hp.put t0 ⟨[],bU, .nil⟩;refine ia.imp ρ _ σ _ _ _ (o.mv t0 m0) (h p (o.hp.fresh hp)) λx M1 v H1 h1 t1 m1 r1=> ?_;refine ib.imp ρ M1 σ H1 _ _ (o.mv (t0.trans t1) m1) h1 λy M2 u H2 ⟨e1,ky,e2,h2⟩ t2 m2 r2=> ?_;subst e2;obtain⟨ks,hk,rr⟩:=m2 p _ e1;cases rr;have ev:v=kV ky:=by
   cases ky with
   | inl i=>exact r1.eq
   | inr z=>exact r1.eq
  refine⟨hk,[(ky,u)],by rw[ev];rfl,by simp,?_⟩;have t3:=om (u:= .dK (lN [] [(ky,u)])) hk;refine k _ _ _ _ h2 (((t0.trans t1).trans t2).trans t3) (m2.put t3 ⟨_,bU,?_⟩) WR.v;show KR K _ [(ky,y)] (lN [] [(ky,u)]);have em:lN [] [(ky,u)]= [(ky,u)]:=rfl;rw[em];exact .cons ⟨rfl,r2.ts t3⟩ .nil
theorem Fq {a b:WE}{ρ:dB}{M:Mp}{q:WK}:Fs a b ρ M q=sL M λp=>a ρ (um M p (.dK [])) λx M1=>b ρ M1 λy M2=>M2 p=some (.dK []) /\ ∃k,x=gd k /\ q (wr p) (um M2 p (.dK [(k,y)])):=rfl
end WL
namespace WQ
open PySem L2 WL WP
inductive Ln where
 | rest | mem (k:Int) | join (a b:Nat) | times (a:Nat) (n:Int)
deriving DecidableEq
def sev (r:Pt)(n:Int):Pt:=if n<0 then(List.replicate (-n).toNat (r.reverse.map λz=>(z.1, -z.2))).flatten else(List.replicate n.toNat r).flatten
def Te (acc:List Pt):Ln ->Pt
 | .rest=> []
 | .mem k=> [(k,1)]
 | .join a b=>acc.getD a []++acc.getD b []
 | .times a n=>sev (acc.getD a []) n
def Tb (ls:List Ln):List Pt:=ls.foldl (λacc l=>acc++ [Te acc l]) []
theorem iq {α:Type}(l:List α)(h:l≠ []): ∃r x,l=r++ [x]:=⟨l.dropLast,l.getLast h,(kc h).symm⟩
def Xp (ls:List Ln)(i:Nat):Pt:=(Tb ls).getD i []
def nmd:Ln ->List Nat
 | .join a b=> [a,b]
 | .times a _=> [a]
 | _=> []
structure WI (ls:List Ln)(last i:Nat)(l:List Nat):Prop where
 nd:l.Nodup
 la:last∈l
 bd: ∀j∈l,j<=last /\ (Xp ls j).length<=(Xp ls last).length
 cl: ∀j∈l,last<j+i ->Xp ls j≠ [] -> ∀ln,ls[j]? =some ln -> ∀b∈nmd ln,b∈l
end WQ
namespace L2
open PySem PySem.Spec PyProof.Rows
section
variable {prog:Program}{w:World}{A:Around}{R:Result ->Shared ->Prop}{I:Addr}{fp wr:List Addr}{n:Nat}{P:Nat ->Value ->Prop}{St:Nat ->Heap ->Prop}{kw:List (Str×Value)}
theorem Hk (W:Walks prog w A.in1 I fp wr n P St)(bt:Nat ->Nat ->Bool)(HY:CmpOf prog w A.in1 .Lt P bt)(Z:Addr)(hZ:Z∉fp): ∀ (k j:Nat) (s:Shared) (x:Value) (c:Nat),n - (j+1)=k ->j+1<=n ->St (j+1) s.heap ->P (argBest bt j) x ->s.heap.get? Z=some {cls:= .type "list",dict:=none,data:= .seq #[x,x] c,slots:= #[]} ->(∀v h' tk,P (argBest bt (n - 1)) v ->(∀b o,b∉wr ->b≠Z ->s.heap.get? b=some o ->h'.get? b=some o) ->R (.ok (.ret v)) {s with heap:=h',toks:=tk}) ->codeAny (model prog w) A (.builtin "min.loop" ⟨[.ref I, .none, .ref Z],kw⟩) R s:=by
 have hw:Z∉wr:=λh=>hZ (W.sub _ h);have nm:(toString "min" ++toString ".loop" :String)= "min.loop" :=by decide
 intro k;induction k with
 | zero=>
  intro j s x c hk hj mE hP hS hR;have e0:j+1=n:=by lia
  refine lF E6 ?_;rw[hU f9 _];show wpAny _ A.in1 (seqItems? (.ref Z) >>=_) _ _ s;refine ao (jL hS rfl ?_);show wpAny _ A.in1 (tryCatch (pyNext (.ref I)) _ >>=_) _ _ s;refine ao (jK (W.done s _ _ (e0▸mE) λh1 tk xB=> ?_));have NI:=xB Z _ hw hS;show wpAny _ A.in1 (updateSeq Z (λ_=> #[]) >>=_) _ _ _;refine ao ?_;refine Jq NI rfl (ao (Fc (aM ?_)));exact hR x _ tk (by rw[<- e0];exact hP) λb o n1 n2 e=>(dM _ _ (a5 n2)).trans (xB b o n1 e)
 | succ k ih=>
  intro j s x c hk hj mE hP hS hR;have f6:j+1<n:=by lia
  refine lF E6 ?_;rw[hU f9 _];show wpAny _ A.in1 (seqItems? (.ref Z) >>=_) _ _ s;refine ao (jL hS rfl ?_);show wpAny _ A.in1 (tryCatch (pyNext (.ref I)) _ >>=_) _ _ s;refine ao (jK (W.item (j+1) s _ _ f6 mE λv h1 tk Wv Ld xB=> ?_));have NI:=xB Z _ hw hS;show wpAny _ A.in1 (tryCatch (holding [v,v] (richCompare .Lt v x >>=_)) _ >>=_) _ _ _;refine ao (jK (d9 (ao (HY (j+1) (argBest bt j) v x _ _ _ Wv hP ?_))));refine ao (d9 (df ?_));refine ao (Fc (aM ?_));cases hb:bt (j+1) (argBest bt j) with
  | true=>
   simp only[bN];refine ao ?_;refine Jq NI rfl (ao (Fc ?_));rw[nm];refine aM ⟨kQ f9 _,ih (j+1) _ v _ (by lia) f6 (W.frame _ _ _ Ld λb Y6 o e=> ?_) (by simp only[argBest,hb,bN];exact Wv) (kH _ NI rfl) λv2 h2 SD Qq HR=> ?_⟩
   ·exact(dM _ _ (λh:Z=b=>hZ (by rw[h];exact Y6))).trans e
   ·exact hR v2 h2 SD Qq λb o n1 n2 e=>HR b o n1 n2 ((dM _ _ (a5 n2)).trans (xB b o n1 e))
  | false=>simp only[ay,bf];refine ao (Fc ?_);rw[nm];refine aM ⟨kQ f9 _,ih (j+1) _ x c (by lia) f6 Ld (by simp only[argBest,hb,ay,bf];exact hP) NI λv2 h2 SD Qq HR=> ?_⟩;exact hR v2 h2 SD Qq λb o n1 n2 e=>HR b o n1 n2 (xB b o n1 e)
theorem yA (W:Walks prog w A.in1 I fp wr n P St)(bt:Nat ->Nat ->Bool)(HY:CmpOf prog w A.in1 .Lt P bt)(Z:Addr)(hZ:Z∉fp){s:Shared}{c:Nat}{d:Value}{nd:Str}(mE:St 0 s.heap) (hS:s.heap.get? Z=some {cls:= .type "list",dict:=none,data:= .seq #[] c,slots:= #[]}) (h0:n=0 -> ∀h' tk,(∀b o,b∉wr ->b≠Z ->s.heap.get? b=some o ->h'.get? b=some o) ->R (.ok (.ret d)) {s with heap:=h',toks:=tk}) (hR:0<n -> ∀v h' tk,P (argBest bt (n - 1)) v ->(∀b o,b∉wr ->b≠Z ->s.heap.get? b=some o ->h'.get? b=some o) ->R (.ok (.ret v)) {s with heap:=h',toks:=tk}):codeAny (model prog w) A (.builtin "min.loop" ⟨[.ref I, .none, .ref Z],[(nd,d)]⟩) R s:=by
 have hw:Z∉wr:=λh=>hZ (W.sub _ h);have nm:(toString "min" ++toString ".loop" :String)= "min.loop" :=by decide
 refine lF E6 ?_;rw[hU f9 _];show wpAny _ A.in1 (seqItems? (.ref Z) >>=_) _ _ s;refine ao (jL hS rfl ?_);show wpAny _ A.in1 (tryCatch (pyNext (.ref I)) _ >>=_) _ _ s;rcases Nat.eq_zero_or_pos n with hn | hn
 ·subst hn;refine ao (jK (W.done s _ _ mE λh1 tk xB=> ?_));refine ao (gr ?_);exact aM (h0 rfl _ tk λb o n1 n2 e=>xB b o n1 e)
 ·refine ao (jK (W.item 0 s _ _ hn mE λv h1 tk hP Ld xB=> ?_));have NI:=xB Z _ hw hS;show wpAny _ A.in1 (updateSeq Z (λ_=> #[v,v]) >>=_) _ _ _;refine ao ?_;refine Jq NI rfl ?_;rw[nm];refine aM ⟨kQ f9 _,Hk W bt HY Z hZ _ 0 _ v _ rfl hn (W.frame _ _ _ Ld λb Y6 o e=> ?_) hP (kH _ NI rfl) λv2 h2 SD Qq HR=> ?_⟩
  ·exact(dM _ _ (λh:Z=b=>hZ (by rw[h];exact Y6))).trans e
  ·exact hR hn v2 h2 SD Qq λb o n1 n2 e=>HR b o n1 n2 ((dM _ _ (a5 n2)).trans (xB b o n1 e))
theorem Et (a d:Value):argsOk "min" ⟨[a],[("default",d)]⟩:=by unfold argsOk;kernel_rfl
variable {E:Value ->Shared ->Prop}{s:Shared}
theorem Eo {x d:Value}{Q:Value ->Shared ->Prop} (h:wpAny (model prog w) A.in1 (pyIter x) (λit t=> ∃I fp wr n P St bt,it= .ref I /\ Walks prog w A.in1 I fp wr n P St /\ St 0 t.heap /\ (∀b∈fp,b<t.heap.objs.size) /\ CmpOf prog w A.in1 .Lt P bt /\(n=0 -> ∀h' tk,(∀b o,b∉wr ->t.heap.get? b=some o ->h'.get? b=some o) ->Q d {t with heap:=h',toks:=tk}) /\(0<n -> ∀v h' tk,P (argBest bt (n - 1)) v ->(∀b o,b∉wr ->t.heap.get? b=some o ->h'.get? b=some o) ->Q v {t with heap:=h',toks:=tk})) E s): wpAny (model prog w) A (call (.builtin "min") [x] [("default",d)]) Q E s:=by
 have nm:(toString "min" ++toString ".loop" :String)= "min.loop" :=by decide
 refine wpAny_call (codeAny_call_builtin F.plain_min F.entry_min ?_);simp only[checkBuiltinCall,F.kind_min];have ha:=Et x d;cases Us:Manifest.signature? "min" with
 | none=>exact absurd (show(Manifest.signature? "min").isSome=true by kernel_rfl) (by rw[Us];decide)
 | some sig=>
  have yN:Bind.checkArgs "min" sig ⟨[x],[("default",d)]⟩=pure ():=by simpa only[argsOk,Us] using ha
  simp only[yN];refine aM ?_;show wpAny _ A.in1 (Builtin.Builtins.bindParams "min" ["key","default"] 0 ⟨[],[("default",d)]⟩ >>=_) _ _ s;refine ao (wpAny_of_eq (show Builtin.Builtins.bindParams "min" ["key","default"] 0 ⟨[],[("default",d)]⟩=pure [none,some d] from rfl) ?_);refine ao (aM ?_);refine ao (bJ h (λit t h₂=> ?_) λ_ _ e=>e);obtain⟨I,fp,wr,n,P,St,bt,rfl,W,mE,w5,HY,hQ0,hQ⟩:=h₂;refine ao (jM ?_);have hZ:t.heap.objs.size∉fp:=λhm=>cb _ (w5 _ hm);rw[nm];refine aM ⟨kQ f9 _,yA W bt HY t.heap.objs.size hZ (W.frame _ _ _ mE λb _ o e=>ar _ e) (aS _ rfl) (λhn h' tk hk=> ?_) λhn v h' tk hP hk=> ?_⟩
  ·exact hQ0 hn h' tk λb o n1 e=>hk b o n1 (aX (aB e)) (ar _ e)
  ·exact hQ hn v h' tk hP λb o n1 e=>hk b o n1 (aX (aB e)) (ar _ e)
end
end L2
namespace WL
open PySem PySem.Spec PyProof.Rows L2
section
variable {X:Cx}
def Mt (K:PySem.W.Frag)(te td:TE):TE:=λσ H Q=>te σ H λx H1=>td σ H1 λd H2=> ∃ (l:Addr) (ns:List Int),x= .ref l /\ ix K H2 l (ns.map V.int) /\ (ns= [] ->Q d H2) /\ ∀m,jD ns m ->Q (.int m) H2
theorem Ky {e ed:Expr}{te td:TE}{p pos X5:Pos}(hg:Gl X "min")(hm:X.mg "min" =none)(hc:X.calm=true)(ha:PE X e te)(hd:PE X ed td) (he:starEach [e] X.env= [(false,eval e X.env)]:=by rfl):PE X (.Call (.Name "min" p) [e] [⟨some "default",ed,X5⟩] pos) (Mt X.K te td):=by
 intro pins s σ H Q I h;refine jd (iR I hg hm Boot.«min» ?_ (by decide) (by decide));refine PyProof.Rows.callWith_kw ?_ (by rw[he];rfl) (by rw[he];rfl) rfl rfl;rw[he];refine du (dj (ha pins s σ H _ I h) λu s1 ⟨x,H1,I1,r1,q1⟩=>fM ?_);refine kws_cons (dj (hd pins s1 σ H1 _ I1 q1) λu2 s2 ⟨d,H2,I2,r2,q2⟩=>kws_nil ?_);obtain⟨l,ns,rfl,hs,q0,q⟩:=q2;cases r1;show wpAny _ _ (call (.builtin "min") [.ref l] [("default",u2)]) _ _ s2;obtain⟨its,rv,ht,hz⟩:=I2.list hs;have hh:X.A.in1.handled=none:=I2.ok.hd hc;have hlen:its.toArray.size=ns.length:=by have:=rv.length;rw[aa] at this;simpa using this.symm
 have f6:l<s2.heap.objs.size:=by obtain⟨_,e,_⟩:=ht.isList;exact aB e
 refine Eo (A9 ht.isList ?_);have hk: ∀h':Heap,(∀b o,b∉ [s2.heap.objs.size] ->(s2.heap.push {cls:= .type "list_iterator",data:= .fields #[.ref l, .int 0 s2.toks]}).get? b=some o ->h'.get? b=some o) -> ∀b o,s2.heap.get? b=some o ->h'.get? b=some o:=λh' hk b o e=>hk b o (λhI=>absurd (aB e) (by rw[ah.mp hI];exact cb _)) (ar _ e);refine⟨s2.heap.objs.size,_,_,its.toArray.size,_,_,λi j=>decide (ns.getD i 0<ns.getD j 0),rfl,Walks.list hh s2.heap.objs.size l (aX f6) its.toArray,⟨⟨_,aS _ rfl,rfl,rfl⟩,ht.isList.push _⟩,λb hb=> ?_,PySem.CmpOf.ints_lt (λi=>ns.getD i 0) (λi v e=>let ⟨t,h,_⟩:=Cd rv e;⟨t,h⟩),λhn h' tk hm=> ?_,λhn v h' tk e hm=> ?_⟩
 ·show b< (s2.heap.push _).objs.size;rw[fk];rcases av.mp hb with rfl | hb
  ·exact eI _
  ·rw[ah.mp hb];exact d6 f6
 ·exact⟨d,H2,I2.kept (t':=tk) λb o e=>hm b o (λhI=>absurd (aB e) (by rw[ah.mp hI];exact cb _)) (ar _ e),r2,q0 (cI.mp (by lia))⟩
 ·obtain⟨t,rfl,_⟩:=Cd rv e;rw[hlen];exact⟨.int _,H2,I2.kept (t':=tk) λb o e=>hm b o (λhI=>absurd (aB e) (by rw[ah.mp hI];exact cb _)) (ar _ e),⟨t,rfl⟩,q _ (IX (kG.mp (by lia)))⟩
def Gn (K:PySem.W.Frag):List V ->Hp ->VK ->Prop:=λxs H Q=> ∃ (a:Addr) (ks:List Int),xs= [.ref a] /\ ix K H a (ks.map V.int) /\ ∀ (p:Addr) (ns:List Int),H p=none ->ns.Perm ks ->ns.Pairwise (· <= ·) ->Q (.ref p) (upd H p (.lst (ns.map V.int)))
theorem AY:i0 X (.builtin "sorted") (Gn X.K):=by
 intro pins s σ H xs us Q I r h;obtain⟨a,ks,rfl,hs,q⟩:=h;obtain⟨u,rfl,ru⟩:=vals1 r;cases ru;obtain⟨its,rv,ht,hz⟩:=I.list hs;have hI:IntsAre its ks:=oZ rv;have hl:its.length=ks.length:=by have:=rv.length;rw[aa] at this;exact this.symm
 rw[aa] at hz;refine Q2 kind_sorted plain_sorted entry_sorted (args_sorted1 _) ?_;unfold Builtin.«sorted»;refine ao (m:=checkCount "sorted" 1 1 _) (aM ?_);obtain⟨o,ho,hc,n,hd⟩:=ht.isList;refine ao (wpAny_collect_seq a (.inl rfl) ho hc hd (λh' HP=> ?_) (by simp only[aO];lia));simp only[List.toList_toArray];refine ao (Q4 ?_ (by rw[hl];exact hz));have ho:(h'.push (seqObj "list" its.toArray 0)).get? h'.objs.size=some (seqObj "list" its.toArray 0):=aS _ rfl;refine ao (d9 (qz slot_list_sort ⟨_,ho,rfl⟩ entry_list_sort (TS.uD (s:= {s with heap:=h'.push (seqObj "list" its.toArray 0)}) ho hI (by rw[hl];exact hz) λout KU a1 a2 a3=>⟨_,rfl,?_⟩) (args_list_sort _)));obtain⟨ee,Qp⟩:=sortedHeap_at (out:=out) ho;have I':Inv X pins σ H {s with heap:=h'}:=I.kept (t':=s.toks) HP;refine aM ⟨_,rfl, .ref h'.objs.size,_,I'.laid (t':=s.toks) (o:= .lst (KU.map V.int)) (λb o hb=> ?_) (aq _) ?_,rfl,q _ KU (I'.c8.fresh (aq _)) a2 a3⟩
 ·have f6:b<h'.objs.size:=aB hb;rw[sortedHeap_old (aX f6) (by rw[fk];exact d6 f6)];exact ar _ hb
 ·refine⟨?_,out.toList,ee,l6 a1,by simpa using Qp⟩;rw[aa,a2.length_eq];exact hz
end
variable {K:PySem.W.Frag}
def Fl (a d:WE):WE:=λρ M q=>a ρ M λx M1=>d ρ M1 λy M2=> ∃ (l:Addr) (ns:List Int),x=wr l /\ M2 l=some (.lst (ns.map wi)) /\ (ns= [] ->q y M2) /\ ∀m,jD ns m ->q (wi m) M2
instance {t td:TE}{a d:WE} [ia:IE K t a] [id:IE K td d]:IE K (Mt K t td) (Fl a d) where
 imp:=λρ M σ H q Q o h k=>ia.imp ρ M σ H _ _ o h λx M1 v H1 h1 t1 m1 r1=>id.imp ρ M1 σ H1 _ _ (o.mv t1 m1) h1 λy M2 u H2 ⟨l,ns,e,hl,q0,q1⟩ t2 m2 r2=>by subst e;cases (r1.ts t2).eq;obtain⟨vs,hv,rr⟩:=m2 l _ hl;cases rr.ints;exact⟨l,ns,rfl,ix.of hv,λe=>k _ _ _ _ (q0 e) (t1.trans t2) m2 r2,λm hm=>k _ _ _ _ (q1 m hm) (t1.trans t2) m2 WR.v⟩
theorem wMinD_e {a d:WE}{ρ:dB}{M:Mp}{q:WK}:Fl a d ρ M q=a ρ M λx M1=>d ρ M1 λy M2=> ∃ (l:Addr) (ns:List Int),x=wr l /\ M2 l=some (.lst (ns.map wi)) /\ (ns= [] ->q y M2) /\ ∀m,jD ns m ->q (wi m) M2:=rfl
def Fj:C4:=λxs M q=> ∃ (a:Addr) (ks:List Int),xs= [wr a] /\ M a=some (.lst (ks.map wi)) /\ ∀ (p:Addr) (ns:List Int),M p=none ->ns.Perm ks ->ns.Pairwise (· <= ·) ->q (wr p) (um M p (.lst (ns.map wi)))
instance:IC K (Gn K) Fj where
 imp:=by rintro xs v M H q Q m r1 ⟨a,ks,rfl,hl,h⟩ k;obtain⟨v,rfl,r⟩:=r1.one;cases r.eq;obtain⟨vs,hv,rr⟩:=m a _ hl;cases rr.ints;exact⟨a,ks,rfl,ix.of hv,λp ns hp h1 h2=>k _ _ _ _ (h p ns (m.fresh hp) h1 h2) (L2.fE.ts (b8 hp)) (m.rf hp (cF.ofInts ns)) WR.v⟩
end WL
namespace WQ
open PySem L2 WL WP
def bM (s x:Int):Int:=if s=0 then x else x % s
def hI (s x:Int):Int:=if s=0 then 0 else x / s
def fR:List Int ->Int
 | []=>0
 | a::r=>r.foldl (λm x=>if x<m then x else m) a
def uO:List Int ->Int
 | []=>0
 | a::r=>r.foldl (λm x=>if m<x then x else m) a
theorem foldl_min (r:List Int): ∀a,(r.foldl (λm x=>if x<m then x else m) a=a \/ r.foldl (λm x=>if x<m then x else m) a∈r) /\ r.foldl (λm x=>if x<m then x else m) a<=a /\ ∀x∈r,r.foldl (λm x=>if x<m then x else m) a<=x:=by
 induction r with
 | nil=>intro a;simp
 | cons b r ih=>
  intro a;obtain⟨h1,h2,h3⟩:=ih (if b<a then b else a);rw[iy];generalize List.foldl (λm x=>if x<m then x else m) (if b<a then b else a) r=z at h1 h2 h3;refine⟨?_,by split at h2<;>lia,λx hx=> ?_⟩
  ·rcases h1 with h1 | h1
   ·split at h1
    ·rw[h1];exact .inr aE
    ·exact .inl h1
   ·exact .inr (aw _ h1)
  ·rcases av.mp hx with rfl | hx
   ·split at h2<;>lia
   ·exact h3 x hx
theorem foldl_max (r:List Int): ∀a,(r.foldl (λm x=>if m<x then x else m) a=a \/ r.foldl (λm x=>if m<x then x else m) a∈r) /\ a<=r.foldl (λm x=>if m<x then x else m) a /\ ∀x∈r,x<=r.foldl (λm x=>if m<x then x else m) a:=by
 induction r with
 | nil=>intro a;simp
 | cons b r ih=>
  intro a;obtain⟨h1,h2,h3⟩:=ih (if a<b then b else a);rw[iy];generalize List.foldl (λm x=>if m<x then x else m) (if a<b then b else a) r=z at h1 h2 h3;refine⟨?_,by split at h2<;>lia,λx hx=> ?_⟩
  ·rcases h1 with h1 | h1
   ·split at h1
    ·rw[h1];exact .inr aE
    ·exact .inl h1
   ·exact .inr (aw _ h1)
  ·rcases av.mp hx with rfl | hx
   ·split at h2<;>lia
   ·exact h3 x hx
theorem gm {l:List Int}(h:l≠ []):jD l (fR l):=by
 cases l with
 | nil=>exact absurd rfl h
 | cons a r=>
  obtain⟨h1,h2,h3⟩:=foldl_min r a;refine⟨?_,λx hx=> ?_⟩
  ·rcases h1 with h1 | h1
   ·show List.foldl _ a r∈a::r;rw[h1];exact aE
   ·exact aw _ h1
  ·rcases av.mp hx with rfl | hx
   ·exact h2
   ·exact h3 x hx
theorem oS {l:List Int}(h:l≠ []):qV l (uO l):=by
 cases l with
 | nil=>exact absurd rfl h
 | cons a r=>
  obtain⟨h1,h2,h3⟩:=foldl_max r a;refine⟨?_,λx hx=> ?_⟩
  ·rcases h1 with h1 | h1
   ·show List.foldl _ a r∈a::r;rw[h1];exact aE
   ·exact aw _ h1
  ·rcases av.mp hx with rfl | hx
   ·exact h2
   ·exact h3 x hx
def qE (s f:Int)(ns:List Int):List Int:=(ns.filter λx=>decide (bM s x=f)).map (hI s)
def eG (l:Pt):List Int:=l.map (·.1)
def dm (s:Int)(st:Pt):Int:=fR ((eG st).map (bM s))
def fw (s:Int)(st:Pt):Int:=uO (qE s (dm s st) (eG st))
theorem OV {M:Mp}{t p:Addr}{o1 o2:MO}(ht:M t=none)(hp:um M t o1 p=none):Sm (um M p o2) (um (um M t o1) p o2):=λb o e=>by
 by_cases hb:b=p
 ·subst hb;rw[um_same] at e ⊢;exact e
 ·rw[aJ hb] at e ⊢;have:b≠t:=dG e ht;rw[aJ this];exact e
def XA:mN:=λxs M q=> ∃ (x s:Int),xs= [wi x,wi s] /\ 0<=s /\ s<2 ^ 30 /\ q (wi (bM s x)) M
def GV:mN:=λxs M q=> ∃ (a:Addr) (ns:List Int) (s:Int),xs= [wr a,wi s] /\ M a=some (.lst (ns.map wi)) /\ ns.length<=16000000 /\ 0<=s /\ s<2 ^ 30 /\ (ns= [] ->q wn M) /\ (ns≠ [] ->q (wi (fR (ns.map (bM s)))) M)
def Xy:mN:=λxs M q=> ∃ (a:Addr) (ns:List Int) (s f:Int),xs= [wr a,wi s,wi f] /\ M a=some (.lst (ns.map wi)) /\ ns.length<=16000000 /\ 0<=s /\ s<2 ^ 30 /\ ∀ (p:Addr) (ms:List Int),M p=none ->ms.Perm (qE s f ns) ->ms.Pairwise (· <= ·) ->q (wr p) (um M p (.lst (ms.map wi)))
theorem vz {ms:List Int}(h:ms≠ []):mX (ms.map wi) (-1)=some (wi (ms.getLastD 0)):=by
 have hl:0<ms.length:=kG.mpr h;have e:sU (ms.map wi).length (-1)=some (ms.length - 1):=by rw[aa];unfold sU;simp;lia
 unfold mX;rw[e];show(ms.map wi)[ms.length - 1]? =_;rw[aA];have:ms[ms.length - 1]? =some (ms.getLastD 0):=by
  rw[<- List.getLast?_eq_getElem?];cases ms with
  | nil=>exact absurd rfl h
  | cons a r=>simp[List.getLast?_cons]
 rw[this];rfl
theorem B6 {l:List Int}(h:l.Pairwise (· <= ·))(hn:l≠ []):qV l (l.getLastD 0):=by
 induction l using WP.iq with
 | h0=>exact absurd rfl hn
 | h1 l a _=>
  have e:(l++ [a]).getLastD 0=a:=by simp
  rw[e];refine⟨by simp,λx hx=> ?_⟩;rcases ax.mp hx with hx | hx
  ·exact(cx.mp h).2.2 x hx a (by simp)
  ·rw[ah.mp hx];exact aV _
theorem Em {s x:Int}(hs:0<s):x=bM s x+s*hI s x:=by unfold bM hI;rw[aj (by lia),aj (by lia)];have:=pY x s;lia
def kE (d:Addr)(M M':Mp):Prop:= ∀b o,b≠d ->M b=some o ->M' b=some o
theorem kE.refl (d:Addr)(M:Mp):kE d M M:=λ_ _ _ h=>h
theorem kE.trans {d:Addr}{M M1 M2:Mp}(a:kE d M M1)(b:kE d M1 M2):kE d M M2:=λc o n h=>b c o n (a c o n h)
theorem kE.nb {d:Addr}{M M':Mp}(h:NB d M M'):kE d M M':=λb o n e=>(h b n).trans e
theorem kE.sm {d:Addr}{M M':Mp}(h:Sm M M'):kE d M M':=λb o _ e=>h b o e
theorem kE.um {d p:Addr}{M M':Mp}{o:MO}(h:kE d M M')(hp:M p=none):kE d M (um M' p o):=λb u n e=>by rw[aJ (dG e hp)];exact h b u n e
def kI (s c:Int):Prop:=s=0 \/ (0<=c /\ c<s)
theorem kI.own {s c:Int}(h:kI s c):bM s c=c:=by
 unfold bM;rcases h with h | ⟨h1,h2⟩
 ·rw[ak h]
 ·rw[aj (by lia)];exact cW h1 h2
theorem kI.on {s c:Int}(h:kI s c)(k:Int):bM s (c+k*s)=c:=by
 have:=h.own;unfold bM at this ⊢;split
 ·rename_i e;subst e;simp
 ·rename_i e;rw[aj e] at this;rw[A3];exact this
end WQ
namespace WL
theorem K8 {α:Type}{l:List α}(h:l.length=1): ∃a,l= [a]:=List.length_eq_one_iff.mp h
theorem X2 {α:Type}{l:List α}{n:Nat}(h:l.length=n+1): ∃a r,l=a::r /\ r.length=n:=by
 cases l with
 | nil=>cases h
 | cons a r=>exact⟨a,r,rfl,by simpa using h⟩
theorem T4 {α:Type}{l:List α}(h:l.length=2): ∃a b,l= [a,b]:=by obtain⟨a,r,rfl,g⟩:=X2 h;obtain⟨b,rfl⟩:=K8 g;exact⟨a,b,rfl⟩
end WL
namespace L2
open PySem
structure VF (K:PySem.W.Frag)(mg:Str ->Option Value)(x qual:Str)(ps:List Str)(st:Stmt)(C f:Addr)(fd:FuncData):Prop where
 at_:mg x=some (.ref C)
 mkr:Mk K C f
 cl:A6 K C
 fn:E5 K "__init__" qual st f fd
 bd:Binds K fd ps []
section
variable {X:Cx}{k:Nat}{f C:Addr}{fd:FuncData}{ps:List Str}{sp:Sp}{x qual:Str}{st:Stmt}{p pos:Pos}{e:Expr}{es:List Expr}{t:TA}
theorem oN (M:VF X.K X.mg x qual ps st C f fd)(F:eh X.prog X.w X.K X.mg X.base kJ k f fd ps sp)(hr:gJ (k+1) X.A)(hg:Gl X x) (ha:PA X (e::es) t) (HW:(x==("__debug__" :Str))=false:=by decide) (he:starEach (e::es) X.env=(false,eval e X.env)::starEach es X.env:=by rfl) (uW:(backTo pos (starEach es X.env)).any (·.1)=false:=by rfl): PE X (.Call (.Name x p) (e::es) [] pos) (FH C sp [] E0 t):=Kz M.mkr F hr hg M.at_ M.bd .nil MU ha HW he uW
end
end L2
namespace WL
open PySem L2
section
variable {K:PySem.W.Frag}
theorem yC {H:Hp}{f:Str}{x:W}: ∀ {fs:List (Str×W)} {ks:List (Str×V)},KR K H fs ks ->fs.lookup f=Option.some x -> ∃v,ks.lookup f=Option.some v /\ WR K H x v
 | _,_, .nil,h=>by cases h
 | (g,y)::fs,(g',v)::ks, .cons ⟨e,r⟩ t,h=>by
  cases (show g=g' from e);rw[xF] at h ⊢;cases hb:f==g with
  | true=>rw[hb] at h;cases h;exact⟨v,rfl,r⟩
  | false=>rw[hb] at h;exact yC t h
def k7 (f:Str)(v:W):List (Str×W) ->List (Str×W)
 | []=> [(f,v)]
 | (g,x)::r=>if g=f then(g,v)::r else(g,x)::k7 f v r
theorem B9 {H:Hp}{f:Str}{x:W}{v:V}(rx:WR K H x v): ∀ {fs:List (Str×W)} {ks:List (Str×V)},KR K H fs ks ->KR K H (k7 f x fs) (L2.kj f v ks)
 | _,_, .nil=> .cons ⟨rfl,rx⟩ .nil
 | (g,y)::fs,(g',u)::ks, .cons ⟨e,r⟩ t=>by
  cases (show g=g' from e);unfold k7 L2.kj;split
  ·exact .cons ⟨rfl,rx⟩ t
  ·exact .cons ⟨rfl,r⟩ (B9 rx t)
theorem Ca {H:Hp}: ∀ {kvs:List (Str×W)} {vs:List (Str×V)},KR K H kvs vs ->kvs.length=vs.length
 | _,_, .nil=>rfl
 | _,_, .cons _ t=>by rw[aG,aG,Ca t]
def Ou (K:PySem.W.Frag)(a:WE)(f:Str):WE:=λρ M q=>a ρ M λx M1=> ∃p C dx fs v,x=wr p /\ M1 p=some (.ins C dx fs) /\ A6 K C /\ dY K C f /\ fs.lookup f=some v /\ q v M1
instance {t:TE}{a:WE}{f:Str} [ia:IE K t a]:IE K (ON K t f) (Ou K a f) where
 imp:=λρ M σ H q Q o h k=>ia.imp ρ M σ H _ _ o h λx M1 v H1 ⟨p,C,dx,fs,y,ex,hp,hc,hn,hl,h1⟩ t1 m1 r1=>by subst ex;obtain⟨ks,e,r⟩:=m1 p _ hp;obtain⟨u,hu,ru⟩:=yC r hl;exact⟨p,C,dx,ks,u,r1.eq,e,hc,hn,hu,k _ _ _ _ h1 t1 m1 ru⟩
def Ge (K:PySem.W.Frag)(a b:WE)(f:Str):WS:=λD ρ M=>b ρ M λy M1=>a ρ M1 λx M2=> ∃p C dx fs,x=wr p /\ M2 p=some (.ins C dx fs) /\ A6 K C /\ dY K C f /\ fs.length<1000 /\ D.nx ρ (um M2 p (.ins C dx (k7 f y fs)))
instance {t u:TE}{a b:WE}{f:Str} [ia:IE K t a] [ib:IE K u b]:IS K (S8 K t u f) (Ge K a b f) where
 imp:=λρ M σ H D' D o h e=>ib.imp ρ M σ H _ _ o h λy M1 v1 H1 h1 t1 m1 r1=>ia.imp ρ M1 σ H1 _ _ (o.mv t1 m1) h1 λx M2 v2 H2 ⟨p,C,dx,fs,ex,hp,hc,hn,hl,h2⟩ t2 m2 r2=>by subst ex;obtain⟨ks,ek,r⟩:=m2 p _ hp;have ts:=OF (u:= .ins C dx (kj f v1 ks)) ek;refine⟨p,C,dx,ks,r2.eq,ek,hc,hn,by rw[<- Ca r];exact hl,e.nx ρ _ σ _ h2 ((t1.trans t2).trans ts) (o.mv ((t1.trans t2).trans ts) (m2.put ts ⟨_,bU,KR.ts ts (B9 (r1.ts t2) r)⟩))⟩
def Md (C:Addr)(p:mN)(a:WA):WE:=λρ M q=>a ρ M λxs M1=> ∀x dx,M1 x=none ->M1 dx=none ->dx≠x ->p (wr x::xs) (um M1 x (.ins C dx [])) λv M2=>v=wn /\ q (wr x) M2
instance {C:Addr}{p:mN}{E:XK}{t:TA}{a:WA} [ia:IA K t a]:IE K (FH C (oz K p) [] E t) (Md C p a) where
 imp:=λρ M σ H q Q o h k=>ia.imp ρ M σ H _ _ o h λxs M1 vs H1 h1 t1 m1 r1=>λx dx hx RA c9=>by
  have Rp:upd H1 dx (.own x) x=none:=by rw[bC (a5 c9)];exact hx
  have ts1:bo H1 (upd H1 dx (.own x)):=L2.fE.ts (b8 RA);have Sz:bo (upd H1 dx (.own x)) (upd (upd H1 dx (.own x)) x (.ins C dx [])):=L2.fE.ts (b8 Rp);refine⟨wr x::xs,um M1 x (.ins C dx []),λv M2=>v=wn /\ q (wr x) M2,cF.cons WR.v (by rw[iz];exact r1.ts (ts1.trans Sz)),(m1.new RA).put Sz ⟨[],bU, .nil⟩,h1 x dx (m1.fresh hx) (m1.fresh RA) c9,?_⟩;rintro y M' u H' ⟨rfl,hq⟩ ts m' r';exact⟨r'.eq,k _ _ _ _ hq (t1.trans ((ts1.trans Sz).trans ts)) m' WR.v⟩
def HA (o:Option MO)(k:Addr ->Addr ->List (Str×W) ->Prop):Prop:= ∃C dx fs,o=some (.ins C dx fs) /\ k C dx fs
theorem insK_e {C dx:Addr}{fs:List (Str×W)}{k:Addr ->Addr ->List (Str×W) ->Prop}:HA (some (.ins C dx fs)) k=k C dx fs:=by
 apply propext;constructor
 ·rintro⟨_,_,_,e,h⟩;cases e;exact h
 ·intro h;exact⟨_,_,_,rfl,h⟩
theorem wFld_e {a:WE}{f:Str}{ρ:dB}{M:Mp}{q:WK}:Ou K a f ρ M q=a ρ M λx M1=>hW x λp=>HA (M1 p) λC dx fs=>jA (A6 K C) (jA (dY K C f) (ue (fs.lookup f) λv=>q v M1)):=by
 unfold Ou hW HA jA ue;congr 1;funext x M1;apply propext;constructor
 ·rintro⟨p,C,dx,fs,v,e1,e2,e3,e4,e5,h⟩;exact⟨p,e1,C,dx,fs,e2,e3,e4,v,e5,h⟩
 ·rintro⟨p,e1,C,dx,fs,e2,e3,e4,v,e5,h⟩;exact⟨p,C,dx,fs,v,e1,e2,e3,e4,e5,h⟩
theorem sFldW_e {a b:WE}{f:Str}{D:kA}{ρ:dB}{M:Mp}:Ge K a b f D ρ M=b ρ M λy M1=>a ρ M1 λx M2=>hW x λp=>HA (M2 p) λC dx fs=>jA (A6 K C) (jA (dY K C f) (jA (fs.length<1000) (D.nx ρ (um M2 p (.ins C dx (k7 f y fs)))))):=by
 unfold Ge hW HA jA;congr 1;funext y M1;congr 1;funext x M2;apply propext;constructor
 ·rintro⟨p,C,dx,fs,e1,e2,e3,e4,e5,h⟩;exact⟨p,e1,C,dx,fs,e2,e3,e4,e5,h⟩
 ·rintro⟨p,e1,C,dx,fs,e2,e3,e4,e5,h⟩;exact⟨p,C,dx,fs,e1,e2,e3,e4,e5,h⟩
theorem vO {C:Addr}{p:mN}{a:WA}{ρ:dB}{M:Mp}{q:WK}:Md C p a ρ M q=a ρ M λxs M1=> ∀x dx,M1 x=none ->M1 dx=none ->dx≠x ->IW p (wr x::xs) (um M1 x (.ins C dx [])) λv M2=>v=wn /\ q (wr x) M2:=rfl
end
end WL
namespace L2
open PySem
def Nf (s:Stmt)(j:Nat):Stmt:=match s with
 | .ClassDef _ _ _ b _ _ _ _ _ _ _=>b.getD j (.Pass ⟨0,0,0,0⟩)
 | _=> .Pass ⟨0,0,0,0⟩
end L2
namespace L2
open PySem PySem.Spec PyProof.Rows
def W2 (d:Addr)(o:Obj)(kvs:List (Key×V)):It:=⟨λi H=>i<kvs.length /\ H d=some (.nR o (.dK kvs)),λi H x H'=> ∃p kv,H p=none /\ kvs[i]? =some kv /\ H'=upd H p (.tup [kV kv.1,kv.2]) /\ x= .ref p,λi H=>kvs.length<=i /\ H d=some (.nR o (.dK kvs))⟩
theorem Aw: ∀ {kvs:List (Key×V)} {vs:List (Key×Value)} {i:Nat} {q:Key×Value},KV kvs vs ->vs[i]? =some q -> ∃p,kvs[i]? =some p /\ p.1=q.1 /\ RelV p.2 q.2
 | _,_,0,_, .cons ⟨e0,r⟩ _,e=>by cases e;exact⟨_,rfl,e0,r⟩
 | _,_,i+1,q, .cons _ t,e=>by have e':_=some q:=e;rw[d8] at e' ⊢;exact Aw t e'
theorem wN {k:Key}{u:Value}(h:oX k u=true):RelV (kV k) u:=by
 rcases dD h with⟨i,t,rfl,rfl⟩ | ⟨x,t,rfl,rfl⟩
 ·exact⟨t,rfl⟩
 ·exact⟨t,rfl⟩
theorem zR {P:Program}{w:World}{K:PySem.W.Frag}{elts:List Expr}{x1}{pos:Pos}{d it:Addr}{o:Obj}{kvs:List (Key×V)}{es:Array DictEntry}{ep:Nat}(ho:o.data= .dict es ep)(c9:d≠it): Turn P w K (.Tuple elts x1 pos) (W2 d o kvs) [it] it (λi h=> ∃ok ov,IsItemIter h it d i kvs.length ep ok ov) where
 mem:=by simp
 obj:=λi h st b hb=>by
  have e:b=it:=by simpa using hb
  subst e;obtain⟨ok,ov,e⟩:=st;exact⟨_,e,λv z=>nomatch z⟩
 keep:=λi h h' ⟨ok,ov,e⟩ k=>⟨ok,ov,k it (by simp) _ e⟩
 item:=by
  intro X hP hw hK hc i pins s σ H E I hf st hg;subst hP hw hK;obtain⟨hi,hH⟩:=hg;obtain⟨vs,rel,hd⟩:=Ig I ho hH;have hl:=rel.length;obtain⟨ok,ov,st⟩:=st;rw[hl] at st hi;have fp:=hf it (by simp);obtain⟨⟨k,x⟩,hx⟩: ∃q,vs[i]? =some q:=⟨vs[i],by simp[hi]⟩
  obtain⟨p,hp,Z4,rp⟩:=Aw rel hx;refine wpAny_pyNext_items_item st hd hx λkey h' sY Yv ht hsz hk=> ?_;refine⟨_,rfl,wpAny_letOwnedTupleGo_items Yv λh2 JB mF=> ?_⟩;have NG:s.heap.objs.size≠it:=iW (aB st);have rk:RelV (kV p.1) key:=by rw[Z4];exact wN sY
  refine⟨.ref s.heap.objs.size,upd H s.heap.objs.size (.tup [kV p.1,p.2]),EN.wR (t':=s.toks) I (λb o hb _ q=>(mF.2 b hb).trans (hk b o hb q)) fp fp ⟨by rw[cC];show 2<=16777216;decide,[key,x], .cons rk (.cons rp .nil),?_⟩,rfl,⟨_,p,I.c8.fresh (aq _),hp,rfl,rfl⟩,⟨key,x,by rw[hl];exact JB⟩,λb hb=> ?_⟩
  ·exact⟨_,(mF.2 _ NG).trans ht,rfl,_,rfl,rfl⟩
  ·have e:b=it:=by simpa using hb
   subst e;rw[bC (a5 NG)];exact fp.1
 done:=by intro X hP hw hK hc i pins s σ H E I hf st hg;subst hP hw hK;obtain⟨hi,hH⟩:=hg;obtain⟨vs,rel,hd⟩:=Ig I ho hH;have hl:=rel.length;obtain⟨ok,ov,st⟩:=st;rw[hl] at st hi;obtain⟨f0,f1,f2,f3,f4,f5⟩:=hf it (by simp);exact wpAny_pyNext_items_end (I.ok.hd hc) st hd (by simp;lia) λh' eb=>⟨rfl,I.turned (t':=s.toks) (λb o hb e=>eb b o hb e) f0 f1 f3 f4 f5⟩
 self:=λ_ _ _ _ _ st h=>let ⟨_,_,e⟩:=st;PySem.W.kcp_self e h
section
variable {X:Cx}{elts:List Expr}{x1:_}{Dg:Pos}{o:Expr}{td:TE}{apos gx:Pos}
def HD (td:TE):TI:=λσ H R=>td σ H λx H1=> ∃d kvs,x= .ref d /\ H1 d=some (.dK kvs) /\ ∀o,R (W2 d o kvs) (upd H1 d (.nR o (.dK kvs)))
theorem yj {tg:Expr}(et:tg= .Tuple elts x1 Dg)(ho:PE X o td)(yM:attributeBase o "items" X.env (eval o X.env)=eval o X.env:=by rfl)(yK:(apos.endLine==gx.line)=true:=by rfl):PI X tg (.Call (.Attribute o "items" apos) [] [] gx) (HD td):=by
 subst et;intro pins s σ H R I h;refine wpAny_Call_method0_late yM yK (dj (ho pins s σ H _ I h) λv s1 ⟨x,H1,I1,r1,d,kvs,ex,hd,q1⟩=> ?_);subst ex;obtain rfl:v=Value.ref d:=r1;obtain⟨t1,t2,sys⟩:=wQ I1 (.inl ⟨kvs, .inl hd⟩);refine⟨"dict","dict.items",iM,iL,Jd,t1,t2,gv rfl (QQ ?_)⟩;obtain⟨z,HJ,vs,rel,dd⟩:=pC I1.c8 (.inl hd);refine mL iL dd.typeIs EY (Ez _) (meets_dict_items (cu X.prog X.w) d HJ) ⟨⟨vs,dd⟩,?_⟩;obtain⟨ob,es,ep,g1,g2,g3,g4⟩:=dd;have da:s1.heap.DictAt (cu X.prog X.w) d vs ep:=⟨ob,es,g1,g2,g3,g4⟩
 have hdl:d<s1.heap.objs.size:=aB g1;refine wpAny_pyIter_items (d:=d) (kvs:=vs) (ep:=ep) (knd:=cu X.prog X.w) ⟨_,aS _ rfl,rfl,rfl⟩ (da.push _) ?_;have I2:=I1.freeze hd g1;refine⟨_,[_],_,W2 d ob kvs,_,rfl,I2.kept (t':=s1.toks) λb o e=>ar _ (ar _ e),zR g3 ?_,?_,λb hb=> ?_,q1 ob⟩
 ·show d≠(s1.heap.push _).objs.size;rw[fk];lia
 ·rw[rel.length];exact⟨_,_,aS _ rfl⟩
 ·have I3:Inv X pins σ (upd H1 d (.nR ob (.dK kvs))) {s1 with heap:=s1.heap.push {cls:= .type "dict_items",data:= .fields #[.ref d]}}:=I2.kept (t':=s1.toks) λb o e=>ar _ e;have e:=ah.mp hb;subst e;exact I3.AO (aq _) (I3.c8.fresh (aq _))
end
theorem Inv.Xg {X:Cx}{pins:List (Addr×Obj)}{σ:St}{H:Hp}{s:Shared}{d:Addr}{kvs:List (Key×V)}{o:Obj}(I:Inv X pins σ H s)(e:H d=some (.nR o (.dK kvs)))(h0: ∀o u,X.H₀ d≠some (.nR o u)): Inv X pins σ (upd H d (.dK kvs)) s:=by
 have ne: ∀ {b u},H b=some u ->u≠ .nR o (.dK kvs) ->b≠d:=λ{b u} h n z=>by subst z;rw[e] at h;exact n (br h).symm
 have K2: ∀ {b},H b=none ->b≠d:=λ{b} h z=>by subst z;rw[e] at h;cases h
 refine⟨I.ok,I.os,I.bare,⟨I.base.keep,I.base.slot,λb u h1 h2 h3=> ?_,I.base.there,λb xs h=> ?_,λb o' u h=> ?_,λb ps h=> ?_⟩,I.loc,I.cell,?_,λx c h=> ?_,λp hp=> ?_,λb u h=> ?_,I.len⟩
 ·have z:=I.base.free b u h1 h2 h3;rw[bC (K2 z)];exact z
 ·have z:=I.base.p6 b xs h;rw[bC (ne z (λq=>nomatch q))];exact z
 ·have z:=I.base.nO b o' u h;have nb:b≠d:=λz=>h0 o' u (z▸h);rw[bC nb];exact z
 ·obtain⟨more,z⟩:=I.base.p9 b ps h;exact⟨more,by rw[bC (ne z (λq=>nomatch q))];exact z⟩
 ·rw[bC (K2 I.free)];exact I.free
 ·rw[bC (K2 (I.jw x c h))];exact I.jw x c h
 ·obtain⟨a1,a2,a3⟩:=I.pin p hp;exact⟨a1,by rw[bC (K2 a2)];exact a2,a3⟩
 ·have ow: ∀c,H c=some (.own b) ->upd H d (.dK kvs) c=some (.own b):=λc r=>by rw[bC (ne r (λq=>nomatch q))];exact r
  have tu: ∀c xs,H c=some (.tup xs) ->upd H d (.dK kvs) c=some (.tup xs):=λc xs r=>by rw[bC (ne r (λq=>nomatch q))];exact r
  by_cases hb:b=d
  ·subst hb;rw[bU] at h;cases h;have z:=(I.c8 b _ e).r9 (H':=upd H b (.dK kvs)) (h':=s.heap) (λ_ _ _ h=>h) ow tu;exact z.2
  ·rw[bC hb] at h;exact(I.c8 b u h).r9 (λ_ _ _ h=>h) ow tu
def ME (t:TS):TS:=λD σ H=> ∃d kvs,H d=some (.dK kvs) /\ t {D with nx:=λσ' H'=> ∃o us,H' d=some (.nR o (.dK us)) /\ D.nx σ' (upd H' d (.dK us))} σ H
theorem BJ {X:Cx}{st:Stmt}{t:TS}(h:PS X st t):PS X st (ME t):=by
 rintro pins s σ H D I ⟨d,kvs,hd,ht⟩;have h0: ∀o u,X.H₀ d≠some (.nR o u):=λo u e=>by have:=I.base.nO d o u e;rw[hd] at this;cases this
 refine dj (h pins s σ H _ I ht) λfl s' hs=> ?_;cases fl with
 | next=>obtain⟨σ',H',I',o,us,e,q⟩:=hs;exact⟨σ',_,I'.Xg e h0,q⟩
 | ret v=>exact hs
 | brk=>exact hs
 | cont=>exact hs
end L2
namespace WL
open PySem L2
variable {K:PySem.W.Frag}
def Ay (a:WE):WI:=λρ M q=>a ρ M λx M1=> ∃d kvs,x=wr d /\ M1 d=some (.dK kvs) /\ ∀o ks,q (kvs.map λkv=> .tup [gd kv.1,kv.2]) (λM'=>M' d=some (.fz o ks kvs)) (um M1 d (.fz o ks kvs))
theorem Ax: ∀ {H:Hp} {kvs:List (Key×W)} {vs:List (Key×V)} {i:Nat} {q:Key×V},KR K H kvs vs ->vs[i]? =some q -> ∃p,kvs[i]? =some p /\ p.1=q.1 /\ WR K H p.2 q.2
 | _,_,_,0,_, .cons ⟨e0,r⟩ _,e=>by cases e;exact⟨_,rfl,e0,r⟩
 | _,_,_,i+1,q, .cons _ t,e=>by have e':_=some q:=e;rw[d8] at e' ⊢;exact Ax t e'
theorem AB {H1:Hp}{d:Addr}{o:Obj}{kvs:List (Key×W)}{ks:List (Key×V)}:EC K H1 (W2 d o ks) (kvs.map λkv=> .tup [gd kv.1,kv.2]) (λM'=>M' d=some (.fz o ks kvs)):=by intro i M H t m hM;obtain⟨e1,r1⟩:=m d _ hM;have hl:=sS r1;rw[aa];refine⟨λh=>⟨by lia,e1⟩,λh=>⟨by lia,e1⟩,λv H' hi ⟨p,kv,hp,hk,e2,e3⟩=> ?_⟩;subst e2 e3;obtain⟨p2,Ys,e4,rp⟩:=Ax r1 hk;have ts:bo H (upd H p (.tup [kV kv.1,kv.2])):=L2.fE.ts (b8 hp);refine⟨ts,m.new hp, .tup [gd p2.1,p2.2],by rw[aA,Ys];rfl,WR.Ri (kD.of bU) (cF.cons ?_ (cF.cons (rp.ts ts) cF.nil))⟩;rw[e4];cases kv.1<;>exact WR.v
instance {t:TE}{a:WE} [ia:IE K t a]:II K (HD t) (Ay a) where
 imp:=λρ M σ H q R o h k=>ia.imp ρ M σ H _ _ o h λx M1 v H1 ⟨d,kvs,ex,hd,h1⟩ t1 m1 r1=>by subst ex;obtain⟨ks,e,r⟩:=m1 d _ hd;refine⟨d,ks,r1.eq,e,λob=>k _ _ _ _ _ (h1 ob ks) (t1.trans (om e)) (m1.put (om e) ⟨bU,KR.ts (om e) r⟩) AB⟩
theorem jItems_e {a:WE}{ρ:dB}{M:Mp}{q:List W ->(Mp ->Prop) ->Mp ->Prop}:Ay a ρ M q=a ρ M λx M1=>hW x λd=>kS (M1 d) λkvs=> ∀o ks,q (kvs.map λkv=> .tup [gd kv.1,kv.2]) (λM'=>M' d=some (.fz o ks kvs)) (um M1 d (.fz o ks kvs)):=by
 unfold Ay hW kS;congr 1;funext x M1;apply propext;constructor
 ·rintro⟨d,kvs,e1,e2,h⟩;exact⟨d,e1,kvs,e2,h⟩
 ·rintro⟨d,e1,kvs,e2,h⟩;exact⟨d,kvs,e1,e2,h⟩
def OY (t:WS):WS:=λD ρ M=> ∃d kvs,M d=some (.dK kvs) /\ t {D with nx:=λρ' M'=> ∃o ks us,M' d=some (.fz o ks us) /\ D.nx ρ' (um M' d (.dK us))} ρ M
theorem OG {H:Hp}{a:Addr}{o:Obj}{xs:List (Key×V)}{u:HO}(h:H a=some (.nR o (.dK xs))):bo H (upd H a u):=Bd h (λ_ z=>nomatch z) λ_ _ z=>nomatch z
instance {t:TS}{a:WS} [ia:IS K t a]:IS K (ME t) (OY a) where
 imp:=λρ M σ H D' D o ⟨d,kvs,hd,h⟩ e=>by obtain⟨ks,ek,r⟩:=o.hp d _ hd;refine⟨d,ks,ek,ia.imp ρ M σ H _ _ o h ⟨?_,e.rt,e.bk,e.ct⟩⟩;rintro ρ' M' σ' H' ⟨ob,us,ws,hM,hq⟩ ts ok;obtain⟨e1,r1⟩:=ok.hp d _ hM;have t2:=OG (u:= .dK us) e1;exact⟨ob,us,e1,e.nx ρ' _ σ' _ hq (ts.trans t2) (ok.mv t2 (ok.hp.put t2 ⟨us,bU,KR.ts t2 r1⟩))⟩
end WL
set_option maxHeartbeats 4000000
namespace DC
open PySem PySem.Spec PyProof.Rows
theorem K7:typeLookup (.type "tuple") "keys" =pure none:=by rw[typeLookup_type,builtinLookup_eq_fast];kernel_rfl
theorem tf:entryFor table "dict.update.loop" =some Builtin.«dict.update.loop» :=entryFor_of_tree (by kernel_rfl)
theorem kP:plainId "dict.update.loop" =true:=by decide+kernel
section
variable {prog:Program}{w:World}{A:Around}{E:Value ->Shared ->Prop}{s:Shared}
theorem K1 {a:Addr}{xs:Array Value}{k:Nat}{sl:Array (Option Value)}{Q:Option Value ->Shared ->Prop}(hx:s.heap.get? a=some ⟨.type "tuple",none, .seq xs k,sl⟩)(hA:A.handled=none) (h: ∀h' tk,(∀b o,s.heap.get? b=some o ->h'.get? b=some o) ->Q none {s with heap:=h',toks:=tk}):wpAny (model prog w) A (getAttr? (.ref a) "keys") Q E s:=by
 obtain⟨hp,g,d,tk,os⟩:=s;have hT: ∀Q7,(⟨hp,g,d,Q7,os⟩:Shared).TypeIs (.ref a) "tuple" :=λ_=>⟨_,hx,rfl⟩
 have f1:=sub_AttributeError;have f3:=oi.lookup;have f4:=oi.bind (.ref a);have f5:=am_tuple_getattr_none;unfold getAttr? getAttrBy? getAttrBy;repeat (any_goals (first | assumption | exact hT _ | ((with_reducible show wpAny _ _ (call (Value.builtin "tuple.__getattribute__") _ _) _ _ _);refine NY oi (hT _) am_entry_tuple_getattribute (F.args_tuple_getattribute_2 _ _) (meets_getattribute_miss_tuple a xs k sl "keys" _ K7 (by decide+kernel) (by size_fits)) ⟨hx,hA,λh' Q7 e iO=> ?_⟩) | wp_step))
 obtain⟨t',u',he⟩:=iO.there;show wpAny _ _ (getattributeRaised _ _ _ _ _ _ _) _ _ _;unfold getattributeRaised;repeat (any_goals (first | assumption | wp_step))
 exact h h' _ iO.keeps
end
section
variable {prog:Program}{w:World}{κ:Type} [DecidableEq κ]{knd:PySem.KeyKind prog w κ}{A:Around}{E:Value ->Shared ->Prop}
structure N7 (knd:PySem.KeyKind prog w κ)(h:Heap)(its:Array Value)(ps:List (κ×Value)):Prop where
 len:its.size=ps.length
 at_: ∀ (i:Nat) (p:κ×Value),ps[i]? =some p -> ∃a key,its[i]? =some (.ref a) /\ knd.is p.1 key=true /\ h.IsTuple a #[key,p.2]
theorem N7.keeps {h h':Heap}{its:Array Value}{ps:List (κ×Value)}{x:Addr}(P:N7 knd h its ps)(hk: ∀b o,b≠x ->h.get? b=some o ->h'.get? b=some o)(hx: ∀o its n,h.get? x=some o ->o.data≠ .seq its n):N7 knd h' its ps:=⟨P.len,λi p e=>by obtain⟨a,key,h1,h2,o,ho,hc,n,r⟩:=P.at_ i p e;exact⟨a,key,h1,h2,o,hk a o (λz=>hx o _ n (z▸ho) r) ho,hc,n,r⟩⟩
def putAll (kvs:List (κ×Value))(ps:List (κ×Value)):List (κ×Value):=ps.foldl (λm p=>stored m p.1 p.2) kvs
theorem zY (kvs:List (κ×Value))(k:κ)(v:Value):(stored kvs k v).length<=kvs.length+1:=by
 unfold stored;split
 ·simp
 ·simp
theorem loop {its:Array Value}{ps:List (κ×Value)}{t:Addr}{R:Result ->Shared ->Prop}(hA:A.in1.handled=none)(hn:ps.length<=1000000): ∀ (k i:Nat) {s:Shared} (it d:Addr) (tk:Tok) (kvs:List (κ×Value)),ps.length - i=k ->i<=ps.length ->kvs.length<=i ->s.heap.IsTupleIter it t i ->s.heap.IsTuple t its ->N7 knd s.heap its ps ->s.heap.DictOf knd d kvs ->d≠it ->d≠t ->t≠it ->(∀h' Q7,h'.DictOf knd d (putAll kvs (ps.drop i)) ->(∀b o,b≠d ->b≠it ->s.heap.get? b=some o ->h'.get? b=some o) ->R (.ok (.ret .none)) {s with heap:=h',toks:=Q7}) ->codeAny (model prog w) A (.builtin "dict.update.loop" ⟨[.ref d, .ref it, .int i tk, .none],[]⟩) R s:=by
 intro k;induction k with
 | zero=>
  intro i s it d tk kvs hk hi hl hit ht hP hd n1 n2 n3 hR;have e:i=ps.length:=by omega
  refine lF tf ?_;rw[hU kP _];show wpAny _ A.in1 (pyNext (.ref it) >>=_) _ _ s;refine ao (wpAny_pyNext_tuple_end hA hit ht (by rw[Array.getElem?_eq_none];rw[hP.len];omega) λh' hx=> ?_);show wpAny _ A.in1 (Builtin.Dict.addKeywords d [] >>=_) _ _ _;refine ao (aM (aM ?_));have e2:ps.drop i= []:=oh (by omega);refine hR h' s.toks ?_ λb o _ n4 eb=>hx b o n4 eb;rw[e2];exact hd.extBut hx n1
 | succ k ih=>
  intro i s it d tk kvs hk hi hl hit ht hP hd n1 n2 n3 hR;have f6:i<ps.length:=by omega
  obtain⟨p,hp⟩: ∃p,ps[i]? =some p:=⟨ps[i],ae f6⟩
  obtain⟨a,key,h1,h2,h3⟩:=hP.at_ i p hp;refine lF tf ?_;rw[hU kP _];show wpAny _ A.in1 (pyNext (.ref it) >>=_) _ _ s;refine ao (wpAny_pyNext_tuple_item hit ht h1 λh' YQ gV=> ?_);have nc: ∀o its n,s.heap.get? it=some o ->o.data≠ .seq its n:=λo its n eo z=>by obtain⟨o2,e2,_,c2⟩:=hit;rw[eo] at e2;cases e2;rw[z] at c2;cases c2
  have hP':N7 knd h' its ps:=hP.keeps (λb o n4 e4=>gV.extBut b o n4 e4) nc;have mV:h'.DictOf knd d kvs:=hd.extBut gV.extBut n1;have pd:h'.IsTuple t its:=by obtain⟨o,ho,r⟩:=ht;exact⟨o,gV.extBut t o n3 ho,r⟩
  obtain⟨a',T9,Qv,JD,h3'⟩:=hP'.at_ i p hp;obtain⟨oa,hoa,hca,na,hda⟩:=h3';have ea:a'=a:=by rw[h1] at Qv;cases Qv;rfl
  subst ea;have hT:(⟨h',s.gens,s.drawn,s.toks,s.os⟩:Shared).TypeIs (.ref a') "tuple" :=⟨oa,hoa,hca⟩
  show wpAny _ A.in1 (holding [.ref a'] _ >>=_) _ _ _;refine ao (d9 (ao (jK ?_)));unfold Builtin.Dict.pairItems;refine ao (wpAny_typeOf hT ?_);rw[ak (by simp)];refine ao (jL hoa hda ?_);refine aM ?_;show wpAny _ A.in1 (holding [T9,p.2] (dictSet d T9 p.2)) _ _ _;refine d9 (wpAny_dictSet_pairs JD mV (λh2 hd2 mF=> ?_) (by rw[cC];omega));refine aM ⟨kQ kP _,?_⟩;have ei:(rawInt ((i:Int)+1))=Value.int ((i+1:Nat):Int) 0:=by simp[rawInt]
  rw[ei];have Qq:N7 knd h2 its ps:=hP'.keeps (x:=d) (λb o n4 e4=>mF.extBut b o n4 e4) (λo its n eo z=>by obtain⟨o2,_,_,e2,_,c2,_⟩:=mV;rw[eo] at e2;cases e2;rw[z] at c2;cases c2);refine ih (i+1) it d 0 (stored kvs p.1 p.2) (by omega) f6 (by have:=zY kvs p.1 p.2;omega) ?_ ?_ Qq hd2 n1 n2 n3 λh3 tk3 Qk hk3=> ?_
  ·obtain⟨o,ho,r⟩:=YQ;exact⟨o,mF.extBut it o (a5 n1) ho,r⟩
  ·obtain⟨o,ho,r⟩:=pd;exact⟨o,mF.extBut t o (a5 n2) ho,r⟩
  ·refine hR h3 tk3 ?_ λb o n4 n5 eb=>hk3 b o n4 n5 (mF.extBut b o n4 (gV.extBut b o n5 eb));have:ps.drop i=p::ps.drop (i+1):=by have:=dH f6;rw[this];rw[ae f6] at hp;cases hp;rfl
   rw[this];exact Qk
theorem nU {its:Array Value}{ps:List (κ×Value)}{t:Addr}{n:Nat}{sl:Array (Option Value)}{s:Shared}{Q:Value ->Shared ->Prop}(hA:A.in1.handled=none)(hn:ps.length<=1000000) (hx:s.heap.get? t=some ⟨.type "tuple",none, .seq its n,sl⟩) (hP:N7 knd s.heap its ps) (h: ∀h' tk,h'.DictOf knd s.heap.objs.size (putAll [] ps) ->(∀b o,s.heap.get? b=some o ->h'.get? b=some o) ->Q (.ref s.heap.objs.size) {s with heap:=h',toks:=tk}): wpAny (model prog w) A (call (.type "dict") [.ref t]) Q E s:=by
 refine callType_codes (Q₁:=λobj s₁=>obj= .ref s.heap.objs.size /\ s₁= {s with heap:=s.heap.push {cls:= .type "dict",data:= .dict #[]}}) PySem.F.kt_called_dict (PySem.F.kt_typeCall_dict_1 _) PySem.F.entry_dict_init (PySem.kt_code_dict_new _ ⟨rfl,rfl⟩) ?_;rintro obj s₁ ⟨rfl,rfl⟩;have Ll:(s.heap.push {cls:= .type "dict",data:= .dict #[]}).DictOf knd s.heap.objs.size []:=Heap.DictOf.new s.heap;have Jv:(s.heap.push {cls:= .type "dict",data:= .dict #[]}).get? t=some ⟨.type "tuple",none, .seq its n,sl⟩:=ar _ hx;have f6:t<s.heap.objs.size:=aB hx;refine⟨Ll.typeIs,PySem.F.args_dict_init_2 _ _,?_⟩;unfold Builtin.«dict.__init__»;refine ao ?_;unfold Builtin.Dict.selfAndRest;refine ao (wpAny_notOrdered_dict Ll.typeIs ?_);show wpAny _ _ (pure (s.heap.objs.size,[Value.ref t])) _ _ _;refine aM ?_;show wpAny _ _ (Builtin.Dict.updateFrom "dict.__init__" s.heap.objs.size (.ref t) [] .none) _ _ _;unfold Builtin.Dict.updateFrom;refine ao (wpAny_typeOf (T:= "tuple") ⟨_,Jv,rfl⟩ ?_);rw[ak (by decide)];refine ao (K1 Jv hA λh1 VL xB=> ?_);rw[ak (show(none:Option Value).isNone=true from rfl)];refine ao (gr (ao ?_));have ht3:h1.IsTuple t its:=⟨_,xB t _ Jv,rfl,n,rfl⟩
 refine wpAny_pyIter_tuple ht3 ?_;refine aM ⟨kQ kP _,?_⟩;have Wr:h1.DictOf knd s.heap.objs.size []:=by obtain⟨o,es,ep,ho,r⟩:=Ll;exact⟨o,es,ep,xB _ _ ho,r⟩
 have We:s.heap.objs.size<h1.objs.size:=by obtain⟨o,es,ep,ho,r⟩:=Wr;exact aB ho
 have Wv:N7 knd (h1.push {cls:= .type "tuple_iterator",data:= .fields #[.ref t, .int 0 0]}) its ps:=⟨hP.len,λi p e=>by obtain⟨a,key,e1,e2,o,ho,r⟩:=hP.at_ i p e;exact⟨a,key,e1,e2,o,ar _ (xB a o (ar _ ho)),r⟩⟩
 have ei:(rawInt 0)=Value.int ((0:Nat):Int) 0:=rfl;rw[ei];have Nn:t≠h1.objs.size:=aX (aB (xB t _ Jv));have ht4:(h1.push {cls:= .type "tuple_iterator",data:= .fields #[.ref t, .int 0 0]}).IsTuple t its:=let ⟨o,ho,r⟩:=ht3;⟨o,ar _ ho,r⟩
 have hit:(h1.push {cls:= .type "tuple_iterator",data:= .fields #[.ref t, .int 0 0]}).IsTupleIter h1.objs.size t 0:=⟨_,aS _ rfl,rfl,rfl⟩
 have hd2:=Wr.push {cls:= .type "tuple_iterator",data:= .fields #[.ref t, .int 0 0]};refine loop (A:=A.in1) (knd:=knd) (ps:=ps) (its:=its) (t:=t) (s:= {s with heap:=h1.push {cls:= .type "tuple_iterator",data:= .fields #[.ref t, .int 0 0]},toks:=VL}) hA hn ps.length 0 h1.objs.size s.heap.objs.size 0 [] (by omega) (cU _) (aq _) hit ht4 Wv hd2 (aX We) (iW f6) Nn λh' Q7 mV xC=> ?_;refine⟨rfl,h h' Q7 ?_ λb o eb=>xC b o (aX (aB eb)) (aX (aB (xB b o (ar _ eb)))) (ar _ (xB b o (ar _ eb)))⟩;simpa using mV
end
end DC
namespace L2
open PySem PySem.Spec PyProof.Rows
section
variable {X:Cx}{pins:List (Addr×Obj)}{σ:St}{H H':Hp}{s:Shared}{h':Heap}
theorem Inv.more {t':Nat}(I:Inv X pins σ H s)(k: ∀b o,s.heap.get? b=some o ->h'.get? b=some o)(hx: ∀b o,H b=some o ->H' b=some o)(hn: ∀b,b<s.heap.objs.size ->H b=none ->H' b=none)(c8:nv X.prog X.w H' h'): Inv X pins σ H' {s with heap:=h',toks:=t'}:=by refine I.call (ch:= []) (g':=s.gens) (d':=s.drawn) ⟨λb o q n _ _=>k b o q,λb o q n _ _=>⟨o.slots,k b o q⟩,λb o q n _=>hn b (aB q) n,λb o q _=>⟨o,k b o q⟩,λb ys q=>hx b _ q,λb o u q=>hx b _ q,λb ps q=>⟨#[],by rw[hx b _ q];simp⟩⟩ c8 I.bare λb hb=>nomatch hb
def Gq (K:PySem.W.Frag):List V ->Hp ->VK ->Prop:=λxs H Q=> ∃ (a:Addr) (vs:List V) (ps:List (Key×V)),xs= [.ref a] /\ kD K H a vs /\ ps.length<=1000000 /\ vs.length=ps.length /\ (∀ (i:Nat) p,ps[i]? =some p -> ∃b,vs[i]? =some (.ref b) /\ kD K H b [kV p.1,p.2]) /\ ∀q,H q=none ->Q (.ref q) (upd H q (.dK (ps.foldl (λm p=>putK m p.1 p.2) [])))
theorem Gy {K:PySem.W.Frag}{h:Heap}(tup: ∀ {b:Addr} {xs:List V},kD K H b xs -> ∃its:List Value,Vals xs its /\ h.IsTuple b its.toArray): ∀ {ps:List (Key×V)} {vs:List V} {its:List Value},vs.length=ps.length ->(∀ (i:Nat) p,ps[i]? =some p -> ∃b,vs[i]? =some (.ref b) /\ kD K H b [kV p.1,p.2]) ->Vals vs its ->∃qs:List (Key×Value),KV ps qs /\ ∀ (i:Nat) q,qs[i]? =some q -> ∃a key,its[i]? =some (.ref a) /\ (cu X.prog X.w).is q.1 key=true /\ h.IsTuple a #[key,q.2]
 | [],vs,its,hl,_,r=>by refine⟨[], .nil,λi q e=> ?_⟩;simp at e
 | p::ps,[],its,hl,_,r=>by simp at hl
 | p :: ps,v::vs,its,hl,ha,r=>by
  cases r with
  | @cons _ u _ us r1 r2=>
   obtain⟨qs,hq,Yo⟩:=Gy tup (ps:=ps) (vs:=vs) (its:=us) (by simpa using hl) (λi p e=>by simpa using ha (i+1) p (by simpa using e)) r2;obtain⟨b,hb,hs⟩:=ha 0 p rfl;have n6:v= .ref b:=by simpa using hb
   subst n6;have eu:u=Value.ref b:=r1;subst eu;obtain⟨js,rj,tj⟩:=tup hs;cases rj with
   | cons k1 k2=>
    cases k2 with
    | cons k3 k4=>
     cases k4;rename_i key val;refine⟨(p.1,val)::qs, .cons ⟨rfl,k3⟩ hq,λi q e=> ?_⟩;cases i with
     | zero=>simp at e;subst e;exact⟨b,key,rfl,oY k1,tj⟩
     | succ i=>simpa using Yo i q (by simpa using e)
theorem uT: ∀ {ps:List (Key×V)} {qs:List (Key×Value)} {m:List (Key×V)} {n:List (Key×Value)},KV ps qs ->KV m n ->KV (ps.foldl (λm p=>putK m p.1 p.2) m) (DC.putAll n qs)
 | _,_,_,_, .nil,r=>r
 | _,_,_,_, .cons ⟨e,rv⟩ t,r=>by rw[iy];refine uT (n:=stored _ _ _) t ?_;rw[e];exact r.put _ rv
theorem uQ: ∀ (ps:List (Key×V)) (m:List (Key×V)),(ps.foldl (λm p=>putK m p.1 p.2) m).length<=m.length+ps.length
 | [],m=>by simp
 | p::ps,m=>by rw[iy,aG];have:=uQ ps (putK m p.1 p.2);have:=iI m p.1 p.2;omega
theorem nU (hc:X.calm=true):i0 X (.type "dict") (Gq X.K):=by intro pins s σ H xs us Q I r h;obtain⟨a,vs,ps,rfl,hq,hn,hl,Ru,q⟩:=h;obtain⟨u,rfl,ru⟩:=vals1 r;cases ru;obtain⟨its,rv,⟨o,ho,hco,n,hd,hdd⟩,hz⟩:=I.OE hq;obtain⟨qs,hk,Yo⟩:=Gy (X:=X) (h:=s.heap) (λ{b xs} hs=>by obtain⟨js,rj,tj,_⟩:=I.tuple hs;exact⟨js,rj,tj⟩) hl Ru rv;have hlen:qs.length=ps.length:=hk.length.symm;obtain⟨c,dct,dat,sl⟩:=o;simp only at hco hd hdd;subst hco hd hdd;refine DC.nU (knd:=cu X.prog X.w) (ps:=qs) (show X.A.in1.handled=none from I.ok.hd hc) (by rw[hlen];exact hn) ho ⟨by have:=rv.length;simp;omega,λi p e=>by simpa using Yo i p e⟩ λh' tk mV HP=> ?_;refine⟨.ref s.heap.objs.size,_,I.laid (t':=tk) HP (aq _) (tw ?_ (fD.mpr (a5 (aX I.big))) (uT hk .nil) mV),rfl,q _ (I.c8.fresh (aq _))⟩;have:=uQ ps [];rw[cC];simp at this;omega
def Gp:List V ->Hp ->VK ->Prop:=λxs H Q=> ∃d kvs,xs= [.ref d] /\ Rd H d (.dK kvs) /\ ∀l,H l=none ->Q (.ref l) (upd H l (.lst (kvs.map λkv=>kV kv.1)))
theorem uy: ∀ {kvs:List (Key×V)} {vs:List (Key×Value)} {acc:List Value},KV kvs vs ->acc.length=vs.length ->(∀ (j:Nat) v,acc[j]? =some v -> ∃k x,vs[j]? =some (k,x) /\ oX k v=true) ->Vals (kvs.map λkv=>kV kv.1) acc
 | _,_,[], .nil,_,_=> .nil
 | _,_,_::_, .nil,h,_=>by simp at h
 | _,_,[], .cons _ _,h,_=>by simp at h
 | _,_,u::us, .cons (a:=p) (b:=q) ⟨e,_⟩ t,h,hk=>by refine .cons ?_ (uy t (by simpa using h) λj v ev=>by simpa using hk (j+1) v (by simpa using ev));obtain⟨k,x,e1,e2⟩:=hk 0 u rfl;simp at e1;show RelV (kV p.1) u;rw[e,e1];exact wN e2
theorem jy (hc:X.calm=true):i0 X (.type "list") Gp:=by intro pins s σ H xs us Q I r h;obtain⟨d,kvs,rfl,hd,q⟩:=h;obtain⟨u,rfl,ru⟩:=vals1 r;cases ru;obtain⟨z,HJ,vs,rel,dd⟩:=pC I.c8 hd;obtain⟨ep,Cn⟩:=dd.dictAt;refine PySem.W.kdl_call (PySem.W.kdl_dict (knd:=cu X.prog X.w) (kvs:=vs) (ep:=ep) HJ) (I.ok.hd hc) Cn (by rw[<- rel.length];exact z) λh' tk acc c HP hg items=> ?_;have hv:Vals (kvs.map λkv=>kV kv.1) acc.toList:=uy rel (by rw[cT];exact items.1) λj v e=>items.2 j v (by rw[<- gk];exact e);refine⟨.ref _,_,I.laid (t':=tk) HP (aq _) (show d4 X.prog X.w _ h' _ (.lst _) from⟨by rw[aa];exact z,acc.toList,c,hv,by simpa using hg⟩),rfl,q _ (I.c8.fresh (aq _))⟩
end
section
variable {X:Cx}{o:Expr}{td:TE}{apos gx p1 GA:Pos}
theorem ux: ∀as:List Addr,Vals (as.map V.ref) (as.map Value.ref)
 | []=> .nil
 | a::r=> .cons rfl (ux r)
def Bm (td:TE):TE:=λσ H Q=>td σ H λx H1=> ∃d kvs,x= .ref d /\ Rd H1 d (.dK kvs) /\ ∀ (l:Addr) (vs:List V) (H2:Hp),H1 l=none ->fE H1 H2 ->H2 l=some (.lst vs) ->vs.length=kvs.length ->(∀ (i:Nat) kv,kvs[i]? =some kv -> ∃a,vs[i]? =some (.ref a) /\ H2 a=some (.tup [kV kv.1,kv.2])) ->(∀b u,H2 b=some u ->H1 b=some u \/ H1 b=none /\ (b=l \/ ∃xs,u= .tup xs)) ->Q (.ref l) H2
theorem Ds (UP:Gl X "list")(Qa:X.mg "list" =none)(hc:X.calm=true)(ho:PE X o td)(yM:attributeBase o "items" X.env (eval o X.env)=eval o X.env:=by rfl)(yK:(apos.endLine==gx.line)=true:=by rfl) (ht:starEach [.Call (.Attribute o "items" apos) [] [] gx] X.env= [(false,eval (.Call (.Attribute o "items" apos) [] [] gx) X.env)]:=by rfl): PE X (.Call (.Name "list" p1) [.Call (.Attribute o "items" apos) [] [] gx] [] GA) (Bm td):=by
 intro pins s σ H Q I h;refine Call_ (iR I UP Qa boot_list (bO ?_ ht rfl));rw[ht];refine du (wpAny_Call_method0_late yM yK (dj (ho pins s σ H _ I h) λv s1 ⟨x,H1,I1,r1,d,kvs,ex,hd,q1⟩=> ?_));subst ex;obtain rfl:v=Value.ref d:=r1;obtain⟨t1,t2,sys⟩:=wQ I1 (.inl ⟨kvs,hd⟩);refine⟨"dict","dict.items",iM,iL,Jd,t1,t2,gv rfl (QQ ?_)⟩;obtain⟨z,HJ,vs,rel,dd⟩:=pC I1.c8 hd;refine mL iL dd.typeIs EY (Ez _) (meets_dict_items (cu X.prog X.w) d HJ) ⟨⟨vs,dd⟩,?_⟩;refine fM ?_;obtain⟨ep,Cn⟩:=dd.dictAt;refine PySem.W.kdx_call (knd:=cu X.prog X.w) (kvs:=vs) (ep:=ep) (I1.ok.hd hc) ⟨_,aS _ rfl,rfl,rfl⟩ (Cn.push _) (by rw[<- rel.length];exact z) λh' tk acc c as hk hg hl hG D8=> ?_;have hsz:(s1.heap.push {cls:= .type "dict_items",data:= .fields #[.ref d]}).objs.size=s1.heap.objs.size+1:=fk ..;generalize hL:(s1.heap.push {cls:= .type "dict_items",data:= .fields #[.ref d]}).objs.size=L at hg hG ⊢;have Wx:s1.heap.objs.size<L:=by omega
 have Wm:as.length=kvs.length:=by rw[hl,rel.length]
 have hnd:as.Nodup:=hG.rise.imp λh=>aX h;let H2:Hp:=λb=>if b=L then some (.lst (as.map V.ref)) else match kvs[as.idxOf b]? with | some kv=>some (.tup [kV kv.1,kv.2]) | none=>H1 b
 have eL:H2 L=some (.lst (as.map V.ref)):=ak rfl;have eA: ∀ (j:Nat) a,as[j]? =some a -> ∃kv,kvs[j]? =some kv /\ H2 a=some (.tup [kV kv.1,kv.2]):=λj a e=>by
  have hj:j<as.length:=(ag.mp e).1;obtain⟨kv,DV⟩: ∃kv,kvs[j]? =some kv:=⟨kvs[j],ae (by omega)⟩
  have ej:as.idxOf a=j:=by have:=(ag.mp e).2;rw[<- this];exact hnd.idxOf_getElem j hj
  refine⟨kv,DV,?_⟩;have na:a≠L:=iW (hG.above a (ai e));show(if a=L then _ else _)=_;rw[aj na,ej,DV]
 have eO: ∀b,b≠L ->b∉as ->H2 b=H1 b:=λb n1 n2=>by show(if b=L then _ else _)=_;rw[aj n1,List.idxOf_eq_length n2,cZ (by omega)]
 have out: ∀b,b<s1.heap.objs.size ->b≠L /\ b∉as:=λb hb=>⟨by omega,λz=>absurd (vF hb (vF Wx (hG.above b z))) (cb _)⟩
 have same:fE H1 H2:=λb u e=>by obtain⟨n1,n2⟩:=out b (I1.c8.lt e);rw[eO b n1 n2];exact e
 have keep: ∀b ob,s1.heap.get? b=some ob ->h'.get? b=some ob:=λb ob e=>hk b ob (ar _ e);have c8:nv X.prog X.w H2 h':=λb u e=>by
  by_cases n1:b=L
  ·subst n1;rw[eL] at e;cases e;exact⟨by rw[aa,Wm];exact z,as.map Value.ref,c,ux as,by rw[<- D8];simpa using hg⟩
  ·by_cases n2:b∈as
   ·obtain⟨j,hj⟩:=bA.mp n2;obtain⟨kv,DV,e2⟩:=eA j b hj;rw[e2] at e;cases e;obtain⟨key,k,x,hx,sY,ht⟩:=hG.pairs j b hj;obtain⟨p,hp,Z4,rp⟩:=Aw rel hx;rw[DV] at hp;cases hp;refine⟨by rw[cC];show 2<=16777216;decide,[key,x], .cons (by rw[Z4];exact wN sY) (.cons rp .nil),_,ht,rfl,_,rfl,rfl⟩
   ·rw[eO b n1 n2] at e;exact(I1.c8 b u e).r9 (λc v _ r=>keep c v r) (λc r=>same c _ r) λc ys r=>same c _ r
 refine⟨.ref L,H2,I1.more (t':=tk) keep (λb u e=>same b u e) (λb hb e=>by obtain⟨n1,n2⟩:=out b hb;rw[eO b n1 n2];exact e) c8,rfl,q1 L (as.map V.ref) H2 (I1.c8.fresh (iY Wx)) same eL (by rw[aa,Wm]) (λi kv e=> ?_) λb u e=> ?_⟩
 ·obtain⟨a,ha⟩: ∃a,as[i]? =some a:=⟨as[i]'(by have:=(ag.mp e).1;omega),ae _⟩
  obtain⟨kv',h1,h2⟩:=eA i a ha;rw[e] at h1;cases h1;exact⟨a,by rw[aA,ha];rfl,h2⟩
 ·by_cases n1:b=L
  ·exact .inr ⟨by rw[n1];exact I1.c8.fresh (iY Wx), .inl n1⟩
  ·by_cases n2:b∈as
   ·obtain⟨j,hj⟩:=bA.mp n2;obtain⟨kv,DV,e2⟩:=eA j b hj;rw[e2] at e;cases e;exact .inr ⟨I1.c8.fresh (iY (vF Wx (hG.above b n2))), .inr ⟨_,rfl⟩⟩
   ·rw[eO b n1 n2] at e;exact .inl e
def yV (i:Int)(n:Nat):List V:=(List.range n).map λ(k:Nat)=> .int (i - (k:Int))
def FI (ta:TA):TE:=λσ H Q=>ta σ H λvs H1=> ∃i j:Int,vs= [.int i, .int j, .int (-1)] /\ A2 i j (-1) /\ (i - j).toNat<=16000000 /\ ∀l,H1 l=none ->Q (.ref l) (upd H1 l (.lst (yV i (i - j).toNat)))
theorem De {i:Int}{n:Nat}{acc:Array Value}(h:ItemsOf (λj v=> ∃t,v=Value.int (i+(j:Int)*(-1)) t) acc n):Vals (yV i n) acc.toList:=by
 obtain⟨hl,hv⟩:=h;have Qf:acc.toList.length=n:=by simpa using hl
 have key: ∀ (k:Nat) (l:List Value) (m:Nat),l.length=m ->(∀j v,l[j]? =some v -> ∃t,v=Value.int (i - ((k+j:Nat):Int)) t) ->Vals ((List.range' k m).map λ(k:Nat)=>V.int (i - (k:Int))) l:=by
  intro k l;induction l generalizing k with
  | nil=>intro m hm _;subst hm;exact .nil
  | cons v r ih=>
   intro m hm hj;subst hm;rw[aG,List.range'_succ,aH];refine .cons ?_ (ih (k+1) r.length rfl λj v' e=> ?_)
   ·obtain⟨t,e⟩:=hj 0 v rfl;exact⟨t,by simpa using e⟩
   ·obtain⟨t,e'⟩:=hj (j+1) v' (by rw[d8];exact e);exact⟨t,by rw[e'];congr 2<;>omega⟩
 have:=key 0 acc.toList n Qf λj v e=>by obtain⟨t,e'⟩:=hv j v (by rw[<- gk];exact e);exact⟨t,by rw[e'];congr 2<;>omega⟩
 unfold yV;rw[Oa];exact this
theorem Af {a b c:Expr}{ta:TA}{q1 q2 GA wA:Pos}(UP:Gl X "list")(Qa:X.mg "list" =none)(hg:Gl X "range")(hm:X.mg "range" =none)(hc:X.calm=true)(ha:PA X [a,b,c] ta) (hs:starEach [a,b,c] X.env= [(false,eval a X.env),(false,eval b X.env),(false,eval c X.env)]:=by rfl) (mF:starEach [b,c] X.env= [(false,eval b X.env),(false,eval c X.env)]:=by rfl) (ht:starEach [.Call (.Name "range" q2) [a,b,c] [] wA] X.env= [(false,eval (.Call (.Name "range" q2) [a,b,c] [] wA) X.env)]:=by rfl): PE X (.Call (.Name "list" q1) [.Call (.Name "range" q2) [a,b,c] [] wA] [] GA) (FI ta):=by
 intro pins s σ H Q I h;refine Call_ (iR I UP Qa boot_list (bO ?_ ht rfl));rw[ht];refine du (Call_ (iR I hg hm boot_range (bO (dj (ha wA pins s σ H _ I h) λus s1 ⟨vs,H1,I1,r1,q1⟩=> ?_) (by rw[hs,mF]) (by rw[mF];rfl))));obtain⟨i,j,e,ok,hn,q⟩:=q1;subst e;cases r1 with
 | cons r rr=>
  cases rr with
  | cons r' rr=>
   cases rr with
   | cons Tr rr=>
    cases rr;obtain⟨t,rfl⟩:=r;obtain⟨t',rfl⟩:=r';obtain⟨OO,rfl⟩:=Tr;refine call_range_3 (by decide) (fM ?_);have I2:Inv X pins σ H1 {s1 with heap:=s1.heap.push {cls:= .type "range",data:= .fields #[.int i t, .int j t', .int (-1) OO]},toks:=s1.toks}:=I1.kept λb o e=>ar _ e;have hsz:Builtin.Range.rangeSize i j (-1)=((i - j).toNat:Int):=by have:=ye (a:=i) (b:=j);have h0:=qf (a:=i) (b:=j) (c:= -1) (by decide);unfold Js at this;omega
    refine call_list_range (n:=(i - j).toNat) (I1.ok.hd hc) (Jh ..) (xU ok) hsz (by omega) λh' tk QO c' kp HV items=> ?_;have hv:=De items;refine⟨.ref _,_,I2.laid (t':=tk) kp (aq _) (show d4 X.prog X.w _ h' _ (.lst (yV i (i - j).toNat)) from⟨?_,QO.toList,c',hv,by simpa using HV⟩),rfl,q _ (I2.c8.fresh (aq _))⟩;unfold yV;rw[aa,cV];exact a4 hn (by rw[cC];decide)
end
end L2
namespace WL
open PySem L2
variable {K:PySem.W.Frag}
def Ov:C4:=λxs M q=> ∃l:List (Key×W),xs= [.tup (l.map λp=> .tup [gd p.1,p.2])] /\ l.length<=1000000 /\ ∀p,M p=none ->q (wr p) (um M p (.dK (l.foldl (λm p=>ki m p.1 p.2) [])))
theorem WR.key {H:Hp}{k:Key}{v:V}(h:WR K H (gd k) v):v=kV k:=by cases k<;>exact h.eq
theorem yn {H:Hp}: ∀ {l:List (Key×W)} {vs:List V},cF K H (l.map λp=> .tup [gd p.1,p.2]) vs -> ∃ps:List (Key×V),KR K H l ps /\ vs.length=ps.length /\ ∀ (i:Nat) p,ps[i]? =some p -> ∃b,vs[i]? =some (.ref b) /\ kD K H b [kV p.1,p.2]
 | [],vs,h=>by simp only[eB,cF] at h;subst h;exact⟨[], .nil,rfl,λi p e=>by simp at e⟩
 | (k,x)::l,vs,h=>by
  simp only[aH,cF] at h;obtain⟨v,t,rfl,h1,h2⟩:=h;obtain⟨ps,r,hl,hp⟩:=yn h2;obtain⟨b,us,rfl,hs,hr⟩:=h1.tup;obtain⟨u1,u2,rfl,g1,g2⟩:=hr.two;cases g1.key;refine⟨(k,u2)::ps, .cons ⟨rfl,g2⟩ r,by simp[hl],λi p e=> ?_⟩;cases i with
  | zero=>simp at e;subst e;exact⟨b,rfl,hs⟩
  | succ i=>simpa using hp i p (by simpa using e)
theorem Cb {H:Hp}: ∀ {l:List (Key×W)} {ps:List (Key×V)} {m:List (Key×W)} {n:List (Key×V)},KR K H l ps ->KR K H m n ->KR K H (l.foldl (λm p=>ki m p.1 p.2) m) (ps.foldl (λm p=>putK m p.1 p.2) n)
 | _,_,_,_, .nil,r=>r
 | _,_,_,_, .cons (a:=a) (b:=b) ⟨e,rv⟩ t,r=>by rw[iy,iy];refine Cb t ?_;rw[e];exact KR.put rv r
instance:IC K (Gq K) Ov where
 imp:=by rintro xs v M H q Q m r1 ⟨l,rfl,hl,h⟩ k;obtain⟨v,rfl,r⟩:=r1.one;obtain⟨a,vs,rfl,hv,rr⟩:=r.tup;obtain⟨ps,hr,hlen,hp⟩:=yn rr;refine⟨a,vs,ps,rfl,hv,by rw[<- sS hr];exact hl,hlen,hp,λp hp=> ?_⟩;have ts:=L2.fE.ts (b8 (o:= .dK (ps.foldl (λm p=>putK m p.1 p.2) [])) hp);exact k _ _ _ _ (h p (m.fresh hp)) ts (m.put ts ⟨_,bU,KR.ts ts (Cb hr .nil)⟩) WR.v
def Oq:C4:=λxs M q=> ∃d kvs,xs= [wr d] /\ M d=some (.dK kvs) /\ ∀p,M p=none ->q (wr p) (um M p (.lst (kvs.map λkv=>gd kv.1)))
theorem yD {H:Hp}: ∀ {l:List (Key×W)} {vs:List (Key×V)},KR K H l vs ->cF K H (l.map λkv=>gd kv.1) (vs.map λkv=>kV kv.1)
 | _,_, .nil=>cF.nil
 | _,_, .cons (a:=a) (b:=b) ⟨e,_⟩ t=>by refine cF.cons ?_ (yD t);show WR K H (gd a.1) (kV b.1);rw[e];cases b.1<;>exact WR.v
instance:IC K Gp Oq where
 imp:=by rintro xs v M H q Q m r1 ⟨d,kvs,rfl,hd,h⟩ k;obtain⟨v,rfl,r⟩:=r1.one;cases r.eq;obtain⟨ks,ek,rr⟩:=m d _ hd;exact⟨d,ks,rfl, .inl ek,λp hp=>k _ _ _ _ (h p (m.fresh hp)) (L2.fE.ts (b8 hp)) (m.rf hp (yD rr)) WR.v⟩
def vQ (a:WE):WE:=λρ M q=>a ρ M λx M1=> ∃d kvs,x=wr d /\ M1 d=some (.dK kvs) /\ ∀p,M1 p=none ->q (wr p) (um M1 p (.lst (kvs.map λkv=> .tup [gd kv.1,kv.2])))
theorem wLItems_e {a:WE}{ρ:dB}{M:Mp}{q:WK}:vQ a ρ M q=a ρ M λx M1=>hW x λd=>kS (M1 d) λkvs=>sL M1 λp=>q (wr p) (um M1 p (.lst (kvs.map λkv=> .tup [gd kv.1,kv.2]))):=by
 unfold vQ hW kS sL;congr 1;funext x M1;apply propext;constructor
 ·rintro⟨d,kvs,e1,e2,h⟩;exact⟨d,e1,kvs,e2,h⟩
 ·rintro⟨d,e1,kvs,e2,h⟩;exact⟨d,kvs,e1,e2,h⟩
instance {t:TE}{a:WE} [ia:IE K t a]:IE K (Bm t) (vQ a) where
 imp :=λρ M σ H q Q o h k=>ia.imp ρ M σ H _ _ o h λx M1 v H1 ⟨d,kvs,ex,hd,h1⟩ t1 m1 r1=>by
  subst ex;obtain⟨ks,ek,rr⟩:=m1 d _ hd;refine⟨d,ks,r1.eq, .inl ek,λl vs H2 hl sm el hlen Cn Ll=> ?_⟩;have ts:bo H1 H2:=L2.fE.ts sm;refine k _ _ _ _ (h1 l (m1.fresh hl)) (t1.trans ts) (λb x e=> ?_) WR.v;by_cases hb:b=l
  ·subst hb;rw[um_same] at e;cases e;refine⟨vs,el,cF.mk (by rw[hlen,aa,sS rr]) λj d' v' e1 e2=> ?_⟩;rw[aA] at e1;cases e3:kvs[j]? with
   | none=>rw[e3] at e1;cases e1
   | some kv=>
    rw[e3] at e1;cases e1;obtain⟨V',e4⟩: ∃V',ks[j]? =some V':=⟨ks[j]'(by rw[<- sS rr];exact(ag.mp e3).1),ae _⟩
    obtain⟨p2,e5,e6,rp⟩:=Ax rr e4;rw[e3] at e5;cases e5;obtain⟨a2,e7,e8⟩:=Cn j V' e4;rw[e2] at e7;cases e7;refine WR.Ri (kD.of e8) (cF.cons ?_ (cF.cons (rp.ts ts) cF.nil));rw[e6];cases V'.1<;>exact WR.v
  ·rw[aJ hb] at e;have hm:=m1 b x e;obtain⟨u,hu⟩:=hm.some;exact hm.mv ts (by rw[hu];exact sm b u hu)
def CC (i:Int)(n:Nat):List W:=(List.range n).map λ(k:Nat)=>wi (i - (k:Int))
def Fn (a:WA):WE:=λρ M q=>a ρ M λxs M1=> ∃i j:Int,xs= [wi i,wi j,wi (-1)] /\ A2 i j (-1) /\ (i - j).toNat<=16000000 /\ ∀l,M1 l=none ->q (wr l) (um M1 l (.lst (CC i (i - j).toNat)))
theorem CB {H:Hp}(i:Int): ∀ (l:List Nat),cF K H (l.map λ(k:Nat)=>wi (i - (k:Int))) (l.map λ(k:Nat)=>V.int (i - (k:Int)))
 | []=>by simp only[eB,cF]
 | k::r=>by simp only[aH,cF];exact⟨_,_,rfl,WR.v,CB i r⟩
instance {t:TA}{a:WA} [ia:IA K t a]:IE K (FI t) (Fn a) where
 imp:=λρ M σ H q Q o h k=>ia.imp ρ M σ H _ _ o h λxs M1 vs H1 ⟨i,j,ex,h1,h2,h3⟩ t1 m1 r1=>by subst ex;simp only[cF] at r1;obtain⟨v1,t2,rfl,g1,v2,t3,rfl,g2,v3,t4,rfl,g3,rfl⟩:=r1;cases g1.eq;cases g2.eq;cases g3.eq;exact⟨i,j,rfl,h1,h2,λp hp=>k _ _ _ _ (h3 p (m1.fresh hp)) (t1.trans (L2.fE.ts (b8 hp))) (m1.rf hp (CB i _)) WR.v⟩
end WL
namespace WQ
open PySem L2 WL WP
def GD (p:Int)(m:Pt):Prop:=(m.map (·.1)).Nodup /\ ∀z∈m,0<z.2 /\ z.2<p
def gR (m:Pt)(x:Int):Pt:=m.filter λq=>decide (q.1≠x)
theorem Ip (m:Pt)(x:Int):vc (f' m) (.inl x)=f' (gR m x):=by unfold vc f' gR;rw[List.filter_map];congr 1;apply List.filter_congr;intro q _;simp
theorem gz: ∀ {m:Pt},(m.map (·.1)).Nodup -> ∀x,dP m x=look m x
 | [],_,x=>rfl
 | q ::r,h,x=>by
  rw[aH,bw] at h;have ih:=gz h.2 x;rw[dP,look,ih];by_cases e:q.1=x
  ·rw[ak e,ak e];have:look r x=0:=eZ λz hz ez=>h.1 (af.mpr ⟨z,hz,by rw[ez,e]⟩);rw[this];lia
  ·rw[aj e,aj e];lia
theorem ju {m:Pt}(h:(m.map (·.1)).Nodup){z:Int×Int}(hz:z∈m):look m z.1=z.2:=by
 induction m with
 | nil=>cases hz
 | cons q r ih=>
  rw[aH,bw] at h;rw[look];rcases av.mp hz with rfl | qo
  ·rw[ak rfl]
  ·rw[aj (λe=>h.1 (af.mpr ⟨z,qo,e.symm⟩))];exact ih h.2 qo
theorem As (m:Pt)(x y:Int):look (gR m x) y=if y=x then 0 else look m y:=by
 induction m with
 | nil=>simp[gR,look]
 | cons q r ih=>
  unfold gR at ih ⊢;rw[dR];by_cases e:q.1=x
  ·simp only[e,ne_eq,not_true_eq_false,iV,ay,bf];rw[ih,look];by_cases ey:y=x
   ·rw[ak ey,ak ey]
   ·rw[aj ey,aj ey,aj (by rw[e];exact a5 ey)]
  ·simp only[ne_eq,e,not_false_eq_true,iJ,bN];rw[look,look,ih];by_cases ey:q.1=y
   ·rw[ak ey,ak ey,aj (by rw[<- ey];exact e)]
   ·rw[aj ey,aj ey]
theorem GD.range {p:Int}{m:Pt}(hp:0<p)(h:GD p m)(x:Int):0<=look m x /\ look m x<p:=by
 by_cases hx: ∃z∈m,z.1=x
 ·obtain⟨z,hz,rfl⟩:=hx;rw[ju h.1 hz];have:=h.2 z hz;lia
 ·rw[eZ λz hz e=>hx ⟨z,hz,e⟩];lia
theorem GD.drop {p:Int}{m:Pt}(h:GD p m)(x:Int):GD p (gR m x):=by refine⟨h.1.sublist (List.Sublist.map _ QW),λz hz=>h.2 z (aP.mp hz).1⟩
theorem K4 {m:Pt}{x v:Int}{z:Int×Int}(h:z∈mT m x v):z=(x,v) \/ z∈m:=by
 unfold mT at h;split at h
 ·obtain⟨q,hq,e⟩:=af.mp h;split at e
  ·rename_i e2;left;rw[<- e,e2]
  ·right;rw[<- e];exact hq
 ·rcases ax.mp h with h | h
  ·exact .inr h
  ·exact .inl (ah.mp h)
theorem GD.put {p:Int}{m:Pt}(h:GD p m){x v:Int}(h0:0<v)(h1:v<p):GD p (mT m x v):=⟨wK h.1,λz hz=>by
 rcases K4 hz with rfl | hz
 ·exact⟨h0,h1⟩
 ·exact h.2 z hz⟩
theorem Lv {m:Pt}{x:Int}(h:look m x≠0):(fu (f' m) (.inl x)).isSome=true:=by
 rw[vT];rcases mJ (m:=m) (x:=x) with⟨_,e,_⟩ | ⟨q,e,_⟩
 ·exact absurd e h
 ·rw[e];rfl
def NZ (p n:Int):Prop:= ∀y,0<y ->y<p ->y*n % p≠0
def MD (pH:Int)(b:Pt):Pt:=b.map λz=>(z.1+pH,z.2)
theorem Bg (pH:Int): ∀ (b:Pt) (x:Int),dP (MD pH b) x=dP b (x - pH)
 | [],x=>rfl
 | z::r,x=>by
  show dP ((z.1+pH,z.2)::MD pH r) x=_;rw[dP,dP,Bg pH r x];by_cases e:z.1+pH=x
  ·rw[ak e,ak (by lia)]
  ·rw[aj e,aj (by lia)]
def Tv:mN:=λxs M q=> ∃ (h o:Addr) (p pH n:Int) (a b:Pt),xs= [wi p,wr h,wr o,wi pH,wi n] /\ h≠o /\ M h=some (.dK (f' a)) /\ M o=some (.dK (f' b)) /\ 0<p /\ p<1000 /\ GD p a /\ GD p b /\ NZ p n /\ a.length+b.length<=16000000 /\∀c,GD p c ->c.length<=a.length+b.length ->(∀x,look c x=(look a x+look b (x - pH)*n) % p) ->q wn (um M h (.dK (f' c)))
theorem DG (m:Pt)(x:Int):(gR m x).length<=m.length:=eR _ _
def Pb (C:Addr):mN:=λxs M q=> ∃ (s dx:Addr) (l r:W),xs= [wr s,l,r] /\ M s=some (.ins C dx []) /\ q wn (um M s (.ins C dx [("lamps",l),("parts",r)]))
def GS (R C:Addr):mN:=λxs M q=> ∃ (s dx r dr:Addr) (l u f g e:W),xs= [wr s,wr r,f,g,e] /\ s≠r /\ M s=some (.ins C dx []) /\ M r=some (.ins R dr [("lamps",l),("parts",u)]) /\ q wn (um M s (.ins C dx [("lamps",l),("parts",u),("first",f),("length",g),("foot",e)]))
end WQ
namespace WL
open PySem L2
theorem sDDelW_e {a b:WE}{D:kA}{ρ:dB}{M:Mp}:z8 a b D ρ M=a ρ M λx M1=>b ρ M1 λy M2=>hW x λp=>qm y λk=>kS (M2 p) λkvs=>jA ((fu kvs k).isSome=true) (D.nx ρ (um M2 p (.dK (vc kvs k)))):=by
 unfold z8 hW qm kS jA;congr 1;funext x M1;congr 1;funext y M2;apply propext;constructor
 ·rintro⟨p,kvs,k,e1,e2,e3,e4,h⟩;exact⟨p,e1,k,e3,kvs,e2,e4,h⟩
 ·rintro⟨p,e1,k,e3,kvs,e2,e4,h⟩;exact⟨p,kvs,k,e1,e2,e3,e4,h⟩
end WL
namespace WQ
open PySem L2 WL WP
abbrev Pq:=List (Int×Addr×Pt)
def nZ (P:Pq):List (Key×W):=P.map λt=>((Sum.inl t.1:Key),wr t.2.1)
def pf (P:Pq)(w:Int):Pt:=match P.find? (λt=>decide (t.1=w)) with
 | some t=>t.2.2
 | none=> []
def bL (rl rp:Addr)(P:Pq):List Addr:=rl::rp::P.map λt=>t.2.1
structure cL (p:Int)(M:Mp)(rl rp:Addr)(a:Pt)(P:Pq):Prop where
 lam:M rl=some (.dK (f' a))
 par:M rp=some (.dK (nZ P))
 Ci: ∀t∈P,M t.2.1=some (.dK (f' t.2.2))
 ga:GD p a
 gp: ∀t∈P,GD p t.2.2
 pU:(P.map (·.1)).Nodup
 MY:(bL rl rp P).Nodup
def fC (M M':Mp)(L:List Addr):Prop:= ∀d o,M d=some o ->d∉L ->M' d=some o
theorem fC.trans {M M1 M2:Mp}{L L':List Addr}(h:fC M M1 L)(h':fC M1 M2 L')(hs: ∀x∈L',x∈L \/ M x=none):fC M M2 L:=λd o e n=>h' d o (h d o e n) λhd=>(hs d hd).elim n λz=>by rw[e] at z;cases z
theorem fC.sm {M M':Mp}(h:Sm M M')(L:List Addr):fC M M' L:=λd o e _=>h d o e
theorem ip {α β:Type}{f:α ->β}: ∀ {l:List α},(l.map f).Nodup -> ∀ {x y:α},x∈l ->y∈l ->f x=f y ->x=y
 | [],_,x,_,hx,_,_=>by cases hx
 | z ::r,h,x,y,hx,hy,e=>by
  rw[aH,bw] at h;rcases av.mp hx with ex | hx
  ·rcases av.mp hy with ey | hy
   ·rw[ex,ey]
   ·exact absurd (af.mpr ⟨y,hy,by rw[<- e,ex]⟩) h.1
  ·rcases av.mp hy with ey | hy
   ·exact absurd (af.mpr ⟨x,hx,by rw[e,ey]⟩) h.1
   ·exact ip h.2 hx hy e
theorem find_some {P:Pq}{w:Int}{t:Int×Addr×Pt}(h:P.find? (λt=>decide (t.1=w))=some t):t∈P /\ t.1=w:=⟨lG h,by simpa using zG h⟩
theorem find_none {P:Pq}{w:Int}(h:P.find? (λt=>decide (t.1=w))=none):w∉P.map (·.1):=λhm=>by obtain⟨t,ht,e⟩:=af.mp hm;have:=tW.mp h t ht;simp[e] at this
theorem vS (P:Pq)(w:Int):fu (nZ P) (.inl w)=(P.find? λt=>decide (t.1=w)).map λt=>wr t.2.1:=by
 induction P with
 | nil=>rfl
 | cons t r ih=>
  unfold fu nZ at ih ⊢;rw[aH,cM,cM];have e:decide ((Sum.inl t.1:Key)=Sum.inl w)=decide (t.1=w):=wW _ _;simp only[e];cases decide (t.1=w) with
  | true=>rfl
  | false=>exact ih
theorem Gr {P:Pq}{w:Int}{e:Addr}{c:Pt}(h:w∉P.map (·.1)):ki (nZ P) (.inl w) (wr e)=nZ (P++ [(w,e,c)]):=by
 unfold ki;have:((nZ P).any λkv=>decide (kv.1=Sum.inl w))=false:=by rw[List.any_eq_false];intro kv DV;obtain⟨t,ht,rfl⟩:=af.mp DV;simp only[cq,Sum.inl.injEq];exact λew=>h (af.mpr ⟨t,ht,ew⟩)
 rw[this];unfold nZ;rw[aN];rfl
def nD (P:Pq)(w:Int)(c:Pt):Pq:=P.map λu=>if u.1=w then(u.1,u.2.1,c) else u
theorem KD (P:Pq)(w:Int)(c:Pt):nZ (nD P w c)=nZ P:=by unfold nZ nD;rw[aD];apply bF;intro t _;simp only[Function.comp];split<;>rfl
theorem zk (P:Pq)(w:Int)(c:Pt):(nD P w c).map (λt=>t.2.1)=P.map λt=>t.2.1:=by unfold nD;rw[aD];apply bF;intro t _;simp only[Function.comp];split<;>rfl
theorem yF (P:Pq)(w:Int)(c:Pt):(nD P w c).map (·.1)=P.map (·.1):=by unfold nD;rw[aD];apply bF;intro t _;simp only[Function.comp];split<;>rfl
theorem jP (t:Int×Addr×Pt)(P:Pq)(w:Int):pf (t::P) w=if t.1=w then t.2.2 else pf P w:=by
 unfold pf;rw[cM];by_cases e:t.1=w
 ·simp[e]
 ·simp[e]
theorem BP {P:Pq}{w:Int}{c:Pt}(v:Int)(h:w∈P.map (·.1)):pf (nD P w c) v=if v=w then c else pf P v:=by
 induction P with
 | nil=>cases h
 | cons t r ih=>
  show pf ((if t.1=w then(t.1,t.2.1,c) else t)::nD r w c) v=_;by_cases e:t.1=w
  ·rw [ak e,jP,jP];by_cases ev:v=w
   ·rw[ak (show t.1=v by rw[ev,e]),ak ev]
   ·rw [aj (show ¬t.1=v from λz=>ev (z.symm.trans e)),aj ev,aj (show ¬t.1=v from λz=>ev (z.symm.trans e))];by_cases hr:w∈r.map (·.1)
    ·rw[ih hr,aj ev]
    ·have:nD r w c=r:=by unfold nD;refine(bF (g:=id) λu hu=> ?_).trans (Oc r);exact aj λeu=>hr (af.mpr ⟨u,hu,eu⟩)
     rw[this]
  ·rw[aj e,jP,jP];have hr:w∈r.map (·.1):=by
    rcases av.mp (show w∈t.1::r.map (·.1) from h) with z | z
    ·exact absurd z.symm e
    ·exact z
   by_cases ev:t.1=v
   ·rw[ak ev,ak ev,aj (λz=>e (ev.trans z))]
   ·rw[aj ev,aj ev,ih hr]
theorem Ae {P:Pq}{w:Int}{e:Addr}{c:Pt}(v:Int)(h:w∉P.map (·.1)):pf (P++ [(w,e,c)]) v=if v=w then c else pf P v:=by
 induction P with
 | nil=>
  rw[List.nil_append,jP];by_cases ev:v=w
  ·rw[ak ev.symm,ak ev]
  ·rw[aj (a5 ev),aj ev]
 | cons t r ih=>
  rw[jF,jP,jP];have hr:w∉r.map (·.1):=λz=>h (aw _ z);by_cases ev:t.1=v
  ·rw[ak ev,ak ev,aj (λz=>h (by rw[<- z, <- ev];exact aE))]
  ·rw[aj ev,aj ev,ih hr]
theorem rM {P:Pq}{w:Int}(h:w∉P.map (·.1)):pf P w= []:=by
 unfold pf;cases e:P.find? (λt=>decide (t.1=w)) with
 | none=>rfl
 | some t=>obtain⟨h1,h2⟩:=find_some e;exact absurd (af.mpr ⟨t,h1,h2⟩) h
theorem sE {P:Pq}(h:(P.map (·.1)).Nodup){t:Int×Addr×Pt}(ht:t∈P):pf P t.1=t.2.2:=by
 induction P with
 | nil=>cases ht
 | cons u r ih=>
  rw[aH,bw] at h;rw[jP];rcases av.mp ht with rfl | pd
  ·rw[ak rfl]
  ·rw[aj (λe=>h.1 (af.mpr ⟨t,pd,e.symm⟩))];exact ih h.2 pd
section
variable {p:Int}{M M':Mp}{rl rp:Addr}{a:Pt}{P:Pq}
theorem cL.same (h:cL p M rl rp a P)(hk: ∀d∈bL rl rp P,M' d=M d):cL p M' rl rp a P:=⟨(hk rl (by simp[bL])).trans h.lam,(hk rp (by simp[bL])).trans h.par,λt ht=>(hk _ (by simp only[bL,av,af];exact .inr (.inr ⟨t,ht,rfl⟩))).trans (h.Ci t ht),h.ga,h.gp,h.pU,h.MY⟩
theorem cL.mem (h:cL p M rl rp a P){d:Addr}(hd:d∈bL rl rp P): ∃kvs,M d=some (.dK kvs):=by
 simp only[bL,av,af] at hd;rcases hd with rfl | rfl | ⟨t,ht,rfl⟩
 ·exact⟨_,h.lam⟩
 ·exact⟨_,h.par⟩
 ·exact⟨_,h.Ci t ht⟩
theorem cL.keep (h:cL p M rl rp a P){L:List Addr}(hk:fC M M' L)(hd: ∀d∈bL rl rp P,d∉L):cL p M' rl rp a P:=h.same λd mV=>by obtain⟨kvs,e⟩:=h.mem mV;rw[e];exact hk d _ e (hd d mV)
theorem cL.X4 (h:cL p M rl rp a P){c:Pt}(gc:GD p c):cL p (um M rl (.dK (f' c))) rl rp c P:=by
 have nd:=bw.mp h.MY;refine⟨um_same,?_,λt ht=> ?_,gc,h.gp,h.pU,h.MY⟩
 ·rw[aJ (λe=>nd.1 (by rw[<- e];exact aE))];exact h.par
 ·rw[aJ (λe=>nd.1 (by rw[<- e];exact aw _ (af.mpr ⟨t,ht,rfl⟩)))];exact h.Ci t ht
theorem cL.set (h:cL p M rl rp a P){t:Int×Addr×Pt}(ht:t∈P){c:Pt}(gc:GD p c):cL p (um M t.2.1 (.dK (f' c))) rl rp a (nD P t.1 c):=by
 have nd:=bw.mp h.MY;have V0:=bw.mp nd.2;have ea:bL rl rp (nD P t.1 c)=bL rl rp P:=by unfold bL;rw[zk]
 refine⟨?_,?_,λu hu=> ?_,h.ga,λu hu=> ?_,by rw[yF];exact h.pU,by rw[ea];exact h.MY⟩
 ·rw[aJ (λe=>nd.1 (by rw[e];exact aw _ (af.mpr ⟨t,ht,rfl⟩)))];exact h.lam
 ·rw[aJ (λe=>V0.1 (by rw[e];exact af.mpr ⟨t,ht,rfl⟩)),KD];exact h.par
 ·obtain⟨v,hv,rfl⟩:=af.mp hu;by_cases e:v.1=t.1
  ·rw[ak e];have:v=t:=ip h.pU hv ht e;rw[this];exact um_same
  ·rw[aj e,aJ (λea=> ?_)]
   ·exact h.Ci v hv
   ·exact e (by rw[ip V0.2 hv ht ea])
 ·obtain⟨v,hv,rfl⟩:=af.mp hu;split
  ·exact gc
  ·exact h.gp v hv
theorem cL.new (h:cL p M rl rp a P){w:Int}{e:Addr}{c:Pt}(he:M e=none)(hw:w∉P.map (·.1))(gc:GD p c):cL p (um (um M e (.dK (f' c))) rp (.dK (nZ (P++ [(w,e,c)])))) rl rp a (P++ [(w,e,c)]):=by
 have nd:=bw.mp h.MY;have V0:=bw.mp nd.2;have ne: ∀d∈bL rl rp P,d≠e:=λd hd z=>by obtain⟨kvs,q⟩:=h.mem hd;rw[z,he] at q;cases q
 have erl:=ne rl (by simp[bL]);have erp:=ne rp (by simp[bL]);have ein: ∀t∈P,t.2.1≠e:=λt ht=>ne _ (by simp only[bL,av,af];exact .inr (.inr ⟨t,ht,rfl⟩));refine⟨?_,um_same,λu hu=> ?_,h.ga,λu hu=> ?_,?_,?_⟩
 ·rw[aJ (λz=>nd.1 (by rw[z];exact aE)),aJ erl];exact h.lam
 ·rcases ax.mp hu with hu | hu
  ·rw[aJ (λz=>V0.1 (by rw[<- z];exact af.mpr ⟨u,hu,rfl⟩)),aJ (ein u hu)];exact h.Ci u hu
  ·rw[ah.mp hu,aJ (a5 erp),um_same]
 ·rcases ax.mp hu with hu | hu
  ·exact h.gp u hu
  ·rw[ah.mp hu];exact gc
 ·rw[aN];refine l3.mpr ⟨h.pU,by simp,λx hx y hy=> ?_⟩;simp at hy;subst hy;exact λz=>hw (z▸hx)
 ·have:bL rl rp (P++ [(w,e,c)])=bL rl rp P++ [e]:=by unfold bL;rw[aN];rfl
  rw[this];refine l3.mpr ⟨h.MY,by simp,λx hx y hy=> ?_⟩;simp at hy;subst hy;exact ne x hx
end
def tQ (R S:Addr)(M:Mp)(o ol op:Addr):Prop:=(∃d,M o=some (.ins R d [("lamps",wr ol),("parts",wr op)])) \/ ∃d f g e,M o=some (.ins S d [("lamps",wr ol),("parts",wr op),("first",f),("length",g),("foot",e)])
theorem tQ.keep {R S:Addr}{M M':Mp}{o ol op:Addr}{L:List Addr}(h:tQ R S M o ol op)(k:fC M M' L)(n:o∉L):tQ R S M' o ol op:=h.imp (λ⟨d,e⟩=>⟨d,k _ _ e n⟩) λ⟨d,f,g,e',e⟩=>⟨d,f,g,e',k _ _ e n⟩
def MW (R S:Addr):mN:=λxs M q=> ∃ (r rl rp o ol op:Addr) (p s sh n:Int) (a b:Pt) (P Q:Pq) (B C:Nat),xs= [wi p,wi s,wr r,wr o,wi sh,wi n] /\ tQ R S M r rl rp /\ tQ R S M o ol op /\ 0<p /\ p<1000 /\ 0<=s /\ s<2 ^ 30 /\ NZ p n /\cL p M rl rp a P /\ cL p M ol op b Q /\ (∀x∈bL rl rp P,x∉bL ol op Q) /\ a.length+b.length<=16000000 /\ P.length+Q.length<=16000000 /\ (∀t∈P,t.2.2.length<=B) /\ (∀t∈Q,t.2.2.length<=C) /\ B+C<=16000000 /\∀ M' c P',cL p M' rl rp c P' ->(∀x,look c x=(look a x+look b (x - s*sh)*n) % p) ->(∀w x,look (pf P' w) x=(look (pf P w) x+look (pf Q w) (x - sh)*n) % p) ->fC M M' (bL rl rp P) ->(∀x∈bL rl rp P',x∈bL rl rp P \/ M x=none) ->(∀x∈bL rl rp P,x∈bL rl rp P') ->c.length<=a.length+b.length ->P'.length<=P.length+Q.length ->(∀t∈P',t.2.2.length<=B+C) ->(∀w∈P'.map (·.1),w∈P.map (·.1) \/ w∈Q.map (·.1)) ->q wn M'
theorem BO {Q:Pq}{i:Nat}{t:Int×Addr×Pt}(hn:(Q.map (·.1)).Nodup)(h:Q[i]? =some t)(w:Int):pf (Q.take (i+1)) w=if w=t.1 then t.2.2 else pf (Q.take i) w:=by
 have YA:t.1∉(Q.take i).map (·.1):=λhm=>by rw[mP] at hm;obtain⟨j,hj,e⟩:=gF.mp hm;rw[a6,aa] at hj;rw[List.getElem_take] at e;obtain⟨hi,e2⟩:=ag.mp h;have:=bj.mp hn j i (by simp;lia) (by simpa using hi) (by lia);apply this;rw[e];simp[e2]
 rw[bD,h];obtain⟨t1,t2,t3⟩:=t;exact Ae w YA
theorem FD {Q:Pq}{i:Nat}{t:Int×Addr×Pt}(hn:(Q.map (·.1)).Nodup)(h:Q[i]? =some t):t.1∉(Q.take i).map (·.1):=λhm=>by rw[mP] at hm;obtain⟨j,hj,e⟩:=gF.mp hm;rw[a6,aa] at hj;rw[List.getElem_take] at e;obtain⟨hi,e2⟩:=ag.mp h;have:=bj.mp hn j i (by simp;lia) (by simpa using hi) (by lia);apply this;rw[e];simp[e2]
theorem GD.nil {p:Int}:GD p []:=⟨lg,λz hz=>by cases hz⟩
theorem fS {p:Int}{m:Pt}(p0:0<p)(h:GD p m)(x:Int):look m x % p=look m x:=cW (h.range p0 x).1 (h.range p0 x).2
theorem cL.GH {p:Int}{M:Mp}{rl rp:Addr}{a:Pt}{P:Pq}(h:cL p M rl rp a P)(w:Int):GD p (pf P w):=by
 unfold pf;cases e:P.find? (λt=>decide (t.1=w)) with
 | none=>exact GD.nil
 | some t=>exact h.gp t (find_some e).1
def pB (a:Int)(n:Nat):List Int:=(List.range n).map λ(k:Nat)=>a - (k:Int)
def zO (a:Int)(n:Nat):List Int:=(List.range n).map λ(k:Nat)=>a+(k:Int)
def t7 (ns:List Int)(len:Int):List Int:=if len=0 \/ ns= [] then ns else pB (ns.getLastD 0) (ns.getLastD 0 - (len - 1)).toNat++zO (ns.headD 0) (0 - ns.headD 0).toNat
def Xv:mN:=λxs M q=> ∃ (f:Addr) (ns:List Int) (len:Int),xs= [wr f,wi len] /\ M f=some (.lst (ns.map wi)) /\ 0<=len /\ len<4000000 /\ ns.length<=16000000 /\ (∀x∈ns, -4000000<x /\ x<4000000) /\ ∀p M',Sm M M' ->M' p=some (.lst ((t7 ns len).map wi)) ->q (wr p) M'
end WQ
namespace WL
open PySem L2
theorem Fx {M:Mp}{x:Addr}{l:List W}{k:Bool ->Prop}(h:M x=some (.lst l)):OI M (.v (.ref x)) k=k (!l.isEmpty):=by
 apply propext;constructor
 ·rintro⟨b,⟨l',h1,h2⟩ | ⟨l',h1,_⟩,z⟩
  ·rw[h] at h1;cases h1;rw[h2] at z;exact z
  ·rw[h] at h1;cases h1
 ·intro z;exact⟨_, .inl ⟨l,h,rfl⟩,z⟩
theorem Fm {a:WA}{ρ:dB}{M:Mp}{q:WK}:Fn a ρ M q=a ρ M λxs M1=> ∃i j:Int,xs= [wi i,wi j,wi (-1)] /\ A2 i j (-1) /\ (i - j).toNat<=16000000 /\ sL M1 λl=>q (wr l) (um M1 l (.lst (CC i (i - j).toNat))):=rfl
end WL
namespace WQ
open PySem L2 WL WP
theorem mw {l:List Int}(h:l≠ []):l.getLastD 0∈l:=by
 induction l using WP.iq with
 | h0=>exact absurd rfl h
 | h1 l a _=>simp
def kb (len h:Int):Int:=if h<0 then h else h - len
structure Hs (hs:List Int)(len:Int):Prop where
 out: ∀h∈hs,h<0 \/ len<=h
 ord: ∀ (i j:Nat) h g,j<i ->hs[i]? =some h ->hs[j]? =some g ->¬(0<=g - kb len h /\ g - kb len h<=len)
 clo: ∀h∈hs, ∀y,kb len h<=y ->y<=kb len h+len ->y∈hs \/ (0<=y /\ y<len)
theorem mq {a x:Int}{n:Nat}:x∈pB a n↔a - n<x /\ x<=a:=by
 unfold pB;rw[af];constructor
 ·rintro⟨k,hk,rfl⟩;have:=c7.mp hk;lia
 ·rintro⟨h1,h2⟩;exact⟨(a - x).toNat,c7.mpr (by lia),by lia⟩
theorem oT {a x:Int}{n:Nat}:x∈zO a n↔a<=x /\ x<a+n:=by
 unfold zO;rw[af];constructor
 ·rintro⟨k,hk,rfl⟩;have:=c7.mp hk;lia
 ·rintro⟨h1,h2⟩;exact⟨(x - a).toNat,c7.mpr (by lia),by lia⟩
theorem zj {a x:Int}{n i:Nat}(h:(pB a n)[i]? =some x):i<n /\ x=a - i:=by
 unfold pB at h;rw[aA] at h;by_cases hi:i<n
 ·rw[fF hi] at h;cases h;exact⟨hi,rfl⟩
 ·rw[cZ (by simp;lia)] at h;cases h
theorem IZ {a x:Int}{n i:Nat}(h:(zO a n)[i]? =some x):i<n /\ x=a+i:=by
 unfold zO at h;rw[aA] at h;by_cases hi:i<n
 ·rw[fF hi] at h;cases h;exact⟨hi,rfl⟩
 ·rw[cZ (by simp;lia)] at h;cases h
theorem Cm {l:List Int}(h:l.Pairwise (· <= ·)): ∀x∈l,l.headD 0<=x:=by
 cases l with
 | nil=>intro x hx;cases hx
 | cons a r=>
  intro x hx;rcases av.mp hx with rfl | hx
  ·exact aV _
  ·exact(bT.mp h).1 x hx
theorem FA {ns:List Int}{len:Int}(l0:0<=len)(hs:ns.Pairwise (· <= ·))(hn:ns.Nodup):Hs (t7 ns len) len /\ ∀y∈ns,y∈t7 ns len \/ (0<=y /\ y<len):=by
 unfold t7;by_cases hc:len=0 \/ ns= []
 ·rw [ak hc];rcases hc with hz | hz
  ·subst hz;refine⟨⟨λh _=>by lia,λi j h g UL hi hj=> ?_,λh hh y h1 h2=> .inl ?_⟩,λy hy=> .inl hy⟩
   ·have c9:g≠h:=λe=>by obtain⟨a1,a2⟩:=ag.mp hi;obtain⟨b1,b2⟩:=ag.mp hj;exact bj.mp hn j i b1 a1 UL (by rw[a2,b2,e])
    unfold kb;split<;>lia
   ·have:y=h:=by unfold kb at h1 h2;split at h1<;>lia
    rw[this];exact hh
  ·subst hz;exact⟨⟨(λh hh=>nomatch hh),(λi j h g _ hi _=>by simp at hi),(λh hh=>nomatch hh)⟩,(λy hy=>nomatch hy)⟩
 ·rw [aj hc];have hl:0<len:=by have:=λe=>hc (.inl e);lia
  have c9:ns≠ []:=λe=>hc (.inr e);have Nz:=B6 hs c9;have NC:=Cm hs;generalize ns.getLastD 0=b at Nz;generalize ns.headD 0=a at NC;have mem: ∀x,x∈pB b (b - (len - 1)).toNat++zO a (0 - a).toNat↔(len<=x /\ x<=b) \/ (a<=x /\ x<0):=λx=>by rw[ax,mq,oT];constructor<;>(intro h;lia)
  refine⟨⟨λh hh=> ?_,λi j h g UL hi hj=> ?_,λh hh y h1 h2=> ?_⟩,λy hy=> ?_⟩
  ·rw[mem] at hh;lia
  ·rw [qU] at hi hj;unfold kb;split at hi
   ·obtain⟨_,e1⟩:=zj hi;split at hj
    ·obtain⟨_,e2⟩:=zj hj;have:=(mq (a:=b) (x:=h) (n:=(b - (len - 1)).toNat)).mp (ai hi);split<;>lia
    ·rename_i q1 q2;lia
   ·obtain⟨r1,e1⟩:=IZ hi;split at hj
    ·have:=(mq (a:=b) (x:=g) (n:=(b - (len - 1)).toNat)).mp (ai hj);split<;>lia
    ·obtain⟨_,e2⟩:=IZ hj;split<;>lia
  ·rw[mem] at hh ⊢;unfold kb at h1 h2;split at h1<;>lia
  ·rw[mem];have:=Nz.2 y hy;have:=NC y hy;lia
structure A1 (s p:Int)(b:Pt)(f len foot:Int):Prop where
 ok:kI s f
 l0:0<=len
 s0:s=0 ->len=0
 ge: ∀x,look b x≠0 ->f<=bM s x
 rq: ∀x,look b x≠0 ->bM s x=f ->0<=hI s x /\ hI s x<=len
 top:look b (f+len*s)=1
 bot:look b f*foot % p=1
 ft:0<foot /\ foot<p
theorem zf {s:Int}(x k:Int):bM s (x+k*s)=bM s x:=by
 unfold bM;split
 ·rename_i e;subst e;simp
 ·rw[A3]
theorem rO {s:Int}(h:s≠0)(x k:Int):hI s (x+k*s)=hI s x+k:=by unfold hI;rw[aj h,aj h,Int.add_mul_ediv_right _ _ h]
theorem pk {s f:Int}(ok:kI s f)(h:s≠0)(k:Int):hI s (f+k*s)=k:=by
 rw[rO h];have:hI s f=0:=by
  unfold hI;rw[aj h];rcases ok with z | ⟨z1,z2⟩
  ·exact absurd z h
  ·exact JW z1 z2
 rw[this,bP]
theorem qu {s f x:Int}(s0:0<=s)(e:bM s x=f):x=f+hI s x*s:=by
 rcases RV s0 with h | h
 ·have:=Em (x:=x) h;rw[e] at this;rw[bK];exact this
 ·subst h;have:x=f:=e;rw[this];simp
def dF (g:Int ->Int)(js:List (Int×Int)):Int:=js.foldr (λj r=>g j.1*j.2+r) 0
theorem cf (g:Int ->Int)(j:Int×Int)(js:List (Int×Int)):dF g (j::js)=g j.1*j.2+dF g js:=rfl
theorem uL {p n:Int}(hp:p=2 \/ p=3 \/ p=5 \/ p=7)(hn:n % p≠0):NZ p n:=by
 intro y y0 y1 e;have e2:y*(n % p) % p=0:=by rw[bZ,qW _ (JX p), <- bZ];exact e
 have r0:=cN n (show p≠0 by lia);have r1:=cz n (show 0<p by lia);generalize n % p=r at hn e2 r0 r1;have key: ∀p∈([2,3,5,7]:List Nat), ∀y∈List.range p, ∀r∈List.range p,y≠0 ->r≠0 ->y*r % p≠0:=by decide
 obtain⟨p',rfl⟩:=nr (show 0<=p by lia);obtain⟨y',rfl⟩:=nr (show 0<=y by lia);obtain⟨r',rfl⟩:=nr r0;refine key p' (by simp;lia) y' (c7.mpr (by lia)) r' (c7.mpr (by lia)) (by lia) (by lia) ?_;have:((y'*r' % p':Nat):Int)=0:=by push_cast;exact e2
 lia
structure pS (s p f len:Int)(b a:Pt)(hs:List Int)(i:Nat)(c:Pt)(js:List (Int×Int)):Prop where
 rel: ∀x,look c x=(look a x+dF (λsh=>look b (x - s*sh)) js) % p
 clr: ∀ (j:Nat) g,j<i ->hs[j]? =some g ->look c (f+g*s)=0
 sup: ∀x,bM s x=f ->look c x≠0 ->hI s x∈hs \/ (0<=hI s x /\ hI s x<len)
 PF: ∀x,bM s x<f ->look c x=look a x
section
variable {s p f len foot:Int}{b a c:Pt}{hs:List Int}{i:Nat}{js:List (Int×Int)}{h:Int}
theorem pS.skip (st:pS s p f len b a hs i c js)(hh:hs[i]? =some h)(hz:look c (f+h*s)=0):pS s p f len b a hs (i+1) c js:=⟨st.rel,λj g hj hg=>by
 rcases dU j i with z | z
 ·exact st.clr j g z hg
 ·have:j=i:=by lia
  subst this;rw[hh] at hg;cases hg;exact hz,st.sup,st.PF⟩
theorem iE (s x sh:Int):bM s (x - s*sh)=bM s x:=by have:=zf (s:=s) x (-sh);rw[show x+ -sh*s=x - s*sh by rw[Of,bK s sh];lia] at this;exact this
theorem lR {s:Int}(hs:s≠0)(x sh:Int):hI s (x - s*sh)=hI s x - sh:=by have:=rO hs x (-sh);rw[show x+ -sh*s=x - s*sh by rw[Of,bK s sh];lia] at this;rw[this];lia
theorem pS.step {c':Pt}{n:Int}(F:A1 s p b f len foot)(H:Hs hs len)(s0:0<=s)(p0:0<p)(AG:s=0 -> ∀h∈hs,h=0)(gc:GD p c)(WB:GD p c')(st:pS s p f len b a hs i c js)(hh:hs[i]? =some h) (hn:n=if h<0 then -(look c (f+h*s))*foot else -(look c (f+h*s))) (e: ∀x,look c' x=(look c x+look b (x - s*kb len h)*n) % p):pS s p f len b a hs (i+1) c' ((kb len h,n)::js):=by
 have hm:=ai hh;have quiet: ∀x,look b (x - s*kb len h)=0 ->look c' x=look c x:=λx hx=>by rw[e,hx,bG,bu,fS p0 gc]
 have here:look c' (f+h*s)=0:=by
  rw[e,hn];by_cases lB:h<0
  ·rw[ak lB];have e1:f+h*s - s*kb len h=f:=by unfold kb;rw[ak lB,bK s h];lia
   rw[e1];generalize look c (f+h*s)=v;have e2:v+look b f*(-v*foot)=v - v*(look b f*foot):=by rw[Of,gH, <- dW,bK (look b f) v,dW];lia
   rw[e2,JV,bZ,F.bot];rw[gG,qW _ (JX p),Int.sub_self];rfl
  ·rw[aj lB];have e1:f+h*s - s*kb len h=f+len*s:=by unfold kb;rw[aj lB,bK s (h - len),jZ];lia
   rw[e1,F.top,fU];rw[show look c (f+h*s)+ -look c (f+h*s)=0 by lia];rfl
 refine⟨λx=> ?_,λj g hj hg=> ?_,λx hx c9=> ?_,λx hx=> ?_⟩
 ·rw[e,st.rel,fh,cf,gg,Int.add_comm (dF _ js)]
 ·rcases dU j i with z | z
  ·rw [quiet]
   ·exact st.clr j g z hg
   ·by_cases c9:look b (f+g*s - s*kb len h)=0
    ·exact c9
    ·exfalso;have ug:bM s (f+g*s - s*kb len h)=f:=by rw[iE,F.ok.on]
     have hr:=F.rq _ c9 ug;by_cases xA:s=0
     ·have g0:=AG xA g (ai hg);have h0:=AG xA h hm;have:=H.ord i j h g z hh hg;have l0:=F.s0 xA;subst l0;rw[g0,h0] at this;exact this (by unfold kb;simp)
     ·rw[lR xA,pk F.ok xA] at hr;exact H.ord i j h g z hh hg hr
  ·have:j=i:=by lia
   subst this;rw[hh] at hg;cases hg;exact here
 ·by_cases hb:look b (x - s*kb len h)=0
  ·rw[quiet x hb] at c9;exact st.sup x hx c9
  ·have ug:bM s (x - s*kb len h)=f:=by rw[iE];exact hx
   have hr:=F.rq _ hb ug;by_cases xA:s=0
   ·have h0:=AG xA h hm;have:hI s x=0:=by unfold hI;rw[ak xA]
    left;rw[this, <- h0];exact hm
   ·rw[lR xA] at hr;exact H.clo h hm _ (by lia) (by lia)
 ·rw [quiet x]
  ·exact st.PF x hx
  ·by_cases hb:look b (x - s*kb len h)=0
   ·exact hb
   ·have:=F.ge _ hb;rw[iE] at this;lia
theorem pS.low (st:pS s p f len b a hs hs.length c js)(s0:0<=s): ∀x,bM s x=f ->look c x≠0 ->0<=hI s x /\ hI s x<len:=λx hx c9=>by
 rcases st.sup x hx c9 with z | z
 ·exfalso;obtain⟨j,hj⟩:=bA.mp z;have:=st.clr j _ (ag.mp hj).1 hj;rw[<- qu s0 hx] at this;exact c9 this
 ·exact z
end
def Wt (Z:Int)(m:Pt):Prop:= ∀x,look m x≠0 -> -Z<=x /\ x<=Z
theorem Wt.len {p Z:Int}{m:Pt}(g:GD p m)(h:Wt Z m)(z0:0<=Z):m.length<=(2*Z+1).toNat:=by
 have:=je (l:=zO (-Z) (2*Z+1).toNat) g.1 λk hk=>by
  obtain⟨z,hz,rfl⟩:=af.mp hk;have c9:look m z.1≠0:=by rw[ju g.1 hz];have:=g.2 z hz;lia
  have:=h z.1 c9;exact oT.mpr (by lia)
 rw[aa] at this;unfold zO at this;rw[aa,cV] at this;exact this
theorem mD {s f:Int}{ns:List Int}(hn:ns.Nodup)(s0:0<=s):(qE s f ns).Nodup:=by
 unfold qE;have h2:(ns.filter λx=>decide (bM s x=f)).Nodup:=hn.sublist QW;refine List.Pairwise.map _ (R:=λx y=>x≠y /\ bM s x=f /\ bM s y=f) (λx y h e=> ?_) ?_
 ·exact h.1 (by rw[qu s0 h.2.1,qu s0 h.2.2,e])
 ·refine mQ (λ{x y} hx hy h=>⟨h,?_,?_⟩) h2
  ·simpa using(aP.mp hx).2
  ·simpa using(aP.mp hy).2
def FT (s p f len foot:Int)(b:Pt)(g:Int ->Int)(h:Int):Int ->Int:=if g (f+h*s)=0 then g else λx=>(g x+look b (x - s*kb len h)*(if h<0 then -(g (f+h*s))*foot else -(g (f+h*s)))) % p
def IB (s p f len foot:Int)(b:Pt)(hs:List Int)(g:Int ->Int):Int ->Int:=hs.foldl (FT s p f len foot b) g
theorem vj {s p f len foot:Int}{b:Pt}{hs:List Int}{g:Int ->Int}{i:Nat}{h:Int}(e:hs[i]? =some h):IB s p f len foot b (hs.take (i+1)) g=FT s p f len foot b (IB s p f len foot b (hs.take i) g) h:=by unfold IB;rw[bD,e,List.foldl_append];rfl
theorem L8 {P:Pq}{B:Int}(h: ∀t∈P,Wt B t.2.2)(w:Int):Wt B (pf P w):=by
 unfold pf;cases e:P.find? (λu=>decide (u.1=w)) with
 | none=>intro x hx;exact absurd rfl hx
 | some u=>exact h u (find_some e).1
theorem Wt.up {Z Z':Int}{m:Pt}(h:Wt Z m)(l:Z<=Z'):Wt Z' m:=λx hx=>by have:=h x hx;lia
def Xz (R S:Addr):mN:=λxs M q=> ∃ (r rl rp o ds ol op:Addr) (p s f len foot:Int) (a b:Pt) (P Q:Pq) (B C Z D:Int),xs= [wi p,wi s,wr r,wr o] /\ tQ R S M r rl rp /\M o=some (.ins S ds [("lamps",wr ol),("parts",wr op),("first",wi f),("length",wi len),("foot",wi foot)]) /\ (p=2 \/ p=3 \/ p=5 \/ p=7) /\ 0<=s /\ s<=8 /\ len<3000000 /\ A1 s p b f len foot /\ cL p M rl rp a P /\ cL p M ol op b Q /\ (∀x∈bL rl rp P,x∉bL ol op Q) /\Wt Z a /\ Wt D b /\ 0<=Z /\ Z<=1000000 /\ 0<=D /\ D<=1000000 /\ (∀t∈P,Wt B t.2.2) /\ (∀t∈Q,Wt C t.2.2) /\ 0<=B /\ B<=1000000 /\ 0<=C /\ C<=1000000 /\ P.length+Q.length<=1000 /\∀ M' c P' js,cL p M' rl rp c P' ->(∀x,look c x=(look a x+dF (λsh=>look b (x - s*sh)) js) % p) ->(∀w x,look (pf P' w) x=(look (pf P w) x+dF (λsh=>look (pf Q w) (x - sh)) js) % p) ->(s=0 -> ∀j∈js,j.1=0) ->(∀x,bM s x=f ->look c x≠0 ->0<=hI s x /\ hI s x<len) ->(∀x,bM s x<f ->look c x=look a x) ->Wt (Z+D+s) c ->fC M M' (bL rl rp P) ->(∀x∈bL rl rp P',x∈bL rl rp P \/ M x=none) ->(∀x∈bL rl rp P,x∈bL rl rp P') ->(∀t∈P',Wt (max B (C+Z+1)) t.2.2) ->(∀w∈P'.map (·.1),w∈P.map (·.1) \/ w∈Q.map (·.1)) ->(∃ms:List Int,ms.Perm (qE s f (eG a)) /\ ms.Pairwise (· <= ·) /\ look c=IB s p f len foot b (t7 ms len) (look a) /\ ∀j∈js, ∃h∈t7 ms len,j.1=kb len h) ->(∀j∈js, -Z - 1<=j.1 /\ j.1<=Z) ->q wn M'
theorem Ht {P P' Q:Pq}(hn:(P'.map (·.1)).Nodup)(h: ∀w∈P'.map (·.1),w∈P.map (·.1) \/ w∈Q.map (·.1)):P'.length<=P.length+Q.length:=by have:=je (l:=P.map (·.1)++Q.map (·.1)) hn λk hk=>ax.mpr (h k hk);rw[aa,aL,aa,aa] at this;exact this
theorem oV (a:Pt):(f' a).map (λkv=>gd kv.1)=(eG a).map wi:=by unfold f' eG;rw[aD,aD];rfl
theorem U5 {s f x Z:Int}(s0:0<=s)(s8:s<=8)(h: -Z<=x /\ x<=Z)(z0:0<=Z): -Z - 1<=hI s x /\ hI s x<=Z:=by
 unfold hI;split
 ·lia
 ·rename_i hs;have We:1<=s:=by lia
  have h1:=pY x s;have h2:=cN x hs;have h3:=cz x (show 0<s by lia);generalize x / s=y at h1;generalize x % s=m at h1 h2 h3;constructor
  ·rcases dX y (-Z - 1) with q | q
   ·have:s*y<=s*(-Z - 2):=aZ (by lia) (by lia);have e:s*(-Z - 2)= -(s*Z) - 2*s:=by rw[Int.mul_sub,gH];lia
    have:Z<=s*Z:=by have:=bg We z0;lia
    lia
   ·exact q
  ·rcases dX Z y with q | q
   ·have:s*(Z+1) <=s*y:=aZ (by lia) (by lia);have e:s*(Z+1)=s*Z+s:=by rw[iN];lia
    have:Z<=s*Z:=by have:=bg We z0;lia
    lia
   ·exact q
theorem FC {ns:List Int}{len h:Int}(l0:0<=len)(hh:h∈t7 ns len):(h<0 -> ∃m∈ns,m<=h) /\ (0<=h -> ∃m∈ns,h<=m):=by
 unfold t7 at hh;by_cases hc:len=0 \/ ns= []
 ·rw[ak hc] at hh;exact⟨λ_=>⟨h,hh,aV _⟩,λ_=>⟨h,hh,aV _⟩⟩
 ·rw[aj hc,ax,mq,oT] at hh;have c9:ns≠ []:=λe=>hc (.inr e);have hl:0<len:=by have:=λe=>hc (.inl e);lia
  have h1:ns.getLastD 0∈ns:=mw c9;have h2:ns.headD 0∈ns:=by cases ns with | nil=>exact absurd rfl c9 | cons x r=>exact aE
  exact⟨λz=>⟨_,h2,by lia⟩,λz=>⟨_,h1,by lia⟩⟩
theorem Ke {ns:List Int}{len Z:Int}{n:Nat}(l0:0<=len)(z0:0<=Z)(hb: ∀x∈ns, -Z - 1<=x /\ x<=Z)(hn:ns.length<=n):(t7 ns len).length<=max n (2*Z+2).toNat:=by
 unfold t7;by_cases hc:len=0 \/ ns= []
 ·rw[ak hc];lia
 ·rw[aj hc,aL];have c9:ns≠ []:=λe=>hc (.inr e);have hl:0<len:=by have:=λe=>hc (.inl e);lia
  have h1:ns.getLastD 0∈ns:=mw c9;have h2:ns.headD 0∈ns:=by cases ns with | nil=>exact absurd rfl c9 | cons x r=>exact aE
  have b1:=hb _ h1;have b2:=hb _ h2;unfold pB zO;rw[aa,aa,cV,cV];lia
theorem AL {s x:Int}(s0:0<s):x - s<s*hI s x /\ s*hI s x<=x:=by unfold hI;rw[aj (by lia)];have h1:=pY x s;have h2:=cN x (show s≠0 by lia);have h3:=cz x s0;exact⟨by lia,by lia⟩
theorem cJ {m:Pt}{x:Int}(h:look m x≠0):x∈eG m:=by
 rcases mJ (m:=m) (x:=x) with⟨h1,h2,_⟩ | ⟨q,h1,h2⟩
 ·exact absurd h2 h
 ·have h3:=zG h1;have h4:=lG h1;refine af.mpr ⟨q,h4,?_⟩;first | exact of_decide_eq_true h3 | exact n8.mp h3 | simpa using h3
theorem eD {p:Int}{a:Pt}(ga:GD p a){x:Int}(h:x∈eG a):0<look a x /\ look a x<p:=by obtain⟨z,hz,rfl⟩:=af.mp h;rw[ju ga.1 hz];exact ga.2 z hz
theorem xn {s f h:Int}{a:Pt}(s0:0<=s)(hh:h∈qE s f (eG a)):f+h*s∈eG a /\ bM s (f+h*s)=f:=by
 obtain⟨x,hx,e⟩:=af.mp hh;have h1:=(aP.mp hx).1;have h2:bM s x=f:=by simpa using(aP.mp hx).2
 have h3:=qu s0 h2;rw[e] at h3;rw[<- h3];exact⟨h1,h2⟩
theorem lO {s f x:Int}{a:Pt}(h:x∈eG a)(e:bM s x=f):hI s x∈qE s f (eG a):=af.mpr ⟨x,aP.mpr ⟨h,by simpa using e⟩,rfl⟩
theorem xj {s x:Int}(s0:0<=s):kI s (bM s x):=by
 unfold kI bM;by_cases h:s=0
 ·exact .inl h
 ·rw[aj h];exact .inr ⟨cN _ h,cz _ (by lia)⟩
structure Mn (s f m t:Int)(a:Pt):Prop where
 mn:jD ((eG a).map (bM s)) f
 lo:m∈qE s f (eG a)
 hi:t∈qE s f (eG a)
 bd: ∀h∈qE s f (eG a),m<=h /\ h<=t
theorem Mn.ok {s f m t:Int}{a:Pt}(h:Mn s f m t a)(s0:0<=s):kI s f:=by obtain⟨x,_,e⟩:=af.mp h.mn.1;rw[<- e];exact xj s0
theorem xP {f t m s:Int}:f+(t - m)*s+s*m=f+t*s:=by rw[jZ,bK s m];lia
theorem Dj {s p f m t tn foot:Int}{a b:Pt}(p1:1<p)(s0:0<=s)(ga:GD p a)(N:Mn s f m t a)(Nn:tn*look a (f+t*s) % p=1)(e: ∀x,look b x=look a (x+s*m)*tn % p) (UR:foot*look b f % p=1) (f0:0<foot) (f1:foot<p):A1 s p b f (t - m) foot:=by
 have lit: ∀x,look b x≠0 ->x+s*m∈eG a:=λx hx=>cJ λz=>hx (by rw[e,z,bG];rfl);have col: ∀x,bM s (x+s*m)=bM s x:=λx=>by rw[bK];exact zf x m
 refine⟨N.ok s0,by have:=N.bd _ N.lo;lia,λz=> ?_,λx hx=> ?_,λx hx hc=> ?_,?_,by rw[bK];exact UR,f0,f1⟩
 ·obtain⟨x,_,e1⟩:=af.mp N.lo;obtain⟨y,_,e2⟩:=af.mp N.hi;rw[<- e1, <- e2];unfold hI;rw[ak z,ak z];rfl
 ·rw[<- col x];exact N.mn.2 _ (af.mpr ⟨_,lit x hx,rfl⟩)
 ·have h1:=N.bd _ (lO (lit x hx) ((col x).trans hc));by_cases z:s=0
  ·have h2:=N.bd _ N.lo;unfold hI;rw[ak z];lia
  ·rw[bK,rO z] at h1;lia
 ·rw[e,xP,bK];exact Nn
theorem zZ {s p f m t tn:Int}{a b:Pt}(s0:0<=s)(p0:0<p)(ga:GD p a)(N:Mn s f m t a)(nz:NZ p tn)(e: ∀x,look b x=look a (x+s*m)*tn % p):0<look b f /\ look b f<p:=by have h1:=eD ga (xn s0 N.lo).1;have h2:=nz _ h1.1 h1.2;rw[e,bK s m];have h3:=cN (look a (f+m*s)*tn) (show p≠0 by lia);have h4:=cz (look a (f+m*s)*tn) p0;lia
theorem T3 {s:Int}{a:Pt}{ms:List Int}(c9:a≠ [])(c6:ms.Perm (qE s (fR ((eG a).map (bM s))) (eG a)))(iU:ms.Pairwise (· <= ·)): ms≠ [] /\ Mn s (fR ((eG a).map (bM s))) (ms.headD 0) (ms.getLastD 0) a:=by
 have uW:eG a≠ []:=λe=>c9 (kF.mp e);have mn:=gm (l:=(eG a).map (bM s)) (λe=>uW (kF.mp e));obtain⟨x,hx,e⟩:=af.mp mn.1;have pV:ms≠ []:=λz=>by have:=c6.mem_iff.mpr (lO hx e);rw[z] at this;cases this
 have hl:=B6 iU pV;refine⟨pV,mn,c6.mem_iff.mp ?_,c6.mem_iff.mp (mw pV),λh hh=>⟨Cm iU h (c6.mem_iff.mpr hh),hl.2 h (c6.mem_iff.mpr hh)⟩⟩;cases ms with | nil=>exact absurd rfl pV | cons x r=>exact aE
def Pa (R S:Addr):mN:=λxs M q=> ∃ (r dr rl rp:Addr) (p s:Int) (a:Pt) (P:Pq) (B:Nat) (D:Int),xs= [wi p,wi s,wr r] /\ M r=some (.ins R dr [("lamps",wr rl),("parts",wr rp)]) /\ (p=2 \/ p=3 \/ p=5 \/ p=7) /\ 0<=s /\ s<=8 /\ cL p M rl rp a P /\ a≠ [] /\ Wt D a /\ 0<=D /\ D<=2000000 /\(∀t∈P,t.2.2.length<=B) /\ B<=8000000 /\ P.length<=1000 /\∀ M' o ds ol op b Q f m t foot tn,M' o=some (.ins S ds [("lamps",wr ol),("parts",wr op),("first",wi f),("length",wi (t - m)),("foot",wi foot)]) ->cL p M' ol op b Q ->A1 s p b f (t - m) foot ->Mn s f m t a ->0<tn ->tn<p ->tn*look a (f+t*s) % p=1 ->(∀x,look b x=look a (x+s*m)*tn % p) ->(∀w x,look (pf Q w) x=look (pf P w) (x+m)*tn % p) ->Sm M M' ->(∀x∈o::bL ol op Q,M x=none) ->(∀t∈Q,t.2.2.length<=B) ->(∀w∈Q.map (·.1),w∈P.map (·.1)) ->q (wr o) M'
end WQ
namespace WL
open PySem L2
theorem MC {p:Addr}{M M':Mp}{o:MO}(h:WQ.kE p M M'):WQ.kE p M (um M' p o):=λb u n e=>by rw[aJ n];exact h b u n e
theorem AX {α β:Type}{l:List α}{fW:α ->W}(gW:β ->W)(R:α ->List W ->Prop)(n:Nat){keep:Mp ->Prop}{M1:Mp}{own:Nat}{fr:List Nat}{ρ:dB}{g:WG}{c:WT}{yG:WI}{g2:WG}{c2:WT}{el:WE}{q:WK} (hz:l.length*n<sizeLine) (kq: ∀p M,M1 p=none ->WQ.kE p M1 M ->keep M) (hs: ∀a∈l, ∀p M ys,M1 p=none ->WQ.kE p M1 M ->M p=some (.lst ys) -> ∀ (B:dB ->List W ->(Mp ->Prop) ->Mp ->Prop) (N0:Mp ->Prop),(∀ρ2 gD (bs:List β) (eW:β ->W) M4,WQ.kE p M M4 ->M4 p=some (.lst ys) ->R a (bs.map eW) ->bs.length<=n ->(∀M',WQ.kE p M4 M' ->gD M') ->(∀b∈bs, ∀M',WQ.kE p M4 M' -> ∀N:Option W ->Mp ->Prop,N (some (eW b)) M' ->g2 (gW b) ρ2 M' λρ3 M5=>c2 ρ3 M5 λb M6=>jv b (el ρ3 M6 λz M7=>N (some z) M7) (N none M6)) ->B ρ2 (bs.map gW) gD M4) ->g (fW a) (capρ own fr ρ) M λρ2 M2=>c ρ2 M2 λb M3=>jv b (yG ρ2 M3 λxw gD M4=>B ρ2 xw gD M4) (N0 M3)) (hq: ∀p M (yss:List (List W)),M1 p=none ->WQ.kE p M1 M ->M p=some (.lst yss.flatten) ->yss.length=l.length ->(∀ (i:Nat) a zs,l[i]? =some a ->yss[i]? =some zs ->R a zs) ->q (wr p) M): xh (l.map fW) keep own fr g c yG g2 c2 el ρ M1 q:=by
 intro p hp;refine⟨λi ys M=>WQ.kE p M1 M /\ M p=some (.lst ys) /\ ∃yss:List (List W),yss.length=i /\ ys=yss.flatten /\ ys.length<=i*n /\ ∀ (j:Nat) a zs,l[j]? =some a ->yss[j]? =some zs ->R a zs,⟨MC (WQ.kE.refl p M1),um_same,[],rfl,rfl,cU _,λj a zs _ h=>by simp at h⟩,?_,?_,?_⟩
 ·rintro i ys M hi ⟨h1,h2,_⟩;exact⟨kq p M hp h1,h2⟩
 ·rintro i x ys M hx ⟨h1,h2,yss,h3,h4,h5,h6⟩;obtain⟨a,ha,rfl⟩:=nK hx;have JA:=(ag.mp ha).1;have jE:(i+1)*n<=l.length*n:=qS _ JA;have UO:(i+1)*n=i*n+n:=by rw[Nat.add_mul,Nat.one_mul]
  refine hs a (ai ha) p M ys hp h1 h2 (λρ2 xw gD M4=>PX xw gD g2 c2 el ρ2 p ys M4 _) (λM3=>_) ?_;intro ρ2 gD bs eW M4 k1 k2 k3 k4 k5 k6;refine⟨λj zs M'=>WQ.kE p M4 M' /\ M' p=some (.lst zs) /\ zs=ys++(bs.take j).map eW,⟨WQ.kE.refl p M4,k2,by simp⟩,?_,?_,?_⟩
  ·rintro j zs M' hj ⟨z1,z2,rfl⟩;refine⟨k5 M' z1,z2,?_⟩;rw[aL,aa,a6];lia
  ·rintro j y zs M' hy ⟨z1,z2,rfl⟩;obtain⟨b,hb,rfl⟩:=nK hy;have e2:bs.take (j+1)=bs.take j++ [b]:=by rw[bD,hb];rfl
   refine k6 b (ai hb) M' z1 (λo M5=>match o with
   | some z=>M5 p=some (.lst (ys++(bs.take j).map eW)) /\ (WQ.kE p M4 (um M5 p (.lst (ys++(bs.take j).map eW++ [z]))) /\ um M5 p (.lst (ys++(bs.take j).map eW++ [z])) p=some (.lst (ys++(bs.take j).map eW++ [z])) /\ ys++(bs.take j).map eW++ [z]=ys++(bs.take (j+1)).map eW)
   | none=>WQ.kE p M4 M5 /\ M5 p=some (.lst (ys++(bs.take j).map eW)) /\ ys++(bs.take j).map eW=ys++(bs.take (j+1)).map eW) ?_
   exact⟨z2,MC z1,um_same,by rw[e2,aN];simp⟩
  ·rintro zs M' ⟨z1,z2,rfl⟩;rw[aa,cn] at*;refine⟨h1.trans (k1.trans z1),z2,yss++ [bs.map eW],by simp[h3],by rw[h4];simp,?_,λj a' zs' yN Rl=> ?_⟩
   ·rw[aL,aa];lia
   ·rw [qU] at Rl;split at Rl
    ·exact h6 j a' zs' yN Rl
    ·rename_i hj;have jH:j=i:=by obtain⟨q1,_⟩:=ag.mp Rl;simp at q1;lia
     subst jH;rw[ha] at yN;cases yN;rw[h3,JP] at Rl;cases Rl;exact k3
 ·rintro ys M ⟨h1,h2,yss,h3,h4,h5,h6⟩;rw[aa] at h3;exact hq p M yss hp h1 (h4▸h2) h3 h6
end WL
namespace WQ
open PySem L2 WL WP
abbrev Part:=Int×Int×Int
def oP (t:Part):W:= .tup [wi t.1,wi t.2.1,wi t.2.2]
def xN (p n:Int)(P:Pq):List Part:=P.flatMap λt=>t.2.2.map λz=>(t.1,z.1,z.2*n % p)
def Tt:mN:=λxs M q=> ∃ (rl rp:Addr) (p n:Int) (a:Pt) (P:Pq) (B:Nat),xs= [wi p,wr rp,wi n] /\ 0<p /\ p<1000 /\ -1000<n /\ n<1000 /\ cL p M rl rp a P /\ P.length<=1000 /\ (∀t∈P,t.2.2.length<=B) /\ B<=16000000 /\ P.length*B<=16000000 /\∀t M' (tl:List Part),Sm M M' ->M t=none ->M' t=some (.lst (tl.map oP)) ->tl.Perm (xN p n P) ->q (wr t) M'
theorem Fz {p n w:Int}{m:Pt}(g:(m.map (·.1)).Nodup){zx:List Int}(h:zx.Perm (eG m)):(zx.map λsh=>((w,sh,look m sh*n % p):Part)).Perm (m.map λz=>(w,z.1,z.2*n % p)):=by
 have h1:=h.map λsh=>((w,sh,look m sh*n % p):Part)
 have e:(eG m).map (λsh=>((w,sh,look m sh*n % p):Part))=m.map λz=>(w,z.1,z.2*n % p):=by unfold eG;rw[aD];apply bF;intro z hz;simp only[Function.comp];rw[ju g hz]
 rw[e] at h1;exact h1
theorem uz {p n:Int}{P:Pq}(hg: ∀w,((pf P w).map (·.1)).Nodup): ∀ {ws:List Int} {yss:List (List W)},yss.length=ws.length ->(∀ (i:Nat) a zs,ws[i]? =some a ->yss[i]? =some zs -> ∃zx:List Int,zx.Perm (eG (pf P a)) /\ zs=zx.map λsh=>oP (a,sh,look (pf P a) sh*n % p)) ->∃tl:List Part,yss.flatten=tl.map oP /\ tl.Perm (ws.flatMap λw=>(pf P w).map λz=>(w,z.1,z.2*n % p))
 | [],[],_,_=>⟨[],rfl, .nil⟩
 | [],_::_,h,_=>by cases h
 | _::_,[],h,_=>by cases h
 | w::ws,zs::yss,h,hR=>by
  obtain⟨zx,h1,e1⟩:=hR 0 w zs rfl rfl;obtain⟨tl,e2,h2⟩:=uz hg (ws:=ws) (yss:=yss) (by simpa using h) λi a z ha hz=>hR (i+1) a z (by simpa using ha) (by simpa using hz);refine⟨(zx.map λsh=>((w,sh,look (pf P w) sh*n % p):Part))++tl,?_,?_⟩
  ·rw[List.flatten_cons,e2,e1,aN,aD];rfl
  ·rw[List.flatMap_cons];exact(Fz (hg w) h1).append h2
theorem Dh {p n:Int}{P:Pq}(nd:(P.map (·.1)).Nodup)(hg: ∀w,((pf P w).map (·.1)).Nodup){ws:List Int}(c6:ws.Perm (P.map (·.1))){yss:List (List W)}(hlen:yss.length=ws.length) (hR: ∀ (i:Nat) a zs,ws[i]? =some a ->yss[i]? =some zs -> ∃zx:List Int,zx.Perm (eG (pf P a)) /\ zs=zx.map λsh=>oP (a,sh,look (pf P a) sh*n % p)): ∃tl:List Part,yss.flatten=tl.map oP /\ tl.Perm (xN p n P):=by
 obtain⟨tl,e,h⟩:=uz hg hlen hR;refine⟨tl,e,h.trans ?_⟩;have h2:=c6.flatMap_right λw=>(pf P w).map λz=>((w,z.1,z.2*n % p):Part)
 refine h2.trans (List.Perm.of_eq ?_);unfold xN;rw[List.flatMap_def,List.flatMap_def,aD];congr 1;apply bF;intro t ht;simp only[Function.comp];rw[sE nd ht]
theorem pF (G:Int ->Int)(x:Int): ∀d:Pt,dF G d=G x*dP d x+dF G (gR d x)
 | []=>by simp[dF,dP,gR]
 | z ::r=>by
  have ih:=pF G x r;rw[cf,ih];unfold gR;rw[dR];by_cases e:z.1=x
  ·rw[aj (by simpa using e)];have:dP (z::r) x=z.2+dP r x:=by show(if z.1=x then z.2 else 0)+dP r x=_;rw[ak e]
   rw[this,e,iN];exact(gg _ _ _).symm
  ·rw[ak (by simpa using e),cf];have:dP (z::r) x=dP r x:=by show(if z.1=x then z.2 else 0)+dP r x=_;rw[aj e,bP]
   rw[this];exact Int.add_left_comm _ _ _
theorem l8 (x y:Int): ∀d:Pt,dP (gR d x) y=if y=x then 0 else dP d y
 | []=>by simp[gR,dP]
 | z ::r=>by
  have ih:=l8 x y r;have e1:dP (z::r) y=(if z.1=y then z.2 else 0)+dP r y:=rfl;unfold gR at ih ⊢;rw[dR];by_cases e:z.1=x
  ·rw[aj (by simpa using e),ih,e1];by_cases ey:y=x
   ·rw[ak ey,ak ey]
   ·rw[aj ey,aj ey,aj (λq=>ey (by rw[<- q,e])),bP]
  ·rw[ak (by simpa using e)];show(if z.1=y then z.2 else 0)+_=_;rw[ih,e1];by_cases ey:y=x
   ·rw[ak ey,ak ey,aj (λq=>e (by rw[q,ey]))];rfl
   ·rw[aj ey,aj ey]
theorem lW {p:Int}(G:Int ->Int): ∀ (n:Nat) (d:Pt),d.length<=n ->(∀x,dP d x % p=0) ->dF G d % p=0
 | n,[],_,_=>eE _
 | 0,_::_,h,_=>by simp at h
 | n +1,z::r,h,ht=>by
  rw[pF G z.1];have hl:(gR (z::r) z.1).length<=n:=by unfold gR;rw[dR,aj (by simp)];have:=eR (λq:Int×Int=>decide (q.1≠z.1)) r;simp only[aG] at h;lia
  have ih:=lW G n _ hl λx=>by
   rw[l8];split
   ·rfl
   ·exact ht x
  rw[bH,ih,bZ,ht,de];simp
theorem pG (G:Int ->Int)(b:Pt): ∀a:Pt,dF G (a++b)=dF G a+dF G b
 | []=>by show dF G b=0+_;rw[bP]
 | z::r=>by rw[jF,cf,cf,pG G b r,gg]
theorem tE (G:Int ->Int)(k:Int): ∀a:Pt,dF G (tm k a)=dF G a*k
 | []=>by show(0:Int)=0*k;simp
 | z::r=>by have:tm k (z::r)=(z.1,z.2*k)::tm k r:=rfl;rw[this,cf,cf,tE G k r,fi,dW]
theorem CV {p:Int}(G:Int ->Int){a b:Pt}(h: ∀x,dP a x % p=dP b x % p):dF G a % p=dF G b % p:=by
 have h1:=lW (p:=p) G _ (a++tm (-1) b) (aq _) λx=>by rw[ji,vV,gH,gG, <- lu];exact cc.mp (h x)
 rw[pG,tE,gH,gG, <- lu] at h1;exact cc.mpr h1
theorem CW (x:Int): ∀js:Pt,dF (λsh=>if x - sh=0 then 1 else 0) js=dP js x
 | []=>rfl
 | z::r=>by
  rw[cf,CW x r];show _=(if z.1=x then z.2 else 0)+dP r x;by_cases e:z.1=x
  ·rw[ak e,ak (by lia),fU]
  ·rw[aj e,aj (by lia),bG]
theorem CQ (js:Pt):dF (λ_=>0) js=0:=by
 induction js with
 | nil=>rfl
 | cons z r ih=>rw[cf,ih,bG];rfl
def pT (s:Int)(sts:List Pt)(P:Pq)(x:Int):Nat ->Int
 | 0=>0
 | n+1=>pT s sts P x n+dF (λsh=>look (sts.getD n []) (x - s*sh)) (pf P n)
theorem BV: ∀ {a b:List Int},a.Pairwise (· <= ·) ->b.Pairwise (· <= ·) ->a.Perm b ->a=b:=λ{a b} ha hb h=>List.Perm.eq_of_pairwise (le:=(· <= ·)) (λx y _ _ h1 h2=>by lia) ha hb h
structure Sr (s p:Int)(st:Pt)(c len D:Int):Prop where
 pat:dE p st
 ok:kI s c
 l0:0<=len
 s0:s=0 ->len=0
 ge: ∀x∈eG st,c<=bM s x
 rq: ∀x∈eG st,bM s x=c ->0<=hI s x /\ hI s x<=len
 bot:c∈eG st
 top:look st (c+len*s)=1
 wt:Wt D st
theorem Ie {s c:Int}(ok:kI s c):hI s c=0:=by
 unfold hI;rcases ok with h | h
 ·rw[ak h]
 ·rw[aj (by lia)];exact JW h.1 h.2
theorem Sr.OJ {s p:Int}{st:Pt}{c len D:Int}(h:Sr s p st c len D):c+len*s∈eG st:=cJ (by rw[h.top];decide)
theorem Sr.Fy {s p:Int}{st:Pt}{c len D:Int}(h:Sr s p st c len D):hI s (c+len*s)=len:=by
 by_cases z:s=0
 ·rw[h.s0 z];unfold hI;rw[ak z]
 ·exact pk h.ok z len
theorem Sr.uniq {s p:Int}{st:Pt}{c len D c' DH D':Int}(h:Sr s p st c len D)(h':Sr s p st c' DH D'):c=c' /\ len=DH:=by
 have e:c=c':=by have h1:=h.ge c' h'.bot;have h2:=h'.ge c h.bot;rw[h'.ok.own] at h1;rw[h.ok.own] at h2;lia
 subst e;have h1:=h'.rq _ h.OJ (h.ok.on len);have h2:=h.rq _ h'.OJ (h.ok.on DH);rw[h.Fy] at h1;rw[h'.Fy] at h2;exact⟨rfl,by lia⟩
structure uo (s p:Int)(sts:List Pt)(D:Int):Prop where
 each: ∀ (i:Nat) st,sts[i]? =some st -> ∃c len,Sr s p st c len D /\ len<3000000
 BD: ∀ (i j:Nat) st bB c len c' DH,i<j ->sts[i]? =some st ->sts[j]? =some bB ->Sr s p st c len D ->Sr s p bB c' DH D ->c<c'
theorem Gs {m:Pt}{x v:Int}(h:x∉m.map (·.1)):mT m x v=m++ [(x,v)]:=by unfold mT;rw[aj (λe=>h (pI.mp e))]
def O5 (m:Pt):List (Key×W):=m.map λz=>((Sum.inl z.1:Key),wi z.2)
theorem LD (m:Pt)(nd:(m.map (·.1)).Nodup):(O5 m).foldl (λm p=>ki m p.1 p.2) []=f' m:=by
 have key: ∀ (b a:Pt),((a++b).map (·.1)).Nodup ->(O5 b).foldl (λm p=>ki m p.1 p.2) (f' a)=f' (a++b):=by
  intro b;induction b with
  | nil=>intro a _;rw[iz];rfl
  | cons z r ih=>
   intro a h;have hx:z.1∉a.map (·.1):=λhm=>by rw[aN,aH] at h;exact(l3.mp h).2.2 _ hm _ aE rfl
   show(O5 r).foldl _ (ki (f' a) (.inl z.1) (wi z.2))=_;rw[rK,Gs hx,ih (a++ [z]) (by rw[bR];exact h),bR];rfl
 exact key m [] nd
theorem KG (m:Pt):cR m= .tup ((O5 m).map λp=> .tup [gd p.1,p.2]):=by unfold cR O5;rw[aD];rfl
theorem qh {p:Int}{m:Pt}(h:dE p m):GD p m:=⟨(bY.mpr h.2).imp λh e=>by rw[e] at h;exact absurd h (Int.lt_irrefl _),h.1⟩
theorem fV {g:Int ->Int}: ∀ {js:Pt},(∀j∈js,g j.1=0) ->dF g js=0
 | [],_=>rfl
 | z::r,h=>by rw[cf,h z aE,bG,fV (js:=r) λj hj=>h j (aw _ hj)];rfl
def putL (s:Int)(sts:List Pt)(tl:List Part):Pt:=tl.flatMap λt=>(sts.getD t.1.toNat []).map λz=>(z.1+t.2.1*s,z.2*t.2.2)
theorem Sr.mK {s p c len D:Int}{st:Pt}(h:Sr s p st c len D):dm s st=c:=by
 have c9:(eG st).map (bM s)≠ []:=by intro e;have:=QU (f:=bM s) h.bot;rw[e] at this;cases this
 exact jD.uniq (gm c9) ⟨af.mpr ⟨c,h.bot,h.ok.own⟩,λx hx=>by obtain⟨y,hy,rfl⟩:=af.mp hx;exact h.ge y hy⟩
theorem Sr.jN {s p c len D:Int}{st:Pt}(h:Sr s p st c len D):fw s st=len:=by
 unfold fw;rw[h.mK];have hm:len∈qE s c (eG st):=by have:=lO h.OJ (h.ok.on len);rw[h.Fy] at this;exact this
 have c9:qE s c (eG st)≠ []:=λe=>by rw[e] at hm;cases hm
 refine qV.uniq (oS c9) ⟨hm,λy hy=> ?_⟩;obtain⟨x,hx,e⟩:=af.mp hy;have:=h.rq x (aP.mp hx).1 (by simpa using(aP.mp hx).2);rw[e] at this;exact this.2
def kj (s x:Int)(sts:List Pt)(t:Part):Int:=dP (sts.getD t.1.toNat []) (x - t.2.1*s)*t.2.2
end WQ
namespace L2
open PySem
def EL:Nat ->(List Value ->Prop) ->Prop
 | 0,p=>p []
 | n+1,p=> ∀v,EL n λus=>p (v::us)
theorem EL.to: ∀ {n:Nat} {p:List Value ->Prop},EL n p -> ∀us,us.length=n ->p us
 | 0,_,h,[],_=>h
 | _+1,_,h,v::us,e=>EL.to (h v) us (kL e)
section
variable {K:PySem.W.Frag}{h:Heap}{mg:Str ->Option Value}{x:Str}{ps:List Str}{st:Stmt}{f C:Addr}{oc:Value}{od an:Option Addr}{ER:Array (Option Value)}{kV doc pm eQ ct:Value}
theorem dN (X:K.In h)(G:h.Ns mainGlobals mg)(a:PySem.W.nsIn K mainGlobals x=some (some (.ref f))) (l:K.lookup f=some ⟨oc,od, .func (PySem.W.fnOf x x (gS st) (fo st) (aQ st) .none kV doc pm an eQ ct),ER⟩) (c:PySem.W.codeIn K eQ x=true) (k:PySem.W.keepIn K (.ref f)=true) (b: ∀ (kV doc pm:Value) (an:Option Addr) (eQ ct:Value),EL ps.length λus=>bindArgs (PySem.W.fnOf x x (gS st) (fo st) (aQ st) .none kV doc pm an eQ ct) ⟨us,[]⟩=pure (ps.zip us)): pZ K mg x ps st f (PySem.W.fnOf x x (gS st) (fo st) (aQ st) .none kV doc pm an eQ ct):=⟨PySem.W.mg_of X G a,w8 l c k,(w8 (st:=st) l c k).binds λkV doc pm an eQ ct us e=>(b kV doc pm an eQ ct).to us e⟩
theorem IJ {q:Str}(X:K.In h)(G:h.Ns mainGlobals mg)(a:PySem.W.nsIn K mainGlobals x=some (some (.ref C)))(g:PySem.W.findIn K (.ref C) "__init__" =some (some (.ref f))) (l:K.lookup f=some ⟨oc,od, .func (PySem.W.fnOf "__init__" q (gS st) (fo st) (aQ st) .none kV doc pm an eQ ct),ER⟩) (c:PySem.W.codeIn K eQ q=true) (k:PySem.W.keepIn K (.ref f)=true) (h1:PySem.W.makesIn K C=true) (h2:PySem.W.isFn K (.ref f)=true) (h3:PySem.W.keepIn K (.ref C)=true) (h4:PySem.W.plainGet K C Str.empty=true) (h5:PySem.W.hasDictIn K C=true) (h6:PySem.W.plainOver K C=true) (h7:PySem.W.findIn K (.ref C) "__setattr__" =some (some (.builtin "object.__setattr__"))) (b: ∀ (kV doc pm:Value) (an:Option Addr) (eQ ct:Value),EL ps.length λus=>bindArgs (PySem.W.fnOf "__init__" q (gS st) (fo st) (aQ st) .none kV doc pm an eQ ct) ⟨us,[]⟩=pure (ps.zip us)): VF K mg x q ps st C f (PySem.W.fnOf "__init__" q (gS st) (fo st) (aQ st) .none kV doc pm an eQ ct):=⟨PySem.W.mg_of X G a,⟨h1,g,h2,h3⟩,⟨h4,h5,h6,h7⟩,w8 l c k,(w8 (st:=st) l c k).binds λkV doc pm an eQ ct us e=>(b kV doc pm an eQ ct).to us e⟩
theorem sM {q:Str}{fd:FuncData}(_:VF K mg x q ps st C f fd)(a:Str)(e:PySem.W.findIn K (.ref C) a=some none):dY K C a:=e
theorem PJ {l:PySem.W.OpenLaw}{w:World}{fa:Addr}{fd:FuncData}{p:Str}{kd:Nat}(T:pZ K mg "law" [p] st f fd)(hfa:mg "law" =some (.ref fa))(hb: ∀ (kV doc pm:Value) (an:Option Addr) (eQ ct v:Value),bindArgs (PySem.W.fnOf "law" "law" (gS st) (fo st) (aQ st) .none kV doc pm an eQ ct) ⟨[v],[]⟩=pure [(p,v)]) (ok: ∀base,eh l.prog w K mg base kJ kd f fd [p] (WQ.xS K)): ∃fd:FuncData,(∀ (s:Shared) (v:Value),BindsTo s fd ⟨[v],[]⟩ [(p,v)]) /\ ∀base:Heap,K.In base ->base.Ns mainGlobals mg ->eh l.prog w K mg base kJ kd fa fd [p] (WQ.xS K):=by have e:=hfa.symm.trans T.at_;cases e;obtain⟨oc,od,kV,doc,pm,an,eQ,ct,ER,rfl,lk,DY⟩:=T.fn.ex;exact⟨_,λs v=> .of_eq (hb kV doc pm an eQ ct v),λbase _ _=>ok base⟩
end
end L2
namespace WQ
open PySem L2 WL WP
theorem tF {p:Int}(G:Int ->Int): ∀ (n:Nat) (d:Pt),d.length<=n ->(∀x,G x*dP d x % p=0) ->dF G d % p=0
 | n,[],_,_=>eE _
 | 0,_::_,h,_=>by simp at h
 | n +1,z::r,h,ht=>by
  rw[pF G z.1];have hl:(gR (z::r) z.1).length<=n:=by unfold gR;rw[dR,aj (by simp)];have:=eR (λq:Int×Int=>decide (q.1≠z.1)) r;simp only[aG] at h;lia
  have ih:=tF G n _ hl λx=>by
   rw[l8];split
   ·rw[de];rfl
   ·exact ht x
  rw[bH,ih,ht];rfl
theorem vk (v:Int): ∀js:Pt,dF (λ_=>v) js=v*dF (λ_=>1) js
 | []=>by show(0:Int)=v*0;simp
 | z::r=>by rw[cf,cf,vk v r,iN,fU]
theorem l7 {d:Pt}{x:Int}(h:dP d x≠0):x∈d.map (·.1):=by refine au λhn=>h (Bh λq hq e=>hn (af.mpr ⟨q,hq,e⟩))
theorem tG {p:Int}(G:Int ->Int)(d:Pt)(m:Int)(h: ∀y,y≠m ->G y*dP d y % p=0):dF G d % p=G m*dP d m % p:=by
 rw[pF G m,bH,tF (p:=p) G _ (gR d m) (aq _) λx=>by
  rw[l8];split
  ·rw[de];rfl
  ·rename_i e;exact h x e]
 rw[bu,cE]
theorem Sr.out {s p c len D:Int}{st:Pt}(h:Sr s p st c len D)(hs:s≠0){k:Int}(hk:¬(0<=k /\ k<=len)):look st (c+k*s)=0:=by refine au λhn=>hk ?_;have:=h.rq _ (cJ hn) (h.ok.on k);rwa [pk h.ok hs] at this
theorem CT {s p c len D:Int}{st js:Pt}(hp:p=2 \/ p=3 \/ p=5 \/ p=7)(s0:0<=s)(sr:Sr s p st c len D) (low: ∀x,bM s x=c ->dF (λsh=>look st (x - s*sh)) js % p≠0 ->0<=hI s x /\ hI s x<len) (x:Int):dF (λsh=>look st (x - s*sh)) js % p=0:=by
 have p0:0<p:=by lia
 by_cases z:s=0
 ·have e: ∀x,dF (λsh=>look st (x - s*sh)) js=look st x*dF (λ_=>1) js:=λx=>by rw[<- vk];congr 1;funext sh;rw[z,bG,vJ]
  have ht:=sr.top;rw[z,de,bu] at ht;have h0:dF (λ_=>1) js % p=0:=by refine au λhn=> ?_;have:=low c sr.ok.own (by rw[e,ht,fU];exact hn);have:=sr.s0 z;lia
  rw[e,bZ,h0,de];rfl
 ·have aay:0<s:=by lia
  have hmul: ∀a b:Int,c+a*s - s*b=c+(a - b)*s:=λa b=>by rw[jZ,bK s b];lia
  suffices AK: ∀y,dP js y % p=0 by exact lW _ _ _ (aq _) AK
  intro y;refine au λhy=> ?_;have c9:(js.map (·.1)).filter (λy=>decide (dP js y % p≠0))≠ []:=λe=>by have:y∈(js.map (·.1)).filter (λy=>decide (dP js y % p≠0)):=aP.mpr ⟨l7 λe0=>hy (by rw[e0];rfl),dw hy⟩;rw[e] at this;cases this
  obtain⟨ma,mb⟩:=oS c9;obtain⟨la,lb⟩:=gm c9;generalize uO _=m at ma mb;generalize fR _=k at la lb;have hm:dP js m % p≠0:=by simpa using(aP.mp ma).2
  have hk:dP js k % p≠0:=by simpa using(aP.mp la).2
  have Ci: ∀y,dP js y % p≠0 ->k<=y /\ y<=m:=λy h=>by have:y∈(js.map (·.1)).filter (λy=>decide (dP js y % p≠0)):=aP.mpr ⟨l7 λe0=>h (by rw[e0];rfl),dw h⟩;exact⟨lb y this,mb y this⟩
  have out: ∀y,¬(k<=y /\ y<=m) ->dP js y % p=0:=λy h=>au λh2=>h (Ci y h2);have h1:=low (c+(len+m)*s) (sr.ok.on _) (by
   rw[tG _ js m λy ne=> ?_,hmul,show len+m - m=len by lia,sr.top,fU]
   ·exact hm
   ·rw[hmul];rcases dX m y with h | h
    ·rw[bZ,out y (by lia),de];rfl
    ·rw[sr.out z (by lia),bG];rfl)
  rw[pk sr.ok z] at h1;have hc:=eD (qh sr.pat) sr.bot;have h2:=low (c+k*s) (sr.ok.on _) (by
   rw[tG _ js k λy ne=> ?_,hmul,Int.sub_self,bG,bu]
   ·exact uL hp hk _ hc.1 hc.2
   ·rw[hmul];rcases dX y k with h | h
    ·rw[bZ,out y (by lia),de];rfl
    ·rw[sr.out z (by lia),bG];rfl)
  rw[pk sr.ok z] at h2;have:=(Ci k hk).2;lia
def gB (s:Int)(sts:List Pt)(J:Nat ->Pt)(x:Int):Nat ->Int
 | 0=>0
 | n+1=>gB s sts J x n+dF (λsh=>look (sts.getD n []) (x - s*sh)) (J n)
theorem Kd (s:Int)(sts:List Pt)(P:Pq)(x:Int): ∀n,pT s sts P x n=gB s sts (λi=>pf P i) x n
 | 0=>rfl
 | n+1=>by rw[pT,gB,Kd s sts P x n]
theorem Bt (s:Int)(sts:List Pt)(J J':Nat ->Pt)(x:Int): ∀n,gB s sts (λi=>J i++J' i) x n=gB s sts J x n+gB s sts J' x n
 | 0=>rfl
 | n+1=>by rw[gB,gB,gB,Bt s sts J J' x n,pG];lia
theorem FX (s:Int)(sts:List Pt)(J:Nat ->Pt)(k x:Int): ∀n,gB s sts (λi=>tm k (J i)) x n=gB s sts J x n*k
 | 0=>by show(0:Int)=0*k;simp
 | n+1=>by rw[gB,gB,FX s sts J k x n,tE,fi]
theorem Br (s:Int)(sts:List Pt)(x:Int): ∀n,gB s sts (λ_=> []) x n=0
 | 0=>rfl
 | n+1=>by rw[gB,Br s sts x n];rfl
theorem vY {s p:Int}{sts:List Pt}{J:Nat ->Pt}{x:Int}{i:Nat}: ∀n,i<n ->(∀j,j<n ->j≠i ->dF (λsh=>look (sts.getD j []) (x - s*sh)) (J j) % p=0) ->gB s sts J x n % p=dF (λsh=>look (sts.getD i []) (x - s*sh)) (J i) % p
 | 0,h,_=>absurd h (pL _)
 | n + 1,h,hj=>by
  rw[gB];by_cases e:i=n
  ·subst e;have: ∀m,m<=i ->gB s sts J x m % p=0:=λm=>by
    induction m with
    | zero=>intro _;exact eE _
    | succ m ih=>intro hm;rw[gB,bH,ih (by lia),hj m (by lia) (by lia)];rfl
   rw[bH,this i (aq _),bP,cE]
  ·rw[bH,vY n (by lia) (λj h1 h2=>hj j (by lia) h2),hj n (by lia) (λq=>e q.symm),bu,cE]
def Vy (s p:Int)(sts:List Pt)(D:Int)(g:Int ->Int):Prop:= ∀ (i:Nat) st c len,sts[i]? =some st ->Sr s p st c len D -> ∀x,bM s x=c ->g x % p≠0 ->0<=hI s x /\ hI s x<len
theorem Bs {s p D:Int}{sts:List Pt}{J:Nat ->Pt}{g:Int ->Int}(hp:p=2 \/ p=3 \/ p=5 \/ p=7)(s0:0<=s)(iB:uo s p sts D)(e: ∀x,g x % p=gB s sts J x sts.length % p)(low:Vy s p sts D g)(x:Int):gB s sts J x sts.length % p=0:=by
 have get: ∀i st,sts[i]? =some st ->sts.getD i []=st:=λi st h=>by rw[bI,h];rfl
 have key : ∀ (i:Nat),i<sts.length -> ∀x,dF (λsh=>look (sts.getD i []) (x - s*sh)) (J i) % p=0:=λi=>by
  induction i using Nat.strongRecOn with
  | ind i ih=>
   intro hi x;obtain⟨c,len,sr,_⟩:=iB.each i _ (ae hi);rw[get i _ (ae hi)];refine CT hp s0 sr (λx hx c9=> ?_) x;refine low i _ c len (ae hi) sr x hx ?_;rw[e,vY (i:=i) _ hi λj hj UL=> ?_,get i _ (ae hi)]
   ·exact c9
   ·rcases dU j i with h | h
    ·exact ih j h hj x
    ·obtain⟨c2,T4,sr2,_⟩:=iB.each j _ (ae hj);have f6:=iB.BD i j _ _ c len c2 T4 (by lia) (ae hi) (ae hj) sr sr2;rw[get j _ (ae hj)];rw[fV λk _=> ?_]
     ·rfl
     ·refine au λhn=> ?_;have:=sr2.ge _ (cJ hn);rw[iE,hx] at this;lia
 have: ∀m,m<=sts.length ->gB s sts J x m % p=0:=λm=>by
  induction m with
  | zero=>intro _;exact eE _
  | succ m ih=>intro hm;rw[gB,bH,ih (by lia),key m (by lia)];rfl
 exact this _ (aq _)
theorem Hh {p:Int}(p0:0<p){a b:Pt}(ha:dE p a)(hb:dE p b)(y n x:Int):look (lA p (a++wL y n b)) x=(look a x+look b (x - y)*n) % p:=by rw[sO p0,ji,Pu,vV,zT,xM ha.2,xM hb.2]
def cX (s p:Int)(sts:List Pt)(f:Int ->Int):Prop:= ∃J:Nat ->Pt, ∀x,f x % p=gB s sts J x sts.length % p
section
variable {s p:Int}{sts:List Pt}{f g:Int ->Int}
theorem cX.ext (h:cX s p sts f)(e: ∀x,g x % p=f x % p):cX s p sts g:=h.elim λJ hJ=>⟨J,λx=>(e x).trans (hJ x)⟩
theorem cX.zero:cX s p sts λ_=>0:=⟨λ_=> [],λx=>by rw[Br]⟩
theorem cX.add (h:cX s p sts f)(h':cX s p sts g):cX s p sts λx=>f x+g x:=by obtain⟨J,hJ⟩:=h;obtain⟨J',Wy⟩:=h';exact⟨λi=>J i++J' i,λx=>by rw[Bt,bH,hJ,Wy, <- bH]⟩
theorem cX.mul (h:cX s p sts f)(k:Int):cX s p sts λx=>f x*k:=by obtain⟨J,hJ⟩:=h;exact⟨λi=>tm k (J i),λx=>by rw[FX,bZ,hJ, <- bZ]⟩
theorem xg (G:Int ->Int)(k:Int): ∀js:Pt,dF (λsh=>G (sh+k)) js=dF G (mv k js)
 | []=>rfl
 | z::r=>by have:mv k (z::r)=(z.1+k,z.2)::mv k r:=rfl;rw[this,cf,cf,xg G k r]
theorem FY (s:Int)(sts:List Pt)(J:Nat ->Pt)(k x:Int): ∀n,gB s sts (λi=>mv k (J i)) x n=gB s sts J (x - s*k) n
 | 0=>rfl
 | n+1=>by rw[gB,gB,FY s sts J k x n, <- xg];congr 2;funext sh;rw[iN];congr 1;lia
theorem cX.shift (h:cX s p sts f)(k:Int):cX s p sts λx=>f (x - s*k):=by obtain⟨J,hJ⟩:=h;exact⟨λi=>mv k (J i),λx=>by rw[FY,hJ]⟩
theorem cX.dF (h:cX s p sts f): ∀js:Pt,cX s p sts λx=>dF (λsh=>f (x - s*sh)) js
 | []=>cX.zero
 | z::r=>((h.shift z.1).mul z.2).add (cX.dF h r)
theorem si (s:Int)(sts:List Pt)(k:Nat)(v:Pt)(x:Int): ∀n,gB s sts (λi=>if i=k then v else []) x n=if k<n then dF (λsh=>look (sts.getD k []) (x - s*sh)) v else 0
 | 0=>rfl
 | n +1=>by
  rw[gB,si s sts k v x n];by_cases e:n=k
  ·subst e;rw[ak rfl,aj (cb _),ak (eI _),bP]
  ·rw[aj e];by_cases h:k<n
   ·rw[ak h,ak (by lia)];show _+0=_;rw[bu]
   ·rw[aj h,aj (by lia)];rfl
theorem cX.of {st:Pt}(h:st∈sts):cX s p sts (look st):=by obtain⟨i,hi⟩:=bA.mp h;have hl:=(ag.mp hi).1;refine⟨λj=>if j=i then [(0,1)] else [],λx=> ?_⟩;rw[si,ak hl,bI,hi];show _=(look st (x - s*0)*1+0) % p;rw[de,vJ,gG,bu]
theorem cX.gB {sts':List Pt}(h: ∀st∈sts,cX s p sts' (look st))(J:Nat ->Pt): ∀n,n<=sts.length ->cX s p sts' λx=>gB s sts J x n
 | 0,_=>cX.zero
 | n+1,hn=>by
  have hm:sts.getD n []∈sts:=by rw[bI,ae (by lia)];exact bW _
  exact(cX.gB h J n (by lia)).add ((h _ hm).dF (J n))
theorem cX.trans {sts':List Pt}(hf:cX s p sts f)(h: ∀st∈sts,cX s p sts' (look st)):cX s p sts' f:=by obtain⟨J,hJ⟩:=hf;exact(cX.gB h J _ (aq _)).ext hJ
end
theorem oy (s:Int)(A B:List Pt)(J:Nat ->Pt)(x:Int): ∀n,gB s (A++B) J x (A.length+n)=gB s A J x A.length+gB s B (λi=>J (A.length+i)) x n
 | 0 =>by
  have: ∀n,n<=A.length ->gB s (A++B) J x n=gB s A J x n:=λn=>by
   induction n with
   | zero=>intro _;rfl
   | succ n ih=>
    intro h;rw[gB,gB,ih (by lia)];have e:(A++B).getD n []=A.getD n []:=by rw[bI,bI,a9 (by lia)]
    rw[e]
  rw[n9,this _ (aq _)];show _=_+0;rw[bu]
 | n +1=>by
  have e:(A++B).getD (A.length+n) []=B.getD n []:=by rw[bI,bI,aU (by lia),Jf]
  rw[<- jI,gB,oy s A B J x n,gB,e,gg]
def A0 (p:Nat):Nat ->List (List Int)
 | 0=> [[]]
 | n+1=>(List.range p).flatMap λa:Nat=>(A0 p n).map λv=>(a:Int)::v
theorem lY {p:Nat}: ∀ {n:Nat} {v:List Int},v∈A0 p n↔v.length=n /\ ∀a∈v,0<=a /\ a<p
 | 0,v=>by
  show v∈ [[]]↔_;rw[ah];constructor
  ·rintro rfl;exact⟨rfl,λa h=>by cases h⟩
  ·rintro⟨h,_⟩;exact cI.mp h
 | n + 1,v=>by
  show v∈(List.range p).flatMap _↔_;rw[eM];constructor
  ·rintro⟨a,ha,hv⟩;obtain⟨u,hu,rfl⟩:=af.mp hv;obtain⟨h1,h2⟩:=lY.mp hu;have:=c7.mp ha;refine⟨by rw[aG,h1],λb hb=> ?_⟩;rcases av.mp hb with rfl | hb
   ·exact⟨by lia,by lia⟩
   ·exact h2 b hb
  ·rintro⟨h1,h2⟩;cases v with
   | nil=>cases h1
   | cons a u=>have ha:=h2 a aE;refine⟨a.toNat,c7.mpr (by lia),af.mpr ⟨u,lY.mpr ⟨kL h1,λb hb=>h2 b (aw _ hb)⟩,?_⟩⟩;rw[show((a.toNat:Nat):Int)=a by lia]
theorem tJ (p:Nat): ∀n,(A0 p n).length=p ^ n
 | 0=>rfl
 | n +1=>by
  show((List.range p).flatMap _).length=_;rw[QV];have:((List.range p).map λa:Nat=>((A0 p n).map λv=>(a:Int)::v).length)=List.replicate p (p ^ n):=by refine jC.mpr ⟨by simp,λb hb=> ?_⟩;obtain⟨a,_,rfl⟩:=af.mp hb;rw[aa,tJ p n]
  rw[this,og,Nat.pow_succ,Nat.mul_comm]
theorem C3 (p:Nat): ∀n,(A0 p n).Nodup
 | 0=>by show([[]]:List (List Int)).Nodup;simp
 | n +1=>by
  show((List.range p).flatMap _).Nodup;rw[List.Nodup,List.pairwise_flatMap];refine⟨λa _=> ?_,?_⟩
  ·rw[bY];exact(C3 p n).imp λh e=>h (List.cons.inj e).2
  ·refine mQ (R:=(· ≠ ·)) (λ{a b} _ _ h=> ?_) List.nodup_range;intro v h1 v' h2 ev;obtain⟨u1,_,e1⟩:=af.mp h1;obtain⟨u2,_,e2⟩:=af.mp h2;rw[<- ev, <- e1] at e2;exact h (by have:=(List.cons.inj e2).1;lia)
theorem Hc {α:Type} [DecidableEq α]{ks:List α}: ∀ {l:List α},ks.Nodup ->(∀k∈ks,k∈l) ->ks.length<=l.length:=by
 induction ks with
 | nil=>intro l _ _;simp
 | cons k r ih=>
  intro l hn hs;rw[bw] at hn;have hk:k∈l:=hs k (by simp);have:=ih (l:=l.erase k) hn.2 λz hz=>by have Yb:z≠k:=λe=>hn.1 (e▸hz);exact(Ob Yb).mpr (hs z (by simp[hz]))
  rw[E2 hk] at this;have:0<l.length:=JR hk;rw[aG];lia
def lc:List Int ->List (Int ->Int) ->Int ->Int
 | v::vs,g::gs,x=>v*g x+lc vs gs x
 | _,_,_=>0
theorem PH (x:Int): ∀ (gs:List (Int ->Int)) (v u:List Int),v.length=gs.length ->u.length=gs.length ->lc (List.zipWith (· - ·) v u) gs x=lc v gs x - lc u gs x:=by
 intro gs;induction gs with
 | nil=>intro v u h1 h2;cases cI.mp h1;cases cI.mp h2;rfl
 | cons g gs ih=>
  intro v u h1 h2;cases v with
  | nil=>cases h1
  | cons a v=>
   cases u with
   | nil=>cases h2
   | cons b u=>show(a - b)*g x+lc (List.zipWith (· - ·) v u) gs x=a*g x+lc v gs x - (b*g x+lc u gs x);rw[ih v u (kL h1) (kL h2),jZ];lia
theorem E7 {p:Int}: ∀ {v u:List Int},v.length=u.length ->(∀a∈List.zipWith (· - ·) v u,a % p=0) ->(∀a∈v,0<=a /\ a<p) ->(∀a∈u,0<=a /\ a<p) ->v=u:=by
 intro v;induction v with
 | nil=>intro u h _ _ _;exact(cI.mp h.symm).symm
 | cons a v ih=>
  intro u h hz hv hu;cases u with
  | nil=>cases h
  | cons b u=>
   have h1:=hz (a - b) aE;have h2:=ih (kL h) (λc hc=>hz c (aw _ hc)) (λc hc=>hv c (aw _ hc)) (λc hc=>hu c (aw _ hc));have ha:=hv a aE;have hb:=hu b aE;have e:a=b:=by have:=cc.mpr h1;rwa [cW ha.1 ha.2,cW hb.1 hb.2] at this
   rw[e,h2]
theorem QG {p:Nat}(p2:2<=p){gs:List (Int ->Int)}{X:List Int}(h: ∀v:List Int,v.length=gs.length ->(∀x∈X,lc v gs x % (p:Int)=0) -> ∀a∈v,a % (p:Int)=0):gs.length<=X.length:=by
 have p0:(0:Int) <p:=by lia
 have key:((A0 p gs.length).map λv=>X.map λx=>lc v gs x % (p:Int)).Nodup:=by rw[List.Nodup,bY];refine mQ (λ{v u} hv hu c9 e=>c9 ?_) (C3 p gs.length);obtain⟨v1,v2⟩:=lY.mp hv;obtain⟨u1,u2⟩:=lY.mp hu;refine E7 (p:=p) (v1.trans u1.symm) (h _ (by rw[List.length_zipWith,v1,u1,Nat.min_self]) λx hx=> ?_) v2 u2;rw[PH x gs v u v1 u1];exact cc.mp (List.map_inj_left.mp e x hx)
 have:=Hc (l:=A0 p X.length) key λk hk=>by obtain⟨v,_,rfl⟩:=af.mp hk;refine lY.mpr ⟨by rw[aa],λa ha=> ?_⟩;obtain⟨x,_,rfl⟩:=af.mp ha;exact⟨cN _ (by lia),cz _ p0⟩
 rw[aa,tJ,tJ] at this;exact(Nat.pow_le_pow_iff_right (by lia)).mp this
def NO (s:Int)(b:Pt):Int ->Nat ->List (Int ->Int)
 | _,0=> []
 | lo,n+1=>(λx=>look b (x - s*lo))::NO s b (lo+1) n
def Dn:Int ->List Int ->Pt
 | _,[]=> []
 | lo,a::v=>(lo,a)::Dn (lo+1) v
theorem rQ (s:Int)(b:Pt): ∀ (n:Nat) (lo:Int),(NO s b lo n).length=n
 | 0,_=>rfl
 | n+1,lo=>by show(NO s b (lo+1) n).length+1=_;rw[rQ s b n]
theorem Hl (s:Int)(b:Pt)(x:Int): ∀ (v:List Int) (n:Nat) (lo:Int),v.length=n ->lc v (NO s b lo n) x=dF (λsh=>look b (x - s*sh)) (Dn lo v)
 | [],_,lo,rfl=>rfl
 | a::v,_,lo,rfl=>by show a*look b (x - s*lo)+lc v (NO s b (lo+1) v.length) x=_;rw[Hl s b x v _ (lo+1) rfl];have e:Dn lo (a::v)=(lo,a)::Dn (lo+1) v:=rfl;rw[e,cf,bK]
theorem wz: ∀ (v:List Int) (lo:Int), ∀z∈Dn lo v,lo<=z.1 /\ z.1<lo+v.length
 | [],_,z,h=>by cases h
 | a::v,lo,z,h=>by
  rw[aG];rcases av.mp h with rfl | h
  ·exact⟨aV _,by show lo<lo+_;push_cast;lia⟩
  ·have:=wz v (lo+1) z h;push_cast;lia
theorem yi {p:Int}: ∀ (v:List Int) (lo:Int),(∀y,dP (Dn lo v) y % p=0) -> ∀a∈v,a % p=0
 | [],_,_,a,h=>by cases h
 | b ::v,lo,ht,a,h=>by
  have e: ∀y,dP (Dn lo (b::v)) y=(if lo=y then b else 0)+dP (Dn (lo+1) v) y:=λy=>rfl;have h0:dP (Dn (lo+1) v) lo=0:=Bh λq hq e=>by have:=wz v (lo+1) q hq;lia
  rcases av.mp h with rfl | h
  ·have:=ht lo;rwa [e,ak rfl,h0,bu] at this
  ·refine yi v (lo+1) (λy=> ?_) a h;by_cases z:lo=y
   ·rw[<- z,h0];rfl
   ·have:=ht y;rwa [e,aj z,bP] at this
theorem Hn (x:Int): ∀ (v1:List Int) (g1:List (Int ->Int)) (v2:List Int) (g2:List (Int ->Int)),v1.length=g1.length ->lc (v1++v2) (g1++g2) x=lc v1 g1 x+lc v2 g2 x
 | [],[],v2,g2,_=>by show lc v2 g2 x=0+_;rw[bP]
 | a::v1,g::g1,v2,g2,h=>by show a*g x+lc (v1++v2) (g1++g2) x=a*g x+lc v1 g1 x+_;rw[Hn x v1 g1 v2 g2 (kL h),gg]
def cps (s:Int)(G:List (Pt×Int×Nat)):List (Int ->Int):=G.flatMap λg=>NO s g.1 g.2.1 g.2.2
theorem CO (s:Int): ∀G:List (Pt×Int×Nat),(cps s G).length=(G.map λg=>g.2.2).sum
 | []=>rfl
 | g::G=>by show(NO s g.1 g.2.1 g.2.2++cps s G).length=_;rw[aL,rQ,CO s G];rfl
theorem Hm {p:Int}(s:Int): ∀ (G:List (Pt×Int×Nat)) (v:List Int),v.length=(cps s G).length -> ∃J:Nat ->Pt,(∀x,lc v (cps s G) x=gB s (G.map (·.1)) J x G.length) /\ (∀i g,G[i]? =some g -> ∀z∈J i,g.2.1<=z.1 /\ z.1<g.2.1+g.2.2) /\ ((∀i,i<G.length -> ∀y,dP (J i) y % p=0) -> ∀a∈v,a % p=0)
 | [],v,h=>by cases cI.mp h;exact⟨λ_=> [],λx=>rfl,λi g h=>by simp at h,λ_ a h=>by cases h⟩
 | g ::G,v,h=>by
  have e:cps s (g::G)=NO s g.1 g.2.1 g.2.2++cps s G:=rfl;rw[e,aL,rQ] at h;obtain⟨J,h1,h2,h3⟩:=Hm (p:=p) s G (v.drop g.2.2) (by rw[fL,h];lia);have l1:(v.take g.2.2).length=g.2.2:=by rw[a6,h];lia
  refine⟨λi=>match i with | 0=>Dn g.2.1 (v.take g.2.2) | i+1=>J i,λx=> ?_,λi u hu z hz=> ?_,λhz a ha=> ?_⟩
  ·have hc:=oy s [g.1] (G.map (·.1)) (λi=>match i with | 0=>Dn g.2.1 (v.take g.2.2) | i+1=>J i) x G.length;have e3:(λi=>(λi:Nat=>match i with | 0=>Dn g.2.1 (v.take g.2.2) | i+1=>J i) ([g.1].length+i))=J:=by funext i;show(match 1+i with | 0=>_ | i+1=>J i)=_;rw[JQ]
   rw[e3] at hc;rw[e, <- a8 g.2.2 v,Hn x _ _ _ _ (by rw[l1,rQ]),a8,Hl s g.1 x _ _ _ l1,h1 x,aG,JQ];show _=gB s ([g.1]++G.map (·.1)) _ x ([g.1].length+G.length);rw[hc];show _=0+dF (λsh=>look ([g.1].getD 0 []) (x - s*sh)) (Dn g.2.1 (v.take g.2.2))+_;rw[bP];rfl
  ·cases i with
   | zero=>cases (show g=u from by simpa using hu);have:=wz _ _ z hz;rw[l1] at this;exact this
   | succ i=>exact h2 i u (by simpa using hu) z hz
  ·rw[<- a8 g.2.2 v] at ha;rcases ax.mp ha with ha | ha
   ·exact yi _ _ (hz 0 (Nat.succ_pos _)) a ha
   ·exact h3 (λi hi=>hz (i+1) (by rw[aG];lia)) a ha
def Indep (s p:Int)(bs:List Pt):Prop:= ∀J:Nat ->Pt,(∀x,gB s bs J x bs.length % p=0) -> ∀i,i<bs.length -> ∀y,dP (J i) y % p=0
def Trim (s p:Int)(sts:List Pt)(D:Int):Prop:= ∀ (i j:Nat) st bB c len,i<j ->sts[i]? =some st ->sts[j]? =some bB ->Sr s p bB c len D -> ∀x,bM s x=c ->look st x≠0 ->0<=hI s x /\ hI s x<len
section
variable {s p D:Int}{sts bs:List Pt}
theorem mH {sts:List Pt}{i:Nat}{st:Pt}(h:sts[i]? =some st):sts.getD i []=st:=by rw[bI,h];rfl
theorem Bu {s:Int}{bs:List Pt}{J:Nat ->Pt}{x:Int}: ∀n,(∀i,i<n -> ∀z∈J i,look (bs.getD i []) (x - s*z.1)=0) ->gB s bs J x n=0
 | 0,_=>rfl
 | n+1,h=>by rw[gB,Bu n λi hi=>h i (by lia),fV λz hz=>h n (by lia) z hz];rfl
theorem count_le {t:Pt}{w h an:Nat}{alo Lm:Int}(hp:p=2 \/ p=3 \/ p=5 \/ p=7)(s0:0<s)(iB:uo s p sts D)(trim:an=0 \/ Trim s p sts D)(H0:bs.length=sts.length)(ind:Indep s p bs)(jE: ∀b∈bs,cX s p sts (look b))(hw: ∀b∈bs, ∀x,look b x≠0 -> -(w:Int) <=hI s x /\ hI s x<=w) (ht:t∈sts) (hh:2*w<=h) (Zc: ∀st∈sts,fw s st<=Lm) (hLh:Lm<=h) (a0:0<=alo) (a1:alo+an+Lm<=h) (out: ∀js:Pt,(∀z∈js,alo<=z.1 /\ z.1<alo+an) ->(∀x,¬(0<=hI s x /\ hI s x<h) ->dF (λsh=>look t (x - s*sh)) js % p=0) -> ∀y,dP js y % p=0): sts.length*(h - 2*w)+an+(sts.map λst=>(fw s st).toNat).sum<=sts.length*h:=by
 have p0:0<p:=by lia
 have sn:s≠0:=by lia
 have nB: ∀ (i:Nat) st,sts[i]? =some st ->Sr s p st (dm s st) (fw s st) D:=λi st hi=>by obtain⟨c,len,sr,_⟩:=iB.each i st hi;rw[sr.mK,sr.jN];exact sr
 let G:List (Pt×Int×Nat):=bs.map (λb=>(b,(w:Int),h - 2*w))++((t,alo,an)::sts.map λst=>([(dm s st,1)],0,(fw s st).toNat))
 let X:List Int:=sts.flatMap λst=>(List.range h).map λη:Nat=>dm s st+(η:Int)*s
 have hX:X.length=sts.length*h:=by show(sts.flatMap _).length=_;rw[QV];have:(sts.map λst=>((List.range h).map λη:Nat=>dm s st+(η:Int)*s).length)=List.replicate sts.length h:=jC.mpr ⟨by simp,λb hb=>by obtain⟨a,_,rfl⟩:=af.mp hb;simp⟩;rw[this,og]
 have hG:(cps s G).length=sts.length*(h - 2*w)+an+(sts.map λst=>(fw s st).toNat).sum:=by rw[CO];show((bs.map (λb=>(b,(w:Int),h - 2*w))++((t,alo,an)::sts.map λst=>([(dm s st,1)],0,(fw s st).toNat))).map λg:Pt×Int×Nat=>g.2.2).sum=_;rw[aN,zE,aH,EZ,aD,aD];have:(bs.map ((λg:Pt×Int×Nat=>g.2.2) ∘ λb=>(b,(w:Int),h - 2*w)))=List.replicate bs.length (h - 2*w):=jC.mpr ⟨by simp,λb hb=>by obtain⟨a,_,rfl⟩:=af.mp hb;rfl⟩;rw[this,og,H0,jI];rfl
 rw[<- hG, <- hX];obtain⟨P,hP⟩: ∃P:Nat,(P:Int)=p:=⟨p.toNat,by lia⟩
 refine QG (p:=P) (by lia) λv hv hz=> ?_;rw[hP] at hz ⊢;obtain⟨J,e1,e2,e3⟩:=Hm (p:=p) s G v hv;have GB:G.map (·.1)=bs++(t::sts.map λst=> [(dm s st,1)]):=by show(bs.map (λb=>(b,(w:Int),h - 2*w))++((t,alo,an)::sts.map λst=>([(dm s st,1)],0,(fw s st).toNat))).map (·.1)=_;rw[aN,aH,aD,aD];congr 1;exact Oc _
 have GL:G.length=bs.length+(1+sts.length):=by show(bs.map (λb=>(b,(w:Int),h - 2*w))++((t,alo,an)::sts.map λst=>([(dm s st,1)],0,(fw s st).toNat))).length=_;rw[aL,aa,aG,aa];lia
 let C:Int ->Int:=λx=>gB s (sts.map λst=> [(dm s st,1)]) (λi=>J (bs.length+(1+i))) x sts.length
 let B:Int ->Int:=λx=>dF (λsh=>look t (x - s*sh)) (J bs.length)
 let U:Int ->Int:=λx=>gB s bs J x bs.length
 have eJ: ∀x,lc v (cps s G) x=U x+(B x+C x):=λx=>by rw[e1,GB,GL,oy];have:=oy s [t] (sts.map λst=> [(dm s st,1)]) (λi=>J (bs.length+i)) x sts.length;show U x+gB s ([t]++sts.map λst=> [(dm s st,1)]) (λi=>J (bs.length+i)) x ([t].length+sts.length)=_;rw[this];show U x+(0+dF (λsh=>look t (x - s*sh)) (J (bs.length+0))+C x)=_;rw[bP,n9]
 have kU: ∀i,i<bs.length -> ∀z∈J i,(w:Int) <=z.1 /\ z.1< (w:Int)+((h - 2*w:Nat):Int):=λi hi z qo=>by have:=e2 i (bs[i],(w:Int),h - 2*w) (by show(bs.map _++_)[i]? =_;rw[a9 (by simpa using hi),aA,ae hi];rfl) z qo;exact this
 have kB: ∀z∈J bs.length,alo<=z.1 /\ z.1<alo+an:=λz qo=>by have:=e2 bs.length (t,alo,an) (by show(bs.map _++_)[bs.length]? =_;rw[aU (by simp)];simp) z qo;exact this
 have kC: ∀i st,sts[i]? =some st -> ∀z∈J (bs.length+(1+i)),0<=z.1 /\ z.1<fw s st:=λi st hi z qo=>by have:=e2 (bs.length+(1+i)) ([(dm s st,1)],0,(fw s st).toNat) (by show(bs.map _++_)[_]? =_;rw[aU (by simp),aa,Jf,JQ,d8,aA,hi];rfl) z qo;have h2:=(nB i st hi).l0;refine⟨this.1,?_⟩;have h3:=this.2;simp only[bP] at h3;lia
 have zU: ∀x,¬(0<=hI s x /\ hI s x<h) ->U x=0:=λx hx=>Bu _ λi hi z qo=>au λc9=>hx (by
  have hb:bs.getD i []∈bs:=by rw[mH (ae hi)];exact bW _
  have h1:=hw _ hb _ c9;rw[lR sn] at h1;have h2:=kU i hi z qo;omega)
 have single: ∀ (c x:Int),look [(c,1)] x≠0 ->x=c:=λc x c9=>au λhn=>c9 (eZ λq hq e=>hn (by rw[ah.mp hq] at e;exact e.symm));have atC: ∀x i st,sts[i]? =some st ->bM s x=dm s st ->C x % p=dF (λsh=>look [(dm s st,1)] (x - s*sh)) (J (bs.length+(1+i))) % p:=λx i st hi hx=>by
  have hl:=(ag.mp hi).1;have h1:=vY (s:=s) (p:=p) (sts:=sts.map λst=> [(dm s st,1)]) (J:=λi=>J (bs.length+(1+i))) (x:=x) (i:=i) sts.length hl λj hj UL=>by
   have jH:sts[j]? =some sts[j]:=ae hj;rw[mH (st:= [(dm s sts[j],1)]) (by rw[aA,jH];rfl)];rw[fV λz qo=>au λc9=> ?_]
   ·rfl
   ·have h2:=single _ _ c9;have h3:bM s (x - s*z.1)=dm s sts[j]:=by rw[h2];exact(nB j _ jH).ok.own
    rw[iE,hx] at h3;rcases dU i j with q | q
    ·have:=iB.BD i j st _ _ _ _ _ q hi jH (nB i st hi) (nB j _ jH);omega
    ·have:=iB.BD j i _ st _ _ _ _ (by omega) jH hi (nB j _ jH) (nB i st hi);omega
  have e4:(sts.map λst=> [(dm s st,(1:Int))]).getD i []= [(dm s st,1)]:=mH (by rw[aA,hi];rfl);rw[e4] at h1;exact h1
 have dlt: ∀ (c x:Int) (js:Pt),dF (λsh=>look [(c,1)] (x - s*sh)) js=dF (λsh=>if x - s*sh=c then 1 else 0) js:=λc x js=>by
  congr 1;funext sh;by_cases e:x - s*sh=c
  ·rw[ak e,e];exact ak rfl
  ·rw[aj e];exact eZ λq hq e'=>e (by rw[ah.mp hq] at e';exact e'.symm)
 have Vp : ∀i st,sts[i]? =some st -> ∀x,bM s x=dm s st ->(U x+B x+C x) % p=0:=λi st hi x hx=>by
  by_cases hr:0<=hI s x /\ hI s x<h
  ·have:x∈X:=eM.mpr ⟨st,ai hi,af.mpr ⟨(hI s x).toNat,c7.mpr (by lia),by rw[show(((hI s x).toNat:Nat):Int)=hI s x by lia];exact(qu (by lia) hx).symm⟩⟩;have:=hz x this;rwa [eJ, <- gg] at this
  ·have hb:B x=0:=fV λz qo=>au λc9=>hr (by
    have h2:=kB z qo;obtain⟨k,hk⟩:=bA.mp ht;have hc:bM s (x - s*z.1)=dm s st:=by rw[iE];exact hx
    have h3:0<=hI s (x - s*z.1) /\ hI s (x - s*z.1) <=Lm:=by
     rcases trim with an0 | trim
     ·exfalso;omega
     rcases iX k i with q | q | q
     ·have:=trim k i t st _ _ q hk hi (nB i st hi) _ hc c9;have:=Zc st (ai hi);omega
     ·subst q;rw[hk] at hi;cases hi;have:=(nB k t hk).rq _ (cJ c9) hc;have:=Zc t ht;omega
     ·have h5:=iB.BD i k st t _ _ _ _ q hi hk (nB i st hi) (nB k t hk);have:=(nB k t hk).ge _ (cJ c9);omega
    rw[lR sn] at h3;omega)
   have hc:C x % p=0:=by
    rw[atC x i st hi hx,fV λz qo=>au λc9=>hr ?_]
    ·rfl
    ·have h2:=single _ _ c9;have h3:hI s (x - s*z.1)=0:=by rw[h2];exact Ie (nB i st hi).ok
     rw[lR sn] at h3;have:=kC i st hi z qo;have:=Zc st (ai hi);omega
   rw[zU x hr,hb,bH,hc];rfl
 have hUB:cX s p sts λx=>U x+B x:=(cX.gB jE J _ (aq _)).add ((cX.of ht).dF _);have hzero: ∀x,(U x+B x) % p=0:=by
  obtain⟨J',Wy⟩:=hUB;intro x;rw[Wy];refine Bs hp (by lia) iB Wy (λi st c len hi sr x hx c9=> ?_) x;have e5:=sr.uniq (nB i st hi);rw[e5.1] at hx;have h0:=Vp i st hi x hx;have RE:C x % p≠0:=λe=>c9 (by rw[bH,e,bu,cE] at h0;exact h0);rw[atC x i st hi hx,dlt] at RE;have: ∃z∈J (bs.length+(1+i)),x - s*z.1=dm s st:=au λhn=>RE (by rw[fV λz qo=>aj λe=>hn ⟨z,qo,e⟩];rfl);obtain⟨z,Rm,Ui⟩:=this;have h3:hI s (x - s*z.1)=0:=by rw[Ui];exact Ie (nB i st hi).ok
  rw[lR sn] at h3;have:=kC i st hi z Rm;rw[e5.2];exact⟨by lia,by lia⟩
 have hB0: ∀y,dP (J bs.length) y % p=0:=out _ kB λx hx=>by have h1:=hzero x;rw[zU x hx,bP] at h1;exact h1
 have hBx: ∀x,B x % p=0:=λx=>lW _ _ _ (aq _) hB0;have hU0:=ind J λx=>by have h1:=hzero x;rw[bH,hBx,bu,cE] at h1;exact h1
 refine e3 λi hi y=> ?_;rw[GL] at hi;rcases iX i bs.length with q | q | q
 ·exact hU0 i q y
 ·rw[q];exact hB0 y
 ·obtain⟨k,rfl⟩: ∃k,i=bs.length+(1+k):=⟨i - bs.length - 1,by lia⟩
  have hk:sts[k]? =some sts[k]:=ae (by lia);have hx:bM s (dm s sts[k]+y*s)=dm s sts[k]:=(nB k _ hk).ok.on y;have h0:=Vp k _ hk _ hx;rw[bH,hzero,bP,cE,atC _ k _ hk hx,dlt] at h0;have e6:(λsh=>if dm s sts[k]+y*s - s*sh=dm s sts[k] then(1:Int) else 0)=λsh=>if y - sh=0 then 1 else 0:=by
   funext sh;have e7:dm s sts[k]+y*s - s*sh=dm s sts[k]+(y - sh)*s:=by rw[jZ,bK s sh];lia
   by_cases z:y - sh=0
   ·rw[ak z,e7,z,ak (by lia)]
   ·rw[aj z,e7,aj];intro e8;have:(y - sh)*s=0:=by lia
    rcases Int.mul_eq_zero.mp this with h9 | h9
    ·exact z h9
    ·exact sn h9
  rw[e6,CW] at h0;exact h0
end
section
variable {s p D:Int}{sts bs:List Pt}
theorem uo.of (iB:uo s p sts D){st:Pt}(h:st∈sts):Sr s p st (dm s st) (fw s st) D:=by obtain⟨i,hi⟩:=bA.mp h;obtain⟨c,len,sr,_⟩:=iB.each i st hi;rw[sr.mK,sr.jN];exact sr
theorem zX {α:Type}{f:α ->Nat}: ∀ {l:List α} {a:α},a∈l ->f a<=(l.map f).sum
 | b::l,a,h=>by
  rw[aH,EZ];rcases av.mp h with rfl | h
  ·lia
  ·have:=zX (f:=f) h;lia
theorem sN {m h w:Nat}(hh:2*w<=h){a:Nat}(e:m*(h - 2*w)+a<=m*h):a<=2*m*w:=by
 have:m*(h - 2*w)+m*(2*w)=m*h:=by rw[<- Nat.mul_add];congr 1;lia
 have e2:m*(2*w)=2*m*w:=by rw[Nat.mul_left_comm,Nat.mul_assoc]
 lia
theorem BZ {w:Nat}(hp:p=2 \/ p=3 \/ p=5 \/ p=7)(s0:0<s)(iB:uo s p sts D)(H0:bs.length=sts.length)(ind:Indep s p bs)(jE: ∀b∈bs,cX s p sts (look b))(hw: ∀b∈bs, ∀x,look b x≠0 -> -(w:Int) <=hI s x /\ hI s x<=w): (sts.map λst=>(fw s st).toNat).sum<=2*sts.length*w:=by
 cases hs:sts with
 | nil=>exact cU _
 | cons t r=>
  rw[<- hs];have ht:t∈sts:=by rw[hs];exact aE
  have hL: ∀st∈sts,fw s st<=(((sts.map λst=>(fw s st).toNat).sum:Nat):Int):=λst h=>by have:=zX (f:=λst=>(fw s st).toNat) h;have:=(iB.of h).l0;lia
  have:=count_le (t:=t) (w:=w) (h:=2*w+(sts.map λst=>(fw s st).toNat).sum) (an:=0) (alo:=0) (Lm:=(((sts.map λst=>(fw s st).toNat).sum:Nat):Int)) hp s0 iB (.inl rfl) H0 ind jE hw ht (by lia) hL (by push_cast;lia) (aV _) (by push_cast;lia) λjs hk _ y=>by
   have:js= []:=by
    cases js with
    | nil=>rfl
    | cons z r=>have:=hk z aE;simp at this;lia
   rw[this];rfl
  rw[n9] at this;exact sN (by lia) this
theorem Gk {w:Nat}(hp:p=2 \/ p=3 \/ p=5 \/ p=7)(s0:0<s)(iB:uo s p sts D)(trim:Trim s p sts D)(H0:bs.length=sts.length)(ind:Indep s p bs)(jE: ∀b∈bs,cX s p sts (look b))(hw: ∀b∈bs, ∀x,look b x≠0 -> -(w:Int) <=hI s x /\ hI s x<=w) {t:Pt} (ht:t∈sts) {x:Int} (hx:look t x≠0): -((2*sts.length*w:Nat):Int) <=hI s x /\ hI s x<=((2*sts.length*w:Nat):Int):=by
 have sn:s≠0:=by lia
 have p0:0<p:=by lia
 have hL: ∀st∈sts,fw s st<=(((sts.map λst=>(fw s st).toNat).sum:Nat):Int):=λst h=>by have:=zX (f:=λst=>(fw s st).toNat) h;have:=(iB.of h).l0;lia
 have gt:=qh (iB.of ht).pat;have c9:qE s (bM s x) (eG t)≠ []:=λe=>by have:=lO (cJ hx) (rfl:bM s x=bM s x);rw[e] at this;cases this
 obtain⟨ma,mb⟩:=oS c9;obtain⟨la,lb⟩:=gm c9;generalize uO _=H at ma mb;generalize fR _=B at la lb;have hxH:=mb _ (lO (cJ hx) rfl);have hxB:=lb _ (lO (cJ hx) rfl);obtain⟨mh,mc⟩:=xn (by lia) ma;obtain⟨lh,lc'⟩:=xn (by lia) la;have KO:kI s (bM s x):=xj (by lia);have KJ: ∀k,H<k ->look t (bM s x+k*s)=0:=λk hk=>au λhn=>by have:=mb _ (lO (cJ hn) (KO.on k));rw[pk KO sn] at this;lia
 have XB: ∀k,k<B ->look t (bM s x+k*s)=0:=λk hk=>au λhn=>by have:=lb _ (lO (cJ hn) (KO.on k));rw[pk KO sn] at this;lia
 have hmul: ∀a b:Int,bM s x+a*s - s*b=bM s x+(a - b)*s:=λa b=>by rw[jZ,bK s b];lia
 have S:=BZ hp s0 iB H0 ind jE hw;have xT: ∀js:Pt,(∃y,dP js y % p≠0) ->(js.map (·.1)).filter (λy=>decide (dP js y % p≠0))≠ []:=λjs ⟨y,hy⟩ e=>by have:y∈(js.map (·.1)).filter (λy=>decide (dP js y % p≠0)):=aP.mpr ⟨l7 λe0=>hy (by rw[e0];rfl),dw hy⟩;rw[e] at this;cases this
 have Hu: ∀ (js:Pt) y,dP js y % p≠0 ->y∈(js.map (·.1)).filter (λy=>decide (dP js y % p≠0)):=λjs y hy=>aP.mpr ⟨l7 λe0=>hy (by rw[e0];rfl),dw hy⟩;generalize hΛ:(sts.map λst=>(fw s st).toNat).sum=Λ at hL S;constructor
 ·rcases dX B 0 with hb | hb
  ·have :=count_le (t:=t) (w:=w) (h:=(-B).toNat+Λ+2*w) (an:=(-B).toNat) (alo:=0) (Lm:=(Λ:Int)) hp s0 iB (.inr trim) H0 ind jE hw ht (by lia) hL (by push_cast;lia) (aV _) (by push_cast;lia) λjs hk hz y=>by
    refine au λhy=> ?_;obtain⟨k1,k2⟩:=gm (xT js ⟨y,hy⟩);generalize fR _=k at k1 k2;have YN:dP js k % p≠0:=by simpa using(aP.mp k1).2
    obtain⟨z,Rm,Ui⟩:=af.mp (aP.mp k1).1;have YL:=hk z Rm;rw[Ui] at YL;have h1:=hz (bM s x+(B+k)*s) (by rw[pk KO sn];lia);rw[tG _ js k λy' ne=> ?_,hmul,show B+k - k=B by lia] at h1
    ·have hv:=eD gt lh;exact uL hp YN _ hv.1 hv.2 h1
    ·rw[hmul];rcases dX y' k with h | h
     ·have:dP js y' % p=0:=au λh2=>by have:=k2 _ (Hu js y' h2);lia
      rw[bZ,this,de];rfl
     ·rw[XB _ (by lia),bG];rfl
   rw[hΛ,jI] at this;have:=sN (by lia) this;lia
  ·lia
 ·rcases dX (Λ:Int) H with hb | hb
  ·have :=count_le (t:=t) (w:=w) (h:=H.toNat+2*w) (an:=(H - Λ).toNat) (alo:=2*w) (Lm:=(Λ:Int)) hp s0 iB (.inr trim) H0 ind jE hw ht (by lia) hL (by push_cast;lia) (by lia) (by push_cast;lia) λjs hk hz y=>by
    refine au λhy=> ?_;obtain⟨k1,k2⟩:=oS (xT js ⟨y,hy⟩);generalize uO _=k at k1 k2;have YN:dP js k % p≠0:=by simpa using(aP.mp k1).2
    obtain⟨z,Rm,Ui⟩:=af.mp (aP.mp k1).1;have YL:=hk z Rm;rw[Ui] at YL;have h1:=hz (bM s x+(H+k)*s) (by rw[pk KO sn];push_cast;lia);rw[tG _ js k λy' ne=> ?_,hmul,show H+k - k=H by lia] at h1
    ·have hv:=eD gt mh;exact uL hp YN _ hv.1 hv.2 h1
    ·rw[hmul];rcases dX k y' with h | h
     ·have:dP js y' % p=0:=au λh2=>by have:=k2 _ (Hu js y' h2);lia
      rw[bZ,this,de];rfl
     ·rw[KJ _ (by lia),bG];rfl
   rw[hΛ,jI] at this;have:=sN (by lia) this;lia
  ·lia
theorem yP {A:Int ->Int}{c:Int}(hp:p=2 \/ p=3 \/ p=5 \/ p=7)(s0:0<=s)(iB:uo s p sts D)(h:cX s p sts A)(hz: ∀x,bM s x<c ->A x % p=0)(hx: ∃x,bM s x=c /\ A x % p≠0):c∈sts.map (dm s):=by
 obtain⟨J,hJ⟩:=h;obtain⟨x0,Yf,c9⟩:=hx;refine au λhc=>c9 ?_;have get: ∀i st,sts[i]? =some st ->sts.getD i []=st:=λi st h=>mH h;have sr: ∀i (hi:i<sts.length),Sr s p sts[i] (dm s sts[i]) (fw s sts[i]) D:=λi hi=>iB.of (bW _);have later: ∀i j (hi:i<sts.length) (hj:j<sts.length),i<j -> ∀x,bM s x<=dm s sts[i] ->dF (λsh=>look sts[j] (x - s*sh)) (J j)=0:=λi j hi hj iu x hx=>fV λz _=>au λhn=>by have h1:=(sr j hj).ge _ (cJ hn);rw[iE] at h1;have:=iB.BD i j _ _ _ _ _ _ iu (ae hi) (ae hj) (sr i hi) (sr j hj);lia
 have key: ∀ (i:Nat) (hi:i<sts.length),dm s sts[i] <c -> ∀x,dF (λsh=>look sts[i] (x - s*sh)) (J i) % p=0:=λi=>by
  induction i using Nat.strongRecOn with
  | ind i ih=>
   intro hi f6 x;refine CT hp s0 (sr i hi) (λx hx hn=> ?_) x;exfalso;refine hn ?_;have h1:=hz x (by lia);rw[hJ,vY (i:=i) _ hi λj hj UL=> ?_,get i _ (ae hi)] at h1
   ·exact h1
   ·rw[get j _ (ae hj)];rcases dU j i with q | q
    ·have:=iB.BD j i _ _ _ _ _ _ q (ae hj) (ae hi) (sr j hj) (sr i hi);exact ih j q hj (by lia) x
    ·rw[later i j hi hj (by lia) x (by lia)];rfl
 rw[hJ];have : ∀ m,m<=sts.length ->gB s sts J x0 m % p=0:=λm=>by
  induction m with
  | zero=>intro _;exact eE _
  | succ m ih=>
   intro hm;have Jw:m<sts.length:=by lia
   rw[gB,bH,ih (by lia),get m _ (ae Jw)];have h2:dF (λsh=>look sts[m] (x0 - s*sh)) (J m) % p=0:=by
    rcases l4 (dm s sts[m]) c with q | q | q
    ·exact key m Jw q x0
    ·exact absurd (af.mpr ⟨_,bW Jw,q⟩) hc
    ·rw[fV λz _=>au λhn=>by have h1:=(sr m Jw).ge _ (cJ hn);rw[iE] at h1;lia];rfl
   rw[h2];rfl
 exact this _ (aq _)
theorem rS (F G:Int ->Int): ∀js:Pt,dF (λt=>F t+G t) js=dF F js+dF G js
 | []=>rfl
 | z::r=>by rw[cf,cf,cf,rS F G r,fi];lia
theorem CP (F:Int ->Int)(k:Int): ∀js:Pt,dF (λt=>F t*k) js=dF F js*k
 | []=>by show(0:Int)=0*k;simp
 | z::r=>by rw[cf,cf,CP F k r,fi];congr 1;rw[dW,dW,bK k]
theorem zc (f:Int ->Int)(s x:Int)(q:Pt): ∀a:Pt,dF (λsh=>dF (λt=>f (x - s*sh - s*t)) q) a=dF (λt=>dF (λsh=>f (x - s*t - s*sh)) a) q
 | []=>by rw[show(λt:Int=>dF (λsh=>f (x - s*t - s*sh)) [])=λ_=>0 from rfl,CQ];rfl
 | z::r=>by have e:(λt=>dF (λsh=>f (x - s*t - s*sh)) (z::r))=λt=>f (x - s*t - s*z.1)*z.2+dF (λsh=>f (x - s*t - s*sh)) r:=rfl;rw[cf,zc f s x q r,e,rS,CP];congr 2;congr 1;funext t;congr 1;lia
theorem CS {F G:Int ->Int}(h: ∀t,F t % p=G t % p): ∀js:Pt,dF F js % p=dF G js % p
 | []=>rfl
 | z::r=>by rw[cf,cf,bH,CS h r,bZ,h, <- bZ, <- bH]
theorem AF {sts':List Pt}{D':Int}{P:Pt}(hp:p=2 \/ p=3 \/ p=5 \/ p=7)(s0:0<s)(iB:uo s p sts D)(j6:uo s p sts' D')(ind:Indep s p bs)(jE: ∀b∈bs,cX s p sts (look b))(hlen:sts.length<sts'.length) (hq: ∀st∈sts', ∃q:Pt,cX s p sts λx=>look st x - dF (λsh=>look P (x - s*sh)) q):Indep s p (bs++ [P]):=by
 have sn:s≠0:=by lia
 intro J hJ;have yI: ∀x,(gB s bs J x bs.length+dF (λsh=>look P (x - s*sh)) (J bs.length)) % p=0:=λx=>by
  have h1:=hJ x;rw[aL,cY,oy s bs [P] J x 1] at h1;have e:gB s [P] (λi=>J (bs.length+i)) x 1=dF (λsh=>look P (x - s*sh)) (J bs.length):=by show 0+dF (λsh=>look ([P].getD 0 []) (x - s*sh)) (J (bs.length+0))=_;rw[bP];rfl
  rw[e] at h1;exact h1
 have a0 : ∀ y,dP (J bs.length) y % p=0:=by
  intro y;refine au λhy=> ?_;have hP:cX s p sts λx=>dF (λsh=>look P (x - s*sh)) (J bs.length):=by refine((cX.gB jE J _ (aq _)).mul (-1)).ext λx=> ?_;have h1:=yI x;refine cc.mpr ?_;rw[<- h1];congr 1;lia
  have hA: ∀st∈sts',cX s p sts λx=>dF (λsh=>look st (x - s*sh)) (J bs.length):=λst mE=>by obtain⟨q,hq⟩:=hq st mE;refine((hq.dF (J bs.length)).add (hP.dF q)).ext λx=> ?_;rw[<- zc (look P) s x q (J bs.length), <- rS];congr 2;funext sh;lia
  have c9:((J bs.length).map (·.1)).filter (λy=>decide (dP (J bs.length) y % p≠0))≠ []:=λe=>by have:y∈((J bs.length).map (·.1)).filter (λy=>decide (dP (J bs.length) y % p≠0)):=aP.mpr ⟨l7 λe0=>hy (by rw[e0];rfl),dw hy⟩;rw[e] at this;cases this
  obtain⟨k1,k2⟩:=oS c9;generalize uO _=m at k1 k2;have hm:dP (J bs.length) m % p≠0:=by simpa using(aP.mp k1).2
  have UY: ∀c∈sts'.map (dm s),c∈sts.map (dm s):=λc hc=>by
   obtain⟨st,mE,rfl⟩:=af.mp hc;have sr:=j6.of mE;have hmul: ∀a b:Int,dm s st+a*s - s*b=dm s st+(a - b)*s:=λa b=>by rw[jZ,bK s b];lia
   refine yP hp (by lia) iB (hA st mE) (λx hx=> ?_) ⟨dm s st+(fw s st+m)*s,sr.ok.on _,?_⟩
   ·rw[fV λz _=>au λhn=>by have h1:=sr.ge _ (cJ hn);rw[iE] at h1;lia];rfl
   ·rw [tG _ (J bs.length) m λy' ne=> ?_,hmul,show fw s st+m - m=fw s st by lia,sr.top,fU]
    ·exact hm
    ·rw [hmul];rcases dX m y' with h | h
     ·have:dP (J bs.length) y' % p=0:=au λh2=>by have:=k2 y' (aP.mpr ⟨l7 λe0=>h2 (by rw[e0];rfl),dw h2⟩);lia
      rw[bZ,this,de];rfl
     ·rw[sr.out sn (by lia),bG];rfl
  have nd:(sts'.map (dm s)).Nodup:=by rw[List.Nodup,bY,bj];intro i j hi hj iu e;have:=j6.BD i j _ _ _ _ _ _ iu (ae hi) (ae hj) (j6.of (bW _)) (j6.of (bW _));lia
  have:=je nd UY;rw[aa,aa] at this;lia
 intro i hi y;rw[aL,cY] at hi;rcases dU i bs.length with q | q
 ·refine ind J (λx=> ?_) i q y;have h1:=yI x;rw[bH,lW _ _ _ (aq _) a0,bu,cE] at h1;exact h1
 ·rw[show i=bs.length by lia];exact a0 y
end
def lx (s Z l h:Int)(a:Pt):Prop:=(∀x,look a x≠0 -> -l<=hI s x /\ hI s x<=h) /\ (s=0 ->Wt Z a)
def qy (s l h:Int)(P:Pq):Prop:= ∀w x,look (pf P w) x≠0 -> -l<=x /\ x<=h
section
variable {s p Z l h l' h':Int}{a b c:Pt}{P Q:Pq}
theorem lx.up (x:lx s Z l h a)(hl:l<=l')(hh:h<=h'):lx s Z l' h' a:=⟨λy hy=>by have:=x.1 y hy;lia,x.2⟩
theorem qy.up (x:qy s l h P)(hl:l<=l')(hh:h<=h'):qy s l' h' P:=λw y hy=>by have:=x w y hy;lia
theorem mG (x:Int):hI 0 x=0:=ak rfl
theorem lx.wt (x:lx s Z l h a)(s0:0<=s)(s8:s<=8)(z0:0<=Z){E:Int}(hl:l<=E)(hh:h<=E)(e0:0<=E):Wt (Z+8*(E+1)) a:=λy hy=>by
 by_cases z:s=0
 ·have:=x.2 z y hy;lia
 ·have h1:=x.1 y hy;have h2:=AL (s:=s) (x:=y) (by lia);have h3:=aZ (show hI s y<=E by lia) s0;have h4:=aZ (show -E<=hI s y by lia) s0;have h5:=bg s8 e0;rw[gH] at h4;lia
theorem qy.wt (x:qy s l h P)(nd:(P.map (·.1)).Nodup){E:Int}(hl:l<=E)(hh:h<=E): ∀t∈P,Wt E t.2.2:=λt ht y hy=>by rw[<- sE nd ht] at hy;have:=x t.1 y hy;lia
theorem lx.cut {lb hb jl jh:Int}{js:Pt}(ha:lx s Z l h a)(RH:lx s Z lb hb b)(ec: ∀x,look c x=(look a x+dF (λsh=>look b (x - s*sh)) js) % p)(hj: ∀j∈js, -jl<=j.1 /\ j.1<=jh)(Jz:s=0 -> ∀j∈js,j.1=0) (hl:l<=l') (Qf:lb+jl<=l') (hh:h<=h') (hh2:hb+jh<=h'):lx s Z l' h' c:=by
 have one: ∀x,look c x≠0 ->look a x≠0 \/ ∃j∈js,look b (x - s*j.1)≠0:=λx hx=>by
  by_cases z:look a x=0
  ·refine .inr (au λhn=>hx ?_);rw[ec,z,fV λj jH=>au λhq=>hn ⟨j,jH,hq⟩];rfl
  ·exact .inl z
 refine⟨λx hx=> ?_,λz x hx=> ?_⟩
 ·rcases one x hx with q | ⟨j,jH,q⟩
  ·have:=ha.1 x q;lia
  ·have h1:=RH.1 _ q;have h2:=hj j jH;by_cases z:s=0
   ·have h3:=Jz z j jH;rw[z,mG] at h1 ⊢;lia
   ·rw[lR z] at h1;lia
 ·rcases one x hx with q | ⟨j,jH,q⟩
  ·exact ha.2 z x q
  ·have:=RH.2 z _ q;rw[z,bG,vJ] at this;exact this
theorem qy.cut {P':Pq}{lb hb jl jh:Int}{js:Pt}(ha:qy s l h P)(RH:qy s lb hb Q)(ec: ∀w x,look (pf P' w) x=(look (pf P w) x+dF (λsh=>look (pf Q w) (x - sh)) js) % p)(hj: ∀j∈js, -jl<=j.1 /\ j.1<=jh) (hl:l<=l') (Qf:lb+jl<=l') (hh:h<=h') (hh2:hb+jh<=h'):qy s l' h' P':=λw x hx=>by
 by_cases z:look (pf P w) x=0
 ·have: ∃j∈js,look (pf Q w) (x - j.1)≠0:=au λhn=>hx (by rw[ec,z,fV λj jH=>au λhq=>hn ⟨j,jH,hq⟩];rfl);obtain⟨j,jH,q⟩:=this;have h1:=RH w _ q;have h2:=hj j jH;lia
 ·have:=ha w x z;lia
theorem lx.stood {m tn:Int}(ha:lx s Z l h a)(eb: ∀x,look b x=look a (x+s*m)*tn % p)(hm:s=0 ->m=0):lx s Z (l+m) (h - m) b:=by
 have one: ∀x,look b x≠0 ->look a (x+s*m)≠0:=λx hx e=>hx (by rw[eb,e,bG];rfl);refine⟨λx hx=> ?_,λz x hx=> ?_⟩
 ·have h1:=ha.1 _ (one x hx);by_cases z:s=0
  ·have h2:=hm z;rw[z,mG] at h1 ⊢;lia
  ·rw[bK,rO z] at h1;lia
 ·have:=ha.2 z _ (one x hx);rw[z,bG,bu] at this;exact this
theorem qy.stood {m tn:Int}(ha:qy s l h P)(eb: ∀w x,look (pf Q w) x=look (pf P w) (x+m)*tn % p):qy s (l+m) (h - m) Q:=λw x hx=>by have:=ha w (x+m) (λe=>hx (by rw[eb,e,bG];rfl));lia
theorem zV {f len bl bh:Int}{ms:List Int}{js:Pt}(l0:0<=len)(hs:ms.Pairwise (· <= ·))(hn:ms.Nodup)(hm: ∀m∈ms,bl<=m /\ m<=bh)(hj: ∀j∈js, ∃h∈t7 ms len,j.1=kb len h): ∀j∈js,(bl<=j.1 /\ j.1<0) \/ (0<=j.1 /\ j.1<=bh - len):=λj jH=>by
 obtain⟨h,hh,e⟩:=hj j jH;have H:=(FA l0 hs hn).1.out h hh;have B:=FC l0 hh;rw[e];unfold kb;split
 ·rename_i z;obtain⟨m,h1,h2⟩:=B.1 z;have:=hm m h1;exact .inl ⟨by lia,z⟩
 ·rename_i z;obtain⟨m,h1,h2⟩:=B.2 (by lia);have:=hm m h1;exact .inr ⟨by lia,by lia⟩
end
structure qw (s p:Int)(pats:List Pt)(b:Pt)(Q:Pq):Prop where
 is: ∀x,look b x % p=pT s pats Q x pats.length % p
 key: ∀w∈Q.map (·.1),0<=w /\ w< (pats.length:Int)
def Cs (q js:Pt):Pt:=js.flatMap λj=>tm j.2 (mv j.1 q)
theorem Bi (q:Pt)(y:Int): ∀js:Pt,dP (Cs q js) y=dF (λsh=>dP q (y - sh)) js
 | []=>rfl
 | j::r=>by show dP (tm j.2 (mv j.1 q)++Cs q r) y=_;rw[ji,Bi q y r,cf,vV,zT]
theorem CU (G:Int ->Int)(q:Pt): ∀js:Pt,dF G (Cs q js)=dF (λj=>dF (λsh=>G (sh+j)) q) js
 | []=>rfl
 | j::r=>by show dF G (tm j.2 (mv j.1 q)++Cs q r)=_;rw[pG,CU G q r,cf,tE, <- xg]
theorem Bj {s p:Int}{pats:List Pt}{P P' Q:Pq}{js:Pt}(nP: ∀w,((pf P w).map (·.1)).Nodup)(V2: ∀w,((pf P' w).map (·.1)).Nodup)(nQ: ∀w,((pf Q w).map (·.1)).Nodup) (ep: ∀w x,look (pf P' w) x=(look (pf P w) x+dF (λsh=>look (pf Q w) (x - sh)) js) % p) (x:Int): ∀n,pT s pats P' x n % p=(pT s pats P x n+dF (λsh=>pT s pats Q (x - s*sh) n) js) % p
 | 0=>by show(0:Int) % p=(0+dF (λ_=>0) js) % p;rw[CQ];rfl
 | n +1=>by
  have h1:=CV (p:=p) (λsh=>look (pats.getD n []) (x - s*sh)) (a:=pf P' n) (b:=pf P n++Cs (pf Q n) js) λy=>by rw[ji,Bi,gz (V2 n),gz (nP n),ep,cE];congr 2;congr 1;funext sh;rw[gz (nQ n)]
  rw[pG,CU] at h1;have e:(λsh=>pT s pats Q (x - s*sh) (n+1))=λsh=>pT s pats Q (x - s*sh) n+dF (λt=>look (pats.getD n []) (x - s*sh - s*t)) (pf Q n):=rfl;have e2:(λj=>dF (λsh=>look (pats.getD n []) (x - s*(sh+j))) (pf Q n))=λsh=>dF (λt=>look (pats.getD n []) (x - s*sh - s*t)) (pf Q n):=by funext j;congr 1;funext sh;congr 1;rw[iN];lia
  rw[e2] at h1;rw[pT,pT,e,rS,bH,Bj nP V2 nQ ep x n,h1, <- bH];congr 1;lia
theorem uB {s p m tn:Int}{pats:List Pt}{P Q:Pq}(nP: ∀w,((pf P w).map (·.1)).Nodup)(nQ: ∀w,((pf Q w).map (·.1)).Nodup)(ep: ∀w x,look (pf Q w) x=look (pf P w) (x+m)*tn % p)(x:Int): ∀n,pT s pats Q x n % p=pT s pats P (x+s*m) n*tn % p
 | 0=>by show(0:Int) % p=0*tn % p;rw[bG]
 | n +1=>by
  have h1:=CV (p:=p) (λsh=>look (pats.getD n []) (x - s*sh)) (a:=pf Q n) (b:=tm tn (mv (-m) (pf P n))) λy=>by rw[vV,zT,gz (nQ n),gz (nP n),ep,cE,Oe]
  rw[tE, <- xg] at h1;have e2:(λsh=>look (pats.getD n []) (x - s*(sh+ -m)))=λsh=>look (pats.getD n []) (x+s*m - s*sh):=by funext sh;congr 1;rw[iN,gH];lia
  rw[e2] at h1;rw[pT,pT,fi,bH,uB nP nQ ep x n,h1, <- bH]
section
variable {s p:Int}{pats:List Pt}{a b c:Pt}{P P' Q:Pq}{js:Pt}
theorem qw.cut (ha:qw s p pats a P)(hb:qw s p pats b Q)(nP: ∀w,((pf P w).map (·.1)).Nodup)(V2: ∀w,((pf P' w).map (·.1)).Nodup)(nQ: ∀w,((pf Q w).map (·.1)).Nodup) (ec: ∀x,look c x=(look a x+dF (λsh=>look b (x - s*sh)) js) % p) (ep: ∀w x,look (pf P' w) x=(look (pf P w) x+dF (λsh=>look (pf Q w) (x - sh)) js) % p) (hk: ∀w∈P'.map (·.1),w∈P.map (·.1) \/ w∈Q.map (·.1)):qw s p pats c P':=⟨λx=>by rw[ec,cE,Bj nP V2 nQ ep,bH,ha.is,CS (λsh=>hb.is (x - s*sh)) js, <- bH],λw hw=>(hk w hw).elim (ha.key w) (hb.key w)⟩
theorem qw.stood {m tn:Int}(ha:qw s p pats a P)(nP: ∀w,((pf P w).map (·.1)).Nodup)(nQ: ∀w,((pf Q w).map (·.1)).Nodup)(eb: ∀x,look b x=look a (x+s*m)*tn % p)(ep: ∀w x,look (pf Q w) x=look (pf P w) (x+m)*tn % p)(hk: ∀w∈Q.map (·.1),w∈P.map (·.1)):qw s p pats b Q:=⟨λx=>by rw[eb,cE,uB nP nQ ep,bZ,ha.is, <- bZ],λw hw=>ha.key w (hk w hw)⟩
theorem cX.back {G:List Pt}(hc:cX s p G (look c))(hb:cX s p G (look b))(ec: ∀x,look c x=(look a x+WQ.dF (λsh=>look b (x - s*sh)) js) % p):cX s p G (look a):=by refine(hc.add ((hb.dF js).mul (-1))).ext λx=> ?_;rw[ec,fh];congr 1;lia
theorem cX.vU {G:List Pt}{m tn:Int}(hp:p=2 \/ p=3 \/ p=5 \/ p=7)(t0:0<tn)(t1:tn<p)(hb:cX s p G (look b))(eb: ∀x,look b x=look a (x+s*m)*tn % p):cX s p G (look a):=by
 obtain ⟨u, hu⟩ : ∃u:Int,tn*u % p=1:=by
  rcases hp with rfl | rfl | rfl | rfl
  ·exact ⟨1, by have:tn=1:=by lia
                rw[this];rfl⟩
  ·have:tn=1 \/ tn=2:=by lia
   rcases this with rfl | rfl
   ·exact⟨1,rfl⟩
   ·exact⟨2,rfl⟩
  ·have:tn=1 \/ tn=2 \/ tn=3 \/ tn=4:=by lia
   rcases this with rfl | rfl | rfl | rfl
   ·exact⟨1,rfl⟩
   ·exact⟨3,rfl⟩
   ·exact⟨2,rfl⟩
   ·exact⟨4,rfl⟩
  ·have:tn=1 \/ tn=2 \/ tn=3 \/ tn=4 \/ tn=5 \/ tn=6:=by lia
   rcases this with rfl | rfl | rfl | rfl | rfl | rfl
   ·exact⟨1,rfl⟩
   ·exact⟨4,rfl⟩
   ·exact⟨5,rfl⟩
   ·exact⟨2,rfl⟩
   ·exact⟨3,rfl⟩
   ·exact⟨6,rfl⟩
 refine((hb.shift m).mul u).ext λx=> ?_;rw[eb,bZ,cE, <- bZ,show x - s*m+s*m=x by lia,dW,bZ,hu,gG,cE]
end
structure e9 where
 c:Int
 o:Addr
 ds:Addr
 ol:Addr
 op:Addr
 len:Int
 foot:Int
 b:Pt
 Q:Pq
def e9.adr (t:e9):List Addr:=bL t.ol t.op t.Q
def mU (L:List e9):List (Key×W):=L.map λt=>((Sum.inl t.c:Key),wr t.o)
structure vC (S:Addr)(s p:Int)(M:Mp)(t:e9):Prop where
 ins:M t.o=some (.ins S t.ds [("lamps",wr t.ol),("parts",wr t.op),("first",wi t.c),("length",wi t.len),("foot",wi t.foot)])
 row:cL p M t.ol t.op t.b t.Q
 ou:A1 s p t.b t.c t.len t.foot
structure nY (S:Addr)(s p:Int)(M:Mp)(hd:Addr)(L:List e9):Prop where
 vd:M hd=some (.dK (mU L))
 each: ∀t∈L,vC S s p M t
 nd:(L.map (·.c)).Nodup
 qK:L.Pairwise λt u=> ∀x∈t.adr,x∉u.adr
 uY: ∀t∈L,hd∉t.adr
def iH (L:List e9)(t:e9):List e9:=L.map λu=>if u.c=t.c then t else u
section
variable {S:Addr}{s p:Int}{M M':Mp}{hd:Addr}{L:List e9}
theorem zN (L:List e9)(c:Int):fu (mU L) (.inl c)=(L.find? λt=>decide (t.c=c)).map λt=>wr t.o:=by
 have:mU L=nZ (L.map λt=>(t.c,t.o,[])):=by unfold mU nZ;rw[aD];rfl
 rw[this,vS,List.find?_map];cases e:L.find? (λt=>decide (t.c=c)) with
 | none=>rw[show((λt:Int×Addr×Pt=>decide (t.1=c)) ∘ λt:e9=>(t.c,t.o,[]))=λt=>decide (t.c=c) from rfl,e];rfl
 | some t=>rw[show((λt:Int×Addr×Pt=>decide (t.1=c)) ∘ λt:e9=>(t.c,t.o,[]))=λt=>decide (t.c=c) from rfl,e];rfl
theorem nC {c:Int}{t:e9}(h:L.find? (λt=>decide (t.c=c))=some t):t∈L /\ t.c=c:=⟨lG h,by simpa using zG h⟩
theorem sj {c:Int}(h:L.find? (λt=>decide (t.c=c))=none):c∉L.map (·.c):=λhm=>by obtain⟨t,ht,e⟩:=af.mp hm;have:=tW.mp h t ht;simp[e] at this
theorem uE (nd:(L.map (·.c)).Nodup){t:e9}(h:t∈L):L.find? (λu=>decide (u.c=t.c))=some t:=by
 cases e:L.find? (λu=>decide (u.c=t.c)) with
 | none=>exact absurd (af.mpr ⟨t,h,rfl⟩) (sj e)
 | some u=>obtain⟨h1,h2⟩:=nC e;rw[ip nd h1 h h2]
theorem Kt {c:Int}{t:e9}(hc:t.c=c)(h:c∉L.map (·.c)):ki (mU L) (.inl c) (wr t.o)=mU (L++ [t]):=by
 have e1:mU L=nZ (L.map λt=>(t.c,t.o,[])):=by unfold mU nZ;rw[aD];rfl
 rw[e1,Gr (c:= []) (by rw[aD];exact h)];unfold mU nZ;rw[aN,aN,aD, <- hc];rfl
theorem Ks {t:e9}(h:t.c∈L.map (·.c)):ki (mU L) (.inl t.c) (wr t.o)=mU (iH L t):=by
 unfold ki mU iH;have e:((L.map λt=>((Sum.inl t.c:Key),wr t.o)).any λq=>decide (q.1= .inl t.c))=true:=by rw[List.any_eq_true];obtain⟨u,hu,e⟩:=af.mp h;exact⟨_,af.mpr ⟨u,hu,rfl⟩,by simp[e]⟩
 rw[ak e,aD,aD];refine bF λu _=> ?_;show(if(Sum.inl u.c:Key)= .inl t.c then((Sum.inl u.c:Key),wr t.o) else((Sum.inl u.c:Key),wr u.o))=((Sum.inl (if u.c=t.c then t else u).c:Key),wr (if u.c=t.c then t else u).o)
 by_cases z:u.c=t.c
 ·rw[ak (by rw[z]),ak z,z]
 ·rw[aj (λq=>z (N6 q)),aj z]
theorem oW (L:List e9)(t:e9):(iH L t).map (·.c)=L.map (·.c):=by
 unfold iH;rw[aD];refine bF λu _=> ?_;show(if u.c=t.c then t else u).c=u.c;by_cases z:u.c=t.c
 ·rw[ak z,z]
 ·rw[aj z]
theorem eY {t u:e9}(h:u∈iH L t):u=t \/ (u∈L /\ u.c≠t.c):=by
 obtain⟨v,hv,e⟩:=af.mp h;by_cases z:v.c=t.c
 ·rw[ak z] at e;exact .inl e.symm
 ·rw[aj z] at e;subst e;exact .inr ⟨hv,z⟩
theorem vC.keep {t:e9}{F:List Addr}(h:vC S s p M t)(k:fC M M' F)(ho:t.o∉F)(ha: ∀x∈t.adr,x∉F):vC S s p M' t:=⟨k _ _ h.ins ho,h.row.keep k ha,h.ou⟩
theorem vC.nd {t:e9}(h:vC S s p M t)(w:Int):((pf t.Q w).map (·.1)).Nodup:=(h.row.GH w).1
theorem cL.O6 {p:Int}{M:Mp}{rl rp:Addr}{a:Pt}{P:Pq}(h:cL p M rl rp a P)(w:Int):((pf P w).map (·.1)).Nodup:=(h.GH w).1
theorem xc {t u:e9}(h:nY S s p M hd L)(ht:t∈L)(hu:u∈L)(ne:t.c≠u.c): ∀x∈t.adr,x∉u.adr:=by
 have sym: ∀ {L:List e9},L.Pairwise (λt u=> ∀x∈t.adr,x∉u.adr) ->t∈L ->u∈L ->t≠u -> ∀x∈t.adr,x∉u.adr:=λ{L}=>by
  induction L with
  | nil=>intro _ h;cases h
  | cons v r ih=>
   intro hp h1 h2 h3;obtain⟨q1,q2⟩:=bT.mp hp;rcases av.mp h1 with e1 | k1
   ·rcases av.mp h2 with e2 | k2
    ·exact absurd (e1.trans e2.symm) h3
    ·rw[e1];exact q1 u k2
   ·rcases av.mp h2 with e2 | k2
    ·rw[e2];exact λx hx iO=>q1 t k1 x iO hx
    ·exact ih q2 k1 k2 h3
 exact sym h.qK ht hu λe=>ne (by rw[e])
end
def N5 (s c:Int):Int:=if s=0 then 0 else c
def ud (s Z c:Int):Nat:=if s=0 then(Z - c+1).toNat else(s - c).toNat
def yO (hd:Addr)(L:List e9)(rl rp:Addr)(P:Pq):List Addr:=hd::(L.flatMap (·.adr)++bL rl rp P)
structure Tin (R S:Addr)(s p:Int)(M:Mp)(hd r dr rl rp:Addr)(pats:List Pt)(a:Pt)(P:Pq)(L:List e9):Prop where
 ins:M r=some (.ins R dr [("lamps",wr rl),("parts",wr rp)])
 held:nY S s p M hd L
 row:cL p M rl rp a P
 qK: ∀t∈L, ∀x∈bL rl rp P,x∉t.adr
 uY:hd∉bL rl rp P
 md:qw s p pats a P
 uP: ∀t∈L,qw s p pats t.b t.Q
theorem qw.len {s p:Int}{pats:List Pt}{b:Pt}{Q:Pq}(h:qw s p pats b Q)(nd:(Q.map (·.1)).Nodup):Q.length<=pats.length:=by have:=je (l:=zO 0 pats.length) nd λk hk=>oT.mpr (by have:=h.key k hk;lia);rw[aa] at this;unfold zO at this;rw[aa,cV] at this;exact this
structure rE (s Z E EP:Int)(t:e9):Prop where
 bx:lx s Z E E t.b
 len:t.len<=E
 bp:qy s EP EP t.Q
def KH (R S:Addr):mN:=λxs M q=> ∃ (hd r dr rl rp:Addr) (p s Z K w KP:Int) (pats:List Pt) (a:Pt) (P:Pq) (L:List e9),xs= [wi p,wi s,wr hd,wr r] /\ (p=2 \/ p=3 \/ p=5 \/ p=7) /\ 0<=s /\ s<=8 /\ Tin R S s p M hd r dr rl rp pats a P L /\0<=Z /\ 0<=K /\ 0<=w /\ 0<=KP /\ (s=0 ->K=0 /\ w=0) /\ Z+8*(2*(w+16*K)+2*K+2) <=400000 /\ KP+10*(w+18*K) <=900000 /\ pats.length<=100 /\ L.length<=1000 /\ lx s Z w w a /\ qy s KP KP P /\ (∀t∈L,rE s Z K KP t) /\∀ M' L',nY S s p M' hd L' ->fC M M' (yO hd L rl rp P) ->(∀t∈L', ∀x∈t.adr,x∈yO hd L rl rp P \/ M x=none) ->(∀f,cX s p (L.map (·.b)++ [a]) f ->cX s p (L'.map (·.b)) f) ->(∀t∈L',qw s p pats t.b t.Q) ->(∀t∈L',rE s Z (2*(w+2*K*s)) (KP+(s+1)*(w+2*K*s+2*K)) t) ->L'.length<=L.length+1 ->(∀c∈L.map (·.c),c∈L'.map (·.c)) ->q wn M'
section
variable {s Z K w KP c c2 dr:Int}{a c1:Pt}{P P1:Pq}{L:List e9}{t:e9}
def eA (s K w c:Int):Int:=w+2*K*N5 s c
def eP (s K w KP c:Int):Int:=KP+N5 s c*(w+2*K*s+2*K)
structure tL (s Z K w KP:Int):Prop where
 s0:0<=s
 k0:0<=K
 w0:0<=w
 T8:0<=KP
 xA:s=0 ->K=0 /\ w=0
theorem tL.E0 (h:tL s Z K w KP):0<=2*K*s:=dz (by have:=h.k0;lia) h.s0
theorem tL.step (h:tL s Z K w KP)(hc:c<c2):eA s K w c+2*K<=eA s K w c2:=by
 unfold eA N5;by_cases z:s=0
 ·have:=h.xA z;rw[ak z,ak z];lia
 ·rw[aj z,aj z];have:=aZ (show c+1<=c2 by lia) (show 0<=2*K by have:=h.k0;lia);rw[iN,gG] at this;lia
theorem tL.top (h:tL s Z K w KP)(hc:s≠0 ->c+1<=s):eA s K w c+2*K<=w+2*K*s:=by
 unfold eA N5;by_cases z:s=0
 ·have:=h.xA z;rw[ak z,z];lia
 ·rw[aj z];have:=aZ (hc z) (show 0<=2*K by have:=h.k0;lia);rw[iN,gG] at this;lia
theorem tL.low (h:tL s Z K w KP)(hc:s≠0 ->0<=c):w<=eA s K w c:=by
 unfold eA N5;by_cases z:s=0
 ·rw[ak z];lia
 ·rw[aj z];have:=dz (show 0<=2*K by have:=h.k0;lia) (hc z);lia
theorem tL.SV (h:tL s Z K w KP)(hc:c<c2):eP s K w KP c+(w+2*K*s)+2*K<=eP s K w KP c2:=by
 unfold eP N5;by_cases z:s=0
 ·have:=h.xA z;rw[ak z,ak z,z];lia
 ·rw[aj z,aj z];have h0:=h.E0;have:=bg (show c+1<=c2 by lia) (show 0<=w+2*K*s+2*K by have:=h.k0;have:=h.w0;lia);rw[fi,fU] at this;lia
theorem tL.Xf (h:tL s Z K w KP)(hc:s≠0 ->c+1<=s):eP s K w KP c+(w+2*K*s)+2*K<=KP+s*(w+2*K*s+2*K):=by
 unfold eP N5;by_cases z:s=0
 ·have:=h.xA z;rw[ak z,z];lia
 ·rw[aj z];have h0:=h.E0;have:=bg (hc z) (show 0<=w+2*K*s+2*K by have:=h.k0;have:=h.w0;lia);rw[fi,fU] at this;lia
theorem tL.lowP (h:tL s Z K w KP)(hc:s≠0 ->0<=c):KP<=eP s K w KP c:=by
 unfold eP N5;by_cases z:s=0
 ·rw[ak z];lia
 ·rw[aj z];have h0:=h.E0;have:=dz (hc z) (show 0<=w+2*K*s+2*K by have:=h.k0;have:=h.w0;lia);lia
theorem tL.KY (h:tL s Z K w KP):K<=w+2*K*s:=by
 by_cases z:s=0
 ·have:=h.xA z;rw[z];lia
 ·have:=aZ (show 1<=s by have:=h.s0;lia) (show 0<=2*K by have:=h.k0;lia);have:=h.w0;have:=h.k0;lia
theorem tL.Vz (h:tL s Z K w KP):KP<=KP+s*(w+2*K*s+2*K):=by have h0:=h.E0;have:=dz h.s0 (show 0<=w+2*K*s+2*K by have:=h.k0;have:=h.w0;lia);lia
theorem rE.up {E EP E' EP':Int}(h:rE s Z E EP t)(h1:E<=E')(h2:EP<=EP'):rE s Z E' EP' t:=⟨h.bx.up h1 h1,by have:=h.len;lia,h.bp.up h2 h2⟩
structure Vs (s Z K w KP c:Int)(a:Pt)(P:Pq)(L:List e9):Prop where
 bx:lx s Z (eA s K w c) (eA s K w c) a
 bp:qy s (eP s K w KP c) (eP s K w KP c) P
 ge: ∀u∈L,c<=u.c ->rE s Z K KP u
 lt: ∀u∈L,u.c<c ->rE s Z (w+2*K*s) (KP+s*(w+2*K*s+2*K)) u
structure LV (s Z K w KP c dr:Int)(a:Pt)(P:Pq)(L:List e9)(t:e9):Prop where
 mem:t∈L
 at_:t.c=c
 shr:t.len<dr
 dk:dr<=K
 col: ∀x,bM s x=c ->look a x≠0 ->0<=hI s x /\ hI s x<=dr
 bx:lx s Z (eA s K w c+2*K - dr) (eA s K w c+2*K - dr) a
 bt:lx s Z (eA s K w c+2*K - t.len) (eA s K w c+2*K - dr) t.b
 bp:qy s (eP s K w KP c+(w+2*K*s)+2*K - dr) (eP s K w KP c+(w+2*K*s)+2*K - dr) P
 bq:qy s (eP s K w KP c+(w+2*K*s)+2*K - t.len) (eP s K w KP c+(w+2*K*s)+2*K - dr) t.Q
 gt: ∀u∈L,c<u.c ->rE s Z K KP u
 lt: ∀u∈L,u.c<c ->rE s Z (w+2*K*s) (KP+s*(w+2*K*s+2*K)) u
structure A5 (s Z K w KP c:Int)(c1:Pt)(P1:Pq)(t:e9)(la lp:Int):Prop where
 bx:lx s Z la la c1
 bp:qy s lp lp P1
 low: ∀x,bM s x=c ->look c1 x≠0 ->0<=hI s x /\ hI s x<t.len
variable {p:Int}{js:Pt}{ms:List Int}
theorem Vs.cut (h:tL s Z K w KP)(ph:Vs s Z K w KP c a P L)(AJ:s≠0 ->0<=c)(Ql:s≠0 ->c+1<=s)(ht:t∈L)(e:t.c=c)(l0:0<=t.len)(ga:GD p a) (pV:ms.Perm (qE s c (eG a))) (Nr:ms.Pairwise (· <= ·)) (NA: ∀j∈js, ∃h∈t7 ms t.len,j.1=kb t.len h) (ej:s=0 -> ∀j∈js,j.1=0) (ec: ∀x,look c1 x=(look a x+dF (λsh=>look t.b (x - s*sh)) js) % p) (ep: ∀w x,look (pf P1 w) x=(look (pf P w) x+dF (λsh=>look (pf t.Q w) (x - sh)) js) % p) (low: ∀x,bM s x=c ->look c1 x≠0 ->0<=hI s x /\ hI s x<t.len): A5 s Z K w KP c c1 P1 t (eA s K w c+K) (eP s K w KP c+eA s K w c):=by
 have f:=ph.ge t ht (by lia);have hw:=h.low AJ;have hk:=h.lowP AJ;have w0:=h.w0;have k0:=h.k0;have hj:=zV (f:=c) (bl:= -(eA s K w c)) (bh:=eA s K w c) l0 Nr (pV.nodup_iff.mpr (mD ga.1 h.s0)) (λm hm=>by obtain⟨x,hx,e1⟩:=af.mp (pV.mem_iff.mp hm);have:=ph.bx.1 x (by have:=eD ga (aP.mp hx).1;lia);lia) NA;have Jy: ∀j∈js, -(eA s K w c) <=j.1 /\ j.1<=eA s K w c:=λj jH=>by have:=hj j jH;lia
 exact⟨ph.bx.cut f.bx ec Jy ej (by lia) (by lia) (by lia) (by lia),ph.bp.cut f.bp ep Jy (by lia) (by lia) (by lia) (by lia),low⟩
theorem LV.cut (h:tL s Z K w KP)(ph:LV s Z K w KP c dr a P L t)(l0:0<=t.len)(ga:GD p a) (pV:ms.Perm (qE s c (eG a))) (Nr:ms.Pairwise (· <= ·)) (NA: ∀j∈js, ∃h∈t7 ms t.len,j.1=kb t.len h) (ej:s=0 -> ∀j∈js,j.1=0) (ec: ∀x,look c1 x=(look a x+dF (λsh=>look t.b (x - s*sh)) js) % p) (ep: ∀w x,look (pf P1 w) x=(look (pf P w) x+dF (λsh=>look (pf t.Q w) (x - sh)) js) % p) (low: ∀x,bM s x=c ->look c1 x≠0 ->0<=hI s x /\ hI s x<t.len): A5 s Z K w KP c c1 P1 t (eA s K w c+2*K - t.len) (eP s K w KP c+(w+2*K*s)+2*K - t.len):=by
 have q:=ph.shr;have hj:=zV (f:=c) (bl:=0) (bh:=dr) l0 Nr (pV.nodup_iff.mpr (mD ga.1 h.s0)) (λm hm=>by obtain⟨x,hx,e1⟩:=af.mp (pV.mem_iff.mp hm);have:=ph.col x (by simpa using(aP.mp hx).2) (by have:=eD ga (aP.mp hx).1;lia);lia) NA;have Jy: ∀j∈js, -0<=j.1 /\ j.1<=dr - t.len:=λj jH=>by have:=hj j jH;lia
 exact⟨ph.bx.cut ph.bt ec Jy ej (by lia) (by lia) (by lia) (by lia),ph.bp.cut ph.bq ep Jy (by lia) (by lia) (by lia) (by lia),low⟩
theorem A5.on {la lp:Int}(h:tL s Z K w KP)(d:A5 s Z K w KP c c1 P1 t la lp)(Rw:la<=eA s K w c+2*K)(YF:lp<=eP s K w KP c+(w+2*K*s)+2*K)(hc:c<c2) (EU: ∀u∈L,c<u.c ->rE s Z K KP u) (f6: ∀u∈L,u.c<c ->rE s Z (w+2*K*s) (KP+s*(w+2*K*s+2*K)) u) (Cn: ∀u∈L,u.c=c ->rE s Z (w+2*K*s) (KP+s*(w+2*K*s+2*K)) u):Vs s Z K w KP c2 c1 P1 L:=by
 have h1:=h.step hc;have h2:=h.SV hc;refine⟨d.bx.up (by lia) (by lia),d.bp.up (by lia) (by lia),λu hu hle=>EU u hu (by lia),λu hu hle=> ?_⟩;rcases l4 u.c c with q | q | q
 ·exact f6 u hu q
 ·exact Cn u hu q
 ·exact(EU u hu q).up h.KY h.Vz
theorem A5.turn {la lp m tt tn:Int}{t':e9}(d:A5 s Z K w KP c c1 P1 t la lp)(Rw:la<=eA s K w c+2*K - t.len)(YF:lp<=eP s K w KP c+(w+2*K*s)+2*K - t.len)(tk:t.len<=K) (N:Mn s c m tt c1) (ga:GD p c1) (hlen:t'.len=tt - m) (RG:t'.c=c) (ou:A1 s p t.b c t.len t.foot) (YE:s=0 ->m=0) (hbt:lx s Z (eA s K w c+2*K - t.len) (eA s K w c+2*K - t.len) t.b) (hbq:qy s (eP s K w KP c+(w+2*K*s)+2*K - t.len) (eP s K w KP c+(w+2*K*s)+2*K - t.len) t.Q) (eb: ∀x,look t'.b x=look c1 (x+s*m)*tn % p) (eq: ∀w x,look (pf t'.Q w) x=look (pf P1 w) (x+m)*tn % p) (EU: ∀u∈L,c<u.c ->rE s Z K KP u) (f6: ∀u∈L,u.c<c ->rE s Z (w+2*K*s) (KP+s*(w+2*K*s+2*K)) u) (DU:t'∈iH L t'):LV s Z K w KP c t.len t.b t.Q (iH L t') t':=by
 have hb: ∀h∈qE s c (eG c1),0<=h /\ h<t.len:=λh hh=>by obtain⟨x,hx,e1⟩:=af.mp hh;have:=d.low x (by simpa using(aP.mp hx).2) (by have:=eD ga (aP.mp hx).1;lia);lia
 have h1:=hb _ N.lo;have h2:=hb _ N.hi;have h3:=N.bd _ N.lo;have b1:=d.bx.stood eb YE;have b2:=d.bp.stood (s:=s) eq;refine⟨DU,RG,by lia,tk,λx hx c9=>ou.rq x c9 hx,hbt,b1.up (by lia) (by lia),hbq,b2.up (by lia) (by lia),λu hu rq=> ?_,λu hu hl=> ?_⟩
 ·rcases eY hu with e | ⟨e,_⟩
  ·rw[e,RG] at rq;lia
  ·exact EU u e rq
 ·rcases eY hu with e | ⟨e,_⟩
  ·rw[e,RG] at hl;lia
  ·exact f6 u e hl
end
structure TC (R S:Addr)(s p:Int)(pats:List Pt)(M0:Mp)(F0:List Addr)(G0:List Pt)(L0:List e9)(hd:Addr)(M:Mp)(r dr rl rp:Addr)(a:Pt)(P:Pq)(L:List e9):Prop where
 lD:Tin R S s p M hd r dr rl rp pats a P L
 kp:fC M0 M F0
 fr: ∀t∈L, ∀x∈t.adr,x∈F0 \/ M0 x=none
 U8: ∀x∈bL rl rp P,x∈F0 \/ M0 x=none
 sp: ∀f,cX s p G0 f ->cX s p (L.map (·.b)++ [a]) f
 len:L.length=L0.length
 key:L.map (·.c)=L0.map (·.c)
section
variable {R S:Addr}{s p:Int}{pats:List Pt}{M0 M M2 M3 M4 M5:Mp}{F0:List Addr}{G0:List Pt}{L0 L:List e9}{hd r dr rl rp:Addr}{a c1:Pt}{P P1:Pq}{js:Pt}{t:e9}
theorem fC.free {F:List Addr}(k:fC M0 M F){x:Addr}(h:M x=none):x∈F \/ M0 x=none:=by
 cases e:M0 x with
 | none=>exact .inr rfl
 | some u=>refine .inl (au λhn=> ?_);rw[k x u e hn] at h;cases h
theorem xf {rl rp:Addr}(row:cL p M rl rp a P){x C d:Addr}{fs:List (Str×W)}(h:M x=some (.ins C d fs)):x∉bL rl rp P:=λhx=>by obtain⟨kvs,e⟩:=row.mem hx;rw[h] at e;cases e
theorem TC.cut (tc:TC R S s p pats M0 F0 G0 L0 hd M r dr rl rp a P L)(ht:t∈L)(mS:cL p M2 rl rp c1 P1)(ec: ∀x,look c1 x=(look a x+dF (λsh=>look t.b (x - s*sh)) js) % p) (ep: ∀w x,look (pf P1 w) x=(look (pf P w) x+dF (λsh=>look (pf t.Q w) (x - sh)) js) % p) (kp:fC M M2 (bL rl rp P)) (fr: ∀x∈bL rl rp P1,x∈bL rl rp P \/ M x=none) (hk: ∀w∈P1.map (·.1),w∈P.map (·.1) \/ w∈t.Q.map (·.1)): TC R S s p pats M0 F0 G0 L0 hd M2 r dr rl rp c1 P1 L:=by
 obtain⟨ins,gi,row,qK,uY,md,uP⟩:=tc.lD;have st:=gi.each t ht;refine⟨⟨kp _ _ ins (xf row ins),⟨kp _ _ gi.vd uY,λu hu=>(gi.each u hu).keep kp (xf row (gi.each u hu).ins) (λx hx iO=>qK u hu x iO hx),gi.nd,gi.qK,gi.uY⟩,mS,λu hu x hx iO=> ?_,λhx=> ?_,md.cut (uP t ht) row.O6 mS.O6 st.nd ec ep hk,uP⟩,tc.kp.trans kp tc.U8,tc.fr,λx hx=> ?_,λf hf=> ?_,tc.len,tc.key⟩
 ·rcases fr x hx with z | z
  ·exact qK u hu x z iO
  ·obtain⟨kvs,e⟩:=(gi.each u hu).row.mem iO;rw[z] at e;cases e
 ·rcases fr hd hx with z | z
  ·exact uY z
  ·rw[gi.vd] at z;cases z
 ·rcases fr x hx with z | z
  ·exact tc.U8 x z
  ·exact tc.kp.free z
 ·refine(tc.sp f hf).trans λb hb=> ?_;rcases ax.mp hb with hb | hb
  ·exact cX.of (ax.mpr (.inl hb))
  ·rw[ah.mp hb];exact cX.back (cX.of (ax.mpr (.inr (ah.mpr rfl)))) (cX.of (ax.mpr (.inl (af.mpr ⟨t,ht,rfl⟩)))) ec
theorem TC.sm (tc:TC R S s p pats M0 F0 G0 L0 hd M r dr rl rp a P L)(sm:Sm M M2):TC R S s p pats M0 F0 G0 L0 hd M2 r dr rl rp a P L:=by obtain⟨i1,i2,i3,i4,i5,i6,i7⟩:=tc.lD;exact⟨⟨sm _ _ i1,⟨sm _ _ i2.vd,λt ht=>(i2.each t ht).keep (fC.sm sm []) (λh=>by cases h) (λ_ _ h=>by cases h),i2.nd,i2.qK,i2.uY⟩,i3.keep (fC.sm sm []) (λ_ _ h=>by cases h),i4,i5,i6,i7⟩,tc.kp.trans (fC.sm sm []) (λ_ h=>by cases h),tc.fr,tc.U8,tc.sp,tc.len,tc.key⟩
theorem oB {t':e9}(h:t'.c∈L.map (·.c)):t'∈iH L t':=by obtain⟨u,hu,e⟩:=af.mp h;exact af.mpr ⟨u,hu,ak e⟩
theorem l9 {t' u:e9}(h:u∈L)(ne:u.c≠t'.c):u∈iH L t':=af.mpr ⟨u,h,aj ne⟩
theorem F5 {t':e9}(nd:(L.map (·.c)).Nodup)(h:L.Pairwise λt u=> ∀x∈t.adr,x∉u.adr)(hf: ∀u∈L, ∀x∈t'.adr,x∉u.adr):(iH L t').Pairwise λt u=> ∀x∈t.adr,x∉u.adr:=by
 unfold iH;rw[bY];have TN:L.Pairwise λa b=>a.c≠b.c:=bY.mp nd;refine(pX.mpr ⟨h,TN⟩ |>.imp_of_mem λ{u v} hu hv q=> ?_);by_cases z:u.c=t'.c
 ·rw[ak z];by_cases y:v.c=t'.c
  ·exact absurd (z.trans y.symm) q.2
  ·rw[aj y];exact hf v hv
 ·rw[aj z];by_cases y:v.c=t'.c
  ·rw[ak y];exact λx hx iO=>hf u hu x iO hx
  ·rw[aj y];exact q.1
theorem TC.turn {t':e9}{m tn:Int}{r' dx:Addr}{D:List (Key×W)}(hp:p=2 \/ p=3 \/ p=5 \/ p=7)(tc:TC R S s p pats M0 F0 G0 L0 hd M r dr rl rp a P L)(RD:hd∈F0)(ht:t∈L)(hc:t'.c=t.c) (sm:Sm M M3) (ins:M3 t'.o=some (.ins S t'.ds [("lamps",wr t'.ol),("parts",wr t'.op),("first",wi t'.c),("length",wi t'.len),("foot",wi t'.foot)])) (yd:cL p M3 t'.ol t'.op t'.b t'.Q) (ou:A1 s p t'.b t'.c t'.len t'.foot) (t0:0<tn) (t1:tn<p) (eb: ∀x,look t'.b x=look a (x+s*m)*tn % p) (eq: ∀w x,look (pf t'.Q w) x=look (pf P w) (x+m)*tn % p) (fr: ∀x∈t'.o::t'.adr,M x=none) (hk: ∀w∈t'.Q.map (·.1),w∈P.map (·.1)) (hD:D=mU (iH L t')) (nM:um M3 hd (.dK D) r'=none): TC R S s p pats M0 F0 G0 L0 hd (um (um M3 hd (.dK D)) r' (.ins R dx [("lamps",wr t.ol),("parts",wr t.op)])) r' dx t.ol t.op t.b t.Q (iH L t'):=by
 subst hD;obtain⟨_,gi,row,qK,uY,md,uP⟩:=tc.lD;have Y2:hd≠r':=dG um_same nM;have Wf:M3 r'=none:=by rw[aJ (a5 Y2)] at nM;exact nM
 have Qk:=sm _ _ gi.vd;have Rj:fC M (um (um M3 hd (.dK (mU (iH L t')))) r' (.ins R dx [("lamps",wr t.ol),("parts",wr t.op)])) [hd]:=λd o e nd=>by have e3:=sm _ _ e;rw[aJ (dG e3 Wf),aJ (λz=>nd (ah.mpr z))];exact e3
 have Rk: ∀ {d o},M3 d=some o ->d≠hd ->um (um M3 hd (.dK (mU (iH L t')))) r' (.ins R dx [("lamps",wr t.ol),("parts",wr t.op)]) d=some o:=λe ne=>by rw[aJ (dG e Wf),aJ ne];exact e
 have QC: ∀x∈t'.o::t'.adr,x≠hd:=λx hx e=>by have:=fr x hx;rw[e,gi.vd] at this;cases this
 have st:=gi.each t ht;have Pp: ∀ {x C d fs},M x=some (.ins C d fs) ->x∉ [hd]:=λe hx=>by rw[ah.mp hx,gi.vd] at e;cases e
 have jE:t'.c∈L.map (·.c):=by rw[hc];exact af.mpr ⟨t,ht,rfl⟩
 have Z3: ∀u∈L,u.c=t'.c ->u=t:=λu hu e=>ip gi.nd hu ht (e.trans hc);have WC: ∀u∈L, ∀x∈t'.adr,x∉u.adr:=λu hu x hx iO=>by obtain⟨kvs,e⟩:=(gi.each u hu).row.mem iO;rw[fr x (aw _ hx)] at e;cases e
 refine⟨⟨um_same,⟨by rw[aJ Y2];exact um_same,λu hu=> ?_,by rw[oW];exact gi.nd,F5 gi.nd gi.qK WC,λu hu hx=> ?_⟩,st.row.keep Rj λx hx iO=>gi.uY t ht (by rw[ah.mp iO] at hx;exact hx),λu hu x hx iO=> ?_,gi.uY t ht,uP t ht,λu hu=> ?_⟩,tc.kp.trans Rj λx hx=> .inl (by rw[ah.mp hx];exact RD),λu hu x hx=> ?_,tc.fr t ht,λf hf=> ?_,by unfold iH;rw[aa];exact tc.len,by rw[oW];exact tc.key⟩
 ·rcases eY hu with e | ⟨e,_⟩
  ·rw[e];refine⟨Rk ins (QC _ aE),yd.same λd mV=> ?_,ou⟩;obtain⟨kvs,e2⟩:=yd.mem mV;rw[Rk e2 (QC d (aw _ mV)),e2]
  ·exact(gi.each u e).keep Rj (Pp (gi.each u e).ins) λx hx iO=>gi.uY u e (by rw[ah.mp iO] at hx;exact hx)
 ·rcases eY hu with e | ⟨e,_⟩
  ·rw[e] at hx;exact QC hd (aw _ hx) rfl
  ·exact gi.uY u e hx
 ·rcases eY hu with e | ⟨e,ne⟩
  ·rw[e] at iO;exact WC t ht x iO hx
  ·exact xc gi ht e (λz=>ne (by rw[hc,z])) x hx iO
 ·rcases eY hu with e | ⟨e,_⟩
  ·rw[e];exact md.stood row.O6 yd.O6 eb eq hk
  ·exact uP u e
 ·rcases eY hu with e | ⟨e,_⟩
  ·rw[e] at hx;exact tc.kp.free (fr x (aw _ hx))
  ·exact tc.fr u e x hx
 ·refine(tc.sp f hf).trans λb hb=> ?_;have n6:cX s p ((iH L t').map (·.b)++ [t.b]) (look t'.b):=cX.of (ax.mpr (.inl (af.mpr ⟨t',oB jE,rfl⟩)));rcases ax.mp hb with hb | hb
  ·obtain⟨u,hu,rfl⟩:=af.mp hb;by_cases z:u.c=t'.c
   ·rw[Z3 u hu z];exact cX.of (ax.mpr (.inr (ah.mpr rfl)))
   ·exact cX.of (ax.mpr (.inl (af.mpr ⟨u,l9 hu z,rfl⟩)))
  ·rw[ah.mp hb];exact cX.vU hp t0 t1 n6 eb
theorem TC.new {t':e9}{m tn:Int}{D:List (Key×W)}(hp:p=2 \/ p=3 \/ p=5 \/ p=7)(tc:TC R S s p pats M0 F0 G0 L0 hd M r dr rl rp a P L)(RD:hd∈F0)(hc:t'.c∉L.map (·.c)) (sm:Sm M M3) (ins:M3 t'.o=some (.ins S t'.ds [("lamps",wr t'.ol),("parts",wr t'.op),("first",wi t'.c),("length",wi t'.len),("foot",wi t'.foot)])) (yd:cL p M3 t'.ol t'.op t'.b t'.Q) (ou:A1 s p t'.b t'.c t'.len t'.foot) (t0:0<tn) (t1:tn<p) (eb: ∀x,look t'.b x=look a (x+s*m)*tn % p) (eq: ∀w x,look (pf t'.Q w) x=look (pf P w) (x+m)*tn % p) (fr: ∀x∈t'.o::t'.adr,M x=none) (hk: ∀w∈t'.Q.map (·.1),w∈P.map (·.1)) (hD:D=mU (L++ [t'])): nY S s p (um M3 hd (.dK D)) hd (L++ [t']) /\ fC M0 (um M3 hd (.dK D)) F0 /\ (∀u∈L++ [t'], ∀x∈u.adr,x∈F0 \/ M0 x=none) /\ (∀f,cX s p G0 f ->cX s p ((L++ [t']).map (·.b)) f) /\ (∀u∈L++ [t'],qw s p pats u.b u.Q):=by
 subst hD;obtain⟨_,gi,row,qK,uY,md,uP⟩:=tc.lD;have Rj:fC M (um M3 hd (.dK (mU (L++ [t'])))) [hd]:=λd o e nd=>by rw[aJ (λz=>nd (ah.mpr z))];exact sm _ _ e
 have QC: ∀x∈t'.o::t'.adr,x≠hd:=λx hx e=>by have:=fr x hx;rw[e,gi.vd] at this;cases this
 have Pp: ∀ {x C d fs},M x=some (.ins C d fs) ->x∉ [hd]:=λe hx=>by rw[ah.mp hx,gi.vd] at e;cases e
 have WC: ∀u∈L, ∀x∈t'.adr,x∉u.adr:=λu hu x hx iO=>by obtain⟨kvs,e⟩:=(gi.each u hu).row.mem iO;rw[fr x (aw _ hx)] at e;cases e
 have one: ∀u∈L++ [t'],u∈L \/ u=t':=λu hu=>(ax.mp hu).imp id ah.mp;refine⟨⟨um_same,λu hu=> ?_,?_,?_,λu hu hx=> ?_⟩,tc.kp.trans Rj λx hx=> .inl (by rw[ah.mp hx];exact RD),λu hu x hx=> ?_,λf hf=> ?_,λu hu=> ?_⟩
 ·rcases one u hu with e | e
  ·exact(gi.each u e).keep Rj (Pp (gi.each u e).ins) λx hx iO=>gi.uY u e (by rw[ah.mp iO] at hx;exact hx)
  ·rw[e];refine⟨by rw[aJ (QC _ aE)];exact ins,yd.same λd mV=> ?_,ou⟩;rw[aJ (QC d (aw _ mV))]
 ·rw[aN];exact l3.mpr ⟨gi.nd,by simp,λx hx y hy e=>hc (by rw[lj] at hy;rw[<- ah.mp hy, <- e];exact hx)⟩
 ·refine cx.mpr ⟨gi.qK,List.pairwise_singleton _ _,λu hu v hv x hx iO=> ?_⟩;rw[ah.mp hv] at iO;exact WC u hu x iO hx
 ·rcases one u hu with e | e
  ·exact gi.uY u e hx
  ·rw[e] at hx;exact QC hd (aw _ hx) rfl
 ·rcases one u hu with e | e
  ·exact tc.fr u e x hx
  ·rw[e] at hx;exact tc.kp.free (fr x (aw _ hx))
 ·refine(tc.sp f hf).trans λb hb=> ?_;rw[aN];rcases ax.mp hb with hb | hb
  ·exact cX.of (ax.mpr (.inl hb))
  ·rw[ah.mp hb];exact cX.vU hp t0 t1 (cX.of (ax.mpr (.inr (ah.mpr rfl)))) eb
 ·rcases one u hu with e | e
  ·exact uP u e
  ·rw[e];exact md.stood row.O6 yd.O6 eb eq hk
end
def fW (s:Int)(a:Pt):W:=if eG a= [] then wn else wi (fR ((eG a).map (bM s)))
def mz (s Z K c:Int)(q:Nat):Nat:=ud s Z c*(K.toNat+2)+q
def Ph (s Z K w KP:Int)(m:Nat)(a:Pt)(P:Pq)(L:List e9):Prop:=(eG a= [] -> ∀u∈L,rE s Z (w+2*K*s) (KP+s*(w+2*K*s+2*K)) u) /\ (eG a≠ [] -> ∃c,c=fR ((eG a).map (bM s)) /\ ((Vs s Z K w KP c a P L /\ m=mz s Z K c (K.toNat+1)) \/ ∃t dr,LV s Z K w KP c dr a P L t /\ m=mz s Z K c t.len.toNat))
theorem Kp {s Z c c2:Int}(h:c<c2)(h1:s≠0 ->c+1<=s)(h2:s=0 ->c<=Z):ud s Z c2<ud s Z c:=by
 unfold ud;by_cases z:s=0
 ·have:=h2 z;rw[ak z,ak z];lia
 ·have:=h1 z;rw[aj z,aj z];lia
theorem TX {s Z K c c2:Int}{q q2:Nat}(h:ud s Z c2<ud s Z c)(hq:q2<=K.toNat+1):mz s Z K c2 q2<mz s Z K c q:=by unfold mz;have:=qS (K.toNat+2) (show ud s Z c2+1<=ud s Z c from h);rw[Nat.add_mul,Nat.one_mul] at this;lia
theorem LP {s Z K w KP c:Int}{L:List e9}(h:tL s Z K w KP)(EU: ∀u∈L,c<u.c ->rE s Z K KP u)(f6: ∀u∈L,u.c<c ->rE s Z (w+2*K*s) (KP+s*(w+2*K*s+2*K)) u)(Cn: ∀u∈L,u.c=c ->rE s Z (w+2*K*s) (KP+s*(w+2*K*s+2*K)) u): ∀u∈L,rE s Z (w+2*K*s) (KP+s*(w+2*K*s+2*K)) u:=λu hu=>by
 rcases l4 u.c c with q | q | q
 ·exact f6 u hu q
 ·exact Cn u hu q
 ·exact(EU u hu q).up h.KY h.Vz
theorem Kx {a:Pt}(h:eG a= []):a= []:=kF.mp h
theorem A1.lit {s p f len foot:Int}{b:Pt}(h:A1 s p b f len foot)(hp:1<p):look b f≠0:=λe=>by have:=h.bot;rw[e,bG,eE] at this;cases this
theorem QF {s p f len foot:Int}{b:Pt}(h:A1 s p b f len foot)(hp:1<p)(g:GD p b):fW s b=wi f /\ eG b≠ [] /\ f=fR ((eG b).map (bM s)):=by
 have hm:=cJ (h.lit hp);have c9:eG b≠ []:=λe=>by rw[e] at hm;cases hm
 have e:f=fR ((eG b).map (bM s)):=jD.uniq ⟨af.mpr ⟨f,hm,h.ok.own⟩,λx hx=>by obtain⟨y,hy,rfl⟩:=af.mp hx;exact h.ge y (by have:=eD g hy;lia)⟩ (gm (by simpa using c9));exact⟨by rw[e];exact aj c9,c9,e⟩
theorem HI {s Z l h f:Int}{a:Pt}{p:Int}(bx:lx s Z l h a)(g:GD p a){m:Int}(hm:m∈qE s f (eG a)): -l<=m /\ m<=h:=by obtain⟨x,hx,e⟩:=af.mp hm;rw[<- e];exact bx.1 x (by have:=eD g (aP.mp hx).1;lia)
theorem Nm {s f:Int}{a:Pt}{m:Int}(hm:m∈qE s f (eG a))(z:s=0):m=0:=by obtain⟨x,hx,e⟩:=af.mp hm;rw[<- e,z];exact mG x
theorem sZ {s:Int}{a:Pt}{u:Addr}{M:Mp}{F:WK}(hu:M u=some (.lst ((eG a).map wi)))(hl:(eG a).length<=16000000)(s0:0<=s)(s8:s<=8)(h:F (fW s a) M):IW GV [wr u,wi s] M F:=by unfold fW at h;exact⟨u,eG a,s,rfl,hu,hl,s0,by lia,λe=>by rwa [ak e] at h,λe=>by rwa [aj e] at h⟩
def e9.E9 (u:e9)(b:Pt)(Q:Pq):e9:=⟨u.c,u.o,u.ds,u.ol,u.op,u.len,u.foot,b,Q⟩
structure LL (S:Addr)(s p:Int)(pats:List Pt)(M0:Mp)(L0:List e9)(hd:Addr)(M:Mp)(L:List e9):Prop where
 held:nY S s p M hd L
 uP: ∀t∈L,qw s p pats t.b t.Q
 kp:fC M0 M (L0.flatMap (·.adr))
 fr: ∀t∈L, ∀x∈t.adr,x∈L0.flatMap (·.adr) \/ M0 x=none
 sp: ∀f,cX s p (L0.map (·.b)) f ->cX s p (L.map (·.b)) f
 key:L.map (·.c)=L0.map (·.c)
 ln: ∀t∈L, ∀u∈L0,t.c=u.c ->t.len=u.len
section
variable {S:Addr}{s p:Int}{pats:List Pt}{M0 M M2:Mp}{L0 L:List e9}{hd:Addr}{c1:Pt}{P1:Pq}{js:Pt}{u t:e9}
theorem A1.aac {f len foot:Int}{b:Pt}{fc:Int}(h:A1 s p b f len foot)(hf:f<fc)(e: ∀x,bM s x<fc ->look c1 x=look b x):A1 s p c1 f len foot:=by
 have at_: ∀k,look c1 (f+k*s)=look b (f+k*s):=λk=>e _ (by rw[h.ok.on];exact hf);refine⟨h.ok,h.l0,h.s0,λx hx=> ?_,λx hx hc=> ?_,by rw[at_];exact h.top,?_,h.ft⟩
 ·rcases dX (bM s x) fc with q | q
  ·exact h.ge x (by rw[<- e x q];exact hx)
  ·lia
 ·exact h.rq x (by rw[<- e x (by lia)];exact hx) hc
 ·have:=at_ 0;rw[bG,bu] at this;rw[this];exact h.bot
theorem HX {u':e9}(hu:u∈L)(nd:(L.map (·.c)).Nodup)(hc:u'.c=u.c)(ho:u'.o=u.o):mU (iH L u')=mU L:=by
 unfold mU iH;rw[aD];refine bF λv hv=> ?_;show((Sum.inl (if v.c=u'.c then u' else v).c:Key),wr (if v.c=u'.c then u' else v).o)=((Sum.inl v.c:Key),wr v.o)
 by_cases z:v.c=u'.c
 ·rw[ak z];have:v=u:=ip nd hv hu (z.trans hc);rw[this,hc,ho]
 ·rw[aj z]
theorem LL.cut (ll:LL S s p pats M0 L0 hd M L)(hu:u∈L)(ht:t∈L)(f6:u.c<t.c)(mS:cL p M2 u.ol u.op c1 P1)(ec: ∀x,look c1 x=(look u.b x+dF (λsh=>look t.b (x - s*sh)) js) % p) (ep: ∀w x,look (pf P1 w) x=(look (pf u.Q w) x+dF (λsh=>look (pf t.Q w) (x - sh)) js) % p) (el: ∀x,bM s x<t.c ->look c1 x=look u.b x) (kp:fC M M2 u.adr) (fr: ∀x∈bL u.ol u.op P1,x∈u.adr \/ M x=none) (hk: ∀w∈P1.map (·.1),w∈u.Q.map (·.1) \/ w∈t.Q.map (·.1)): LL S s p pats M0 L0 hd M2 (iH L (u.E9 c1 P1)):=by
 obtain⟨gi,uP,T8,AN,sp,key,ln⟩:=ll;have su:=gi.each u hu;have st:=gi.each t ht;have jE:u.c∈L.map (·.c):=af.mpr ⟨u,hu,rfl⟩;have TR: ∀v∈L,v.c≠u.c -> ∀x∈bL u.ol u.op P1,x∉v.adr:=λv hv ne x hx iO=>by
  rcases fr x hx with z | z
  ·exact xc gi hu hv (a5 ne) x z iO
  ·obtain⟨kvs,e⟩:=(gi.each v hv).row.mem iO;rw[z] at e;cases e
 refine⟨⟨by rw[HX (u':=u.E9 c1 P1) hu gi.nd rfl rfl];exact kp _ _ gi.vd (gi.uY u hu),λv hv=> ?_,by rw[oW];exact gi.nd,?_,λv hv hx=> ?_⟩,λv hv=> ?_,T8.trans kp λx hx=>AN u hu x hx,λv hv x hx=> ?_,λf hf=> ?_,by rw[oW];exact key,λv hv w hw e=> ?_⟩
 ·rcases eY hv with e | ⟨e,ne⟩
  ·rw[e];exact⟨kp _ _ su.ins (xf su.row su.ins),mS,su.ou.aac f6 el⟩
  ·exact(gi.each v e).keep kp (xf su.row (gi.each v e).ins) λx hx iO=>xc gi e hu ne x hx iO
 ·unfold iH;rw[bY];have TN:L.Pairwise λa b=>a.c≠b.c:=bY.mp gi.nd;refine(pX.mpr ⟨gi.qK,TN⟩ |>.imp_of_mem λ{v w} hv hw q=> ?_);by_cases z:v.c=u.c
  ·rw[ak (show v.c=(u.E9 c1 P1).c from z)];by_cases y:w.c=u.c
   ·exact absurd (z.trans y.symm) q.2
   ·rw[aj (show ¬w.c=(u.E9 c1 P1).c from y)];exact TR w hw y
  ·rw[aj (show ¬v.c=(u.E9 c1 P1).c from z)];by_cases y:w.c=u.c
   ·rw[ak (show w.c=(u.E9 c1 P1).c from y)];exact λx hx iO=>TR v hv z x iO hx
   ·rw[aj (show ¬w.c=(u.E9 c1 P1).c from y)];exact q.1
 ·rcases eY hv with e | ⟨e,_⟩
  ·rw[e] at hx;rcases fr hd hx with z | z
   ·exact gi.uY u hu z
   ·rw[gi.vd] at z;cases z
  ·exact gi.uY v e hx
 ·rcases eY hv with e | ⟨e,_⟩
  ·rw[e];exact(uP u hu).cut (uP t ht) su.nd mS.O6 st.nd ec ep hk
  ·exact uP v e
 ·rcases eY hv with e | ⟨e,_⟩
  ·rw[e] at hx;rcases fr x hx with z | z
   ·exact AN u hu x z
   ·exact T8.free z
  ·exact AN v e x hx
 ·refine(sp f hf).trans λb hb=> ?_;obtain⟨v,hv,rfl⟩:=af.mp hb;have h1:cX s p ((iH L (u.E9 c1 P1)).map (·.b)) (look c1):=cX.of (af.mpr ⟨_,oB jE,rfl⟩);have h2:cX s p ((iH L (u.E9 c1 P1)).map (·.b)) (look t.b):=cX.of (af.mpr ⟨t,l9 ht (show t.c≠u.c by lia),rfl⟩);by_cases z:v.c=u.c
  ·rw[ip gi.nd hv hu z];exact cX.back h1 h2 ec
  ·exact cX.of (af.mpr ⟨v,l9 hv z,rfl⟩)
 ·rcases eY hv with e2 | ⟨e2,_⟩
  ·rw[e2] at e ⊢;exact ln u hu w hw e
  ·exact ln v e2 w hw e
def L6 (s c E:Int)(b:Pt):Prop:= ∀x,bM s x=c ->look b x≠0 -> -E<=hI s x /\ hI s x<=E
def tO (s c len:Int)(b:Pt):Prop:= ∀x,bM s x=c ->look b x≠0 ->0<=hI s x /\ hI s x<len
theorem L6.cut {c E lt:Int}{a b:Pt}{jl jh:Int}(ha:L6 s c E a)(hb:tO s c lt b)(ec: ∀x,look c1 x=(look a x+dF (λsh=>look b (x - s*sh)) js) % p)(hj: ∀j∈js, -jl<=j.1 /\ j.1<=jh)(Jz:s=0 -> ∀j∈js,j.1=0){E':Int}(h1:E<=E')(h2:jl<=E')(h3:lt+jh<=E'):L6 s c E' c1:=λx hx c9=>by
 by_cases z:look a x=0
 ·obtain⟨j,jH,q⟩: ∃j∈js,look b (x - s*j.1)≠0:=au λhn=>c9 (by rw[ec,z,fV λj jH=>au λhq=>hn ⟨j,jH,hq⟩];rfl);have h4:=hb (x - s*j.1) (by rw[iE];exact hx) q;have h5:=hj j jH;by_cases y:s=0
  ·have h6:=Jz y j jH;rw[y,mG] at h4 ⊢;lia
  ·rw[lR y] at h4;lia
 ·have:=ha x hx z;lia
end
def gP (L:List e9)(c:Int):Int:=match L.find? (λt=>decide (t.c=c)) with
 | some t=>t.len
 | none=>0
theorem BX {L:List e9}(nd:(L.map (·.c)).Nodup){t:e9}(h:t∈L):gP L t.c=t.len:=by unfold gP;rw[uE nd h]
def kN (l:List Int):Int:=l.foldr (· + ·) 0
theorem oA {l:List Int}(h: ∀x∈l,0<=x): ∀k,0<=kN (l.take k) /\ kN (l.take k) <=kN l:=by
 induction l with
 | nil=>intro k;simp[kN]
 | cons a r ih=>
  intro k;cases k with
  | zero=>
   have:=(ih (λx hx=>h x (aw _ hx)) r.length)
   rw[cn] at this;have:=h a aE;show 0<=(0:Int) /\ (0:Int) <=a+kN r;lia
  | succ k=>have:=ih (λx hx=>h x (aw _ hx)) k;have:=h a aE;show 0<=a+kN (r.take k) /\ a+kN (r.take k) <=a+kN r;lia
theorem F1 (l:List Int)(a:Int):kN (l++ [a])=kN l+a:=by
 induction l with
 | nil=>show a+0=0+a;lia
 | cons b r ih=>show b+kN (r++ [a])=b+kN r+a;rw[ih];lia
theorem F2 {l:List Int}(h: ∀x∈l,0<=x)(k:Nat):kN (l.drop k) <=kN l:=by
 induction l generalizing k with
 | nil=>simp
 | cons a r ih=>
  cases k with
  | zero=>exact aV _
  | succ k=>have:=ih (λx hx=>h x (aw _ hx)) k;have:=h a aE;show kN (r.drop k) <=a+kN r;lia
theorem xV {a b:List Int}(h:a.Perm b):kN a=kN b:=by
 induction h with
 | nil=>rfl
 | cons x _ ih=>show x+_=x+_;rw[show List.foldr (· + ·) 0 _=kN _ from rfl,ih];rfl
 | swap x y l=>show y+(x+kN l)=x+(y+kN l);lia
 | trans _ _ h1 h2=>exact h1.trans h2
theorem Hi {L:List e9}(nd:(L.map (·.c)).Nodup):(L.map (·.c)).map (gP L)=L.map (·.len):=by rw[aD];exact bF λt ht=>BX nd ht
section
variable {S:Addr}{s p:Int}{pats:List Pt}{M0 M M2:Mp}{L0 L:List e9}{hd:Addr}
theorem LL.sm (h:LL S s p pats M0 L0 hd M L)(sm:Sm M M2):LL S s p pats M0 L0 hd M2 L:=by obtain⟨i2,i3,i4,i5,i6,i7,i8⟩:=h;exact⟨⟨sm _ _ i2.vd,λt ht=>(i2.each t ht).keep (fC.sm sm []) (λh=>by cases h) (λ_ _ h=>by cases h),i2.nd,i2.qK,i2.uY⟩,i3,i4.trans (fC.sm sm []) (λ_ h=>by cases h),i5,i6,i7,i8⟩
theorem LL.init (h:nY S s p M hd L)(md: ∀t∈L,qw s p pats t.b t.Q):LL S s p pats M L hd M L:=⟨h,md,λd o e _=>e,λt ht x hx=> .inl (eM.mpr ⟨t,ht,hx⟩),λf hf=>hf,rfl,λt ht u hu e=>by rw[ip h.nd ht hu e]⟩
theorem LL.gP (h:LL S s p pats M0 L0 hd M L)(nd:(L0.map (·.c)).Nodup){t:e9}(ht:t∈L):t.len=gP L0 t.c:=by
 have:t.c∈L0.map (·.c):=by rw[<- h.key];exact af.mpr ⟨t,ht,rfl⟩
 obtain⟨u,hu,e⟩:=af.mp this;rw[<- e,BX nd hu];exact h.ln t ht u hu e.symm
theorem LL.get (h:LL S s p pats M0 L0 hd M L){c:Int}(hc:c∈L0.map (·.c)): ∃t∈L,t.c=c:=by rw[<- h.key] at hc;exact af.mp hc
theorem zM (nd:(L.map (·.c)).Nodup){t:e9}(h:t∈L):fu (mU L) (.inl t.c)=some (wr t.o):=by rw[zN,uE nd h];rfl
end
theorem Iz (l:List W)(k:Nat):AV l (some ((k:Nat):Int)) none=l.drop k:=by
 unfold AV;rw[HT.Gd,HT.Kl];rcases Nat.le_total k l.length with h | h
 ·rw[Nat.min_eq_left h,oe (by rw[fL];exact aq _)]
 ·rw[Nat.min_eq_right h,List.drop_length,List.take_nil,List.drop_of_length_le h]
theorem jf {cs:List Int}(h:cs.Pairwise (· < ·)){i j:Nat}{a b:Int}(hi:cs[i]? =some a)(hj:cs[j]? =some b)(iu:i<j):a<b:=by obtain⟨g1,g2⟩:=ag.mp hi;obtain⟨g3,g4⟩:=ag.mp hj;rw[<- g2, <- g4];exact bj.mp h i j g1 g3 iu
theorem DP {cs:List Int}(h:cs.Pairwise (· < ·)){i j:Nat}{a b:Int}(hi:cs[i]? =some a)(hj:cs[j]? =some b)(Ia:a<b):i<j:=by
 rcases iX i j with q | q | q
 ·exact q
 ·subst q;rw[hi] at hj;cases hj;lia
 ·have:=jf h hj hi q;lia
def KI (R S:Addr):mN:=λxs M q=> ∃ (hd:Addr) (p s Z E EP Λ:Int) (pats:List Pt) (L:List e9),xs= [wi p,wi s,wr hd] /\ (p=2 \/ p=3 \/ p=5 \/ p=7) /\ 0<=s /\ s<=8 /\ nY S s p M hd L /\ (∀t∈L,qw s p pats t.b t.Q) /\ (∀t∈L,rE s Z E EP t) /\ 0<=Z /\ 0<=E /\ 0<=EP /\ pats.length<=100 /\ L.length<=13 /\ kN (L.map (·.len)) <=Λ /\Z+8*(E+14*(E+Λ)+1) <=1000000 /\ EP+14*(E+Λ) <=1000000 /\∀M' L',LL S s p pats M L hd M' L' ->(∀t∈L', ∀u∈L',t.c<u.c ->tO s u.c u.len t.b) ->(∀t∈L',lx s Z (E+L.length*(E+Λ)) (E+L.length*(E+Λ)) t.b /\ qy s (EP+L.length*(E+Λ)) (EP+L.length*(E+Λ)) t.Q) ->q wn M'
theorem gC {p:Int}(p0:0<p){b:Pt}(g:GD p b)(x:Int):look (lA p b) x=look b x:=by rw[sO p0,gz g.1,fS p0 g]
theorem Bq {s p D:Int}{t:e9}(hp:1<p)(g:GD p t.b)(h:A1 s p t.b t.c t.len t.foot)(w:Wt D t.b):Sr s p (lA p t.b) t.c t.len D:=by
 have p0:0<p:=by lia
 have e:=gC p0 g;have gn:=qh (mj p0 t.b);refine⟨mj p0 _,h.ok,h.l0,h.s0,λx hx=>h.ge x ?_,λx hx hc=>h.rq x ?_ hc,cJ (by rw[e];exact h.lit hp),by rw[e];exact h.top,λx hx=>w x (by rw[<- e];exact hx)⟩
 ·have:=eD gn hx;rw[e] at this;lia
 ·have:=eD gn hx;rw[e] at this;lia
structure Ord (L Ls:List e9):Prop where
 perm:Ls.Perm L
 BD:Ls.Pairwise λa b=>a.c<b.c
theorem sG (L:List e9)(nd:(L.map (·.c)).Nodup): ∃Ls,Ord L Ls:=by refine⟨L.mergeSort λa b=>decide (a.c<=b.c),QT _ _,?_⟩;have h1:=List.pairwise_mergeSort (le:=λa b:e9=>decide (a.c<=b.c)) (λa b c h1 h2=>by simp only[cq] at*;lia) (λa b=>by simp only[Bool.or_eq_true,cq];lia) L;have h2:((L.mergeSort λa b=>decide (a.c<=b.c)).map (·.c)).Nodup:=((QT L _).map (·.c)).nodup_iff.mpr nd;have h3:=bY.mp h2;exact(pX.mpr ⟨h1,h3⟩).imp λh=>by have:=h.1;simp only[cq] at this;have:=h.2;lia
section
variable {S:Addr}{s p D:Int}{M:Mp}{hd:Addr}{L Ls:List e9}
def fO (p:Int)(Ls:List e9):List Pt:=Ls.map λt=>lA p t.b
theorem sf (hp:1<p)(h:nY S s p M hd L)(o:Ord L Ls)(w: ∀t∈L,Wt D t.b)(hl: ∀t∈L,t.len<3000000):uo s p (fO p Ls) D:=by
 have sr: ∀t∈Ls,Sr s p (lA p t.b) t.c t.len D:=λt ht=>Bq hp (h.each t (o.perm.mem_iff.mp ht)).row.ga (h.each t (o.perm.mem_iff.mp ht)).ou (w t (o.perm.mem_iff.mp ht));have get: ∀ {i st},(fO p Ls)[i]? =some st -> ∃t:e9,Ls[i]? =some t /\ st=lA p t.b:=λ{i st} e=>by
  unfold fO at e;rw[aA] at e;cases e2:Ls[i]? with
  | none=>rw[e2] at e;cases e
  | some t=>rw[e2] at e;cases e;exact⟨t,e2,rfl⟩
 refine⟨λi st hi=> ?_,λi j st bB c len c' DH iu hi hj h1 h2=> ?_⟩
 ·obtain⟨t,ht,rfl⟩:=get hi;exact⟨_,_,sr t (ai ht),hl t (o.perm.mem_iff.mp (ai ht))⟩
 ·obtain⟨t,ht,rfl⟩:=get hi;obtain⟨t',pd,rfl⟩:=get hj;rw[(h1.uniq (sr t (ai ht))).1,(h2.uniq (sr t' (ai pd))).1];obtain⟨g1,g2⟩:=ag.mp ht;obtain⟨g3,g4⟩:=ag.mp pd;rw[<- g2, <- g4];exact bj.mp o.BD i j g1 g3 iu
theorem Be (hp:1<p)(h:nY S s p M hd L)(o:Ord L Ls)(w: ∀t∈L,Wt D t.b)(low: ∀t∈L, ∀u∈L,t.c<u.c ->tO s u.c u.len t.b):Trim s p (fO p Ls) D:=by
 intro i j st bB c len iu hi hj OU x hx c9;unfold fO at hi hj;rw[aA] at hi hj;cases e1:Ls[i]? with
 | none=>rw[e1] at hi;cases hi
 | some t=>
  cases e2:Ls[j]? with
  | none=>rw[e2] at hj;cases hj
  | some t'=>
   rw[e1] at hi;rw[e2] at hj;cases hi;cases hj;have m1:=o.perm.mem_iff.mp (ai e1);have m2:=o.perm.mem_iff.mp (ai e2);have e3:=OU.uniq (Bq hp (h.each t' m2).row.ga (h.each t' m2).ou (w t' m2));have f6:t.c<t'.c:=by obtain⟨g1,g2⟩:=ag.mp e1;obtain⟨g3,g4⟩:=ag.mp e2;rw[<- g2, <- g4];exact bj.mp o.BD i j g1 g3 iu
   rw[e3.2];exact low t m1 t' m2 f6 x (by rw[hx,e3.1]) (by rw[<- gC (by lia) (h.each t m1).row.ga];exact c9)
theorem o9 (p0:0<p)(h:nY S s p M hd L)(o:Ord L Ls){f:Int ->Int}(hf:cX s p (L.map (·.b)) f):cX s p (fO p Ls) f:=hf.trans λb hb=>by obtain⟨t,ht,rfl⟩:=af.mp hb;refine(cX.of (af.mpr ⟨t,o.perm.mem_iff.mpr ht,rfl⟩)).ext λx=> ?_;rw[gC p0 (h.each t ht).row.ga]
structure Base (s p w:Int)(pats bs:List Pt)(L:List e9):Prop where
 len:bs.length=L.length
 ind:s≠0 ->Indep s p bs
 of: ∀b∈bs,b∈pats
theorem Kq {w:Nat}{pats bs:List Pt}(hp:p=2 \/ p=3 \/ p=5 \/ p=7)(s0:0<s)(h:nY S s p M hd L)(hw: ∀t∈L,Wt D t.b)(hl: ∀t∈L,t.len<3000000)(low: ∀t∈L, ∀u∈L,t.c<u.c ->tO s u.c u.len t.b) (B:Base s p w pats bs L) (jE: ∀b∈bs,cX s p (L.map (·.b)) (look b)) (hb: ∀b∈bs, ∀x,look b x≠0 -> -(w:Int) <=hI s x /\ hI s x<=w) {t:e9} (ht:t∈L) {x:Int} (hx:look t.b x≠0): -((2*L.length*w:Nat):Int) <=hI s x /\ hI s x<=((2*L.length*w:Nat):Int):=by
 obtain⟨Ls,o⟩:=sG L h.nd;have e:(fO p Ls).length=L.length:=by unfold fO;rw[aa];exact o.perm.length_eq
 have:=Gk hp s0 (sf (by lia) h o hw hl) (Be (by lia) h o hw low) (by rw[B.len,e]) (B.ind (by lia)) (λb n6=>o9 (by lia) h o (jE b n6)) hb (t:=lA p t.b) (af.mpr ⟨t,o.perm.mem_iff.mpr ht,rfl⟩) (x:=x) (by rw[gC (by lia) (h.each t ht).row.ga];exact hx);rw[e] at this;exact this
theorem OW {l:List Int}(h: ∀x∈l,0<=x):kN l=(((l.map Int.toNat).sum:Nat):Int):=by
 induction l with
 | nil=>rfl
 | cons a r ih=>
  show a+kN r=_
  rw[ih λx hx=>h x (aw _ hx),aH,EZ]
  have:=h a aE
  push_cast;lia
theorem Hj {w:Nat}{pats bs:List Pt}(hp:p=2 \/ p=3 \/ p=5 \/ p=7)(s0:0<s)(h:nY S s p M hd L)(hw: ∀t∈L,Wt D t.b)(hl: ∀t∈L,t.len<3000000) (B:Base s p w pats bs L) (jE: ∀b∈bs,cX s p (L.map (·.b)) (look b)) (hb: ∀b∈bs, ∀x,look b x≠0 -> -(w:Int) <=hI s x /\ hI s x<=w):kN (L.map (·.len)) <=((2*L.length*w:Nat):Int):=by
 obtain⟨Ls,o⟩:=sG L h.nd;have e:(fO p Ls).length=L.length:=by unfold fO;rw[aa];exact o.perm.length_eq
 have:=BZ hp s0 (sf (by lia) h o hw hl) (by rw[B.len,e]) (B.ind (by lia)) (λb n6=>o9 (by lia) h o (jE b n6)) hb;rw[e] at this;rw[<- xV (o.perm.map (·.len)),OW λx hx=>by obtain⟨t,ht,rfl⟩:=af.mp hx;exact((h.each t (o.perm.mem_iff.mp ht)).ou).l0];have e2:((fO p Ls).map λst=>(fw s st).toNat)=(Ls.map (·.len)).map Int.toNat:=by unfold fO;rw[aD,aD];refine bF λt ht=> ?_;have m:=o.perm.mem_iff.mp ht;show(fw s (lA p t.b)).toNat=t.len.toNat;rw[(Bq (by lia) (h.each t m).row.ga (h.each t m).ou (hw t m)).jN]
 rw[e2] at this;exact Int.ofNat_le.mpr this
theorem KN {w:Nat}{L:List e9}{t:e9}(ht:t∈L)(h0: ∀u∈L,0<=u.len):t.len<=kN (L.map (·.len)):=by
 induction L with
 | nil=>cases ht
 | cons a r ih=>
  show t.len<=a.len+kN (r.map (·.len));have h1:=(oA (l:=r.map (·.len)) (λx hx=>by obtain⟨u,hu,rfl⟩:=af.mp hx;exact h0 u (aw _ hu)) 0)
  have h2:=h0 a aE;rcases av.mp ht with rfl | ht
  ·show t.len<=_;have:0<=kN (r.map (·.len)):=by simp[kN] at h1;exact h1
   lia
  ·have:=ih ht λu hu=>h0 u (aw _ hu);lia
end
def T7:Nat ->Int
 | 0=>0
 | i+1=>T7 i+(9*(332+272*(i:Int))+((i:Int)+1)*(256+544*(i:Int)))
theorem PL: ∀i:Nat,i<=8 ->0<=T7 i /\ T7 i<=193056:=by decide
def xy (s:Int)(i:Nat):Int:=if s=0 then 0 else T7 i
theorem Hr (s:Int)(i:Nat)(h:i<=8):0<=xy s i /\ xy s i<=193056:=by unfold xy;have:=PL i h;split<;>lia
structure W6 (S:Addr)(s p Z:Int)(w:Nat)(pats:List Pt)(i:Nat)(M:Mp)(hd:Addr)(L:List e9)(bs:List Pt):Prop where
 held:nY S s p M hd L
 md: ∀t∈L,qw s p (pats.take i) t.b t.Q
 low: ∀t∈L, ∀u∈L,t.c<u.c ->tO s u.c u.len t.b
 sp: ∀pt∈pats.take i,cX s p (L.map (·.b)) (look pt)
 base:Base s p w (pats.take i) bs L
 bz:s=0 -> ∀t∈L,Wt Z t.b
 bp: ∀t∈L,qy s (xy s i) (xy s i) t.Q
 fin: ∀t∈L,Wt 1000000 t.b /\ t.len<3000000
 len:L.length<=i
structure EA (s p Z:Int)(w:Nat)(pats:List Pt):Prop where
 pat: ∀pt∈pats,dE p pt /\ lx s Z w w pt
 len:pats.length<=8
 hp:p=2 \/ p=3 \/ p=5 \/ p=7
 s0:0<=s
 s8:s<=8
 z0:0<=Z
 z1:Z<=10000
 VO:s=0 ->w=0
 w60:w<=60
 sw:s*w<=68
section
variable {S:Addr}{s p Z:Int}{w:Nat}{pats bs:List Pt}{M:Mp}{hd:Addr}{L:List e9}{i:Nat}
theorem xi (h:nY S s p M hd L)(s0:0<s):(L.length:Int) <=s:=by
 have:=je (l:=zO 0 s.toNat) h.nd λc hc=>by
  obtain⟨t,ht,rfl⟩:=af.mp hc;rcases (h.each t ht).ou.ok with z | z
  ·lia
  ·exact oT.mpr (by lia)
 rw[aa] at this;unfold zO at this;rw[aa,cV] at this;lia
theorem MZ (P:EA s p Z w pats){m:Nat}(hm:s≠0 ->(m:Int) <=s):(m:Int)*w<=68:=by
 by_cases z:s=0
 ·rw[P.VO z];simp
 ·have:=bg (hm z) (show 0<=(w:Int) by lia);have:=P.sw;lia
theorem W6.mW (P:EA s p Z w pats)(h:W6 S s p Z w pats i M hd L bs): ∀t∈L,rE s Z (2*((L.length:Int)*w)) (xy s i) t:=λt ht=>by
 have hl0: ∀u∈L,0<=u.len:=λu hu=>(h.held.each u hu).ou.l0;by_cases z:s=0
 ·have e:=P.VO z;rw[e];refine⟨⟨λx _=>by rw[z,mG];simp,λ_=>h.bz z t ht⟩,by rw[(h.held.each t ht).ou.s0 z];simp,h.bp t ht⟩
 ·have s1:0<s:=by have:=P.s0;lia
  have hb: ∀b∈bs,b∈pats:=λb hb=>jX (h.base.of b hb);have hw: ∀b∈bs, ∀x,look b x≠0 -> -(w:Int) <=hI s x /\ hI s x<=w:=λb n6 x hx=>(P.pat b (hb b n6)).2.1 x hx;have jE: ∀b∈bs,cX s p (L.map (·.b)) (look b):=λb n6=>h.sp b (h.base.of b n6);have h1:=λ{x} hx=>Kq (D:=1000000) P.hp s1 h.held (λt ht=>(h.fin t ht).1) (λt ht=>(h.fin t ht).2) h.low h.base jE hw ht (x:=x) hx;have h2:=Hj (D:=1000000) P.hp s1 h.held (λt ht=>(h.fin t ht).1) (λt ht=>(h.fin t ht).2) h.base jE hw;have h3:=KN (w:=w) ht hl0;have e:((2*L.length*w:Nat):Int)=2*((L.length:Int)*w):=by push_cast;rw[dW]
  rw[e] at h2;refine⟨⟨λx hx=>by have:=h1 hx;rw[e] at this;exact this,λq=>absurd q z⟩,by lia,h.bp t ht⟩
theorem jg {l:List Pt}{n k:Nat}(h:n<k):(l.take k).getD n []=l.getD n []:=by rw[bI,bI,E3 h]
theorem qw.more {b:Pt}{Q:Pq}(h:qw s p (pats.take i) b Q)(hi:i<pats.length):qw s p (pats.take (i+1)) b Q:=by
 have l1:(pats.take i).length=i:=by rw[a6];lia
 have l2:(pats.take (i+1)).length=i+1:=by rw[a6];lia
 refine⟨λx=> ?_,λw hw=>by have:=h.key w hw;rw[l1] at this;rw[l2];push_cast;lia⟩;rw[h.is,l1,l2];have hno:pf Q (i:Int)= []:=rM λhm=>by have:=h.key _ hm;rw[l1] at this;lia
 have: ∀n,n<=i ->pT s (pats.take i) Q x n=pT s (pats.take (i+1)) Q x n:=λn=>by
  induction n with
  | zero=>intro _;rfl
  | succ n ih=>intro hn;rw[pT,pT,ih (by lia),jg (by lia),jg (by lia)]
 rw[pT,hno,this i (aq _)];show _=(_+0) % p;rw[bu]
theorem qw.first {pt:Pt}{q:Addr}(p0:0<p)(hi:pats[i]? =some pt):qw s p (pats.take (i+1)) pt [((i:Int),q,[(0,1)])]:=by
 have hl:=(ag.mp hi).1;have l2:(pats.take (i+1)).length=i+1:=by rw[a6];lia
 refine⟨λx=> ?_,λw hw=>by rw[lj,ah] at hw;rw[l2,hw];push_cast;lia⟩;rw[l2,pT];have h0: ∀n,n<=i ->pT s (pats.take (i+1)) [((i:Int),q,[(0,1)])] x n=0:=λn=>by
  induction n with
  | zero=>intro _;rfl
  | succ n ih=>
   intro hn;have:pf [((i:Int),q,[((0:Int),(1:Int))])] (n:Int)= []:=rM λhm=>by rw[lj,ah] at hm;have:(n:Int)=i:=hm;lia
   rw[pT,ih (by lia),this];rfl
 have e:pf [((i:Int),q,[((0:Int),(1:Int))])] (i:Int)= [(0,1)]:=by simp[pf]
 rw[h0 i (aq _),e,jg (eI _),mH hi];show _=(0+(look pt (x - s*0)*1+0)) % p;rw[de,vJ,gG,bu,bP]
theorem Es {M1:Mp}{L1:List e9}{pt:Pt}(P:EA s p Z w pats)(h:W6 S s p Z w pats i M hd L bs)(hi:pats[i]? =some pt)(pe:nY S s p M1 hd L1)(AQ: ∀t∈L1,Wt 1000000 t.b /\ t.len<3000000)(V6: ∀t∈L1,qw s p (pats.take (i+1)) t.b t.Q) (hlen:L1.length<=L.length+1) (sY: ∀c∈L.map (·.c),c∈L1.map (·.c)): ∃bs1,Base s p w (pats.take (i+1)) bs1 L1:=by
 have hl:=(ag.mp hi).1;have EU:=je h.held.nd sY;rw[aa,aa] at EU;have qp: ∀b∈pats.take i,b∈pats.take (i+1):=λb hb=>by rw[bD];exact ax.mpr (.inl hb)
 have nN:pt∈pats.take (i+1):=by rw[bD,hi];exact ax.mpr (.inr (ah.mpr rfl))
 have p0:0<p:=by have:=P.hp;lia
 have p1:1<p:=by have:=P.hp;lia
 by_cases e:L1.length=L.length
 ·exact⟨bs,by rw[e];exact h.base.len,h.base.ind,λb hb=>qp b (h.base.of b hb)⟩
 ·refine⟨bs++ [pt],by rw[aL,cY,h.base.len];lia,λz=> ?_,λb hb=> ?_⟩
  ·have s1:0<s:=by have:=P.s0;lia
   obtain⟨Ls,o⟩:=sG L h.held.nd;obtain⟨Ls1,o1⟩:=sG L1 pe.nd;have e1:(fO p Ls).length=L.length:=by unfold fO;rw[aa];exact o.perm.length_eq
   have e2:(fO p Ls1).length=L1.length:=by unfold fO;rw[aa];exact o1.perm.length_eq
   refine AF P.hp s1 (sf p1 h.held o (λt ht=>(h.fin t ht).1) λt ht=>(h.fin t ht).2) (sf p1 pe o1 (λt ht=>(AQ t ht).1) λt ht=>(AQ t ht).2) (h.base.ind z) (λb hb=>o9 p0 h.held o (h.sp b (h.base.of b hb))) (by rw[e1,e2];lia) λst mE=> ?_;obtain⟨t,ht,rfl⟩:=af.mp mE;have rn:=o1.perm.mem_iff.mp ht;have m:=V6 t rn;have l2:(pats.take (i+1)).length=i+1:=by rw[a6];lia
   refine⟨pf t.Q i,(cX.gB (sts:=pats.take i) (sts':=fO p Ls) (λb hb=>o9 p0 h.held o (h.sp b hb)) (λn=>pf t.Q n) i (by rw[a6];lia)).ext λx=> ?_⟩;rw[gC p0 (pe.each t rn).row.ga,JV,m.is,l2,pT,jg (eI _),mH hi, <- JV];have: ∀n,n<=i ->pT s (pats.take (i+1)) t.Q x n=gB s (pats.take i) (λn=>pf t.Q n) x n:=λn=>by
    induction n with
    | zero=>intro _;rfl
    | succ n ih=>intro hn;rw[pT,gB,ih (by lia),jg (by lia),jg (by lia)]
   rw[this i (aq _)];congr 1;lia
  ·rcases ax.mp hb with hb | hb
   ·exact qp b (h.base.of b hb)
   ·rw[ah.mp hb];exact nN
end
structure VG (s p Z:Int)(w:Nat)(pats sts:List Pt)(Ps:List Pq):Prop where
 iB:uo s p sts 1000000
 trim:Trim s p sts 1000000
 sp: ∀pt∈pats,cX s p sts (look pt)
 len:Ps.length=sts.length
 QD:sts.length<=pats.length
 md: ∀ (k:Nat) st P,sts[k]? =some st ->Ps[k]? =some P ->qw s p pats st P /\ (P.map (·.1)).Nodup /\ (∀t∈P,GD p t.2.2) /\ qy s (xy s pats.length) (xy s pats.length) P
 bx: ∀st∈sts,lx s Z (2*((sts.length:Int)*w)) (2*((sts.length:Int)*w)) st /\ fw s st<=2*((sts.length:Int)*w)
 cols:s≠0 ->(sts.length:Int) <=s
def Pd:mN:=λxs M q=> ∃ (u:Addr) (p s Z:Int) (w:Nat) (pats:List Pt),xs= [wi p,wi s,wr u] /\ M u=some (.lst (pats.map cR)) /\ EA s p Z w pats /\∀ (M':Mp) (v:Addr) (as:List Addr) (sts:List Pt) (Ps:List Pq),VG s p Z w pats sts Ps ->Sm M M' ->M v=none ->M' v=some (.lst (as.map wr)) ->as.length=sts.length ->(∀ (k:Nat) a P,as[k]? =some a ->Ps[k]? =some P -> ∃tl:List Part,tl.Perm (xN p 1 P) /\ M' a=some (.lst (tl.map oP))) ->q (.tup [.tup (sts.map cR),wr v]) M'
theorem Bx {M0 M M':Mp}{F:List Addr}(h:Sm M0 M)(k:fC M M' F)(hf: ∀x∈F,M0 x=none):Sm M0 M':=λd o e=>k d o (h d o e) λhx=>by rw[hf d hx] at e;cases e
end WQ
namespace L2
open PySem
theorem BQ {X:Cx}{K:PySem.W.Frag}{e:Expr}{f:Str}{pos:Pos}{ta:TE}(hK:X.K=K)(he:PE X e ta)(hb:attributeBase e f X.env (eval e X.env)=eval e X.env):PE X (.Attribute e f pos) (ON K ta f):=by subst hK;exact eg he hb
end L2
namespace WQ
open PySem L2 WL WP
def Dv:mN:=λxs M q=> ∃ (d l:Addr) (p most:Int),xs= [wr d,wi p,wi most] /\ Dr M d l /\ 2<=p /\ p<=7 /\ 0<=most /\ most<=60 /\ ∀ (u:Addr) (pats:List Pt) (M':Mp),(∀pt∈pats,dE p pt /\ Wt 6 pt /\ pt.length<=4) ->(pats.length:Int) <=most ->M u=none ->M' u=some (.lst (pats.map cR)) ->Dr M' d l ->kE d M M' ->q (wr u) M'
def zw (s p:Int)(A B:List Pt):Prop:=(∀a∈A,cX s p B (look a)) /\ ∀b∈B,cX s p A (look b)
section
variable {s p D:Int}{A B C sts sts':List Pt}
theorem zw.refl:zw s p A A:=⟨λ_ h=>cX.of h,λ_ h=>cX.of h⟩
theorem zw.trans (h:zw s p A B)(h':zw s p B C):zw s p A C:=⟨λa ha=>(h.1 a ha).trans h'.1,λc hc=>(h'.2 c hc).trans h.2⟩
theorem zw.symm (h:zw s p A B):zw s p B A:=⟨h.2,h.1⟩
theorem CI {g:Int ->Int}(hp:p=2 \/ p=3 \/ p=5 \/ p=7)(s0:0<=s)(iB:uo s p sts D)(h:cX s p sts g)(low:Vy s p sts D g)(x:Int):g x % p=0:=by obtain⟨J,hJ⟩:=h;rw[hJ];exact Bs hp s0 iB hJ low x
theorem BY {st:Pt}{x:Int}(p0:0<p)(h:dE p st)(hx:look st x≠0):look st x % p≠0:=by have:=nL p0 h x;rw[cW this.1 this.2];exact hx
theorem Sr.lit {st:Pt}{c len:Int}(h:Sr s p st c len D):look st c≠0:=λe=>by obtain⟨z,hz,e2⟩:=af.mp h.bot;have:=(h.pat.1 z hz).1;rw[<- e2,Hg h.pat.2 hz] at e;lia
theorem CZ (hp:p=2 \/ p=3 \/ p=5 \/ p=7)(s0:0<=s)(iB:uo s p sts D)(j6:uo s p sts' D)(h: ∀a∈sts,cX s p sts' (look a)){c:Int}(hc:c∈sts.map (dm s)):c∈sts'.map (dm s):=by
 obtain⟨st,mE,rfl⟩:=af.mp hc;have sr:=iB.of mE;refine yP hp s0 j6 (h st mE) (λx hx=> ?_) ⟨dm s st,sr.ok.own,BY (by lia) sr.pat sr.lit⟩;have:look st x=0:=au λhn=>by have:=sr.ge x (cJ hn);lia
 rw[this];exact eE _
theorem CY (iB:uo s p sts D):(sts.map (dm s)).Pairwise (· < ·):=by rw[bY,bj];intro i j hi hj iu;exact iB.BD i j _ _ _ _ _ _ iu (ae hi) (ae hj) (iB.of (bW _)) (iB.of (bW _))
theorem El (hp:p=2 \/ p=3 \/ p=5 \/ p=7)(s0:0<=s)(iB:uo s p sts D)(j6:uo s p sts' D)(e:zw s p sts sts'):sts.map (dm s)=sts'.map (dm s):=by
 have u:=CY iB;have u':=CY j6;have nd:(sts.map (dm s)).Nodup:=u.imp λh e=>by lia
 have TN:(sts'.map (dm s)).Nodup:=u'.imp λh e=>by lia
 refine BV (u.imp λh=>by lia) (u'.imp λh=>by lia) ((List.perm_ext_iff_of_nodup nd TN).mpr λc=>⟨CZ hp s0 iB j6 e.1,CZ hp s0 j6 iB e.2⟩)
theorem uM (hp:p=2 \/ p=3 \/ p=5 \/ p=7)(s0:0<=s)(iB:uo s p sts D)(j6:uo s p sts' D)(VJ:Trim s p sts' D)(h: ∀a∈sts',cX s p sts (look a))(ec: ∀ (j:Nat) a b,sts[j]? =some a ->sts'[j]? =some b ->dm s a=dm s b) (hl:sts.length=sts'.length) {i:Nat} {st bB:Pt} (hi:sts[i]? =some st) (nh:sts'[i]? =some bB) (ej: ∀ (j:Nat) a b,i<j ->sts[j]? =some a ->sts'[j]? =some b ->fw s a=fw s b):fw s st<=fw s bB:=by
 refine au λhn=> ?_;have OU:=j6.of (ai nh);have hz:=CI hp s0 iB (h bB (ai nh)) (λj a c len hj sr x hx c9=> ?_) (dm s bB)
 ·exact BY (by lia) OU.pat OU.lit hz
 ·have Yf:look bB x≠0:=λe=>c9 (by show look bB x % p=0;rw[e];exact eE _);have hxm:=cJ Yf;obtain⟨b,hb⟩: ∃b,sts'[j]? =some b:=⟨_,ae (by have:=(ag.mp hj).1;omega)⟩
  have e1:=ec j a b hj hb;rw[sr.mK] at e1;rcases iX j i with q | q | q
  ·have h1:=j6.BD j i _ _ _ _ _ _ q hb nh (j6.of (ai hb)) OU;have h2:=OU.ge x hxm;lia
  ·subst q;rw[nh] at hb;cases hb;rw[hi] at hj;cases hj;have h1:=OU.rq x hxm (by rw[hx,e1]);rw[sr.jN] at hn;lia
  ·have h1:=VJ i j _ _ _ _ q nh hb (j6.of (ai hb)) x (by rw[hx,e1]) Yf;have h2:=ej j a b q hj hb;rw[sr.jN] at h2;lia
theorem G3 (hp:p=2 \/ p=3 \/ p=5 \/ p=7)(s0:0<=s)(iB:uo s p sts D)(j6:uo s p sts' D)(tr:Trim s p sts D)(VJ:Trim s p sts' D)(e:zw s p sts sts'):sts=sts':=by
 have em:=El hp s0 iB j6 e;have hl:sts.length=sts'.length:=by have:=congrArg List.length em;rwa [aa,aa] at this
 have ec: ∀ (j:Nat) a b,sts[j]? =some a ->sts'[j]? =some b ->dm s a=dm s b:=λj a b ha hb=>by have:=congrArg (λl=>l[j]?) em;simp only[aA,ha,hb,pK,vE] at this;exact this
 have WU: ∀ (j:Nat) a b,sts'[j]? =some a ->sts[j]? =some b ->dm s a=dm s b:=λj a b ha hb=>(ec j b a hb ha).symm;have el: ∀ (n i:Nat) a b,sts.length - i=n ->sts[i]? =some a ->sts'[i]? =some b ->fw s a=fw s b:=λn=>by
  induction n using Nat.strongRecOn with
  | ind n ih=>intro i a b hn ha hb;have hi:=(ag.mp ha).1;have later: ∀ (j:Nat) a b,i<j ->sts[j]? =some a ->sts'[j]? =some b ->fw s a=fw s b:=λj a b iu ha hb=>ih (sts.length - j) (by have:=(ag.mp ha).1;omega) j a b rfl ha hb;have h1:=uM hp s0 iB j6 VJ e.2 ec hl ha hb later;have h2:=uM hp s0 j6 iB tr e.1 WU hl.symm hb ha λj a b iu ha hb=>(later j b a iu hb ha).symm;lia
 refine List.ext_getElem? λi=> ?_;by_cases hi:i<sts.length
 ·obtain⟨a,ha⟩: ∃a,sts[i]? =some a:=⟨_,ae hi⟩
  obtain⟨b,hb⟩: ∃b,sts'[i]? =some b:=⟨_,ae (by omega)⟩
  rw[ha,hb];congr 1;have S1:=iB.of (ai ha);have S0:=j6.of (ai hb);have e1:=ec i a b ha hb;have e2:=el _ i a b rfl ha hb;refine wF S1.pat S0.pat λx=> ?_;have jE:cX s p sts λx=>look a x+look b x*(-1):=(cX.of (ai ha)).add ((e.2 b (ai hb)).mul (-1));have hz:=CI hp s0 iB jE (λj u c len hj sr y hy c9=> ?_) x
  ·have h1:=nL (p:=p) (by lia) S1.pat x;have h2:=nL (p:=p) (by lia) S0.pat x;have qo:(look a x - look b x) % p=0:=by rw[<- hz];congr 1;lia
   have:=cc.mpr qo;rwa [cW h1.1 h1.2,cW h2.1 h2.2] at this
  ·have Uy:look a y≠0 \/ look b y≠0:=by
    by_cases z:look a y=0
    ·refine .inr λz'=>c9 ?_;show(look a y+look b y* -1) % p=0;rw[z,z'];exact eE _
    ·exact .inl z
   obtain⟨v,hv⟩: ∃v,sts'[j]? =some v:=⟨_,ae (by have:=(ag.mp hj).1;omega)⟩
   have c1:=ec j u v hj hv;have l1:=el _ j u v rfl hj hv;rw[sr.mK] at c1;rw[sr.jN] at l1;rcases iX j i with q | q | q
   ·have h1:=iB.BD j i _ _ _ _ _ _ q hj ha sr S1;rcases Uy with z | z
    ·have:=S1.ge y (cJ z);lia
    ·have:=S0.ge y (cJ z);lia
   ·subst q;rw[ha] at hj;cases hj;have c0:=sr.mK;have l0:=sr.jN;have hb2:0<=hI s y /\ hI s y<=len:=by
     rcases Uy with z | z
     ·have:=S1.rq y (cJ z) (by lia);lia
     ·have:=S0.rq y (cJ z) (by lia);lia
    refine⟨hb2.1,au λhnl=>c9 ?_⟩;have hh:hI s y=len:=by lia
    have Ro:=qu s0 hy;rw[hh] at Ro;have t1:=sr.top;have t2:=S0.top;rw[<- e1, <- e2,c0,l0] at t2;show(look a y+look b y* -1) % p=0;rw[Ro,t1,t2];exact eE _
   ·rcases Uy with z | z
    ·exact tr i j _ _ _ _ q ha hj sr y hy z
    ·have:=VJ i j _ _ _ _ q hb hv (j6.of (ai hv)) y (by lia) z;lia
 ·rw[cZ (by omega),cZ (by omega)]
end
end WQ
namespace L2
open PySem PySem.Spec PyProof.Rows
section
variable {X:Cx}
def BG:V ->List V ->Hp ->VK ->Prop:=λx vs H Q=> ∃l xs y, ∃i:Nat,x= .ref l /\ vs= [.int i,y] /\ H l=some (.lst xs) /\ xs.length<sizeLine /\ i<=xs.length /\ Q .dS (upd H l (.lst (xs.take i++y::xs.drop i)))
theorem Dz:MtM X "list.insert" BG:=by
 intro pins s σ H x vs v us Q I rx rv h;obtain⟨l,xs,y,i,rfl,rfl,hH,hz,hi,q⟩:=h;cases rx;obtain⟨u0,u,rfl,⟨tk,rfl⟩,ru⟩:=rv.two;obtain⟨z,its,n,r,hl,e⟩:=I.DE hH;have hf:Builtin.List.listFitsIndex (i:Int)=true:=by have hs:=cC;unfold Builtin.List.listFitsIndex;rw[gK,cq,cq];omega
 obtain⟨x,hx⟩: ∃x:Int,x=(i:Int):=⟨_,rfl⟩
 rw[<- hx] at hf ⊢;refine NY F.slot_list_insert ⟨_,e,rfl⟩ F.entry_list_insert (F.args_list_insert_3 _ _ _) (PySem.AutoSeq1.list_insert_list_int_val_1 l its.toArray n x tk u (by simp[hf]) (by rw[aO];lia)) ⟨e,?_⟩;refine⟨.dS,_,I.PD (its':=its.take i++u::its.drop i) hH e ?_ ((r.take i).append (.cons ru (r.drop i))) ?_,rfl,q⟩
 ·have hk:(if x<0 then(x+(its.toArray.size:Int)).toNat else min x.toNat its.toArray.size)=i:=by rw[aj (by lia),aO];omega
  show(its.toArray.extract 0 (if x<0 then(x+(its.toArray.size:Int)).toNat else min x.toNat its.toArray.size)).push u++its.toArray.extract (if x<0 then(x+(its.toArray.size:Int)).toNat else min x.toNat its.toArray.size)=_;rw[hk];apply Array.toList_inj.mp;simp;exact oe (by simp)
 ·rw[aL,aG,a6,fL];omega
end
end L2
namespace WL
open PySem L2
section
variable {K:PySem.W.Frag}{M:Mp}{q:WK}
def J7:WM:=λx ys M q=> ∃a l y, ∃i:Nat,x=wr a /\ ys= [wi i,y] /\ M a=some (.lst l) /\ l.length<sizeLine /\ i<=l.length /\ q wn (um M a (.lst (l.take i++y::l.drop i)))
instance:IM K BG J7 where
 imp:=by rintro x v ys us M H q Q m r1 r2 ⟨a,l,y,i,rfl,rfl,hl,hn,hi,h⟩ k;cases r1.eq;obtain⟨u0,u,rfl,r0,r⟩:=r2.two;cases r0.eq;obtain⟨vs,hv,rr⟩:=m a _ hl;exact⟨a,vs,u,i,rfl,rfl,hv,by rw[rr.length];exact hn,by rw[rr.length];exact hi,k _ _ _ _ h (nA hv) (m.putL hv ((rr.take i).append (.cons r (rr.drop i)))) WR.v⟩
end
end WL
namespace WQ
open PySem L2 WL WP
def EM (s:Int)(w:Nat):Nat:=if s=0 then 0 else w+1
def pJ (s p Z:Int)(w:Nat)(pats:List Pt):Prop:= ∀pt∈pats,dE p pt /\ lx s Z w w pt
def kz (s k:Int):Int:=if s=0 then 0 else k
structure Og (s p Z:Int)(w:Nat)(pats jQ:List Pt):Prop where
 eqs:zw s p pats jQ
 row:pJ s p Z (EM s w) jQ
 len:jQ.length<=pats.length+1
section
variable {s p Z k n:Int}{w i j:Nat}{pats:List Pt}{a b:Pt}
theorem PK:kz s k*s=k*s:=by
 unfold kz;split
 ·rename_i h;rw[h,de,de]
 ·rfl
theorem T6 (h0: -1<=k)(h1:k<=1): -1<=kz s k /\ kz s k<=1 /\ (s=0 ->kz s k=0):=by
 unfold kz;split
 ·exact⟨by decide,by decide,λ_=>rfl⟩
 ·rename_i h;exact⟨h0,h1,λz=>absurd z h⟩
theorem N1 (h:lx s Z ((w:Int)+1) ((w:Int)+1) a):lx s Z (EM s w) (EM s w) a:=by
 unfold EM;by_cases z:s=0
 ·rw[ak z];exact⟨λx _=>by rw[z,mG];exact⟨by decide,by decide⟩,h.2⟩
 ·rw[aj z];exact h
theorem pJ.up (h:pJ s p Z w pats):pJ s p Z (EM s w) pats:=λpt nN=>⟨(h pt nN).1,N1 ((h pt nN).2.up (by lia) (by lia))⟩
theorem oq (p0:0<p)(ha:dE p a)(hb:dE p b)(x:Int):look (lA p (a++wL (k*s) n b)) x=(look a x+dF (λsh=>look b (x - s*sh)) [(kz s k,n)]) % p:=by have e:=PK (s:=s) (k:=k);rw[Hh p0 ha hb, <- e];show _=(look a x+(look b (x - s*kz s k)*n+0)) % p;rw[bu,bK s]
theorem xW {c:Pt}(hi:pats[i]? =some a):c∈pats.set i c:=ai (i:=i) (by rw[dy,ak rfl,ak (ag.mp hi).1])
theorem qa {c:Pt}(hj:pats[j]? =some b)(h:i≠j):b∈pats.set i c:=ai (i:=j) (by rw[dy,aj h];exact hj)
theorem BC {c:Pt}(h:pJ s p Z w pats)(hc:dE p c /\ lx s Z (EM s w) (EM s w) c):pJ s p Z (EM s w) (pats.set i c):=λpt nN=>by
 rcases ff nN with q | q
 ·exact h.up pt q
 ·rw[q];exact hc
theorem vX (p0:0<p)(h0: -1<=k)(h1:k<=1)(ha:dE p a /\ lx s Z w w a)(hb:dE p b /\ lx s Z w w b):dE p (lA p (a++wL (k*s) n b)) /\ lx s Z (EM s w) (EM s w) (lA p (a++wL (k*s) n b)):=by
 have hk:=T6 (s:=s) h0 h1;refine⟨mj p0 _,N1 (lx.cut (jl:=1) (jh:=1) ha.2 hb.2 (oq p0 ha.1 hb.1) (λj hj=> ?_) (λz j hj=> ?_) (by lia) (by lia) (by lia) (by lia))⟩
 ·rw[ah.mp hj];exact⟨hk.1,hk.2.1⟩
 ·rw[ah.mp hj];exact hk.2.2 z
theorem LH (p0:0<p)(h:pJ s p Z w pats)(hi:pats[i]? =some a)(hj:pats[j]? =some b)(iu:i≠j)(h0: -1<=k)(h1:k<=1):Og s p Z w pats (pats.set i (lA p (a++wL (k*s) n b))):=by
 have ha:=h a (ai hi);have hb:=h b (ai hj);refine⟨⟨λa' yN=> ?_,λb' n6=> ?_⟩,BC h (vX p0 h0 h1 ha hb),by rw[f7];omega⟩
 ·obtain⟨m,hm⟩:=bA.mp yN;by_cases e:i=m
  ·subst e;rw[hi] at hm;cases hm;exact cX.back (cX.of (xW hi)) (cX.of (qa hj iu)) (oq p0 ha.1 hb.1)
  ·exact cX.of (qa hm e)
 ·rcases ff n6 with q | q
  ·exact cX.of q
  ·rw[q];exact((cX.of (ai hi)).add ((cX.of (ai hj)).dF [(kz s k,n)])).ext λx=>by rw[oq p0 ha.1 hb.1,cE]
theorem rN (p0:0<p):dE p ([]:Pt) /\ lx s Z w w ([]:Pt):=⟨dE.nil,λ_ h=>absurd rfl h,λ_ _ h=>absurd rfl h⟩
theorem yp (p0:0<p)(ha:dE p a)(x:Int):look (lA p ([]++wL (k*s) n a)) x=look a (x+s*(-kz s k))*n % p:=by rw[oq p0 dE.nil ha];show(0+(look a (x - s*kz s k)*n+0)) % p=_;rw[bP,bu,gH, <- lu]
theorem GX {G:List Pt}(p0:0<p)(ha:dE p a)(h:cX s p G (look a)):cX s p G (look (lA p ([]++wL (k*s) n a))):=((h.shift (kz s k)).mul n).ext λx=>by rw[yp p0 ha,cE,gH, <- lu]
theorem LI (hp:p=2 \/ p=3 \/ p=5 \/ p=7)(h:pJ s p Z w pats)(hi:pats[i]? =some a)(h0: -1<=k)(h1:k<=1)(n0:0<n)(n1:n<p):Og s p Z w pats (pats.set i (lA p ([]++wL (k*s) n a))):=by
 have p0:0<p:=by lia
 have ha:=h a (ai hi);refine⟨⟨λa' yN=> ?_,λb' n6=> ?_⟩,BC h (vX p0 h0 h1 (rN p0) ha),by rw[f7];omega⟩
 ·obtain⟨m,hm⟩:=bA.mp yN;by_cases e:i=m
  ·subst e;rw[hi] at hm;cases hm;exact cX.vU hp n0 n1 (cX.of (xW hi)) (yp p0 ha.1)
  ·exact cX.of (qa hm e)
 ·rcases ff n6 with q | q
  ·exact cX.of q
  ·rw[q];exact GX p0 ha.1 (cX.of (ai hi))
theorem LK (p0:0<p)(h:pJ s p Z w pats)(hi:pats[i]? =some a)(h0: -1<=k)(h1:k<=1):Og s p Z w pats (pats++ [lA p ([]++wL (k*s) n a)]):=by
 have ha:=h a (ai hi);refine⟨⟨λa' yN=>cX.of (jY _ yN),λb' n6=> ?_⟩,λpt nN=> ?_,by simp⟩
 ·rcases ax.mp n6 with q | q
  ·exact cX.of q
  ·rw[ah.mp q];exact GX p0 ha.1 (cX.of (ai hi))
 ·rcases ax.mp nN with q | q
  ·exact h.up pt q
  ·rw[ah.mp q];exact vX p0 h0 h1 (rN p0) ha
theorem Cg {G:List Pt}:cX s p G (look []):=cX.zero
theorem LJ (p0:0<p)(h:pJ s p Z w pats)(hi:i<=pats.length):Og s p Z w pats (pats.take i++ []::pats.drop i):=by
 have hm: ∀x:Pt,x∈pats.take i++ []::pats.drop i↔x= [] \/ x∈pats:=λx=>by
  rw[ax,av];constructor
  ·rintro(q | q | q)
   ·exact .inr (jX q)
   ·exact .inl q
   ·exact .inr (List.mem_of_mem_drop q)
  ·rintro(q | q)
   ·exact .inr (.inl q)
   ·rw[<- a8 i pats,ax] at q;rcases q with q | q
    ·exact .inl q
    ·exact .inr (.inr q)
 refine⟨⟨λa' yN=>cX.of ((hm _).mpr (.inr yN)),λb' n6=> ?_⟩,λpt nN=> ?_,by rw[aL,aG,a6,fL];omega⟩
 ·rcases (hm _).mp n6 with q | q
  ·rw[q];exact Cg
  ·exact cX.of q
 ·rcases (hm _).mp nN with q | q
  ·rw[q];exact rN p0
  ·exact h.up pt q
theorem IK (h:pJ s p Z w pats)(hi:pats[i]? =some a)(hj:pats[j]? =some b):Og s p Z w pats ((pats.set i b).set j a):=by
 have hm: ∀x:Pt,x∈(pats.set i b).set j a ->x∈pats:=λx hx=>by
  rcases ff hx with q | q
  ·rcases ff q with q | q
   ·exact q
   ·rw[q];exact ai hj
  ·rw[q];exact ai hi
 have hjl:=(ag.mp hj).1;have JA:=(ag.mp hi).1;refine⟨⟨λa' yN=> ?_,λb' n6=>cX.of (hm _ n6)⟩,λpt nN=>h.up pt (hm _ nN),by rw[f7,f7];omega⟩;obtain⟨m,Jw⟩:=bA.mp yN;refine cX.of ?_;by_cases e:m=i
 ·rw[e,hi] at Jw;cases Jw;exact ai (i:=j) (by rw[dy,ak rfl,ak (by rw[f7];exact hjl)])
 ·by_cases e2:m=j
  ·rw[e2,hj] at Jw;cases Jw;exact ai (i:=i) (by rw[dy,aj (by omega),dy,ak rfl,ak JA])
  ·exact ai (i:=m) (by rw[dy,aj (by omega),dy,aj (by omega)];exact Jw)
theorem IL (p0:0<p):Og s p Z w [] [[]]:=⟨⟨λa ha=>absurd ha xE,λb hb=>by rw[ah.mp hb];exact Cg⟩,λpt nN=>by rw[ah.mp nN];exact rN p0,by simp⟩
end
theorem kE.fresh {d l b:Addr}{M M':Mp}(h:kE d M M')(D:Dr M' d l)(hb:M' b=none):M b=none:=by
 obtain⟨nd,_⟩:=D.ne hb;cases e:M b with
 | none=>rfl
 | some o=>rw[h b o nd e] at hb;cases hb
def GW:mN:=λxs M q=> ∃ (d l u:Addr) (p s Z:Int) (w:Nat) (pats:List Pt),xs= [wr d,wi p,wi s,wr u] /\ Dr M d l /\ M u=some (.lst (pats.map cR)) /\ (p=2 \/ p=3 \/ p=5 \/ p=7) /\ 0<=s /\ s<=8 /\ 0<=Z /\ Z<=1000 /\ w<=60 /\ pats.length<=60 /\ pJ s p Z w pats /\∀ (t:Addr) (jQ:List Pt) (M':Mp),Og s p Z w pats jQ ->M t=none ->M' t=some (.lst (jQ.map cR)) ->Dr M' d l ->kE d M M' ->q (wr t) M'
theorem qw.ins {s p:Int}{pats:List Pt}{b:Pt}{Q:Pq}(h:qw s p pats b Q):cX s p pats (look b):=by
 refine⟨λn=>pf Q n,λx=> ?_⟩;rw[h.is];have: ∀n,pT s pats Q x n=gB s pats (λn=>pf Q n) x n:=λn=>by
  induction n with
  | zero=>rfl
  | succ n ih=>rw[pT,gB,ih]
 rw[this]
theorem VG.one {s p Z Z':Int}{w w':Nat}{pats jQ sts sts':List Pt}{Ps Ps':List Pq}(hp:p=2 \/ p=3 \/ p=5 \/ p=7)(s0:0<=s)(h:VG s p Z w pats sts Ps)(h':VG s p Z' w' jQ sts' Ps')(e:zw s p pats jQ):sts=sts':=by
 have own: ∀ {Z:Int} {w:Nat} {pats sts:List Pt} {Ps:List Pq},VG s p Z w pats sts Ps ->zw s p sts pats:=λ{Z w pats sts Ps} h=>by
  refine⟨λst mE=> ?_,h.sp⟩;obtain⟨i,hi⟩:=bA.mp mE;obtain⟨P,hP⟩: ∃P,Ps[i]? =some P:=⟨_,ae (by rw[h.len];exact(ag.mp hi).1)⟩
  exact(h.md i st P hi hP).1.ins
 exact G3 hp s0 h.iB h'.iB h.trim h'.trim ((own h).trans (e.trans (own h').symm))
end WQ
set_option synthInstance.maxSize 100000
set_option synthInstance.maxHeartbeats 0
open PySem L2 WL WP WQ EN PyProof.Rows
local macro_rules | `(tactic| simp? [$xs,*]) => do let a <- ("lstK_e dicK_e optK_e andK_e iteK_t iteK_f isB_e refK_e tupK_e keyK_i wVar_0 wVar_1 wVar_2 wVar_3 wVar_4 wVar_5 wVar_6 wVar_7 wVar_8 wVar_9 wVar_10 wVar_11 wVar_12 wVar_13 wVar_14 wVar_15 wVar_16 wVar_17 wVar_18 wVar_19 wVar_20 wVar_21 wVar_22 wVar_23 wC_e wOp_e wUn_e wI_e wI0_e wU_e wEq_i wNe_i wTest_e wAnd_e wOr_e wNot_e wAndV_e wNotV_e wChain_e wNil_e wCons_e wTup_e wLst_e wIxL_e wIxT_e wNoPart_e intK_e wPart_e wSl_e wSlL_e wCB_e wCall_e wLen_l wLen_t wAbs_e wListOf_l wListOf_t wTupleOf_l wIsX_e wBM_e wAppend_e wCat_e wTruth_e wDNew_e wDGet_e wDNotIn_e wDGet2_e sNext_e sCont_e sDrop_e sRet_e sRetN_e sIf_e sAsg_e sDPutW_e sFor_e sWhile_e vName_e vNil_e vCons_e vTup_e vSub_e wSetL_e jList_e jTup_e oneK_e jRng1_e wComp_e wYes_e wComp2_e jRng3_e wDSetD_e setdK_s setdK_n wFld_e sFldW_e insK_e jItems_e wLItems_e wMinD_e sDDelW_e".splitOn " ").toArray.mapM λs => `(Lean.Parser.Tactic.simpLemma| ↓ $(Lean.mkIdent s.toName):term); let b <- ("kit_int_int kit_int_bool kit_int_str kit_int_tuple kit_int_list kit_bool_int kit_bool_bool kit_bool_str kit_bool_tuple kit_bool_list kit_str_int kit_str_bool kit_str_str kit_str_tuple kit_str_list kit_NoneType_int kit_NoneType_bool kit_NoneType_str kit_NoneType_tuple kit_NoneType_list kit_tuple_int kit_tuple_bool kit_tuple_str kit_tuple_tuple kit_tuple_list kit_list_int kit_list_bool kit_list_str kit_list_tuple kit_list_list sl1 sl2 sl3 sl4 sl0 List.map_cons List.map_nil List.length_cons List.length_nil Nat.zero_add List.cons_append List.nil_append List.set_cons_zero List.set_cons_succ um_same um_um atI_0 atI_1 atI_2 atI_3 ixN_1 ixN_2 ixN_3 Bool.not_true Bool.not_false List.getElem?_cons_zero List.getElem?_cons_succ Option.join_some and_self and_true true_and Option.getD_some Option.getD_none tyW capρ".splitOn " ").toArray.mapM λs => `(Lean.Parser.Tactic.simpLemma| $(Lean.mkIdent s.toName):term); `(tactic| try simp only [$a,*, $b,*, Nat.reduceAdd, Nat.reduceSub, List.reduceReplicate, $xs,*])
local macro_rules | `(tactic| dsimp? [$xs,*]) => `(tactic| (simp? [↓eV, $xs,*]; repeat (with_reducible refine lP ?_; simp? [↓eV, $xs,*])))
namespace iA
open PySem L2 WL WP WQ EN PyProof.Rows
def top (i:Nat):Stmt:=PySem.Challenge.pw_duskround_k22_whole_one_form_of_stairs.main.body.getD i (.Pass ⟨0,0,0,0⟩)
abbrev v8:Stmt:=top 1
abbrev qe:Stmt:=top 3
abbrev Gb:Stmt:=Nf (top 5) 0
abbrev we:Stmt:=Nf (top 6) 0
abbrev sC:Stmt:=top 7
abbrev gM:Stmt:=top 8
abbrev kg:Stmt:=top 9
abbrev j7:Stmt:=top 10
abbrev lM:Stmt:=top 11
abbrev gL:Stmt:=top 12
abbrev Ga:Stmt:=top 13
abbrev v9:Stmt:=top 14
abbrev i9:Stmt:=top 15
abbrev qb:Stmt:=top 16
abbrev qc:Stmt:=top 17
abbrev oH:Stmt:=top 18
abbrev qd:Stmt:=top 20
abbrev sA:Stmt:=top 21
abbrev F':Stmt:=top 22
abbrev oG:Stmt:=top 23
abbrev lK:Stmt:=top 24
abbrev fH:Stmt:=top 25
abbrev rH:Stmt:=top 26
abbrev wd:Stmt:=top 27
abbrev jm:Stmt:=top 28
abbrev lL:Stmt:=top 29
abbrev BB:Stmt:=top 30
set_option genInjectivity false in
set_option genSizeOf false in
structure C9 where
 Ij:Addr
 Iw:FuncData
 u6:Addr
 vh:FuncData
 NS:Addr
 NW:FuncData
 Cy:Addr
 CN:FuncData
 yS:Addr
 y8:FuncData
 lT:Addr
 lV:FuncData
 u9:Addr
 vi:FuncData
 ni:Addr
 nk:FuncData
 qI:Addr
 qO:FuncData
 jR:Addr
 jU:FuncData
 NR:Addr
 NV:FuncData
 Ct:Addr
 CJ:FuncData
 px:Addr
 pE:FuncData
 uZ:Addr
 ve:FuncData
 u4:Addr
 vf:FuncData
 Cw:Addr
 CM:FuncData
 u5:Addr
 vg:FuncData
 yR:Addr
 y3:FuncData
 NQ:Addr
 NU:FuncData
 yQ:Addr
 yZ:FuncData
 qG:Addr
 qL:FuncData
 jS:Addr
 jV:FuncData
 Cu:Addr
 CK:FuncData
 Cv:Addr
 CL:FuncData
 lS:Addr
 lU:FuncData
 qH:Addr
 qM:FuncData
 NP:Addr
 NT:FuncData
 fB:Addr
 dq:Addr
structure Txt (K:PySem.W.Frag)(mg:Str ->Option Value)(A:C9):Prop where
 N4:mg "abs" =none
 Vn:mg "all" =none
 QN:mg "bool" =none
 QM:mg "dict" =none
 zh:mg "enumerate" =none
 Vm:mg "int" =none
 fZ:mg "isinstance" =none
 qP:mg "len" =none
 gT:mg "list" =none
 Vl:mg "min" =none
 jW:mg "range" =none
 jz:mg "sorted" =none
 kW:mg "tuple" =none
 tidy:pZ K mg "tidy" ["p","pairs"] v8 A.Ij A.Iw
 inverse:pZ K mg "inverse" ["p","setting"] qe A.u6 A.vh
 Row:VF K mg "Row" "Row.__init__" ["self","lamps","parts"] Gb A.fB A.NS A.NW
 Stair:VF K mg "Stair" "Stair.__init__" ["self","row","first","length","foot"] we A.dq A.Cy A.CN
 column:pZ K mg "column" ["place","stride"] sC A.yS A.y8
 first_column:pZ K mg "first_column" ["places","stride"] gM A.lT A.lV
 heights:pZ K mg "heights" ["places","stride","first"] kg A.u9 A.vi
 add_shifted:pZ K mg "add_shifted" ["p","held","others","by","n"] j7 A.ni A.nk
 add_moved:pZ K mg "add_moved" ["p","stride","row","other","shift","n"] lM A.qI A.qO
 too_high_or_low:pZ K mg "too_high_or_low" ["found","length"] gL A.jR A.jU
 cut:pZ K mg "cut" ["p","stride","row","stair"] Ga A.NR A.NV
 stood:pZ K mg "stood" ["p","stride","row"] v9 A.Ct A.CJ
 told_parts:pZ K mg "told_parts" ["p","parts","n"] i9 A.px A.pE
 take_in:pZ K mg "take_in" ["p","stride","held","row"] qb A.uZ A.ve
 lie_low:pZ K mg "lie_low" ["p","stride","held"] qc A.u4 A.vf
 built:pZ K mg "built" ["p","stride","patterns"] oH A.Cw A.CM
 B8:pZ K mg "_law_begin" ["_law_script"] qd A.u5 A.vg
 gw:pZ K mg "_law_take" ["_law_draw","_law_many"] sA A.yR A.y3
 l_p:pZ K mg "_law_p" ["_law_draw"] F' A.NQ A.NU
 Av:pZ K mg "_law_tidy" ["_law_p_here","_law_pairs"] oG A.yQ A.yZ
 uR:pZ K mg "_law_pattern" ["_law_draw","_law_p_here","_law_most","_law_far"] lK A.qG A.qL
 k9:pZ K mg "_law_draw_patterns" ["_law_draw","_law_p_here","_law_most"] fH A.jS A.jV
 B7:pZ K mg "_law_sum" ["_law_p_here","_law_one","_law_other","_law_by","_law_many"] rH A.Cu A.CK
 Hq:pZ K mg "_law_int" ["_law_thing"] wd A.Cv A.CL
 oU:pZ K mg "_law_is_pattern" ["_law_p_here","_law_thing"] jm A.lS A.lU
 uS:pZ K mg "_law_changed" ["_law_draw","_law_p_here","_law_stride","_law_patterns"] lL A.qH A.qM
 law:pZ K mg "law" ["_law_script"] BB A.NP A.NT
 eC:dY K A.fB "lamps"
 fg:dY K A.fB "parts"
 iD:dY K A.dq "first"
 ja:dY K A.dq "foot"
 d3:dY K A.dq "lamps"
 gO:dY K A.dq "length"
 dZ:dY K A.dq "parts"
theorem BA:b7 ["p","pairs","turned","place","setting"] ["p","pairs"] (aQ v8):=⟨rfl,rfl,rfl,by decide+kernel,rfl,by decide+kernel,by decide+kernel⟩
theorem sx:b7 ["p","setting","found","at"] ["p","setting"] (aQ qe):=⟨rfl,rfl,rfl,by decide+kernel,rfl,by decide+kernel,by decide+kernel⟩
theorem F9:b7 ["self","lamps","parts"] ["self","lamps","parts"] (aQ Gb):=⟨rfl,rfl,rfl,by decide+kernel,rfl,by decide+kernel,by decide+kernel⟩
theorem yb:b7 ["self","row","first","length","foot"] ["self","row","first","length","foot"] (aQ we):=⟨rfl,rfl,rfl,by decide+kernel,rfl,by decide+kernel,by decide+kernel⟩
theorem uI:b7 ["place","stride"] ["place","stride"] (aQ sC):=⟨rfl,rfl,rfl,by decide+kernel,rfl,by decide+kernel,by decide+kernel⟩
theorem kZ:b7 ["places","stride"] ["places","stride"] (aQ gM):=⟨rfl,rfl,rfl,by decide+kernel,rfl,by decide+kernel,by decide+kernel⟩
theorem sy:b7 ["places","stride","first"] ["places","stride","first"] (aQ kg):=⟨rfl,rfl,rfl,by decide+kernel,rfl,by decide+kernel,by decide+kernel⟩
theorem lJ:b7 ["p","held","others","by","n","key","setting","now"] ["p","held","others","by","n"] (aQ j7):=⟨rfl,rfl,rfl,by decide+kernel,rfl,by decide+kernel,by decide+kernel⟩
theorem oF:b7 ["p","stride","row","other","shift","n","which","settings"] ["p","stride","row","other","shift","n"] (aQ lM):=⟨rfl,rfl,rfl,by decide+kernel,rfl,by decide+kernel,by decide+kernel⟩
theorem jj:b7 ["found","length"] ["found","length"] (aQ gL):=⟨rfl,rfl,rfl,by decide+kernel,rfl,by decide+kernel,by decide+kernel⟩
theorem F8:b7 ["p","stride","row","stair","found","height","setting"] ["p","stride","row","stair"] (aQ Ga):=⟨rfl,rfl,rfl,by decide+kernel,rfl,by decide+kernel,by decide+kernel⟩
theorem xX:b7 ["p","stride","row","first","found","turn","upright"] ["p","stride","row"] (aQ v9):=⟨rfl,rfl,rfl,by decide+kernel,rfl,by decide+kernel,by decide+kernel⟩
theorem m7:b7 ["p","parts","n"] ["p","parts","n"] (aQ i9):=⟨rfl,rfl,rfl,by decide+kernel,rfl,by decide+kernel,by decide+kernel⟩
theorem sk:b7 ["p","stride","held","row","first","stair","left"] ["p","stride","held","row"] (aQ qb):=⟨rfl,rfl,rfl,by decide+kernel,rfl,by decide+kernel,by decide+kernel⟩
theorem sq:b7 ["p","stride","held","firsts","at","behind"] ["p","stride","held"] (aQ qc):=⟨rfl,rfl,rfl,by decide+kernel,rfl,by decide+kernel,by decide+kernel⟩
theorem ya:b7 ["p","stride","patterns","held","which","pattern","firsts","stairs"] ["p","stride","patterns"] (aQ oH):=⟨rfl,rfl,rfl,by decide+kernel,rfl,by decide+kernel,by decide+kernel⟩
theorem sv:b7 ["_law_script"] ["_law_script"] (aQ qd):=⟨rfl,rfl,rfl,by decide+kernel,rfl,by decide+kernel,by decide+kernel⟩
theorem uH:b7 ["_law_draw","_law_many","_law_number","_law_got"] ["_law_draw","_law_many"] (aQ sA):=⟨rfl,rfl,rfl,by decide+kernel,rfl,by decide+kernel,by decide+kernel⟩
theorem F7:b7 ["_law_draw"] ["_law_draw"] (aQ F'):=⟨rfl,rfl,rfl,by decide+kernel,rfl,by decide+kernel,by decide+kernel⟩
theorem uG:b7 ["_law_p_here","_law_pairs","_law_sums","_law_place","_law_setting"] ["_law_p_here","_law_pairs"] (aQ oG):=⟨rfl,rfl,rfl,by decide+kernel,rfl,by decide+kernel,by decide+kernel⟩
theorem oC:b7 ["_law_draw","_law_p_here","_law_most","_law_far","_law_pairs","_law_k","_law_place"] ["_law_draw","_law_p_here","_law_most","_law_far"] (aQ lK):=⟨rfl,rfl,rfl,by decide+kernel,rfl,by decide+kernel,by decide+kernel⟩
theorem jk:b7 ["_law_draw","_law_p_here","_law_most"] ["_law_draw","_law_p_here","_law_most"] (aQ fH):=⟨rfl,rfl,rfl,by decide+kernel,rfl,by decide+kernel,by decide+kernel⟩
theorem xY:b7 ["_law_p_here","_law_one","_law_other","_law_by","_law_many"] ["_law_p_here","_law_one","_law_other","_law_by","_law_many"] (aQ rH):=⟨rfl,rfl,rfl,by decide+kernel,rfl,by decide+kernel,by decide+kernel⟩
theorem xZ:b7 ["_law_thing"] ["_law_thing"] (aQ wd):=⟨rfl,rfl,rfl,by decide+kernel,rfl,by decide+kernel,by decide+kernel⟩
theorem kY:b7 ["_law_p_here","_law_thing","_law_k","_law_pair"] ["_law_p_here","_law_thing"] (aQ jm):=⟨rfl,rfl,rfl,by decide+kernel,rfl,by decide+kernel,by decide+kernel⟩
theorem oE:b7 ["_law_draw","_law_p_here","_law_stride","_law_patterns","_law_row","_law_one","_law_other","_law_by","_law_many","_law_way","_law_kept"] ["_law_draw","_law_p_here","_law_stride","_law_patterns"] (aQ lL):=⟨rfl,rfl,rfl,by decide+kernel,rfl,by decide+kernel,by decide+kernel⟩
theorem F6:b7 ["_law_script","_law_draw","_law_p_here","_law_stride","_law_patterns","_law_row","_law_k","_law_found","_law_other","_law_again","_law_told"] ["_law_script"] (aQ BB):=⟨rfl,rfl,rfl,by decide+kernel,rfl,by decide+kernel,by decide+kernel⟩
section
variable {P:Program}{w:World}{K:PySem.W.Frag}{mg:Str ->Option Value}{base:Heap}{A:C9}
theorem Dw (T:Txt K mg A):eh P w K mg base kJ 1 A.yS A.y8 ["place","stride"] (oz K XA):=by
 refine rb T.column.fn uI (by rintro vs M q ⟨x,s,rfl,_⟩;rfl) λeQ A' outer s H E hr=> ?_;have nd:=uI.nd;refine⟨_,(aI (fP (cH kn (pv 1) aK (dg _)) (aR (cQ (pv 0))) eU) (aR (cQ (bQ iQ (pv 0) (pv 1))))),?_⟩;try dsimp only[fT]
 refine⟨_,inferInstance,?_⟩;rintro vs M q ⟨x,s,rfl,s0,s1,k⟩;dsimp? [];refine d5 (λh=> ?_) λh=> ?_
 ·dsimp? [];rw[bM,ak h] at k;exact nj k
 ·have h0:0<s:=by omega
  dsimp? [h0];rw[bM,aj h] at k;exact nj k
theorem k8 (T:Txt K mg A):eh P w K mg base kJ 2 A.lT A.lV ["places","stride"] (oz K GV):=by
 have Jj:=Dw (P:=P) (w:=w) (base:=base) T;refine rb T.first_column.fn kZ (by rintro vs M q ⟨a,ns,s,rfl,_⟩;rfl) λeQ A' outer s H E hr=> ?_;have nd:=kZ.nd;refine⟨_,(aR (cQ (Ky (by rfl) T.Vl rfl (iC rfl (fq.of (sc:=aQ gM) (N:= ["places","stride"]) (own:= ["place"]) (fr:= [1]) (N':= ["place","stride"]) rfl rfl rfl (by decide+kernel) rfl (by decide+kernel) (by decide+kernel) (by decide+kernel) (by decide+kernel) (by decide+kernel)) (fI (pv 0)) (λ_ _ _ _=>(cj (i:=0) (by show(["place","stride"]:List Str).Nodup;decide+kernel) rfl (by first | exact Or.inl rfl | exact Or.inr rfl))) fX (λ_ _ _ _=>jO) (λ_ _ _ _=>(aY T.column Jj (hr.mono (by decide)) (by rfl) (ab (pv 0) (ab (pv 1) aC))))) GJ))),?_⟩;try dsimp only[fT]
 refine⟨_,inferInstance,?_⟩;rintro vs M q ⟨a,ns,s,rfl,ha,hl,s0,s1,k0,k1⟩;dsimp? [Fl,ha];refine ze (λx:Int=>wi (bM s x)) (big (by omega)) (λM6 s6=>s6 _ _ ha) ?_ λt ht=> ?_
 ·intro x hx M3 N s3 hN;dsimp? [];refine⟨x,s,rfl,s0,s1,?_⟩;dsimp? [];exact hN
 dsimp? [];refine⟨t,ns.map (bM s),rfl,by rw[um_same,aD];rfl,λe=> ?_,λm hm=> ?_⟩
 ·dsimp? [];exact⟨M,c4 ht,k0 (by simpa using e)⟩
 ·dsimp? [];have c9:ns≠ []:=by rintro rfl;exact absurd hm.1 (by simp)
  rw[jD.uniq hm (gm (by simpa using c9))];exact⟨M,c4 ht,k1 c9⟩
theorem sH (T:Txt K mg A):eh P w K mg base kJ 1 A.u9 A.vi ["places","stride","first"] (oz K Xy):=by
 refine rb T.heights.fn sy (by rintro vs M q ⟨a,ns,s,f,rfl,_⟩;rfl) λeQ A' outer s H E hr=> ?_;have nd:=sy.nd;refine⟨_,(aI (fP (cH kn (pv 1) aK (dg _)) (aR (cQ (iC rfl (fq.of (sc:=aQ kg) (N:= ["places","stride","first"]) (own:= ["place"]) (fr:= [2]) (N':= ["place","first"]) rfl rfl rfl (by decide+kernel) rfl (by decide+kernel) (by decide+kernel) (by decide+kernel) (by decide+kernel) (by decide+kernel)) (fI (pv 0)) (λ_ _ _ _=>(cj (i:=0) (by show(["place","first"]:List Str).Nodup;decide+kernel) rfl (by first | exact Or.inl rfl | exact Or.inr rfl))) fX (λ_ _ _ _=>(rL (cH kn (pv 0) (pv 1) (dg _)))) (λ_ _ _ _=>aK)))) eU) (aR (cQ (cA AY (by rfl) T.jz Boot.«sorted» (ab (iC rfl (fq.of (sc:=aQ kg) (N:= ["places","stride","first"]) (own:= ["place"]) (fr:= [1,2]) (N':= ["place","stride","first"]) rfl rfl rfl (by decide+kernel) rfl (by decide+kernel) (by decide+kernel) (by decide+kernel) (by decide+kernel) (by decide+kernel)) (fI (pv 0)) (λ_ _ _ _=>(cj (i:=0) (by show(["place","stride","first"]:List Str).Nodup;decide+kernel) rfl (by first | exact Or.inl rfl | exact Or.inr rfl))) fX (λ_ _ _ _=>(rL (cH kn (bQ iQ (pv 0) (pv 1)) (pv 2) (dg _)))) (λ_ _ _ _=>(bQ wG (pv 0) (pv 1)))) aC))))),?_⟩;try dsimp only[fT]
 refine⟨_,inferInstance,?_⟩;rintro vs M q ⟨a,ns,s,f,rfl,ha,hl,s0,s1,k⟩;dsimp? [];refine d5 (λh=> ?_) λh=> ?_
 ·subst h;dsimp? [ha];refine comp_map (λx:Int=>decide (x=f)) (λx:Int=>wi 0) (big (by omega)) (λM6 s6=>s6 _ _ ha) ?_ λt ht=> ?_
  ·intro x hx M3 N s3 hN;dsimp? [];refine d5 (λh=> ?_) λh=> ?_
   ·dsimp? [];simpa only[h,iJ,bN] using hN
   ·dsimp? [];simpa only[h,iV,ay,bf] using hN
  dsimp? [];have e:(ns.filter λx=>decide (x=f)).map (λ_=>wi 0)=(qE 0 f ns).map wi:=by unfold qE;rw[aD];rfl
  rw[e];refine nj (k t _ ht (List.Perm.refl _) ?_);unfold qE;rw[bY];exact List.pairwise_of_forall λ_ _=>aV _
 ·have h0:0<s:=by omega
  have cd: ∀x,A7 x s=True:=λx=>by simp[A7];omega
  dsimp? [ha,h0,cd];refine comp_map (λx:Int=>decide (x % s=f)) (λx:Int=>wi (x / s)) (big (by omega)) (λM6 s6=>s6 _ _ ha) ?_ λt ht=> ?_
  ·intro x hx M3 N s3 hN;dsimp? [h0];refine d5 (λh=> ?_) λh=> ?_
   ·dsimp? [h0,cd];simpa only[h,iJ,bN] using hN
   ·dsimp? [];simpa only[h,iV,ay,bf] using hN
  dsimp? [Fj];have e:(ns.filter λx=>decide (x % s=f)).map (λx=>wi (x / s))=(qE s f ns).map wi:=by unfold qE bM hI;rw[aD];simp only[h,bf];rfl
  refine⟨t,qE s f ns,rfl,by rw[um_same,e],λp ms hp h1 h2=> ?_⟩;dsimp? [];exact⟨_,OV ht hp,k p ms (by rw[aJ (λz=>by rw[z,um_same] at hp;cases hp)] at hp;exact hp) h1 h2⟩
theorem Al (T:Txt K mg A):eh P w K mg base kJ 1 A.NS A.NW ["self","lamps","parts"] (oz K (Pb A.fB)):=by
 have cl:=a7 T.Row.cl;have n1:=a7 T.eC;have n2:=a7 T.fg;refine rb T.Row.fn F9 (by rintro vs M q ⟨s,dx,l,r,rfl,_⟩;rfl) λeQ A' outer s H E hr=> ?_;have nd:=F9.nd;refine⟨_,(aI (nF (pv 0) (pv 1) rfl) (aR (nF (pv 0) (pv 2) rfl))),?_⟩;try dsimp only[fT]
 refine⟨_,inferInstance,?_⟩;rintro vs M q ⟨s,dx,l,r,rfl,hs,k⟩;have e1:k7 "lamps" l []= [(("lamps" :Str),l)]:=rfl;have e2:k7 "parts" r [(("lamps" :Str),l)]= [(("lamps" :Str),l),(("parts" :Str),r)]:=rfl;dsimp? [hs,cl,n1,n2,e1,e2,Nat.reduceLT];exact nj k
theorem G' (T:Txt K mg A):eh P w K mg base kJ 1 A.Cy A.CN ["self","row","first","length","foot"] (oz K (GS A.fB A.dq)):=by
 have cl:=a7 T.Row.cl;have cl2:=a7 T.Stair.cl;have n1:=a7 T.eC;have n2:=a7 T.fg;have m1:=a7 T.d3;have m2:=a7 T.dZ;have m3:=a7 T.iD;have m4:=a7 T.gO;have m5:=a7 T.ja;refine rb T.Stair.fn yb (by rintro vs M q ⟨s,dx,r,dr,l,u,f,g,e,rfl,_⟩;rfl) λeQ A' outer s H E hr=> ?_;have nd:=yb.nd;refine⟨_,(aI (nF (pv 0) (eg (pv 1) rfl) rfl) (aI (nF (pv 0) (eg (pv 1) rfl) rfl) (aI (nF (pv 0) (pv 2) rfl) (aI (nF (pv 0) (pv 3) rfl) (aR (nF (pv 0) (pv 4) rfl)))))),?_⟩;try dsimp only[fT]
 refine⟨_,inferInstance,?_⟩;rintro vs M q ⟨s,dx,r,dr,l,u,f,g,e,rfl,hsr,hs,hr,k⟩;have f1: [(("lamps" :Str),l),(("parts" :Str),u)].lookup ("lamps" :Str)=some l:=rfl;have f2: [(("lamps" :Str),l),(("parts" :Str),u)].lookup ("parts" :Str)=some u:=rfl;have e1:k7 "lamps" l []= [(("lamps" :Str),l)]:=rfl;have e2:k7 "parts" u [(("lamps" :Str),l)]= [(("lamps" :Str),l),(("parts" :Str),u)]:=rfl;have e3:k7 "first" f [(("lamps" :Str),l),(("parts" :Str),u)]= [(("lamps" :Str),l),(("parts" :Str),u),(("first" :Str),f)]:=rfl;have e4:k7 "length" g [(("lamps" :Str),l),(("parts" :Str),u),(("first" :Str),f)]= [(("lamps" :Str),l),(("parts" :Str),u),(("first" :Str),f),(("length" :Str),g)]:=rfl;have e5:k7 "foot" e [(("lamps" :Str),l),(("parts" :Str),u),(("first" :Str),f),(("length" :Str),g)]= [(("lamps" :Str),l),(("parts" :Str),u),(("first" :Str),f),(("length" :Str),g),(("foot" :Str),e)]:=rfl;dsimp? [hs,hr,cl,cl2,n1,n2,m1,m2,m3,m4,m5,f1,f2,e1,e2,e3,e4,e5,aJ (a5 hsr),Nat.reduceLT];exact nj k
theorem sI (T:Txt K mg A):eh P w K mg base kJ 1 A.ni A.nk ["p","held","others","by","n"] (oz K Tv):=by
 refine rb T.add_shifted.fn lJ (by rintro vs M q ⟨h,o,p,b,n,a,c,rfl,_⟩;rfl) λeQ A' outer s H E hr=> ?_;have nd:=lJ.nd;refine⟨_,(aR (BJ (ij cw rfl (yj rfl (pv 2)) (qg (n:=2) rfl (fA (cj (i:=5) nd rfl (by first | exact Or.inl rfl | exact Or.inr rfl)) (fA (cj (i:=6) nd rfl (by first | exact Or.inl rfl | exact Or.inr rfl)) me))) (aI (bX (i:=7) nd rfl (by first | exact Or.inl rfl | exact Or.inr rfl) (bQ iQ (bQ eX (oO (fK hr) (pv 1) (bQ eX (pv 5) (pv 3)) aK ⟨by rfl,by rfl,by rfl,by rfl⟩) (bQ ik (pv 6) (pv 4))) (pv 0))) (aR (fP (cH yq (pv 7) aK (dg _)) (aR (oK (fK hr) (pv 1) (bQ eX (pv 5) (pv 3)) (pv 7) rfl)) (aR (Kv (pv 1) (bQ eX (pv 5) (pv 3)))))))))),?_⟩;try dsimp only[fT]
 refine⟨_,inferInstance,?_⟩;rintro vs M q ⟨h,o,p,pH,n,a,b,rfl,Wo,hh,ho,p0,p1,ga,gb,nz,hl,k⟩;refine⟨o,_,ho,?_⟩;dsimp? [ho];intro ob ks;have DV:(f' b).map (λkv=>W.tup [gd kv.1,kv.2])=b.map dI:=by unfold f';rw[aD];rfl
 rw[DV];refine kr (λi ρ M'=> ∃ (o1 o2 o3:Option W) (c:Pt),ρ= [some (wi p),some (wr h),some (wr o),some (wi pH),some (wi n),o1,o2,o3] /\ M' h=some (.dK (f' c)) /\ M' o=some (.fz ob ks (f' b)) /\ (∀d,d≠h ->d≠o ->M' d=M d) /\ GD p c /\ c.length<=a.length+i /\ ∀x,look c x=(look a x+dP (MD pH (b.take i)) x*n) % p) ⟨none,none,none,a,rfl,by rw[aJ Wo];exact hh,um_same,λd _ h2=>aJ h2,ga,aq _,λx=>by have:=ga.range p0 x;simp[MD,dP];exact(cW this.1 this.2).symm⟩ ?_ ?_ ?_
 ·rintro i ρ M' _ ⟨o1,o2,o3,c,rfl,_,h2,_⟩;exact h2
 ·rintro i x ρ M' hx ⟨o1,o2,o3,c,rfl,h1,h2,h3,gc,rB,Lq⟩ N hN;obtain⟨z,hz,rfl⟩:=pairs_at hx;have JA:=(ag.mp hz).1;have hzr:=gb.2 z (ai hz);have cm:kK z.2 n=True:=a7 (.inl ⟨by lia,by lia⟩);have hs:((f' c).length<sizeLine)=True:=by rw[f',aa];exact a7 (uk (by lia))
  have Mz: ∀x,(look a x+dP (MD pH (b.take (i+1))) x*n) % p=if x=z.1+pH then(look c (z.1+pH)+z.2*n) % p else look c x:=λx=>by
   have e:MD pH (b.take (i+1))=MD pH (b.take i)++ [(z.1+pH,z.2)]:=by rw[bD,hz];unfold MD;rw[aN];rfl
   rw[e,oo];by_cases ex:x=z.1+pH
   ·subst ex;rw[ak rfl,ak rfl,Lq,fh,fi,gg]
   ·rw[aj ex,aj (λq=>ex q.symm),Lq,bu]
  dsimp? [dI,h1,rP,cm,p0];refine wO (λc9=> ?_) λhe=> ?_
  ·have h0:=cN (look c (z.1+pH)+z.2*n) (show p≠0 by lia);have hp:=cz (look c (z.1+pH)+z.2*n) p0;dsimp? [h1,hs,rK];refine hN _ _ ⟨_,_,_,mT c (z.1+pH) ((look c (z.1+pH)+z.2*n) % p),rfl,um_same,by rw[aJ (a5 Wo)];exact h2,λd d1 d2=>by rw[aJ d1];exact h3 d d1 d2,gc.put (by lia) hp,a4 sR (by lia),λx=> ?_⟩;rw[Mz,qj]
  ·have YV:((fu (f' c) (Sum.inl (z.1+pH))).isSome=true)=True:=a7 (Lv λe0=>by rw[e0,bP] at he;exact nz z.2 hzr.1 hzr.2 he);dsimp? [h1,YV,Ip];refine hN _ _ ⟨_,_,_,gR c (z.1+pH),rfl,um_same,by rw[aJ (a5 Wo)];exact h2,λd d1 d2=>by rw[aJ d1];exact h3 d d1 d2,gc.drop _,a4 (DG _ _) (by lia),λx=> ?_⟩;rw[Mz,As,he]
 ·rintro ρ M' ⟨o1,o2,o3,c,rfl,h1,h2,h3,gc,rB,Lq⟩;rw[aa] at rB Lq;rw[cn] at Lq;refine⟨ob,ks,f' b,h2,um M h (.dK (f' c)),λd u e=> ?_,k c gc rB λx=> ?_⟩
  ·by_cases d1:d=h
   ·subst d1;rw[um_same] at e;rw[aJ Wo,h1];exact e
   ·rw[aJ d1] at e;by_cases d2:d=o
    ·subst d2;rw[um_same, <- ho];exact e
    ·rw[aJ d2,h3 d d1 d2];exact e
  ·rw[Lq,Bg,gz gb.1]
end
end iA
open PySem L2 WL WP WQ EN PyProof.Rows
namespace iA
open PySem L2 WL WP WQ EN PyProof.Rows
section
variable {P:Program}{w:World}{K:PySem.W.Frag}{mg:Str ->Option Value}{base:Heap}{A:C9}
theorem oQ (T:Txt K mg A):eh P w K mg base kJ 2 A.qI A.qO ["p","stride","row","other","shift","n"] (oz K (MW A.fB A.dq)):=by
 have ny:=sI (P:=P) (w:=w) (base:=base) T;refine rb T.add_moved.fn oF (by rintro vs M q ⟨r,rl,rp,o,ol,op,p,s,sh,n,a,b,P,Q,B,C,rfl,_⟩;rfl) λeQ A' outer s H E hr=> ?_;have nd:=oF.nd;refine⟨_,(aI (gu (aY T.add_shifted ny (hr.mono (by decide)) (by rfl) (ab (pv 0) (ab (eg (pv 2) rfl) (ab (eg (pv 3) rfl) (ab (bQ ik (pv 1) (pv 4)) (ab (pv 5) aC))))))) (aR (BJ (ij cw rfl (yj rfl (eg (pv 3) rfl)) (qg (n:=2) rfl (fA (cj (i:=6) nd rfl (by first | exact Or.inl rfl | exact Or.inr rfl)) (fA (cj (i:=7) nd rfl (by first | exact Or.inl rfl | exact Or.inr rfl)) me))) (aR (gu (aY T.add_shifted ny (hr.mono (by decide)) (by rfl) (ab (pv 0) (ab (GK (eg (pv 2) rfl) (pv 6) km ⟨by rfl,by rfl,by rfl,by rfl⟩) (ab (pv 7) (ab (pv 4) (ab (pv 5) aC)))))))))))),?_⟩;try dsimp only[fT]
 refine⟨_,inferInstance,?_⟩;rintro vs M q ⟨r,rl,rp,o,ol,op,p,s,sh,n,a,b,P,Q,B,C,rfl,Lf,Nv,p0,p1,s0,s1,nz,jo,jG,qK,Ia,hPQ,hB,hC,hBC,k⟩;obtain⟨Cr,dr,AN,zz,En,ES,V1,Ik,Z2⟩: ∃Cr dr AN,M r=some (.ins Cr dr AN) /\ (A6 K Cr=True) /\ (dY K Cr "lamps" =True) /\ (dY K Cr "parts" =True) /\ AN.lookup ("lamps" :Str)=some (wr rl) /\ AN.lookup ("parts" :Str)=some (wr rp):=by
  rcases Lf with⟨d,e⟩ | ⟨d,f,g,e',e⟩
  ·exact⟨_,_,_,e,a7 T.Row.cl,a7 T.eC,a7 T.fg,rfl,rfl⟩
  ·exact⟨_,_,_,e,a7 T.Stair.cl,a7 T.d3,a7 T.dZ,rfl,rfl⟩
 obtain⟨Co,dO,fs,ho,clO,nO1,nO2,fO1,fO2⟩: ∃Co dO fs,M o=some (.ins Co dO fs) /\ (A6 K Co=True) /\ (dY K Co "lamps" =True) /\ (dY K Co "parts" =True) /\ fs.lookup ("lamps" :Str)=some (wr ol) /\ fs.lookup ("parts" :Str)=some (wr op):=by
  rcases Nv with⟨d,e⟩ | ⟨d,f,g,e',e⟩
  ·exact⟨_,_,_,e,a7 T.Row.cl,a7 T.eC,a7 T.fg,rfl,rfl⟩
  ·exact⟨_,_,_,e,a7 T.Stair.cl,a7 T.d3,a7 T.dZ,rfl,rfl⟩
 have cm:kK s sh=True:=a7 (.inl ⟨by lia,by lia⟩);have Am: ∀ {x C' d' D9},M x=some (.ins C' d' D9) ->x∉bL rl rp P:=λ{x C' d' D9} e hx=>by obtain⟨kvs,e2⟩:=jo.mem hx;rw[e] at e2;cases e2
 have aaA: ∀ {x C' d' D9},M x=some (.ins C' d' D9) ->x∉bL ol op Q:=λ{x C' d' D9} e hx=>by obtain⟨kvs,e2⟩:=jG.mem hx;rw[e] at e2;cases e2
 have Rh:rl∈bL rl rp P:=by simp[bL]
 have mrp:rp∈bL rl rp P:=by simp[bL]
 have mol:ol∈bL ol op Q:=by simp[bL]
 have V5:op∈bL ol op Q:=by simp[bL]
 have min: ∀t∈Q,t.2.1∈bL ol op Q:=λt ht=>by simp only[bL,av,af];exact .inr (.inr ⟨t,ht,rfl⟩)
 have ndQ:=bw.mp (bw.mp jG.MY).2;dsimp? [zz,ho,En,ES,V1,clO,nO1,nO2,Ik,Z2,fO1,fO2,cm];refine⟨rl,ol,p,s*sh,n,a,b,rfl,λe=>qK rl Rh (by rw[e];exact mol),jo.lam,jG.lam,p0,p1,jo.ga,jG.ga,nz,Ia,λc gc rB Lq=> ?_⟩;simp? [↓eV];refine lP ?_;have O0:=jo.X4 gc;have ho1:um M rl (.dK (f' c)) o=some (.ins Co dO fs):=by rw[aJ (λe=>Am ho (by rw[e];exact Rh))];exact ho
 have P4:um M rl (.dK (f' c)) r=some (.ins Cr dr AN):=by rw[aJ (λe=>Am zz (by rw[e];exact Rh))];exact zz
 have DQ:um M rl (.dK (f' c)) op=some (.dK (nZ Q)):=by rw[aJ (λe=>qK rl Rh (by rw[<- e];exact V5))];exact jG.par
 refine⟨op,nZ Q,DQ,?_⟩;dsimp? [ho1,clO,nO2,fO2,DQ];intro ob ks;have DV:(nZ Q).map (λkv=>W.tup [gd kv.1,kv.2])=Q.map λt=>W.tup [wi t.1,wr t.2.1]:=by unfold nZ;rw[aD];rfl
 rw[DV];generalize Qu:um M rl (.dK (f' c))=M1 at O0 ho1 P4 DQ;have X6:fC M M1 (bL rl rp P):=λd u e nd=>by rw[<- Qu,aJ (λz=>nd (by rw[z];exact Rh))];exact e
 have WH: ∀x,M1 x=none ->M x=none:=λx e=>by
  cases e2:M x with
  | none=>rfl
  | some u=>by_cases hx:x=rl;(· subst hx;rw[O0.lam] at e;cases e);(· rw[<- Qu,aJ hx,e2] at e;cases e)
 refine kr (λi ρ M'=> ∃ (o1 o2:Option W) (P':Pq),ρ= [some (wi p),some (wi s),some (wr r),some (wr o),some (wi sh),some (wi n),o1,o2] /\ M' op=some (.fz ob ks (nZ Q)) /\ cL p M' rl rp c P' /\ fC M1 M' (op::bL rl rp P) /\ (∀x∈bL rl rp P',x∈bL rl rp P \/ M1 x=none) /\ (∀x∈bL rl rp P,x∈bL rl rp P') /\ (∀w x,look (pf P' w) x=(look (pf P w) x+look (pf (Q.take i) w) (x - sh)*n) % p) /\ (∀w,w∉(Q.take i).map (·.1) ->pf P' w=pf P w) /\ P'.length<=P.length+i /\ (∀t∈P',t.2.2.length<=B+C) /\ (∀w∈P'.map (·.1),w∈P.map (·.1) \/ w∈Q.map (·.1))) ⟨none,none,P,rfl,um_same,O0.same λd hd=>aJ (λz=>qK d hd (by rw[z];exact V5)),λd u e nd=>by rw[aJ (λz=>nd (by rw[z];exact aE))];exact e,λx hx=> .inl hx,λx hx=>hx,λw x=>by show _=(look (pf P w) x+0*n) % p;rw[bG,bu,fS p0 (jo.GH w)],λw _=>rfl,aq _,λt ht=>a4 (hB t ht) (Nat.le_add_right _ _),λw hw=> .inl hw⟩ ?_ ?_ ?_
 ·rintro i ρ M' _ ⟨o1,o2,P',rfl,h2,_⟩;exact h2
 ·rintro i x ρ M' hx ⟨o1,o2,P',rfl,h2,row,kp,fr,qp,Ck,Rq,YH,jE,Jx⟩ N hN;obtain⟨t,hz,rfl⟩: ∃t,Q[i]? =some t /\ x=W.tup [wi t.1,wr t.2.1]:=by
   rw[aA] at hx;cases e:Q[i]? with
   | none=>rw[e] at hx;cases hx
   | some q=>rw[e] at hx;cases hx;exact⟨q,rfl,rfl⟩
  have JA:=(ag.mp hz).1;have Np:=ai hz;have hwi:=Rq t.1 (FD jG.pU hz);have Le:M' r=some (.ins Cr dr AN):=kp r _ P4 (λhm=>by
   rcases av.mp hm with z | z
   ·rw[z,DQ] at P4;cases P4
   ·exact Am zz z)
  have lD:t.2.1∉bL rl rp P:=λz=>qK _ z (min t Np);have Yp:M' t.2.1=some (.dK (f' t.2.2)):=kp _ _ (by rw[<- Qu,aJ (λz=>lD (by rw[z];exact Rh))];exact jG.Ci t Np) (λhm=>by
   rcases av.mp hm with z | z
   ·exact ndQ.1 (by rw[<- z];exact af.mpr ⟨t,Np,rfl⟩)
   ·exact lD z)
  have SE:t.2.1∉bL rl rp P':=λz=>by
   rcases fr _ z with z | z
   ·exact lD z
   ·have:=jG.Ci t Np;rw[WH _ z] at this;cases this
  have hs:((nZ P').length<sizeLine)=True:=by rw[nZ,aa];exact a7 (uk (by lia))
  have hrp:=row.par;dsimp? [Le,En,V1,Z2,hrp];intro e he;have XJ:rp≠e:=dG row.par he;have XM:t.2.1≠e:=dG Yp he;dsimp? [aJ XJ,hrp,hs,vS];have XO:op∉bL rl rp P:=λz=>qK _ z V5;have K0:op∉bL rl rp P':=λz=>by
   rcases fr _ z with z | z
   ·exact XO z
   ·rw[DQ] at z;cases z
  have KZ:op≠e:=dG h2 he;have hBw:(pf P t.1).length<=B:=by
   unfold pf;cases e2:P.find? (λu=>decide (u.1=t.1)) with
   | none=>exact cU _
   | some u=>exact hB u (find_some e2).1
  have htC:=hC t Np;have VL: ∀w,w∉(Q.take (i+1)).map (·.1) ->w≠t.1 /\ w∉(Q.take i).map (·.1):=λw hw=>by rw[bD,hz,aN] at hw;exact⟨λz=>hw (ax.mpr (.inr (by rw[z];exact ah.mpr rfl))),λz=>hw (ax.mpr (.inl z))⟩
  have dne: ∀ {d u},M1 d=some u ->d≠e ->d∉op::bL rl rp P ->M' d=some u:=λh1 _ h3=>kp _ _ h1 h3;have M1e:M1 e=none:=by
   cases e2:M1 e with
   | none=>rfl
   | some u=>
    exfalso;by_cases hm:e∈op::bL rl rp P
    ·rcases av.mp hm with z | z
     ·exact KZ z.symm
     ·obtain⟨kvs,q2⟩:=row.mem (qp e z);rw[he] at q2;cases q2
    ·rw[kp e u e2 hm] at he;cases he
  cases hf:P'.find? (λu=>decide (u.1=t.1)) with
  | some u=>
   obtain⟨hu,hw⟩:=find_some hf;have eu:u.2.2=pf P t.1:=by rw[<- hwi, <- hw];exact(sE row.pU hu).symm
   have une:u.2.1≠e:=dG (row.Ci u hu) he;have Oy:u.2.1∈bL rl rp P':=by simp only[bL,av,af];exact .inr (.inr ⟨u,hu,rfl⟩)
   rw[pK,setdK_s];refine⟨u.2.1,t.2.1,p,sh,n,u.2.2,t.2.2,rfl,λz=>SE (by rw[<- z];exact Oy),by rw[aJ une];exact row.Ci u hu,by rw[aJ XM];exact Yp,p0,p1,row.gp u hu,jG.gp t Np,nz,by rw[eu];lia,λc' WB sX Qd=> ?_⟩;have Ed:bL rl rp (nD P' u.1 c')=bL rl rp P':=by unfold bL;rw[zk]
   have Sw:u.1∈P'.map (·.1):=af.mpr ⟨u,hu,rfl⟩;refine hN _ _ ⟨_,_,nD P' u.1 c',rfl,by rw[aJ (λz=>K0 (by rw[z];exact Oy)),aJ KZ];exact h2,(row.set hu WB).same λd hd=> ?_,λd o' e1 nd=> ?_,by rw[Ed];exact fr,by rw[Ed];exact qp,λw' x=> ?_,λw' Ju=> ?_,by unfold nD;rw[aa];lia,λv hv=> ?_,by rw[yF];exact Jx⟩
   ·rw[Ed] at hd;by_cases z:d=u.2.1
    ·rw[z,um_same,um_same]
    ·obtain⟨kvs,q2⟩:=row.mem hd;rw[aJ z,aJ z,aJ (dG q2 he)]
   ·have n1:d≠e:=λz=>by rw[z,M1e] at e1;cases e1
    have n2:d≠u.2.1:=λz=>by
     rcases fr _ Oy with q2 | q2
     ·exact nd (aw _ (by rw[z];exact q2))
     ·rw[z,q2] at e1;cases e1
    rw[aJ n2,aJ n1];exact kp d o' e1 nd
   ·rw[BP w' Sw,BO jG.pU hz,hw];by_cases z:w'=t.1
    ·rw[ak z,ak z,Qd,eu,z]
    ·rw[aj z,aj z];exact Ck w' x
   ·obtain⟨z1,z2⟩:=VL w' Ju;rw[BP w' Sw,hw,aj z1];exact Rq w' z2
   ·obtain⟨v',wX,rfl⟩:=af.mp hv;split
    ·show c'.length<=B+C;rw[eu] at sX;lia
    ·exact jE v' wX
  | none=>
   have Lk:=find_none hf;have Xt:pf P t.1= []:=by rw[<- hwi];exact rM Lk
   rw[Option.map_none,setdK_n,Gr (c:= []) Lk];refine⟨e,t.2.1,p,sh,n,[],t.2.2,rfl,a5 XM,by rw[aJ (a5 XJ),um_same];rfl,by rw[aJ (λz=>SE (by rw[z];simp[bL])),aJ XM];exact Yp,p0,p1,GD.nil,jG.gp t Np,nz,by simp only[pM];lia,λc' WB sX Qd=> ?_⟩;have epd:nZ (P'++ [(t.1,e,[])])=nZ (P'++ [(t.1,e,c')]):=by unfold nZ;rw[aN,aN];rfl
   have Ed:bL rl rp (P'++ [(t.1,e,c')])=bL rl rp P'++ [e]:=by unfold bL;rw[aN];rfl
   refine hN _ _ ⟨_,_,P'++ [(t.1,e,c')],rfl,by rw[aJ KZ,aJ (λz=>K0 (by rw[z];simp[bL])),aJ KZ];exact h2,(row.new he Lk WB).same λd hd=> ?_,λd o' e1 nd=> ?_,λx hx=> ?_,λx hx=>by rw[Ed];exact ax.mpr (.inl (qp x hx)),λw' x=> ?_,λw' Ju=> ?_,by rw[aL,cY];lia,λv hv=> ?_,λw' Ju=> ?_⟩
   ·by_cases z:d=e
    ·rw[z,um_same,aJ (a5 XJ),um_same]
    ·rw[aJ z];by_cases z2:d=rp
     ·rw[z2,um_same,um_same,epd]
     ·rw[aJ z2,aJ z2,aJ z,aJ z]
   ·have n1:d≠e:=λz=>by rw[z,M1e] at e1;cases e1
    have n2:d≠rp:=λz=>nd (aw _ (by rw[z];exact mrp));rw[aJ n1,aJ n2,aJ n1];exact kp d o' e1 nd
   ·rw[Ed] at hx;rcases ax.mp hx with hx | hx
    ·exact fr x hx
    ·rw[ah.mp hx];exact .inr M1e
   ·rw[Ae w' Lk,BO jG.pU hz];by_cases z:w'=t.1
    ·rw[ak z,ak z,Qd,z,Xt]
    ·rw[aj z,aj z];exact Ck w' x
   ·obtain⟨z1,z2⟩:=VL w' Ju;rw[Ae w' Lk,aj z1];exact Rq w' z2
   ·rcases ax.mp hv with hv | hv
    ·exact jE v hv
    ·rw[ah.mp hv];show c'.length<=B+C;simp only[pM] at sX;lia
   ·rw[aN] at Ju;rcases ax.mp Ju with Ju | Ju
    ·exact Jx w' Ju
    ·rw[ah.mp Ju];exact .inr (af.mpr ⟨t,Np,rfl⟩)
 ·rintro ρ M' ⟨o1,o2,P',rfl,h2,row,kp,fr,qp,Ck,Rq,YH,jE,Jx⟩;rw[aa] at YH Ck Rq;rw[cn] at Ck Rq;have XO:op∉bL rl rp P:=λz=>qK _ z V5;have K0:op∉bL rl rp P':=λz=>by
   rcases fr _ z with z | z
   ·exact XO z
   ·rw[DQ] at z;cases z
  refine⟨ob,ks,nZ Q,h2,nj (k _ c P' (row.same λd hd=>aJ (λz=>K0 (by rw[<- z];exact hd))) Lq Ck (λd u e nd=> ?_) (λx hx=>(fr x hx).imp id (WH x)) qp rB YH jE Jx)⟩;by_cases hd:d=op
  ·subst hd;rw[um_same, <- jG.par];exact e
  ·rw[aJ hd];exact kp d u (X6 d u e nd) λhm=>(av.mp hm).elim hd nd
end
end iA
open PySem L2 WL WP WQ EN PyProof.Rows
namespace iA
open PySem L2 WL WP WQ EN PyProof.Rows
section
variable {P:Program}{w:World}{K:PySem.W.Frag}{mg:Str ->Option Value}{base:Heap}{A:C9}
theorem nH (T:Txt K mg A):eh P w K mg base kJ 1 A.jR A.jU ["found","length"] (oz K Xv):=by
 refine rb T.too_high_or_low.fn jj (by rintro vs M q ⟨f,ns,len,rfl,_⟩;rfl) λeQ A' outer s H E hr=> ?_;have nd:=jj.nd;refine⟨_,(aI (fP (uJ (cH kn (pv 1) aK (dg _)) (wu (kO (Dm (pv 0))))).pt (aR (cQ (pv 0))) eU) (aR (cQ (bQ G2 (Af (by rfl) T.gT (by rfl) T.jW rfl (ab (c5 cK (pv 0) (oM kM aK) (λ_ _=>rfl)) (ab (bQ ka (pv 1) aK) (ab (oM kM aK) aC)))) (Ag (by rfl) T.gT (by rfl) T.jW rfl (ab (c5 cK (pv 0) aK (λ_ _=>rfl)) (ab aK aC))))))),?_⟩;try dsimp only[fT]
 refine⟨_,inferInstance,?_⟩;rintro vs M q ⟨f,ns,len,rfl,hf,l0,l1,hn,hb,k⟩;by_cases hl:len=0
 ·have e:t7 ns len=ns:=ak (.inl hl);rw[e] at k;dsimp? [hl,iJ];exact nj (k f M (Sm.refl M) hf)
 ·have sX:decide (len=0)=false:=dc hl;have htr: ∀ {k:Bool ->Prop},OI M (.v (.ref f)) k=k (!(ns.map wi).isEmpty):=Fx hf;by_cases c9:ns= []
  ·have e:t7 ns len=ns:=ak (.inr c9);rw[e] at k;subst c9;dsimp? [sX,htr,eB,List.isEmpty_nil,gh,ly];exact nj (k f M (Sm.refl M) hf)
  ·have hie:(ns.map wi).isEmpty=false:=by cases ns with | nil=>exact absurd rfl c9 | cons a r=>rfl
   have h1:mX (ns.map wi) (-1)=some (wi (ns.getLastD 0)):=vz c9;have h0:mX (ns.map wi) 0=some (wi (ns.headD 0)):=by
    cases ns with
    | nil=>exact absurd rfl c9
    | cons a r=>exact atI_0
   have H0: -4000000<ns.getLastD 0 /\ ns.getLastD 0<4000000:=hb _ (mw c9);have hbh: -4000000<ns.headD 0 /\ ns.headD 0<4000000:=by
    refine hb _ ?_;cases ns with
    | nil=>exact absurd rfl c9
    | cons a r=>exact aE
   dsimp? [sX,htr,hie,ly,hf,h1,h0,Fm];refine⟨ns.getLastD 0,len - 1,rfl,⟨by decide,by decide,by lia,by lia⟩,by lia,λu hu=> ?_⟩;have nu:f≠u:=dG hf hu;dsimp? [aJ nu,hf,h0,Fo];refine⟨ns.headD 0,0,rfl,⟨by lia,by lia,by lia,by lia⟩,by lia,λv hv=> ?_⟩;have XF:u≠v:=dG um_same hv;dsimp? [aJ XF];have e:t7 ns len=pB (ns.getLastD 0) (ns.getLastD 0 - (len - 1)).toNat++zO (ns.headD 0) (0 - ns.headD 0).toNat:=aj (by rintro(z | z);(· exact hl z);(· exact c9 z));refine⟨big (by unfold CC gN;rw[aa,aa,cV,cV];lia),λp hp=>nj (k p _ (((c4 hu).trans (c4 hv)).trans (c4 hp)) ?_)⟩;rw[um_same,e,aN];unfold CC gN pB zO;rw[aD,aD];rfl
end
end iA
open PySem L2 WL WP WQ EN PyProof.Rows
namespace iA
open PySem L2 WL WP WQ EN PyProof.Rows
section
variable {P:Program}{w:World}{K:PySem.W.Frag}{mg:Str ->Option Value}{base:Heap}{A:C9}
theorem G8 (T:Txt K mg A):eh P w K mg base kJ 3 A.NR A.NV ["p","stride","row","stair"] (oz K (Xz A.fB A.dq)):=by
 have j5:=oQ (P:=P) (w:=w) (base:=base) T;have pN:=nH (P:=P) (w:=w) (base:=base) T;have qx:=sH (P:=P) (w:=w) (base:=base) T;have JF:=a7 T.Stair.cl;have nS3:=a7 T.iD;have XT:=a7 T.gO;have nS5:=a7 T.ja;refine rb T.cut.fn F8 (by rintro vs M q ⟨r,rl,rp,o,ds,ol,op,p,s,f,len,foot,a,b,P,Q,B,C,Z,D,rfl,_⟩;rfl) λeQ A' outer s H E hr=> ?_;have nd:=F8.nd;refine⟨_,(aI (bX (i:=4) nd rfl (by first | exact Or.inl rfl | exact Or.inr rfl) (aY T.heights qx (hr.mono (by decide)) (by rfl) (ab (dv (jy rfl) (by rfl) T.gT Boot.«list» (ab (eg (pv 2) rfl) aC)) (ab (pv 1) (ab (eg (pv 3) rfl) aC))))) (aR (ij cw rfl (fI (aY T.too_high_or_low pN (hr.mono (by decide)) (by rfl) (ab (pv 4) (ab (eg (pv 3) rfl) aC)))) (cj (i:=5) nd rfl (by first | exact Or.inl rfl | exact Or.inr rfl)) (aI (bX (i:=6) nd rfl (by first | exact Or.inl rfl | exact Or.inr rfl) (oO (fK hr) (eg (pv 2) rfl) (bQ eX (eg (pv 3) rfl) (bQ ik (pv 5) (pv 1))) aK ⟨by rfl,by rfl,by rfl,by rfl⟩)) (aI (fP (cH kn (pv 6) aK (dg _)) (aR yh) eU) (aR (fP (cH yr (pv 5) aK (dg _)) (aR (gu (aY T.add_moved j5 (hr.mono (by decide)) (by rfl) (ab (pv 0) (ab (pv 1) (ab (pv 2) (ab (pv 3) (ab (pv 5) (ab (bQ ik (oM kM (pv 6)) (eg (pv 3) rfl)) aC))))))))) (aR (gu (aY T.add_moved j5 (hr.mono (by decide)) (by rfl) (ab (pv 0) (ab (pv 1) (ab (pv 2) (ab (pv 3) (ab (bQ ka (pv 5) (eg (pv 3) rfl)) (ab (oM kM (pv 6)) aC)))))))))))))))),?_⟩;try dsimp only[fT]
 refine⟨_,inferInstance,?_⟩;rintro vs M q ⟨r,rl,rp,o,ds,ol,op,p,s,f,len,foot,a,b,P,Q,B,C,Z,D,rfl,Lf,Nv,hp,s0,s8,K8,F,jo,jG,qK,wa,VH,z0,z1,d0,d1,hB,hC,b0,b1,c0,c1,hPQ,k⟩;obtain⟨Cr,dr,AN,zz,En,ES,V1,Ik,Z2⟩: ∃Cr dr AN,M r=some (.ins Cr dr AN) /\ (A6 K Cr=True) /\ (dY K Cr "lamps" =True) /\ (dY K Cr "parts" =True) /\ AN.lookup ("lamps" :Str)=some (wr rl) /\ AN.lookup ("parts" :Str)=some (wr rp):=by
  rcases Lf with⟨d,e⟩ | ⟨d,f,g,e',e⟩
  ·exact⟨_,_,_,e,a7 T.Row.cl,a7 T.eC,a7 T.fg,rfl,rfl⟩
  ·exact⟨_,_,_,e,a7 T.Stair.cl,a7 T.d3,a7 T.dZ,rfl,rfl⟩
 have p0:0<p:=by lia
 have fS3: [(("lamps" :Str),wr ol),(("parts" :Str),wr op),(("first" :Str),wi f),(("length" :Str),wi len),(("foot" :Str),wi foot)].lookup ("first" :Str)=some (wi f):=rfl;have ZZ: [(("lamps" :Str),wr ol),(("parts" :Str),wr op),(("first" :Str),wi f),(("length" :Str),wi len),(("foot" :Str),wi foot)].lookup ("length" :Str)=some (wi len):=rfl;have fS5: [(("lamps" :Str),wr ol),(("parts" :Str),wr op),(("first" :Str),wi f),(("length" :Str),wi len),(("foot" :Str),wi foot)].lookup ("foot" :Str)=some (wi foot):=rfl;have Rw:=wa.len jo.ga z0;have uW:(eG a).length<=16000000:=by unfold eG;rw[aa];lia
 have yL:=jo.lam;dsimp? [zz,En,ES,Ik];refine⟨rl,f' a,rfl,yL,λu hu=> ?_⟩;rw[oV];have XN:o≠u:=dG Nv hu;dsimp? [aJ XN,Nv,JF,nS3,fS3];refine⟨u,eG a,s,f,rfl,um_same,uW,s0,by lia,λv ms hv c6 iU=> ?_⟩;have nov:o≠v:=dG (by rw[aJ XN];exact Nv) hv;dsimp? [aJ XN,aJ nov,Nv,JF,XT,ZZ];have hpa: ∀x∈eG a, -Z<=x /\ x<=Z:=λx hx=>by obtain⟨z,hz,rfl⟩:=af.mp hx;exact wa z.1 (by rw[ju jo.ga.1 hz];have:=jo.ga.2 z hz;lia)
 have pV: ∀m∈ms, ∃x, -Z<=x /\ x<=Z /\ m=hI s x:=λm hm=>by obtain⟨x,hx,e⟩:=af.mp (c6.mem_iff.mp hm);have:=hpa x (aP.mp hx).1;exact⟨x,this.1,this.2,e.symm⟩
 have Rv: ∀m∈ms, -Z - 1<=m /\ m<=Z:=λm hm=>by obtain⟨x,h1,h2,rfl⟩:=pV m hm;exact U5 (f:=f) s0 s8 ⟨h1,h2⟩ z0
 have Qa:ms.length<=(2*Z+1).toNat:=by rw[c6.length_eq];refine a4 ?_ (a4 (iZ (aa (as:=a) (λz=>z.1))) Rw);unfold qE;rw[aa];exact eR _ _
 refine⟨v,ms,len,rfl,um_same,F.l0,by lia,by lia,λx hx=>by have:=Rv x hx;lia,λt M1 sm Qu=> ?_⟩;obtain⟨HS,UX⟩:=FA F.l0 iU (c6.nodup_iff.mpr (mD jo.ga.1 s0));have hlen:(t7 ms len).length<=(2*Z+2).toNat:=a4 (Ke F.l0 z0 Rv Qa) (by lia);have Qo:=λh (hh:h∈t7 ms len)=>FC F.l0 hh;have AG:s=0 -> ∀h∈t7 ms len,h=0:=λe h hh=>by have l0:=F.s0 e;have e2:t7 ms len=ms:=ak (.inl l0);rw[e2] at hh;obtain⟨x,_,_,rfl⟩:=pV h hh;unfold hI;rw[ak e]
 obtain⟨hs,Z6⟩: ∃hs,hs=t7 ms len:=⟨_,rfl⟩
 rw[<- Z6] at Qu HS UX hlen Qo AG;dsimp? [Qu];have sm0:Sm M M1:=((c4 hu).trans (c4 hv)).trans sm;refine kr (λi ρ M'=> ∃ (o5 o6:Option W) (c:Pt) (P':Pq) (js:List (Int×Int)),ρ= [some (wi p),some (wi s),some (wr r),some (wr o),some (wr v),o5,o6] /\ M' t=some (.lst (hs.map wi)) /\ cL p M' rl rp c P' /\ pS s p f len b a hs i c js /\(∀w x,look (pf P' w) x=(look (pf P w) x+dF (λsh=>look (pf Q w) (x - sh)) js) % p) /\ (s=0 -> ∀j∈js,j.1=0) /\ Wt (Z+D+s) c /\ fC M M' (bL rl rp P) /\ (∀x∈bL rl rp P',x∈bL rl rp P \/ M x=none) /\ (∀x∈bL rl rp P,x∈bL rl rp P') /\(∀t∈P',Wt (max B (C+Z+1)) t.2.2) /\ (∀w∈P'.map (·.1),w∈P.map (·.1) \/ w∈Q.map (·.1)) /\ look c=IB s p f len foot b (hs.take i) (look a) /\ (∀j∈js, -Z - 1<=j.1 /\ j.1<=Z) /\ (∀j∈js, ∃h∈hs,j.1=kb len h)) ⟨none,none,a,P,[],rfl,Qu,jo.keep (fC.sm sm0 []) (λd _ h=>by cases h),⟨λx=> ?i1,λj g hj _=>absurd hj (pL j),λx hx c9=> ?i2,λx _=>rfl⟩,λw x=> ?i3,(λ_ j hj=>by cases hj),λx hx=> ?i4,fC.sm sm0 _,λx hx=> .inl hx,λx hx=>hx,λt ht=>(hB t ht).up (by lia),λw hw=> .inl hw,rfl,(λj h=>by cases h),(λj h=>by cases h)⟩ ?_ ?_ ?_;case i1=>show _=(look a x+0) % p;rw[bu,fS p0 jo.ga]
 case i2=>
  refine UX _ (c6.mem_iff.mpr (af.mpr ⟨x,aP.mpr ⟨?_,by simpa using hx⟩,rfl⟩))
  exact cJ c9
 case i3=>show _=(look (pf P w) x+0) % p;rw[bu,fS p0 (jo.GH w)]
 case i4=>have:=wa x hx;lia
 ·rintro i ρ M' _ ⟨o5,o6,c,P',js,rfl,h2,_⟩;exact h2
 ·rintro i x ρ M' hx ⟨o5,o6,c,P',js,rfl,h2,row,cst,Ck,Jz,wc,kp,fr,qp,jE,Jx,EV,Rx,Wn⟩ N hN;obtain⟨h,hz,rfl⟩: ∃h,hs[i]? =some h /\ x=wi h:=by
   rw[aA] at hx;cases e:hs[i]? with
   | none=>rw[e] at hx;cases hx
   | some q=>rw[e] at hx;cases hx;exact⟨q,rfl,rfl⟩
  have hm:=ai hz;have JA:=(ag.mp hz).1;have Am: ∀ {x C' d' D9},M x=some (.ins C' d' D9) ->x∉bL rl rp P:=λ{x C' d' D9} e hx=>by obtain⟨kvs,e2⟩:=jo.mem hx;rw[e] at e2;cases e2
  have Le:=kp r _ zz (Am zz);have Wi:=kp o _ Nv (Am Nv);have hlm:=row.lam;have hh1: -4000000<h /\ h<4000000:=by
   rcases dX h 0 with z | z
   ·obtain⟨m,h3,h4⟩:=(Qo h hm).1 z;have:=Rv m h3;lia
   ·obtain⟨m,h3,h4⟩:=(Qo h hm).2 z;have:=Rv m h3;lia
  have cm:kK h s=True:=a7 (.inr ⟨by lia,by lia⟩);dsimp? [Le,Wi,En,JF,ES,nS3,XT,nS5,Ik,fS3,ZZ,fS5,hlm,cm,rP];refine d5 (λe0=>hN _ _ ⟨_,_,c,P',js,rfl,h2,row,cst.skip hz e0,Ck,Jz,wc,kp,fr,qp,jE,Jx,by rw[vj hz, <- EV];exact(ak e0).symm,Rx,Wn⟩) λe0=> ?_;have hl:=row.ga.range p0 (f+h*s);have Qh:=F.ft;have Uz:NZ p (-look c (f+h*s)):=uL hp λe=>e0 (by have:=qW (-look c (f+h*s)) (JX p);have h3:(-look c (f+h*s)) % p=0:=e;have:=Int.dvd_of_emod_eq_zero h3;have h4:=Int.dvd_neg.mp this;have h5:=Int.emod_eq_zero_of_dvd h4;rw[cW hl.1 hl.2] at h5;exact h5);have Yz:NZ p (-look c (f+h*s)*foot):=uL hp λe=>Uz foot Qh.1 Qh.2 (by rw[bK];exact e);have Tc:=jG.keep kp λd hd mV=>qK d mV hd;have aaa: ∀x∈bL rl rp P',x∉bL ol op Q:=λx hx iO=>by
   rcases fr x hx with z | z
   ·exact qK x z iO
   ·obtain⟨kvs,e⟩:=jG.mem iO;rw[z] at e;cases e
  have rB:=wc.len row.ga (by lia);have H0:=VH.len jG.ga d0;have Wm:=Ht row.pU Jx;have UO: ∀t∈P',t.2.2.length<=(2*max B (C+Z+1)+1).toNat:=λt ht=>(jE t ht).len (row.gp t ht) (by lia);have hC': ∀t∈Q,t.2.2.length<=(2*C+1).toNat:=λt ht=>(hC t ht).len (jG.gp t ht) c0;have X':tQ A.fB A.dq M' r rl rp:=Lf.keep kp (Am zz);have Xl: -Z - 1<=kb len h /\ kb len h<=Z:=by
   have l0:=F.l0;unfold kb;split
   ·rename_i lB;obtain⟨m,h3,h4⟩:=(Qo h hm).1 lB;have:=Rv m h3;lia
   ·rename_i lB;obtain⟨m,h3,h4⟩:=(Qo h hm).2 (by lia);have:=Rv m h3;have:=HS.out h hm;lia
  have shb: -(Z+s) <=s*kb len h /\ s*kb len h<=Z+s:=by
   rcases RV s0 with z | z
   ·unfold kb;split
    ·rename_i lB;obtain⟨m,h3,h4⟩:=(Qo h hm).1 lB;obtain⟨x,h5,h6,rfl⟩:=pV m h3;have h7:=AL (x:=x) z;have h8:=aZ h4 s0;have h9:s*h<=0:=Int.mul_nonpos_of_nonneg_of_nonpos s0 (by lia);lia
    ·rename_i lB;obtain⟨m,h3,h4⟩:=(Qo h hm).2 (by lia);obtain⟨x,h5,h6,rfl⟩:=pV m h3;have h7:=AL (x:=x) z;have h8:=aZ h4 s0;have hol:=HS.out h hm;have h9:0<=s*(h - len):=dz s0 (by lia);have Wz:s*(h - len) <=s*h:=aZ (by have:=F.l0;lia) s0;lia
   ·rw[<- z,bG];lia
  have fin: ∀n,(n=if h<0 then -(look c (f+h*s))*foot else -(look c (f+h*s))) ->NZ p n ->MW A.fB A.dq [wi p,wi s,wr r,wr o,wi (kb len h),wi n] M' λ_ M2=>N [some (wi p),some (wi s),some (wr r),some (wr o),some (wr v),some (wi h),some (wi (look c (f+h*s)))] M2:=λn hn nz=>by
   refine⟨r,rl,rp,o,ol,op,p,s,kb len h,n,c,b,P',Q,_,_,rfl,X', .inr ⟨_,_,_,_,Wi⟩,p0,by lia,s0,by lia,nz,row,Tc,aaa,by lia,by lia,UO,hC',by lia,λM2 c' P2 mS ec ep K9 Ly OQ _ _ UM HN=>hN _ _ ⟨_,_,c',P2,(kb len h,n)::js,rfl,?_,mS,cst.step F HS s0 p0 AG row.ga mS.ga hz hn ec,λw x=> ?_,λe j hj=> ?_,λx hx=> ?_,kp.trans K9 fr,λx hx=> ?_,λx hx=>OQ x (qp x hx),λt ht=> ?_,λw hw=> ?_,?_,λj hj=> ?_,λj hj=> ?_⟩⟩
   ·exact K9 t _ h2 λhx=>by obtain⟨kvs,e⟩:=row.mem hx;rw[h2] at e;cases e
   ·rw[ep,Ck,fh,cf,gg,Int.add_comm (dF _ js)]
   ·rcases av.mp hj with rfl | hj
    ·have e1:=AG e h hm;have e2:=F.s0 e;show kb len h=0;rw[e1,e2];rfl
    ·exact Jz e j hj
   ·rw[ec] at hx;by_cases hc:look c x=0
    ·have hb:look b (x - s*kb len h)≠0:=λe=>hx (by rw[hc,e,bG];rfl);have:=VH _ hb;lia
    ·exact wc x hc
   ·rcases Ly x hx with z | z
    ·exact fr x z
    ·cases e:M x with
     | none=>exact .inr rfl
     | some u=>
      by_cases iO:x∈bL rl rp P
      ·exact .inl iO
      ·rw[kp x _ e iO] at z;cases z
   ·intro x hx;rw[<- sE mS.pU ht,ep] at hx;by_cases hc:look (pf P' t.1) x=0
    ·have hb:look (pf Q t.1) (x - kb len h)≠0:=λe=>hx (by rw[hc,e,bG];rfl);have:=L8 hC t.1 _ hb;lia
    ·exact L8 jE t.1 x hc
   ·rcases HN w hw with z | z
    ·exact Jx w z
    ·exact .inr z
   ·rw[vj hz, <- EV];unfold FT;rw[aj e0, <- hn];exact funext ec
   ·rcases av.mp hj with rfl | hj
    ·exact Xl
    ·exact Rx j hj
   ·rcases av.mp hj with rfl | hj
    ·exact⟨h,hm,rfl⟩
    ·exact Wn j hj
  dsimp? [];refine d5 (λlB=> ?_) λlB=> ?_
  ·have cm2:kK (-look c (f+h*s)) foot=True:=a7 (.inr ⟨by lia,by lia⟩);dsimp? [Wi,JF,nS5,fS5,cm2];have:=fin _ rfl (by rw[ak lB];exact Yz);rw[ak lB,show kb len h=h from ak lB] at this;exact this
  ·dsimp? [Wi,JF,XT,ZZ];have:=fin _ rfl (by rw[aj lB];exact Uz);rw[aj lB,show kb len h=h - len from aj lB] at this;exact this
 ·rintro ρ M' ⟨o5,o6,c,P',js,rfl,h2,row,cst,Ck,Jz,wc,kp,fr,qp,jE,Jx,EV,Rx,Wn⟩;rw[aa] at cst EV;rw[cn] at EV;exact nj (k M' c P' js row cst.rel Ck Jz (cst.low s0) cst.PF wc kp fr qp jE Jx ⟨ms,c6,iU,by rw[EV,Z6],by rw[<- Z6];exact Wn⟩ Rx)
end
end iA
open PySem L2 WL WP WQ EN PyProof.Rows
namespace iA
open PySem L2 WL WP WQ EN PyProof.Rows
section
variable {P:Program}{w:World}{K:PySem.W.Frag}{mg:Str ->Option Value}{base:Heap}{A:C9}
theorem Ak (T:Txt K mg A):eh P w K mg base kJ 1 A.u6 A.vh ["p","setting"] (oz K GU):=by
 refine rb T.inverse.fn sx (by rintro vs M q ⟨p,s,rfl,_⟩;rfl) λeQ A' outer s H E hr=> ?_;have nd:=sx.nd;refine⟨_,(aI (bX (i:=2) nd rfl (by first | exact Or.inl rfl | exact Or.inr rfl) aK) (aI (ij cw rfl (kl (by rfl) T.jW (ab (bQ ka (pv 0) aK) aC)) (cj (i:=3) nd rfl (by first | exact Or.inl rfl | exact Or.inr rfl)) (aR (bX (i:=2) nd rfl (by first | exact Or.inl rfl | exact Or.inr rfl) (bQ iQ (bQ ik (pv 2) (pv 1)) (pv 0))))) (aR (cQ (pv 2))))),?_⟩;try dsimp only[fT]
 refine⟨_,inferInstance,?_⟩;rintro vs M q ⟨p,s,rfl,hp,s0,s1,k⟩;have Yu:(0<p)=True:=a7 (by omega);have cm: ∀x,kK x s=True:=λx=>a7 (.inr ⟨by omega,by omega⟩);simp? [↓eV];refine lP ?_; simp? [↓eV];refine⟨⟨by omega,by omega⟩,kr (λi ρ M'=> ∃o:Option W,ρ= [some (wi p),some (wi s),some (wi (pw p s i)),o] /\ M'=M) ⟨none,rfl,rfl⟩ (λ_ _ _ _ _=>trivial) ?_ ?_⟩
 ·rintro i x ρ M' hx ⟨o,rfl,rfl⟩ N hN;obtain⟨hi,rfl⟩:=oJ hx;simp? [↓eV,cm,Yu];exact hN _ _ ⟨_,rfl,rfl⟩
 ·rintro ρ M' ⟨o,rfl,rfl⟩;rw[kh];dsimp only;refine lP ?_; simp? [↓eV];obtain⟨h1,h2,h3⟩:=O2 p s hp s0 s1;exact nj (k _ h1 h2 h3)
theorem G5 (T:Txt K mg A):eh P w K mg base kJ 4 A.Ct A.CJ ["p","stride","row"] (oz K (Pa A.fB A.dq)):=by
 have j5:=oQ (P:=P) (w:=w) (base:=base) T;have gU:=k8 (P:=P) (w:=w) (base:=base) T;have qx:=sH (P:=P) (w:=w) (base:=base) T;have vK:=Ak (P:=P) (w:=w) (base:=base) T;have zr:=Al (P:=P) (w:=w) (base:=base) T;have LX:=G' (P:=P) (w:=w) (base:=base) T;have En:=a7 T.Row.cl;have ES:=a7 T.eC;refine rb T.stood.fn xX (by rintro vs M q ⟨r,dr,rl,rp,p,s,a,P,B,D,rfl,_⟩;rfl) λeQ A' outer s H E hr=> ?_;have nd:=xX.nd;refine⟨_,(aI (bX (i:=3) nd rfl (by first | exact Or.inl rfl | exact Or.inr rfl) (aY T.first_column gU (hr.mono (by decide)) (by rfl) (ab (dv (jy rfl) (by rfl) T.gT Boot.«list» (ab (eg (pv 2) rfl) aC)) (ab (pv 1) aC)))) (aI (bX (i:=4) nd rfl (by first | exact Or.inl rfl | exact Or.inr rfl) (aY T.heights qx (hr.mono (by decide)) (by rfl) (ab (dv (jy rfl) (by rfl) T.gT Boot.«list» (ab (eg (pv 2) rfl) aC)) (ab (pv 1) (ab (pv 3) aC))))) (aI (bX (i:=5) nd rfl (by first | exact Or.inl rfl | exact Or.inr rfl) (aY T.inverse vK (hr.mono (by decide)) (by rfl) (ab (pv 0) (ab (fJ (fK hr) (eg (pv 2) rfl) (bQ eX (pv 3) (bQ ik (c5 cK (pv 4) (oM kM aK) (λ_ _=>rfl)) (pv 1))) (λ_ _=>rfl)) aC)))) (aI (bX (i:=6) nd rfl (by first | exact Or.inl rfl | exact Or.inr rfl) (oN T.Row zr (hr.mono (by decide)) (by rfl) (ab km (ab km aC)))) (aI (gu (aY T.add_moved j5 (hr.mono (by decide)) (by rfl) (ab (pv 0) (ab (pv 1) (ab (pv 6) (ab (pv 2) (ab (oM kM (c5 cK (pv 4) aK (λ_ _=>rfl))) (ab (pv 5) aC)))))))) (aR (cQ (oN T.Stair LX (hr.mono (by decide)) (by rfl) (ab (pv 6) (ab (pv 3) (ab (bQ ka (c5 cK (pv 4) (oM kM aK) (λ_ _=>rfl)) (c5 cK (pv 4) aK (λ_ _=>rfl))) (ab (aY T.inverse vK (hr.mono (by decide)) (by rfl) (ab (pv 0) (ab (fJ (fK hr) (eg (pv 6) rfl) (pv 3) (λ_ _=>rfl)) aC))) aC)))))))))))),?_⟩;try dsimp only[fT]
 refine⟨_,inferInstance,?_⟩;rintro vs M q ⟨r,dr,rl,rp,p,s,a,P,B,D,rfl,zz,hp,s0,s8,jo,c9,wa,d0,d1,hB,hBl,hPl,k⟩;have p0:0<p:=by lia
 have Ik: [(("lamps" :Str),wr rl),(("parts" :Str),wr rp)].lookup ("lamps" :Str)=some (wr rl):=rfl;have Rw:=wa.len jo.ga d0;have uW:(eG a).length<=16000000:=by unfold eG;rw[aa];lia
 have yL:=jo.lam;dsimp? [zz,En,ES,Ik];refine⟨rl,f' a,rfl,yL,λu hu=> ?_⟩;rw[oV];refine⟨u,eG a,s,rfl,um_same,uW,s0,by lia,λe=>absurd (kF.mp e) c9,λ_=> ?_⟩;have mm:=λms=>T3 (s:=s) (a:=a) (ms:=ms) c9;generalize fR ((eG a).map (bM s))=f at mm ⊢;have nru:r≠u:=dG zz hu;have nlu:rl≠u:=dG yL hu;dsimp? [aJ nru,aJ nlu,zz,En,ES,Ik];refine⟨rl,f' a,rfl,by rw[aJ nlu];exact yL,λu2 hu2=> ?_⟩;rw[oV];refine⟨u2,eG a,s,f,rfl,um_same,uW,s0,by lia,λv ms hv c6 iU=> ?_⟩;obtain⟨pV,mn⟩:=mm ms c6 iU;have h1:mX (ms.map wi) (-1)=some (wi (ms.getLastD 0)):=vz pV;have h0:mX (ms.map wi) 0=some (wi (ms.headD 0)):=by
  cases ms with
  | nil=>exact absurd rfl pV
  | cons a r=>exact atI_0
 generalize ms.getLastD 0=tp at mn h1;generalize ms.headD 0=m at mn h0;have ua:Sm M (um (um (um M u (.lst ((eG a).map wi))) u2 (.lst ((eG a).map wi))) v (.lst (ms.map wi))):=((c4 hu).trans (c4 hu2)).trans (c4 hv);have Um:um (um (um M u (.lst ((eG a).map wi))) u2 (.lst ((eG a).map wi))) v (.lst (ms.map wi)) v=some (.lst (ms.map wi)):=um_same;generalize um (um (um M u (.lst ((eG a).map wi))) u2 (.lst ((eG a).map wi))) v (.lst (ms.map wi))=M1 at ua Um ⊢;have P4:=ua _ _ zz;have UH:=ua _ _ yL;have cm:kK tp s=True:=a7 (.inr ⟨by lia,by lia⟩);have PY:=xn s0 mn.hi;have Lc:=rY (m:=a) PY.1;have Qe:=eD jo.ga PY.1;dsimp? [Um,h1,P4,En,ES,Ik,UH,cm,Lc];refine⟨p,_,rfl,hp,Qe.1,Qe.2,λtn SA Q6 Nn=> ?_⟩;dsimp? [];intro e1 US e2 JB x dx hx RA Y0;refine⟨x,dx,wr e1,wr e2,rfl,um_same,rfl,?_⟩;have F3:Sm M1 (um (um (um M1 e1 (.dK [])) e2 (.dK [])) x (.ins A.fB dx [("lamps",wr e1),("parts",wr e2)])):=((c4 US).trans (c4 JB)).trans (c4 hx);dsimp? [];have Rp:um (um (um M1 e1 (.dK [])) e2 (.dK [])) x (.ins A.fB dx [("lamps",wr e1),("parts",wr e2)]) x=some (.ins A.fB dx [("lamps",wr e1),("parts",wr e2)]):=um_same;have ET:e1≠e2:=dG um_same JB;have TV:e1≠x:=dG (by rw[aJ ET];exact um_same) hx;have Rf:e2≠x:=dG um_same hx;have hf1:M1 e2=none:=by rw[aJ (a5 ET)] at JB;exact JB
 have hf2:M1 x=none:=by rw[aJ (a5 Rf),aJ (a5 TV)] at hx;exact hx
 have Ab:cL p (um (um (um M1 e1 (.dK [])) e2 (.dK [])) x (.ins A.fB dx [("lamps",wr e1),("parts",wr e2)])) e1 e2 [] []:=⟨by rw[aJ TV,aJ ET];exact um_same,by rw[aJ Rf];exact um_same,(λt ht=>by cases ht),GD.nil,(λt ht=>by cases ht),lg,by simp[bL,ET]⟩
 generalize um (um (um M1 e1 (.dK [])) e2 (.dK [])) x (.ins A.fB dx [("lamps",wr e1),("parts",wr e2)])=M2 at F3 Rp Ab ⊢;have Ul:=F3 _ _ Um;have Le:=F3 _ _ P4;have Ly: ∀d,d∈x::bL e1 e2 [] ->M1 d=none:=λd hd=>by
  simp only[bL,av,eB,xE,or_false] at hd;rcases hd with rfl | rfl | rfl
  ·exact hf2
  ·exact US
  ·exact hf1
 have ZV: ∀d,M1 d=none ->M d=none:=λd hd=>by
  cases e:M d with
  | none=>rfl
  | some o=>rw[ua _ _ e] at hd;cases hd
 have Td:cL p M2 rl rp a P:=jo.keep (fC.sm (ua.trans F3) []) (λd _ h=>by cases h);have nz:NZ p tn:=uL hp (by rw[cW (by lia) Q6];lia);dsimp? [Ul,h0];refine⟨x,e1,e2,r,rl,rp,p,s, -m,tn,[],a,[],P,0,B,rfl, .inl ⟨_,Rp⟩, .inl ⟨_,Le⟩,p0,by lia,s0,by lia,nz,Ab,Td,?_,by show 0+a.length<=_;lia,by show 0+P.length<=_;lia,(λt ht=>by cases ht),hB,by lia,λM3 b Q uc eb eq Rk Lx aav H0 _ YS YJ=> ?_⟩
 ·intro d hd mV;obtain⟨kvs,e⟩:=jo.mem mV;rw[ZV d (Ly d (aw _ hd))] at e;cases e
 have Z8: ∀x,look b x=look a (x+s*m)*tn % p:=λx=>by rw[eb];show(0+_) % p=_;rw[bP,gH,Oe]
 have Qh:=zZ s0 p0 jo.ga mn nz Z8;have Uk:=rY (m:=b) (cJ (m:=b) (x:=f) (by lia));have nvr: ∀ {d kvs},M2 d=some (.lst kvs) ->d∉bL e1 e2 []:=λ{d kvs} e hd=>by obtain⟨kvs,e2⟩:=Ab.mem hd;rw[e] at e2;cases e2
 have nir: ∀ {d C' d' D9},M2 d=some (.ins C' d' D9) ->d∉bL e1 e2 []:=λ{d C' d' D9} e hd=>by obtain⟨kvs,e2⟩:=Ab.mem hd;rw[e] at e2;cases e2
 have hv3:=Rk _ _ Ul (nvr Ul);have Ye:=Rk _ _ Rp (nir Rp);have UE:=uc.lam;have fX1: [(("lamps" :Str),wr e1),(("parts" :Str),wr e2)].lookup ("lamps" :Str)=some (wr e1):=rfl;dsimp? [];rw[vO];dsimp? [hv3,h0,h1,Ye,En,ES,fX1,UE,Uk];refine⟨p,_,rfl,hp,Qh.1,Qh.2,λfoot f0 f1 hfo=> ?_⟩;dsimp? [];intro o ds ho hds RB;have nxo:x≠o:=dG Ye ho;refine⟨o,ds,x,dx,wr e1,wr e2,wi f,wi (tp - m),wi foot,rfl,a5 nxo,um_same,by rw[aJ nxo];exact Ye,rfl,nj ?_⟩;have ZU: ∀d,M2 d=none ->M d=none:=λd hd=>by
  cases e:M d with
  | none=>rfl
  | some o=>rw[F3 _ _ (ua _ _ e)] at hd;cases hd
 have EO:Sm M M3:=λd u e=>Rk _ _ (F3 _ _ (ua _ _ e)) λhd=>by rw[ZV d (Ly d (aw _ hd))] at e;cases e
 have U': ∀d,M3 d=none ->M d=none:=λd hd=>by
  cases e:M d with
  | none=>rfl
  | some o=>rw[EO _ _ e] at hd;cases hd
 refine k _ o ds e1 e2 b Q f m tp foot tn um_same (uc.same λd hd=> ?_) (Dj (by lia) s0 jo.ga mn Nn Z8 hfo f0 f1) mn SA Q6 Nn Z8 (λw x=> ?_) (λd u e=> ?_) (λd hd=> ?_) (λt ht=>a4 (YS t ht) (by lia)) λw hw=>(YJ w hw).elim (λz=>by cases z) id
 ·have RB:d≠o:=λz=>by obtain⟨kvs,e⟩:=uc.mem hd;rw[z,ho] at e;cases e
  rw[aJ RB,aJ RB]
 ·rw[eq];show(0+_) % p=_;rw[bP,Oe]
 ·have RB:d≠o:=λz=>by rw[z,U' o ho] at e;cases e
  rw[aJ RB,aJ RB];exact EO _ _ e
 ·rcases av.mp hd with rfl | hd
  ·exact U' _ ho
  ·rcases Lx d hd with z | z
   ·exact ZV d (Ly d (aw _ z))
   ·exact ZU d z
end
end iA
open PySem L2 WL WP WQ EN PyProof.Rows
namespace iA
open PySem L2 WL WP WQ EN PyProof.Rows
section
variable {P:Program}{w:World}{K:PySem.W.Frag}{mg:Str ->Option Value}{base:Heap}{A:C9}
theorem uf (T:Txt K mg A):eh P w K mg base kJ 1 A.px A.pE ["p","parts","n"] (oz K Tt):=by
 refine rb T.told_parts.fn m7 (by rintro vs M q ⟨rl,rp,p,n,a,P,B,rfl,_⟩;rfl) λeQ A' outer s H E hr=> ?_;have nd:=m7.nd;refine⟨_,(aR (cQ (GN (n1:=1) rfl (fq.of (sc:=aQ i9) (N:= ["p","parts","n"]) (own:= ["which","shift"]) (fr:= [0,2,1]) (N':= ["which","shift","p","n","parts"]) rfl rfl rfl (by decide+kernel) rfl (by decide+kernel) (by decide+kernel) (by decide+kernel) (by decide+kernel) (by decide+kernel)) (fI (cA (fY rfl) (by rfl) T.jz Boot.«sorted» (ab (pv 1) aC))) (λ_ _ _ _=>(cj (i:=0) (by show(["which","shift","p","n","parts"]:List Str).Nodup;decide+kernel) rfl (by first | exact Or.inl rfl | exact Or.inr rfl))) (by decide) (yE (by show _<_;decide)) (λ_ _ _ _=>jO) (λ_ _ _ _=>(GF (K:=K) rfl (cA (fY rfl) (by rfl) T.jz Boot.«sorted» (ab (fJ (fK hr) (pv 4) (pv 0) (λ_ _=>rfl)) aC)))) (λ_ _ _ _=>(cj (i:=1) (by show(["which","shift","p","n","parts"]:List Str).Nodup;decide+kernel) rfl (by first | exact Or.inl rfl | exact Or.inr rfl))) (yE (by show _<=_ /\ _<_;decide)) (λ_ _ _ _=>jO) (λ_ _ _ _=>(jt (ab (pv 0) (ab (pv 1) (ab (bQ iQ (bQ ik (fJ (fK hr) (fJ (fK hr) (pv 4) (pv 0) (λ_ _=>rfl)) (pv 1) (λ_ _=>rfl)) (pv 3)) (pv 2)) aC)))))))),?_⟩;try dsimp only[fT]
 refine⟨_,inferInstance,?_⟩;rintro vs M q ⟨rl,rp,p,n,a,P,B,rfl,p0,p1,n0,n1,row,hPl,hB,hB9,hPB,k⟩;have Lh:=row.par;dsimp? [Lh];refine⟨rp,nZ P,P.map (·.1),rfl,Lh,by unfold nZ;rw[aD,aD];rfl,big (by rw[aa];lia),λu ws hu c6 iU=> ?_⟩;dsimp? [um_same];have Uj:ws.length=P.length:=by rw[c6.length_eq,aa]
 have S2:=c4 (o:= .lst (ws.map wi)) hu;refine AX (λx:Int=>wi x) (λw zs=> ∃zx:List Int,zx.Perm (eG (pf P w)) /\ zs=zx.map λsh=>oP (w,sh,look (pf P w) sh*n % p)) B (uk (by rw[Uj];lia)) (λp' M' h1 h2=>h2 u _ (dG um_same h1) um_same) ?_ ?_
 ·intro w hw p' M' ys Nt sm HF B' N0 hB';obtain⟨t,ht,rfl⟩:=af.mp (c6.mem_iff.mp hw);have Ck:pf P t.1=t.2.2:=sE row.pU ht;have hM: ∀d o,M d=some o ->M' d=some o:=λd o e=>sm d o (λz=>by rw[z] at e;rw[S2 _ _ e] at Nt;cases Nt) (S2 _ _ e);have Ux:=hM _ _ Lh;have UN:=hM _ _ (row.Ci t ht);have Lc:fu (nZ P) (Sum.inl t.1)=some (wr t.2.1):=by
   rw[vS];cases e:P.find? (λu=>decide (u.1=t.1)) with
   | none=>exact absurd (tW.mp e t ht) (by simp)
   | some u=>have h1:=find_some e;have h2:u=t:=ip row.pU h1.1 ht h1.2;rw[h2];rfl
  dsimp? [Ux,Lc,UN];refine⟨t.2.1,f' t.2.2,eG t.2.2,rfl,UN,by unfold f' eG;rw[aD,aD];rfl,big (by unfold eG;rw[aa];have:=hB t ht;lia),λv zx hv wY Ym=> ?_⟩;dsimp? [um_same];refine hB' _ _ zx (λsh=>oP (t.1,sh,look (pf P t.1) sh*n % p)) _ (kE.sm (c4 hv)) (by rw[aJ (dG HF hv)];exact HF) ⟨zx,by rw[Ck];exact wY,rfl⟩ ?_ (λM5 h5=>h5 v _ (a5 (dG HF hv)) um_same) ?_
  ·rw[wY.length_eq];unfold eG;rw[aa];exact hB t ht
  ·intro sh Wd M5 sm5 N hN;have np: ∀ {d o},M d=some o ->d≠p':=λ{d o} e z=>by rw[z] at e;rw[S2 _ _ e] at Nt;cases Nt
   have hM5: ∀d o,M d=some o ->M5 d=some o:=λd o e=>sm5 d o (np e) (c4 hv _ _ (hM d o e));have Uw:=hM5 _ _ Lh;have YR:=hM5 _ _ (row.Ci t ht);have Qe:=eD (row.gp t ht) (wY.mem_iff.mp Wd);have HG:=rY (m:=t.2.2) (wY.mem_iff.mp Wd);have cm:kK (look t.2.2 sh) n=True:=a7 (.inr ⟨by lia,by lia⟩);dsimp? [Uw,Lc,YR,HG,cm,p0];rw[Ck] at hN;exact hN
 ·intro t M' yss ht sm Zb hlen hR;obtain⟨tl,e,hp⟩:=Dh row.pU (λw=>(row.GH w).1) c6 hlen hR;have RI:M t=none:=by
   cases e:M t with
   | none=>rfl
   | some o=>rw[S2 _ _ e] at ht;cases ht
  exact nj (k t M' tl (λd o e=>sm d o (λz=>by rw[z,RI] at e;cases e) (S2 _ _ e)) RI (by rw[Zb,e]) hp)
end
end iA
open PySem L2 WL WP WQ EN PyProof.Rows
namespace iA
open PySem L2 WL WP WQ EN PyProof.Rows
section
variable {P:Program}{w:World}{K:PySem.W.Frag}{mg:Str ->Option Value}{base:Heap}{A:C9}
theorem Aj (T:Txt K mg A):eh P w K mg base kJ 1 A.u5 A.vg ["_law_script"] (Bv K):=by
 refine T.B8.fn.ok sv (λvs H Q E h=> ?_) (λeQ A' outer s H vs Q E hr h=> ?_)
 ·obtain⟨a,ns,rfl,_⟩:=h;rfl
 ·obtain⟨a,ns,rfl,hs,k⟩:=h;have nd:=sv.nd;refine⟨_,(aR (cQ (wD (ab (dv iw (by rfl) T.gT Boot.«list» (ab (yk By (pv 0) BL (BK aK)) aC)) (ab aK (ab aK (ab aK aC))))))),?_⟩;have ec: ∃ms:List Int,zb (ns.map V.int) none (some 63)=ms.map V.int:=by refine⟨(ns.drop (HT.sD (ns.map V.int).length 0 none)).take (HT.sD (ns.map V.int).length (ns.map V.int).length (some 63) - HT.sD (ns.map V.int).length 0 none),?_⟩;unfold zb;rw[mP,tP]
  obtain⟨ms,em⟩:=ec;refine⟨_,rfl,_,rfl,_,_,rfl,hs,λp hp=>⟨_,_,rfl, .inl (ix.of bU),λl hl=>⟨by show 4<=sizeLine;decide,λd hd=> ?_⟩⟩⟩;have gi:l≠d:=λe=>by rw[e,bU] at hd;cases hd
  refine k d l ms _ gi.symm bU ?_;rw[bC gi,bU,em]
theorem ko (T:Txt K mg A):eh P w K mg base kJ 1 A.yR A.y3 ["_law_draw","_law_many"] (oz K Tu):=by
 refine rb T.gw.fn uH (by rintro vs M q ⟨d,l,n,rfl,_⟩;rfl) λeQ A' outer s H E hr=> ?_;have nd:=uH.nd;refine⟨_,(aI (fP (Ac (cH yr (c5 cK (pv 0) aK (λ_ _=>rfl)) (pv 1) (dg _)) (wx (cH yr (c5 cK (pv 0) aK (λ_ _=>rfl)) (cA gE (by rfl) T.qP Boot.«len» (ab (c5 cK (pv 0) aK (λ_ _=>rfl)) aC)) (dg _)))).pt (aI (bX (i:=2) nd rfl (by first | exact Or.inl rfl | exact Or.inr rfl) (c5 cK (c5 cK (pv 0) aK (λ_ _=>rfl)) (c5 cK (pv 0) aK (λ_ _=>rfl)) (λ_ _=>rfl))) (aI (j8 (bQ eX (c5 cK (pv 0) aK (λ_ _=>rfl)) aK) (j9 (pv 0) aK set_list)) (aI (j8 aK (j9 (pv 0) aK set_list)) (aR (fP (cH GZ (cA vo (by rfl) T.N4 Boot.«abs» (ab (pv 2) aC)) (bQ Pe aK aK) (dg _)) (aR (j8 (cA vo (by rfl) T.N4 Boot.«abs» (ab (pv 2) aC)) (j9 (pv 0) aK set_list))) (aR (j8 (bQ iQ (bQ eX (bQ eX (bQ ik (c5 cK (pv 0) aK (λ_ _=>rfl)) aK) (bQ ik (bQ iQ (pv 2) aK) aK)) aK) aK) (j9 (pv 0) aK set_list)))))))) eU) (aI (fP (cH GZ (c5 cK (pv 0) aK (λ_ _=>rfl)) (pv 1) (dg _)) (aI (bX (i:=3) nd rfl (by first | exact Or.inl rfl | exact Or.inr rfl) (bQ iQ (c5 cK (pv 0) aK (λ_ _=>rfl)) (pv 1))) (aI (j8 (bQ wG (c5 cK (pv 0) aK (λ_ _=>rfl)) (pv 1)) (j9 (pv 0) aK set_list)) (aR (cQ (pv 3))))) eU) (aI (j8 (bQ iQ (bQ eX (bQ ik (c5 cK (pv 0) aK (λ_ _=>rfl)) aK) aK) aK) (j9 (pv 0) aK set_list)) (aR (cQ (bQ iQ (bQ wG (c5 cK (pv 0) aK (λ_ _=>rfl)) aK) (pv 1))))))),?_⟩;try dsimp only[fT]
 refine⟨_,inferInstance,?_⟩;rintro vs M q ⟨d,l,n,rfl,⟨ns,i,c,sd,hd,hl,hi,c9⟩,n0,n1,k⟩;refine HB (λρ M'=> ∃ (o1 o2:Option W) (i' c' s':Int),ρ= [some (wr d),some (wi n),o1,o2] /\ M' d=some (.lst [wr l,wi i',wi c',wi s']) /\ NB d M M' /\ 0<=i') ?_ λN hN=> ?_
 ·rintro ρ M' ⟨o1,o2,i',c',s',rfl,h,nb,nh⟩;have fin: ∀ (r c' s':Int),0<=r ->r<n -> ∃M0,Sm M0 (um M' d (.lst [wr l,wi i',wi c',wi s'])) /\ q (wi r) M0:=λr c' s' h0 h1=>nj (k r _ h0 h1 ⟨ns,i',c',s',um_same,by rw[aJ (a5 c9),nb l (a5 c9)];exact hl,nh,c9⟩ (nb.trans NB.put));have cm3: ∀x,kK x 16807=True:=λx=>by simp[kK]
  have cd1: ∀x,A7 x n=True:=λx=>by simp[A7,n0,n1]
  have cd2: ∀x,A7 x 64=True:=λx=>by simp[A7]
  have z2:((0:Int) <2147483647)=True:=by decide
  simp? [↓cP,h,n0,cm3,cd1,cd2,z2];exact d5 (λ_=>fin _ _ _ (cN _ (by lia)) (cz _ n0)) λ_=>fin _ _ _ (cN _ (by lia)) (cz _ n0)
 ·have nx: ∀ (o1 o2:Option W) (i' c' s':Int),0<=i' ->N [some (wr d),some (wi n),o1,o2] (um M d (.lst [wr l,wi i',wi c',wi s'])):=λ_ _ _ _ _ h=>hN _ _ ⟨_,_,_,_,_,rfl,um_same,NB.put,h⟩;have VX: ∀ (o1 o2:Option W),N [some (wr d),some (wi n),o1,o2] M:=λ_ _=>hN _ _ ⟨_,_,_,_,_,rfl,hd,NB.refl d M,hi⟩;have cp:Q3 10 18=True:=by simp[Q3]
  have cm: ∀x,kK x 48271=True:=λx=>by simp[kK]
  have cm2: ∀x,kK x 69621=True:=λx=>by simp[kK]
  have z1:((0:Int) <2147483629)=True:=by decide
  have z2:((0:Int) <2147483647)=True:=by decide
  by_cases f6:i<ns.length
  ·have hx:mX (ns.map wi) i=some (wi (ns[i.toNat]'(by lia))):=LO hi (by rw[aA,ae (by lia)];rfl);simp? [↓cP,hd,hl,hx,aa,cp,cm,cm2,z1,z2];exact d5 (λ_=>d5 (λ_=>d5 (λ_=>nx _ _ _ _ _ (by lia)) λ_=>nx _ _ _ _ _ (by lia)) λ_=>VX _ _) λ_=>VX _ _
  ·simp? [↓cP,hd,hl,f6,aa,iV];exact d5 (λ_=>VX _ _) λ_=>VX _ _
theorem Pk (T:Txt K mg A):eh P w K mg base kJ 2 A.NQ A.NU ["_law_draw"] (oz K pP):=by
 have dt:=ko (P:=P) (w:=w) (base:=base) T;refine rb T.l_p.fn F7 (by rintro vs M q ⟨d,l,rfl,_⟩;rfl) λeQ A' outer s H E hr=> ?_;have nd:=F7.nd;refine⟨_,(aR (cQ (c5 gQ (jt (ab aK (ab aK (ab aK (ab aK aC))))) (aY T.gw dt (hr.mono (by decide)) (by rfl) (ab (pv 0) (ab aK aC))) (λ_ _=>rfl)))),?_⟩;try dsimp only[fT]
 refine⟨_,inferInstance,?_⟩;rintro vs M q ⟨d,l,rfl,hD,k⟩;simp? [↓cP];refine⟨d,l,4,rfl,hD,by decide,by decide,λr M1 r0 r1 D1 b1=> ?_⟩;have hr4:r=0 \/ r=1 \/ r=2 \/ r=3:=by omega
 rcases hr4 with rfl | rfl | rfl | rfl<;> simp? [↓cP]
 ·exact nj (k 2 _ (by decide) D1 b1)
 ·exact nj (k 3 _ (by decide) D1 b1)
 ·exact nj (k 5 _ (by decide) D1 b1)
 ·exact nj (k 7 _ (by decide) D1 b1)
theorem G7 (T:Txt K mg A):eh P w K mg base kJ 1 A.Cv A.CL ["_law_thing"] (oz K Xx):=by
 refine rb T.Hq.fn xZ (by rintro vs M q ⟨i,rfl,_⟩;rfl) λeQ A' outer s H E hr=> ?_;have nd:=xZ.nd;refine⟨_,(aR (cQ (GP (cA ku (by rfl) T.fZ Boot.«isinstance» (ab (pv 0) (ab (mf (by rfl) T.Vm Boot.«int» (show RelV (.ty "int") _ from rfl)) aC))) (GI (O8 (cA ku (by rfl) T.fZ Boot.«isinstance» (ab (pv 0) (ab (mf (by rfl) T.QN Boot.«bool» (show RelV (.ty "bool") _ from rfl)) aC)))))))),?_⟩;try dsimp only[fT]
 refine⟨_,inferInstance,?_⟩;rintro vs M q ⟨i,rfl,k⟩;simp? [↓cP];exact nj k
theorem KQ (T:Txt K mg A):eh P w K mg base kJ 1 A.Ij A.Iw ["p","pairs"] (oz K MV):=by
 refine rb T.tidy.fn BA (by rintro vs M q ⟨a,p,ps,rfl,_⟩;rfl) λeQ A' outer s H E hr=> ?_;have nd:=BA.nd;refine⟨_,(aI (bX (i:=2) nd rfl (by first | exact Or.inl rfl | exact Or.inr rfl) km) (aI (ij cw rfl (fI (pv 1)) (qg (n:=2) rfl (fA (cj (i:=3) nd rfl (by first | exact Or.inl rfl | exact Or.inr rfl)) (fA (cj (i:=4) nd rfl (by first | exact Or.inl rfl | exact Or.inr rfl)) me))) (aR (oK (fK hr) (pv 2) (pv 3) (bQ iQ (bQ eX (oO (fK hr) (pv 2) (pv 3) aK ⟨by rfl,by rfl,by rfl,by rfl⟩) (pv 4)) (pv 0)) rfl))) (aR (cQ (dv lX (by rfl) T.kW Boot.«tuple» (ab (iC rfl (fq.of (sc:=aQ v8) (N:= ["p","pairs","turned","place","setting"]) (own:= ["place"]) (fr:= [2]) (N':= ["place","turned"]) rfl rfl rfl (by decide+kernel) rfl (by decide+kernel) (by decide+kernel) (by decide+kernel) (by decide+kernel) (by decide+kernel)) (fI (cA (fY rfl) (by rfl) T.jz Boot.«sorted» (ab (pv 2) aC))) (λ_ _ _ _=>(cj (i:=0) (by show(["place","turned"]:List Str).Nodup;decide+kernel) rfl (by first | exact Or.inl rfl | exact Or.inr rfl))) fX (λ_ _ _ _=>(rL (cH yq (fJ (fK hr) (pv 1) (pv 0) (λ_ _=>rfl)) aK (dg _)))) (λ_ _ _ _=>(jt (ab (pv 0) (ab (fJ (fK hr) (pv 1) (pv 0) (λ_ _=>rfl)) aC))))) aC)))))),?_⟩;try dsimp only[fT]
 refine⟨_,inferInstance,?_⟩;rintro vs M q ⟨a,p,ps,rfl,ha,p0,U6,Y5,k⟩;simp? [↓cP];intro d hd;have He:a≠d:=dG ha hd;simp? [↓cP,aJ He,ha];refine kr (λi ρ M'=> ∃ (o1 o2:Option W) (m:Pt),ρ= [some (wi p),some (wr a),some (wr d),o1,o2] /\ M'=um M d (.dK (f' m)) /\ (m.map (·.1)).Nodup /\ m.length<=i /\ (∀x,look m x=dP (ps.take i) x % p) /\ ∀k∈m.map (·.1), ∃q∈ps,q.1=k) ⟨none,none,[],rfl,rfl,lg,aq _,λx=>by simp[look,dP],by simp⟩ ?_ ?_ ?_
 ·rintro i ρ M' _ ⟨o1,o2,m,rfl,rfl,_⟩;rw[aJ He];exact ha
 ·rintro i x ρ M' hx ⟨o1,o2,m,rfl,rfl,hn,hl,ht,jE⟩ N hN;obtain⟨z,hz,rfl⟩:=pairs_at hx;have JA:=(ag.mp hz).1;have hs:((f' m).length<sizeLine)=True:=by rw[f',aa];exact a7 (uk (by omega))
  simp? [↓cP,dI,rP,p0,hs,rK];refine hN _ _ ⟨_,_,_,rfl,rfl,wK hn,a4 sR (by omega),λx=> ?_,λk hk=>(yy hk).elim (λe=>⟨z,ai hz,e.symm⟩) (jE k)⟩;rw[qj,bD,hz];show _=dP (ps.take i++ [z]) x % p;rw[oo];by_cases hx:x=z.1
  ·subst hx;rw[ak rfl,ak rfl,ht,fh]
  ·rw[aj hx,aj (a5 hx),bu];exact ht x
 ·rintro ρ M' ⟨o1,o2,m,rfl,rfl,hn,hl,ht,jE⟩;rw[aa] at hl ht;rw[cn] at ht;simp? [↓cP];refine⟨d,f' m,m.map (·.1),rfl,um_same,yB m,(by rw[aa];exact big (by omega)),λsp ns yI c6 iU=> ?_⟩;have Qj:d≠sp:=dG um_same yI;have Nw:ns.length<=16000000:=by rw[c6.length_eq,aa];omega
  simp? [↓cP];refine nT (λx=>match x with | .v (.int n)=>if look m n=0 then none else some (dI (n,look m n)) | _=>none) (by rw[aa];exact big Nw) (λM3 s3=>s3 _ _ um_same) ?_ λt Yl=> ?_
  ·intro i x hx M3 N s3 hN;obtain⟨n,P9,rfl⟩:=sW hx;have Y3:M3 d=some (.dK (f' m)):=s3 _ _ (by rw[aJ Qj,um_same]);have Lk:n∈m.map (·.1):=c6.mem_iff.mp (ai P9);simp? [↓cP,Y3,rY Lk];refine wO (λh=> ?_) λh=> ?_
   ·simp only[h,bf] at hN;exact hN
   ·simp only[h,bN] at hN;exact hN
  ·simp? [↓cP];refine⟨M,((Sm.um (Sm.refl M) hd).trans (c4 yI)).trans (c4 Yl),?_⟩
   ·have e:(ns.map wi).filterMap (λx=>match x with | .v (.int n)=>if look m n=0 then none else some (dI (n,look m n)) | _=>none)=(lA p ps).map dI:=by rw[<- Bz p0 hn ht c6 iU,tX];unfold sel;rw[RT];congr 1;funext n;simp only[Function.comp];split<;>rfl
    rw[e];exact k
theorem uK (T:Txt K mg A):eh P w K mg base kJ 1 A.yQ A.yZ ["_law_p_here","_law_pairs"] (oz K MV):=by
 refine rb T.Av.fn uG (by rintro vs M q ⟨a,p,ps,rfl,_⟩;rfl) λeQ A' outer s H E hr=> ?_;have nd:=uG.nd;refine⟨_,(aI (bX (i:=2) nd rfl (by first | exact Or.inl rfl | exact Or.inr rfl) km) (aI (ij cw rfl (fI (pv 1)) (qg (n:=2) rfl (fA (cj (i:=3) nd rfl (by first | exact Or.inl rfl | exact Or.inr rfl)) (fA (cj (i:=4) nd rfl (by first | exact Or.inl rfl | exact Or.inr rfl)) me))) (aR (oK (fK hr) (pv 2) (pv 3) (bQ iQ (bQ eX (oO (fK hr) (pv 2) (pv 3) aK ⟨by rfl,by rfl,by rfl,by rfl⟩) (pv 4)) (pv 0)) rfl))) (aR (cQ (dv lX (by rfl) T.kW Boot.«tuple» (ab (iC rfl (fq.of (sc:=aQ oG) (N:= ["_law_p_here","_law_pairs","_law_sums","_law_place","_law_setting"]) (own:= ["_law_place"]) (fr:= [2]) (N':= ["_law_place","_law_sums"]) rfl rfl rfl (by decide+kernel) rfl (by decide+kernel) (by decide+kernel) (by decide+kernel) (by decide+kernel) (by decide+kernel)) (fI (cA (fY rfl) (by rfl) T.jz Boot.«sorted» (ab (pv 2) aC))) (λ_ _ _ _=>(cj (i:=0) (by show(["_law_place","_law_sums"]:List Str).Nodup;decide+kernel) rfl (by first | exact Or.inl rfl | exact Or.inr rfl))) fX (λ_ _ _ _=>(rL (cH MX (fJ (fK hr) (pv 1) (pv 0) (λ_ _=>rfl)) aK (dg _)))) (λ_ _ _ _=>(jt (ab (pv 0) (ab (fJ (fK hr) (pv 1) (pv 0) (λ_ _=>rfl)) aC))))) aC)))))),?_⟩;try dsimp only[fT]
 refine⟨_,inferInstance,?_⟩;rintro vs M q ⟨a,p,ps,rfl,ha,p0,U6,Y5,k⟩;simp? [↓cP];intro d hd;have He:a≠d:=dG ha hd;simp? [↓cP,aJ He,ha];refine kr (λi ρ M'=> ∃ (o1 o2:Option W) (m:Pt),ρ= [some (wi p),some (wr a),some (wr d),o1,o2] /\ M'=um M d (.dK (f' m)) /\ (m.map (·.1)).Nodup /\ m.length<=i /\ (∀x,look m x=dP (ps.take i) x % p) /\ ∀k∈m.map (·.1), ∃q∈ps,q.1=k) ⟨none,none,[],rfl,rfl,lg,aq _,λx=>by simp[look,dP],by simp⟩ ?_ ?_ ?_
 ·rintro i ρ M' _ ⟨o1,o2,m,rfl,rfl,_⟩;rw[aJ He];exact ha
 ·rintro i x ρ M' hx ⟨o1,o2,m,rfl,rfl,hn,hl,ht,jE⟩ N hN;obtain⟨z,hz,rfl⟩:=pairs_at hx;have JA:=(ag.mp hz).1;have hs:((f' m).length<sizeLine)=True:=by rw[f',aa];exact a7 (uk (by omega))
  simp? [↓cP,dI,rP,p0,hs,rK];refine hN _ _ ⟨_,_,_,rfl,rfl,wK hn,a4 sR (by omega),λx=> ?_,λk hk=>(yy hk).elim (λe=>⟨z,ai hz,e.symm⟩) (jE k)⟩;rw[qj,bD,hz];show _=dP (ps.take i++ [z]) x % p;rw[oo];by_cases hx:x=z.1
  ·subst hx;rw[ak rfl,ak rfl,ht,fh]
  ·rw[aj hx,aj (a5 hx),bu];exact ht x
 ·rintro ρ M' ⟨o1,o2,m,rfl,rfl,hn,hl,ht,jE⟩;rw[aa] at hl ht;rw[cn] at ht;simp? [↓cP];refine⟨d,f' m,m.map (·.1),rfl,um_same,yB m,(by rw[aa];exact big (by omega)),λsp ns yI c6 iU=> ?_⟩;have Qj:d≠sp:=dG um_same yI;have Nw:ns.length<=16000000:=by rw[c6.length_eq,aa];omega
  simp? [↓cP];refine nT (λx=>match x with | .v (.int n)=>if look m n=0 then none else some (dI (n,look m n)) | _=>none) (by rw[aa];exact big Nw) (λM3 s3=>s3 _ _ um_same) ?_ λt Yl=> ?_
  ·intro i x hx M3 N s3 hN;obtain⟨n,P9,rfl⟩:=sW hx;have Y3:M3 d=some (.dK (f' m)):=s3 _ _ (by rw[aJ Qj,um_same]);have Lk:n∈m.map (·.1):=c6.mem_iff.mp (ai P9);simp? [↓cP,Y3,rY Lk];have EU:0<=look m n:=by rw[ht];exact cN _ (by omega)
   refine d5 (λh=> ?_) λh=> ?_
   ·have h':¬look m n=0:=by omega
    simp only[h',bf] at hN;exact hN
   ·have h':look m n=0:=by omega
    simp only[h',bN] at hN;exact hN
  ·simp? [↓cP];refine⟨M,((Sm.um (Sm.refl M) hd).trans (c4 yI)).trans (c4 Yl),?_⟩
   ·have e:(ns.map wi).filterMap (λx=>match x with | .v (.int n)=>if look m n=0 then none else some (dI (n,look m n)) | _=>none)=(lA p ps).map dI:=by rw[<- Bz p0 hn ht c6 iU,tX];unfold sel;rw[RT];congr 1;funext n;simp only[Function.comp];split<;>rfl
    rw[e];exact k
theorem wH (T:Txt K mg A):eh P w K mg base kJ 2 A.qG A.qL ["_law_draw","_law_p_here","_law_most","_law_far"] (oz K GR):=by
 have dt:=ko (P:=P) (w:=w) (base:=base) T;have tR:=uK (P:=P) (w:=w) (base:=base) T;refine rb T.uR.fn oC (by rintro vs M q ⟨d,l,p,most,mW,rfl,_⟩;rfl) λeQ A' outer s H E hr=> ?_;have nd:=oC.nd;refine⟨_,(aI (bX (i:=4) nd rfl (by first | exact Or.inl rfl | exact Or.inr rfl) (wD aC)) (aI (ij cw rfl (kl (by rfl) T.jW (ab (aY T.gw dt (hr.mono (by decide)) (by rfl) (ab (pv 0) (ab (bQ eX (pv 2) aK) aC))) aC)) (cj (i:=5) nd rfl (by first | exact Or.inl rfl | exact Or.inr rfl)) (aI (bX (i:=6) nd rfl (by first | exact Or.inl rfl | exact Or.inr rfl) (bQ ka (aY T.gw dt (hr.mono (by decide)) (by rfl) (ab (pv 0) (ab (bQ eX (bQ ik aK (pv 3)) aK) aC))) (pv 3))) (aR (gu (GO nq EX EW ml (pv 4) (ab (jt (ab (pv 6) (ab (bQ eX aK (aY T.gw dt (hr.mono (by decide)) (by rfl) (ab (pv 0) (ab (bQ ka (pv 1) aK) aC)))) aC))) aC)))))) (aR (cQ (aY T.Av tR (hr.mono (by decide)) (by rfl) (ab (pv 1) (ab (pv 4) aC))))))),?_⟩;try dsimp only[fT]
 refine⟨_,inferInstance,?_⟩;rintro vs M q ⟨d,l,p,most,mW,rfl,hD,p2,p3,m0,m1,f0,f1,k⟩;simp? [↓eV];intro a ha;obtain⟨He,nal⟩:=hD.ne ha;refine lP ?_;simp? [↓eV];refine⟨d,l,most+1,rfl,hD.put ha,by omega,by omega,λn M1 n0 n1 D1 b1=> ?_⟩;have ha1:M1 a=some (.lst []):=by rw[b1 a He,um_same]
 simp? [↓eV];refine⟨⟨by omega,by omega⟩,kr (λi ρ M'=> ∃ (o1 o2:Option W) (ps:Pt),ρ= [some (wr d),some (wi p),some (wi most),some (wi mW),some (wr a),o1,o2] /\ Dr M' d l /\ M' a=some (.lst (ps.map dI)) /\ ps.length=i /\ (∀z∈ps, -mW<=z.1 /\ z.1<=mW /\ 0<z.2 /\ z.2<p) /\ (∀b,b≠d ->b≠a ->M' b=M b)) ⟨none,none,[],rfl,D1,ha1,rfl,by simp,λb h1 h2=>by rw[b1 b h1,aJ h2]⟩ (λ_ _ _ _ _=>trivial) ?_ ?_⟩
 ·rintro i x ρ M' hx ⟨o1,o2,ps,rfl,D2,Y',hl,hz,hb⟩ N hN;obtain⟨hi,rfl⟩:=oJ hx;have cm: ∀x,kK 2 x=True:=λx=>by simp[kK]
  simp? [↓eV,cm];refine⟨d,l,2*mW+1,rfl,D2,by omega,by omega,λr M3 r0 r1 D3 b3=> ?_⟩;simp? [↓eV];refine lP ?_;have ha3:M3 a=some (.lst (ps.map dI)):=by rw[b3 a He];exact Y'
  simp? [↓eV,ha3];refine⟨d,l,p - 1,rfl,D3,by omega,by omega,λs' M4 s0 s1 D4 b4=> ?_⟩;have ha4:M4 a=some (.lst (ps.map dI)):=by rw[b4 a He];exact ha3
  have hs:((ps.map dI).length<sizeLine)=True:=by rw[aa];exact a7 (uk (by omega))
  simp? [↓eV,ha4,hs];refine hN _ _ ⟨_,_,ps++ [(r - mW,1+s')],rfl,D4.O3 He nal,?_,by simp[hl],λz qo=> ?_,λb h1 h2=> ?_⟩
  ·rw[um_same,aN];rfl
  ·rcases ax.mp qo with qo | qo
   ·exact hz z qo
   ·rw[ah.mp qo];exact⟨by show -mW<=r - mW;omega,by show r - mW<=mW;omega,by show 0<1+s';omega,by show 1+s'<p;omega⟩
  ·rw[aJ h2,b4 b h1,b3 b h1,hb b h1 h2]
 ·rintro ρ M' ⟨o1,o2,ps,rfl,D2,Y',hl,hz,hb⟩;rw[kh] at hl;dsimp only;refine lP ?_;simp? [↓eV];refine⟨a,p,ps,rfl,Y',by omega,Lz (by omega),by omega,?_⟩;refine⟨λb=>if b=a then none else M' b,λb o e=> ?_,k ps _ (by omega) hz ?_ ?_⟩
  ·dsimp only at e;split at e
   ·cases e
   ·exact e
  ·obtain⟨ns,i,c,s',h1,h2,h3,h4⟩:=D2;exact⟨ns,i,c,s',by dsimp only;rw[aj (a5 He)];exact h1,by dsimp only;rw[aj (a5 nal)];exact h2,h3,h4⟩
  ·intro b n6;dsimp only;split
   ·rename_i e;rw[e];exact ha.symm
   ·rename_i e;exact hb b n6 e
theorem ra (T:Txt K mg A):eh P w K mg base kJ 2 A.lS A.lU ["_law_p_here","_law_thing"] (oz K Pc):=by
 have C7:=G7 (P:=P) (w:=w) (base:=base) T;refine rb T.oU.fn kY (by rintro vs M q ⟨p,pat,rfl,_⟩;rfl) λeQ A' outer s H E hr=> ?_;have nd:=kY.nd;refine⟨_,(aI (fP (kO (nE (cA ku (by rfl) T.fZ Boot.«isinstance» (ab (pv 1) (ab (mf (by rfl) T.kW Boot.«tuple» (show RelV (.ty "tuple") _ from rfl)) aC))))) (aR (cQ sF)) eU) (aI (ij cw rfl (kl (by rfl) T.jW (ab (cA gE (by rfl) T.qP Boot.«len» (ab (pv 1) aC)) aC)) (cj (i:=2) nd rfl (by first | exact Or.inl rfl | exact Or.inr rfl)) (aI (bX (i:=3) nd rfl (by first | exact Or.inl rfl | exact Or.inr rfl) (c5 gQ (pv 1) (pv 2) (λ_ _=>rfl))) (aI (fP (uJ (kO (nE (cA ku (by rfl) T.fZ Boot.«isinstance» (ab (pv 3) (ab (mf (by rfl) T.kW Boot.«tuple» (show RelV (.ty "tuple") _ from rfl)) aC))))) (wu (cH yq (cA gE (by rfl) T.qP Boot.«len» (ab (pv 3) aC)) aK (dg _)))).pt (aR (cQ sF)) eU) (aI (fP (uJ (kO (nE (aY T.Hq C7 (hr.mono (by decide)) (by rfl) (ab (c5 gQ (pv 3) aK (λ_ _=>rfl)) aC)))) (uJ (kO (nE (aY T.Hq C7 (hr.mono (by decide)) (by rfl) (ab (c5 gQ (pv 3) aK (λ_ _=>rfl)) aC)))) (wu (kO (Gw yr yr aK (c5 gQ (pv 3) aK (λ_ _=>rfl)) (pv 0)))))).pt (aR (cQ sF)) eU) (aR (fP (Ac (cH MX (pv 2) aK (dg _)) (wx (cH GZ (c5 gQ (c5 gQ (pv 1) (bQ ka (pv 2) aK) (λ_ _=>rfl)) aK (λ_ _=>rfl)) (c5 gQ (pv 3) aK (λ_ _=>rfl)) (dg _)))).pt (aR (cQ sF)) eU)))))) (aR (cQ sF)))),?_⟩;try dsimp only[fT]
 refine⟨_,inferInstance,?_⟩;rintro vs M q ⟨p,pat,rfl,⟨h1,h2⟩,hl,k⟩;have sX:(pat.map dI).length=pat.length:=aa _;simp? [↓cP,cR,sX];refine⟨⟨by omega,by omega⟩,kr (λi ρ M'=> ∃o1 o2:Option W,ρ= [some (wi p),some (cR pat),o1,o2] /\ M'=M) ⟨none,none,rfl,rfl⟩ (λ_ _ _ _ _=>trivial) ?_ ?_⟩
 ·rintro i x ρ M' hx ⟨o1,o2,rfl,rfl⟩ N hN;obtain⟨hi,rfl⟩:=oJ hx;have nh:i<pat.length:=by omega
  have ha:mX (pat.map dI) (0+(i:Int))=some (dI pat[i]):=by rw[bP];exact iF (by rw[aA,ae nh];rfl)
  have hz:=h1 pat[i] (bW nh);simp? [↓cP,cR,ha,dI];refine⟨_,rfl,?_⟩;simp? [↓cP];refine⟨_,rfl,?_⟩;simp? [↓cP,hz.1,hz.2,iJ];refine d5 (λh=> ?_) λh=>hN _ _ ⟨_,_,rfl,rfl⟩;have hi1:i - 1<pat.length:=by omega
  have yN:mX (pat.map dI) (0+(i:Int) - 1)=some (dI pat[i - 1]):=by
   have:(0+(i:Int) - 1)=((i - 1:Nat):Int):=by omega
   rw[this];exact iF (by rw[aA,ae hi1];rfl)
  have f6:=bj.mp h2 (i - 1) i hi1 nh (by omega);simp? [↓cP,yN,dI];exact d5 (λh=>by omega) λ_=>hN _ _ ⟨_,_,rfl,rfl⟩
 ·rintro ρ M' ⟨o1,o2,rfl,rfl⟩;simp? [↓cP];exact nj k
theorem G6 (T:Txt K mg A):eh P w K mg base kJ 2 A.Cu A.CK ["_law_p_here","_law_one","_law_other","_law_by","_law_many"] (oz K Xw):=by
 have tR:=uK (P:=P) (w:=w) (base:=base) T;refine rb T.B7.fn xY (by rintro vs M q ⟨p,a,b,y,n,rfl,_⟩;rfl) λeQ A' outer s H E hr=> ?_;have nd:=xY.nd;refine⟨_,(aR (cQ (aY T.Av tR (hr.mono (by decide)) (by rfl) (ab (pv 0) (ab (bQ G2 (dv iw (by rfl) T.gT Boot.«list» (ab (pv 1) aC)) (iC rfl (fq.of (sc:=aQ rH) (N:= ["_law_p_here","_law_one","_law_other","_law_by","_law_many"]) (own:= ["_law_place","_law_setting"]) (fr:= [3,4]) (N':= ["_law_place","_law_setting","_law_by","_law_many"]) rfl rfl rfl (by decide+kernel) rfl (by decide+kernel) (by decide+kernel) (by decide+kernel) (by decide+kernel) (by decide+kernel)) (GC (pv 2)) (λ_ _ _ _=>(qg (n:=2) rfl (fA (cj (i:=0) (by show(["_law_place","_law_setting","_law_by","_law_many"]:List Str).Nodup;decide+kernel) rfl (by first | exact Or.inl rfl | exact Or.inr rfl)) (fA (cj (i:=1) (by show(["_law_place","_law_setting","_law_by","_law_many"]:List Str).Nodup;decide+kernel) rfl (by first | exact Or.inl rfl | exact Or.inr rfl)) me)))) IQ (λ_ _ _ _=>jO) (λ_ _ _ _=>(jt (ab (bQ eX (pv 0) (pv 2)) (ab (bQ ik (pv 1) (pv 3)) aC)))))) aC))))),?_⟩;try dsimp only[fT]
 refine⟨_,inferInstance,?_⟩;rintro vs M q ⟨p,a,b,y,n,rfl,p0,hf,ha,hb,hz,k⟩;simp? [↓cP,cR];intro u hu;simp? [↓cP];refine nT (λx=>match x with | .tup [.v (.int x), .v (.int s)]=>some (.tup [wi (x+y),wi (s*n)]) | _=>none) (by rw[aa];exact big (by omega)) (λ_ _=>trivial) ?_ λt ht=> ?_
 ·intro i x hx M3 N s3 hN;obtain⟨z,qo,rfl⟩:=pairs_at hx;have:=hz z (ai qo);have cm:kK z.2 n=True:=a7 (.inl ⟨by omega,by omega⟩);simp? [↓cP,dI,cm];exact hN
 ·have e:(b.map dI).filterMap (λx=>match x with | .tup [.v (.int x), .v (.int s)]=>some (.tup [wi (x+y),wi (s*n)]) | _=>none)=(wL y n b).map dI:=by rw[tX,wL,aD];exact List.filterMap_eq_map.symm▸rfl
  rw[e];have hut:u≠t:=dG um_same ht;have hs:((a.map dI).length+((wL y n b).map dI).length<=sizeLine)=True:=a7 (big (by rw[aa,aa,wL,aa];omega));simp? [↓cP,aJ hut,hs];intro c hc;simp? [↓cP];refine⟨c,p,a++wL y n b,rfl,by rw[um_same,aN],p0,hf,by rw[aL,wL,aa];omega,?_⟩;exact⟨M,((c4 hu).trans (c4 ht)).trans (c4 hc),k⟩
end
end iA
open PySem L2 WL WP WQ EN PyProof.Rows
namespace iA
open PySem L2 WL WP WQ EN PyProof.Rows
section
variable {P:Program}{w:World}{K:PySem.W.Frag}{mg:Str ->Option Value}{base:Heap}{A:C9}
theorem Ah (T:Txt K mg A):eh P w K mg base kJ 5 A.uZ A.ve ["p","stride","held","row"] (oz K (KH A.fB A.dq)):=by
 have C6:=G5 (P:=P) (w:=w) (base:=base) T;have Ji:=G8 (P:=P) (w:=w) (base:=base) T;have gU:=k8 (P:=P) (w:=w) (base:=base) T;have zr:=Al (P:=P) (w:=w) (base:=base) T;have En:=a7 T.Row.cl;have ES:=a7 T.eC;have V1:=a7 T.fg;have JF:=a7 T.Stair.cl;have XW:=a7 T.d3;have XU:=a7 T.dZ;refine rb T.take_in.fn sk (by rintro vs M q ⟨hd,r,dr,rl,rp,p,s,Z,K',w',KP,pats,a,P,L,rfl,_⟩;rfl) λeQ A' outer s H E hr=> ?_;have nd:=sk.nd;refine⟨_,(aI (bX (i:=4) nd rfl (by first | exact Or.inl rfl | exact Or.inr rfl) (aY T.first_column gU (hr.mono (by decide)) (by rfl) (ab (dv (jy rfl) (by rfl) T.gT Boot.«list» (ab (eg (pv 3) rfl) aC)) (ab (pv 1) aC)))) (aR (Gx cw (cH GY (pv 4) GJ (dg _)) (aI (fP (O4 (Du (fK hr) (pv 4) (pv 2))) (aI (oK (fK hr) (pv 2) (pv 4) (aY T.stood C6 (hr.mono (by decide)) (by rfl) (ab (pv 0) (ab (pv 1) (ab (pv 3) aC)))) rfl) (aR Ku)) eU) (aI (bX (i:=5) nd rfl (by first | exact Or.inl rfl | exact Or.inr rfl) (fJ (fK hr) (pv 2) (pv 4) (λ_ _=>rfl))) (aI (gu (aY T.cut Ji (hr.mono (by decide)) (by rfl) (ab (pv 0) (ab (pv 1) (ab (pv 3) (ab (pv 5) aC)))))) (aI (bX (i:=6) nd rfl (by first | exact Or.inl rfl | exact Or.inr rfl) (aY T.first_column gU (hr.mono (by decide)) (by rfl) (ab (dv (jy rfl) (by rfl) T.gT Boot.«list» (ab (eg (pv 3) rfl) aC)) (ab (pv 1) aC)))) (aI (fP (cH kn (pv 6) (pv 4) (dg _)) (aI (oK (fK hr) (pv 2) (pv 4) (aY T.stood C6 (hr.mono (by decide)) (by rfl) (ab (pv 0) (ab (pv 1) (ab (pv 3) aC)))) rfl) (aR (bX (i:=3) nd rfl (by first | exact Or.inl rfl | exact Or.inr rfl) (oN T.Row zr (hr.mono (by decide)) (by rfl) (ab (eg (pv 5) rfl) (ab (eg (pv 5) rfl) aC)))))) eU) (aR (bX (i:=4) nd rfl (by first | exact Or.inl rfl | exact Or.inr rfl) (pv 6))))))))))),?_⟩;try dsimp only[fT]
 refine⟨_,inferInstance,?_⟩;rintro vs M q ⟨hd,r,dr,rl,rp,p,s,Z,K',w',KP,pats,a,P,L,rfl,hp,s0,s8,lD,z0,k0,w0,T8,xA,aae,aad,Uv,hL,bxa,bxp,mW,k⟩;have P0:tL s Z K' w' KP:=⟨s0,k0,w0,T8,xA⟩
 have Ik: ∀l q:Addr,[(("lamps" :Str),wr l),(("parts" :Str),wr q)].lookup ("lamps" :Str)=some (wr l):=λ_ _=>rfl;have Z1: ∀ (l q:Addr) (f g e:W),[(("lamps" :Str),wr l),(("parts" :Str),wr q),(("first" :Str),f),(("length" :Str),g),(("foot" :Str),e)].lookup ("lamps" :Str)=some (wr l):=λ_ _ _ _ _=>rfl;have Z0: ∀ (l q:Addr) (f g e:W),[(("lamps" :Str),wr l),(("parts" :Str),wr q),(("first" :Str),f),(("length" :Str),g),(("foot" :Str),e)].lookup ("parts" :Str)=some (wr q):=λ_ _ _ _ _=>rfl;have zz:=lD.ins;have yL:=lD.row.lam;have p0:0<p:=by lia
 have hE0:=P0.E0;have hE8:2*K'*s<=16*K':=by have:=aZ s8 (show 0<=2*K' by lia);lia
 have Ts: ∀ {M':Mp} {rl rp:Addr} {a:Pt} {P:Pq} {E:Int},cL p M' rl rp a P ->lx s Z E E a ->0<=E ->E<=2*(w'+16*K')+2*K' ->(eG a).length<=16000000:=λ{_ _ _ _ _ E} row bx e0 e1=>by have:=(bx.wt s0 s8 z0 (aV E) (aV E) e0).len row.ga (by lia);unfold eG;rw[aa];lia
 dsimp? [zz,En,ES,Ik];refine⟨rl,f' a,rfl,yL,λu hu=> ?_⟩;rw[oV];have ua:Sm M (um M u (.lst ((eG a).map wi))):=c4 hu;have tc0:TC A.fB A.dq s p pats M (yO hd L rl rp P) (L.map (·.b)++ [a]) L hd (um M u (.lst ((eG a).map wi))) r dr rl rp a P L:=by obtain⟨i1,i2,i3,i4,i5,i6,i7⟩:=lD;refine⟨⟨ua _ _ i1,⟨ua _ _ i2.vd,λt ht=>(i2.each t ht).keep (fC.sm ua []) (λh=>by cases h) (λ_ _ h=>by cases h),i2.nd,i2.qK,i2.uY⟩,i3.keep (fC.sm ua []) (λ_ _ h=>by cases h),i4,i5,i6,i7⟩,fC.sm ua _,λt ht x hx=> .inl (aw _ (ax.mpr (.inl (eM.mpr ⟨t,ht,hx⟩)))),λx hx=> .inl (aw _ (ax.mpr (.inr hx))),λf hf=>hf,rfl,rfl⟩
 have RD:hd∈yO hd L rl rp P:=aE;have Xu: ∃m,Ph s Z K' w' KP m a P L:=by
  refine⟨mz s Z K' (fR ((eG a).map (bM s))) (K'.toNat+1),λ_ t ht=>(mW t ht).up P0.KY P0.Vz,λc9=>⟨_,rfl, .inl ⟨?_,rfl⟩⟩⟩;have ug:s≠0 ->0<=fR ((eG a).map (bM s)):=λz=>by
   obtain⟨x,_,e⟩:=af.mp (gm (l:=(eG a).map (bM s)) (by simpa using c9)).1;rw[<- e];rcases xj (x:=x) s0 with h | h
   ·exact absurd h z
   ·exact h.1
  have h1:=P0.low ug;have h2:=P0.lowP ug;exact⟨bxa.up h1 h1,bxp.up h2 h2,λt ht _=>mW t ht,λt ht _=>(mW t ht).up P0.KY P0.Vz⟩
 obtain⟨m0,Xu⟩:=Xu;refine sZ um_same (Ts lD.row bxa w0 (by lia)) s0 s8 ?_;dsimp? [];refine J1 (λm ρ M'=> ∃ (o5 o6:Option W) (r dr rl' rp':Addr) (a':Pt) (P':Pq) (L':List e9),ρ= [some (wi p),some (wi s),some (wr hd),some (wr r),some (fW s a'),o5,o6] /\ TC A.fB A.dq s p pats M (yO hd L rl rp P) (L.map (·.b)++ [a]) L hd M' r dr rl' rp' a' P' L' /\ Ph s Z K' w' KP m a' P' L') m0 ⟨none,none,r,dr,rl,rp,a,P,L,rfl,tc0,Xu⟩ ?_;rintro m ρ M' ⟨o5,o6,r1,WV,Rb,Ta,a1,P1,L1,rfl,tc,ph⟩ N hN;have hE:w'+2*K'*s<=2*(w'+2*K'*s):=by lia
 have hEP:KP+s*(w'+2*K'*s+2*K') <=KP+(s+1)*(w'+2*K'*s+2*K'):=by rw[fi,fU];lia
 by_cases c9:eG a1= []
 ·have e1:fW s a1=wn:=ak c9;have n1:Pn wn=true:=rfl;dsimp? [e1];refine⟨rfl,?_⟩;dsimp? [n1,gh];refine nj (k M' L1 tc.lD.held tc.kp tc.fr (λf hf=>(tc.sp f hf).trans λb hb=> ?_) tc.lD.uP (λt ht=>(ph.1 c9 t ht).up hE hEP) (by have:=tc.len;lia) (by rw[tc.key];exact λc hc=>hc));rcases ax.mp hb with hb | hb
  ·exact cX.of hb
  ·rw[ah.mp hb,Kx c9];exact cX.zero
 ·obtain ⟨c,hc,ph⟩:=ph.2 c9;have e1:fW s a1=wi c:=by rw[hc];exact aj c9
  have n1:Pn (wi c)=false:=by show decide (V.int c=V.dS)=false;exact dc (λh=>by cases h)
  have DT:=gm (l:=(eG a1).map (bM s)) (by simpa using c9);rw[<- hc] at DT;have KO:kI s c:=by obtain⟨x,_,e⟩:=af.mp DT.1;rw[<- e];exact xj s0
  have AJ:s≠0 ->0<=c:=λz=>by rcases KO with h | h;(· exact absurd h z);(· exact h.1)
  have Ql:s≠0 ->c+1<=s:=λz=>by rcases KO with h | h;(· exact absurd h z);(· lia)
  have rA:=tc.lD.held.vd;have jc:=tc.lD.row;have HM:=P0.low AJ;have aar:=P0.lowP AJ;have PY:=P0.top Ql;have aaq:=P0.Xf Ql;dsimp? [e1];refine⟨rfl,?_⟩;dsimp? [n1,ly,rA];rw[zN];have hs8:s*(w'+2*K'*s+2*K') <=8*(w'+18*K'):=by have h1:=bg s8 (show 0<=w'+2*K'*s+2*K' by lia);lia
  have hPl:P1.length<=100:=by have:=tc.lD.md.len jc.pU;lia
  have hsz:((mU L1).length<sizeLine)=True:=by unfold mU;rw[aa];exact a7 (uk (by have:=tc.len;lia))
  have aak:a1≠ []:=λe=>c9 (by rw[e];rfl);cases hf:L1.find? (λt=>decide (t.c=c)) with
  | none=>
   have RE:=sj hf;obtain⟨MT,hm⟩:Vs s Z K' w' KP c a1 P1 L1 /\ m=mz s Z K' c (K'.toNat+1):=by
    rcases ph with h | ⟨t,d,h,_⟩
    ·exact h
    ·exact absurd (af.mpr ⟨t,h.mem,h.at_⟩) RE
   have Lr:=tc.lD.ins;have W':=MT.bp.wt jc.pU (aV _) (aV _);dsimp? [Option.map_none,Option.isSome_none,ly];refine⟨r1,WV,Rb,Ta,p,s,a1,P1,(2*eP s K' w' KP c+1).toNat,Z+8*(eA s K' w' c+1),rfl,Lr,hp,s0,s8,jc,aak,MT.bx.wt s0 s8 z0 (aV _) (aV _) (by lia),by lia,by lia,λt ht=>(W' t ht).len (jc.gp t ht) (by lia),by lia,by lia,λM3 o ds ol op b Q f mm tt foot tn ho jG ou mn SA Q6 Nn eb eq EO Lx X3 PU=> ?_⟩;obtain rfl:f=c:=jD.uniq mn.mn DT;have Qk:=EO _ _ rA;dsimp? [Qk,hsz];obtain⟨g1,g2,g3,g4,g5⟩:=tc.new (t':=⟨f,o,ds,ol,op,tt - mm,foot,b,Q⟩) hp RD RE EO ho jG ou SA Q6 eb eq Lx PU (Kt rfl RE);refine nj (k _ _ g1 g2 g3 g4 g5 (λu hu=> ?_) (by rw[aL,cY,tc.len];exact aq _) (λc hc=>by rw[aN];exact ax.mpr (.inl (by rw[tc.key];exact hc))));rcases ax.mp hu with hu | hu
   ·rcases dX u.c f with q | q
    ·exact(MT.lt u hu q).up hE hEP
    ·exact(MT.ge u hu q).up (by have:=P0.KY;lia) (by have:=P0.Vz;lia)
   ·rw[ah.mp hu];have b1:=HI MT.bx jc.ga mn.lo;have b2:=HI MT.bx jc.ga mn.hi;exact⟨(MT.bx.stood eb λz=>Nm mn.lo z).up (by lia) (by lia),by show tt - mm<=_;lia,(MT.bp.stood (s:=s) eq).up (by lia) (by lia)⟩
  | some t=>
   obtain⟨rn,AH⟩:=nC hf;have st:=tc.lD.held.each t rn;have stI:=st.ins;have l0:=st.ou.l0;have ou:=st.ou;rw[AH] at ou;obtain⟨tK,bxr,bxt,bpr,bqt,rq,f6,hmm⟩:t.len<=K' /\ lx s Z (eA s K' w' c+2*K') (eA s K' w' c+2*K') a1 /\ lx s Z (eA s K' w' c+2*K' - t.len) (eA s K' w' c+2*K' - t.len) t.b /\ qy s (eP s K' w' KP c+(w'+2*K'*s)+2*K') (eP s K' w' KP c+(w'+2*K'*s)+2*K') P1 /\ qy s (eP s K' w' KP c+(w'+2*K'*s)+2*K' - t.len) (eP s K' w' KP c+(w'+2*K'*s)+2*K' - t.len) t.Q /\ (∀u∈L1,c<u.c ->rE s Z K' KP u) /\ (∀u∈L1,u.c<c ->rE s Z (w'+2*K'*s) (KP+s*(w'+2*K'*s+2*K')) u) /\ ∃q:Nat,m=mz s Z K' c q /\ t.len.toNat<=q:=by
    rcases ph with⟨h,e⟩ | ⟨t2,d,h,e⟩
    ·have f:=h.ge t rn (by lia);have:=f.len;exact⟨this,h.bx.up (by lia) (by lia),f.bx.up (by lia) (by lia),h.bp.up (by lia) (by lia),f.bp.up (by lia) (by lia),λu hu q=>h.ge u hu (by lia),h.lt,_,e,by lia⟩
    ·obtain rfl:t2=t:=ip tc.lD.held.nd h.mem rn (h.at_.trans AH.symm);have h1:=h.shr;have h2:=h.dk;exact⟨by lia,h.bx.up (by lia) (by lia),h.bt.up (by lia) (by lia),h.bp.up (by lia) (by lia),h.bq.up (by lia) (by lia),h.gt,h.lt,_,e,aq _⟩
   obtain⟨q0,hm,hq0⟩:=hmm;have W':=bpr.wt jc.pU (aV _) (aV _);have W8:=bqt.wt st.row.pU (show _<=eP s K' w' KP c+(w'+2*K'*s)+2*K' by lia) (by lia);have hQl:t.Q.length<=100:=by have:=(tc.lD.uP t rn).len st.row.pU;lia
   dsimp? [pK,RP,gh];have hv:fu (mU L1) (.inl c)=some (wr t.o):=by rw[zN,hf];rfl
   dsimp? [rA,hv];have wa:=bxr.wt s0 s8 z0 (aV _) (aV _) (by lia);have VH:=bxt.wt s0 s8 z0 (show _<=eA s K' w' c+2*K' by lia) (show _<=eA s K' w' c+2*K' by lia) (by lia);refine⟨r1,Rb,Ta,t.o,t.ds,t.ol,t.op,p,s,t.c,t.len,t.foot,a1,t.b,P1,t.Q,eP s K' w' KP c+(w'+2*K'*s)+2*K',eP s K' w' KP c+(w'+2*K'*s)+2*K',Z+8*(eA s K' w' c+2*K'+1),Z+8*(eA s K' w' c+2*K'+1),rfl, .inl ⟨_,tc.lD.ins⟩,stI,hp,s0,s8,by lia,st.ou,jc,st.row,λx hx=>tc.lD.qK t rn x hx,wa,VH,by lia,by lia,by lia,by lia,W',W8,by lia,by lia,by lia,by lia,by lia,λM2 c1 P2 js mS ec ep ej Ec va ew K9 Ly OQ UM HN EV Rx=> ?_⟩;rw[AH] at Ec va;obtain⟨ms,pV,Nr,EV,NA⟩:=EV;rw[AH] at pV;have xx:=tc.cut rn mS ec ep K9 Ly HN;obtain⟨la,lp,d,Rw,YF⟩: ∃la lp,A5 s Z K' w' KP c c1 P2 t la lp /\ la<=eA s K' w' c+2*K' - t.len /\ lp<=eP s K' w' KP c+(w'+2*K'*s)+2*K' - t.len:=by
    rcases ph with⟨h,e⟩ | ⟨t2,d,h,e⟩
    ·exact⟨_,_,h.cut P0 AJ Ql rn AH l0 jc.ga pV Nr NA ej ec ep Ec,by lia,by lia⟩
    ·obtain rfl:t2=t:=ip tc.lD.held.nd h.mem rn (h.at_.trans AH.symm);exact⟨_,_,h.cut P0 l0 jc.ga pV Nr NA ej ec ep Ec,aV _,aV _⟩
   have Cn: ∀u∈L1,u.c=c ->rE s Z (w'+2*K'*s) (KP+s*(w'+2*K'*s+2*K')) u:=λu hu e=>by obtain rfl:u=t:=ip tc.lD.held.nd hu rn (e.trans AH.symm);exact⟨bxt.up (by lia) (by lia),by lia,bqt.up (by lia) (by lia)⟩
   have ge2: ∀x∈eG c1,c<=bM s x:=λx hx=>by have h1:=eD mS.ga hx;refine au λhn=> ?_;rw[va x (by lia)] at h1;have:=DT.2 _ (af.mpr ⟨x,cJ (show look a1 x≠0 by lia),rfl⟩);lia
   have Le:=xx.lD.ins;have UG:=mS.lam;have hd2:=xx.lD.held.vd;dsimp? [Le,En,ES,Ik];refine⟨Rb,f' c1,rfl,UG,λu hu=> ?_⟩;rw[oV];refine sZ um_same (Ts mS (d.bx.up (show la<=eA s K' w' c+2*K' by lia) (show la<=eA s K' w' c+2*K' by lia)) (by lia) (by lia)) s0 s8 ?_;have Jr:=xx.sm (c4 (o:= .lst ((eG c1).map wi)) hu);have uc:=Jr.lD.row;have XX:0<m:=by
    rw[hm];unfold mz;have h1:0<ud s Z c:=by
     unfold ud;by_cases z:s=0
     ·obtain⟨x,hx,e⟩:=af.mp DT.1;have h2:=bxr.2 z x (by have:=eD jc.ga hx;lia);have h3:bM s x=x:=by unfold bM;rw[ak z]
      rw[ak z];lia
     ·have:=Ql z;rw[aj z];lia
    have:=Nat.mul_pos h1 (show 0<K'.toNat+2 by lia);lia
   generalize um M2 u (.lst ((eG c1).map wi))=M3 at Jr uc ⊢;have Wf:=Jr.lD.ins;have Qk:=Jr.lD.held.vd;by_cases DS:eG c1= []
   ·have e2:fW s c1=wn:=ak DS;dsimp? [e2];refine⟨V.dS,V.int c,rfl,rfl,rfl,?_⟩;have e3:decide (V.dS=V.int c)=false:=dc (λh=>by cases h);dsimp? [e3];exact hN 0 _ _ XX ⟨_,_,r1,WV,Rb,Ta,c1,P2,L1,by rw[e2],Jr,λ_=>LP P0 rq f6 Cn,λh=>absurd DS h⟩
   ·have e2:fW s c1=wi (fR ((eG c1).map (bM s))):=aj DS;have HL:=gm (l:=(eG c1).map (bM s)) (by simpa using DS);obtain⟨c2,RF⟩: ∃c2,c2=fR ((eG c1).map (bM s)):=⟨_,rfl⟩
    rw[<- RF] at e2 HL;have hle:c<=c2:=by obtain⟨x,hx,e⟩:=af.mp HL.1;rw[<- e];exact ge2 x hx
    dsimp? [e2];refine d5 (λe3=> ?_) λe3=> ?_
    ·have aaf:c1≠ []:=λe=>DS (by rw[e];rfl);have W9:=d.bp.wt uc.pU (show lp<=eP s K' w' KP c+(w'+2*K'*s)+2*K' by lia) (show lp<=eP s K' w' KP c+(w'+2*K'*s)+2*K' by lia);have aaQ:P2.length<=100:=by have:=Jr.lD.md.len uc.pU;lia
     dsimp? [];refine⟨r1,WV,Rb,Ta,p,s,c1,P2,(2*(eP s K' w' KP c+(w'+2*K'*s)+2*K')+1).toNat,Z+8*(eA s K' w' c+2*K'+1),rfl,Wf,hp,s0,s8,uc,aaf,d.bx.wt s0 s8 z0 (show la<=eA s K' w' c+2*K' by lia) (by lia) (by lia),by lia,by lia,λt ht=>(W9 t ht).len (uc.gp t ht) (by lia),by lia,by lia,λM4 o ds ol op b Q f mm tt foot tn ho jG SU mn SA Q6 Nn eb eq S3 QB X3 PU=> ?_⟩;obtain rfl:f=c:=(jD.uniq mn.mn HL).trans e3;have hd4:=S3 _ _ Qk;dsimp? [hd4,hsz];rw[Ks (t:=⟨f,o,ds,ol,op,tt - mm,foot,b,Q⟩) (af.mpr ⟨t,rn,AH⟩)];have qB:=(Jr.lD.held.each t rn).ins;have nth:t.o≠hd:=λe=>by rw[e,Qk] at qB;cases qB
     have gA:=S3 _ _ qB;rw[vO];dsimp? [aJ nth,gA,JF,XW,XU,Z1,Z0];intro r' dx nM RA Y2;refine⟨r',dx,wr t.ol,wr t.op,rfl,um_same,rfl,?_⟩;rw[um_um];have tc5:=Jr.turn (t:=t) (t':=⟨f,o,ds,ol,op,tt - mm,foot,b,Q⟩) (r':=r') (dx:=dx) hp RD rn AH.symm S3 ho jG SU SA Q6 eb eq QB PU rfl nM;dsimp? [];have YX:=QF (s:=s) (p:=p) ou (by lia) (Jr.lD.held.each t rn).row.ga;have DU:(⟨f,o,ds,ol,op,tt - mm,foot,b,Q⟩:e9)∈iH L1 ⟨f,o,ds,ol,op,tt - mm,foot,b,Q⟩:=oB (af.mpr ⟨t,rn,AH⟩);have ph2:=d.turn (L:=L1) (t':=⟨f,o,ds,ol,op,tt - mm,foot,b,Q⟩) Rw YF tK mn uc.ga rfl rfl ou (λz=>Nm mn.lo z) bxt bqt eb eq rq f6 DU;refine hN (mz s Z K' f (tt - mm).toNat) _ _ ?_ ⟨_,_,r',dx,t.ol,t.op,t.b,t.Q,iH L1 ⟨f,o,ds,ol,op,tt - mm,foot,b,Q⟩,by rw[YX.1,e3],tc5,λh=>absurd h YX.2.1,λ_=>⟨f,YX.2.2, .inr ⟨_,_,ph2,rfl⟩⟩⟩;rw[hm];have h1:tt - mm<t.len:=ph2.shr;have h2:=SU.l0;unfold mz;lia
    ·dsimp? [];have yJ:c<c2:=by lia
     refine hN (mz s Z K' c2 (K'.toNat+1)) _ _ ?_ ⟨_,_,r1,WV,Rb,Ta,c1,P2,L1,by rw[e2],Jr,λh=>absurd h DS,λ_=>⟨c2,RF, .inl ⟨d.on P0 (by lia) (by lia) yJ rq f6 Cn,rfl⟩⟩⟩;rw[hm];refine TX (Kp yJ Ql λz=> ?_) (aq _);obtain⟨x,hx,e⟩:=af.mp DT.1;have h2:=bxr.2 z x (by have:=eD jc.ga hx;lia);have h3:bM s x=x:=by unfold bM;rw[ak z]
     lia
end
end iA
open PySem L2 WL WP WQ EN PyProof.Rows
namespace iA
open PySem L2 WL WP WQ EN PyProof.Rows
section
variable {P:Program}{w:World}{K:PySem.W.Frag}{mg:Str ->Option Value}{base:Heap}{A:C9}
theorem Ai (T:Txt K mg A):eh P w K mg base kJ 4 A.u4 A.vf ["p","stride","held"] (oz K (KI A.fB A.dq)):=by
 have Ji:=G8 (P:=P) (w:=w) (base:=base) T;refine rb T.lie_low.fn sq (by rintro vs M q ⟨hd,p,s,Z,E',EP,Λ,pats,L,rfl,_⟩;rfl) λeQ A' outer s H E hr=> ?_;have nd:=sq.nd;refine⟨_,(aI (bX (i:=3) nd rfl (by first | exact Or.inl rfl | exact Or.inr rfl) (cA (fY rfl) (by rfl) T.jz Boot.«sorted» (ab (pv 2) aC))) (aR (ij cw rfl (Dq (by rfl) T.jW (ab (bQ ka (cA gE (by rfl) T.qP Boot.«len» (ab (pv 3) aC)) aK) (ab (oM kM aK) (ab (oM kM aK) aC)))) (cj (i:=4) nd rfl (by first | exact Or.inl rfl | exact Or.inr rfl)) (aR (ij cw rfl (fI (yk By (pv 3) (BK (bQ eX (pv 4) aK)) BL)) (cj (i:=5) nd rfl (by first | exact Or.inl rfl | exact Or.inr rfl)) (aR (gu (aY T.cut Ji (hr.mono (by decide)) (by rfl) (ab (pv 0) (ab (pv 1) (ab (fJ (fK hr) (pv 2) (c5 cK (pv 3) (pv 4) (λ_ _=>rfl)) (λ_ _=>rfl)) (ab (fJ (fK hr) (pv 2) (pv 5) (λ_ _=>rfl)) aC)))))))))))),?_⟩;try dsimp only[fT]
 refine⟨_,inferInstance,?_⟩;rintro vs M q ⟨hd,p,s,Z,E',EP,Λ,pats,L,rfl,hp,s0,s8,gi,uP,mW,z0,e0,ep0,Uv,hL,hΛ,aae,aad,k⟩;have rA:=gi.vd;dsimp? [rA];refine⟨hd,mU L,L.map (·.c),rfl,rA,by unfold mU;rw[aD,aD];rfl,big (by rw[aa];lia),λu cs hu c6 iU=> ?_⟩;have rB:cs.length=L.length:=by rw[c6.length_eq,aa]
 have f6:=uC iU (c6.nodup_iff.mpr gi.nd);have ua:Sm M (um M u (.lst (cs.map wi))):=c4 hu;have ll0:LL A.dq s p pats M L hd (um M u (.lst (cs.map wi))) L:=(LL.init gi uP).sm ua;have Lp: ∀c,0<=gP L c:=λc=>by
  unfold gP;cases e:L.find? (λt=>decide (t.c=c)) with
  | none=>exact aV _
  | some t=>exact((gi.each t (nC e).1).ou).l0
 have Lo: ∀l:List Int, ∀x∈l.map (gP L),0<=x:=λl x hx=>by obtain⟨c,_,rfl⟩:=af.mp hx;exact Lp c
 have aaD:kN (cs.map (gP L)) <=Λ:=by rw[xV (c6.map (gP L)),Hi gi.nd];exact hΛ
 have hΛ0:0<=Λ:=by have:=oA (Lo cs) 0;lia
 have e0Λ:0<=E'+Λ:=by lia
 have Vw: ∀i:Nat,i<=13 ->0<=(i:Int)*(E'+Λ) /\ (i:Int)*(E'+Λ) <=13*(E'+Λ):=λi hi=>⟨dz (by lia) e0Λ,bg (by lia) e0Λ⟩
 have Vu: ∀i:Nat,((i+1:Nat):Int)*(E'+Λ)=i*(E'+Λ)+(E'+Λ):=λi=>by push_cast;rw[fi,fU]
 have sY: ∀ {c:Int},c∈cs ->c∈L.map (·.c):=λh=>c6.mem_iff.mp h;have HQ: ∀ {c:Int},c∈L.map (·.c) -> ∃j,cs[j]? =some c:=λh=>bA.mp (c6.mem_iff.mpr h);dsimp? [um_same,aa,jRng3_e];refine⟨(cs.length:Int) - 1, -1, -1,rfl,⟨by decide,by decide,by lia,by decide⟩,?_⟩;rw[ye];refine kr (λi ρ M'=> ∃ (o4 o5:Option W) (L':List e9),ρ= [some (wi p),some (wi s),some (wr hd),some (wr u),o4,o5] /\ M' u=some (.lst (cs.map wi)) /\ LL A.dq s p pats M L hd M' L' /\(∀t∈L', ∀j:Nat,cs[j]? =some t.c ->(j+i<cs.length ->rE s Z E' EP t) /\ (cs.length<=j+i ->lx s Z (E'+i*(E'+Λ)) (E'+i*(E'+Λ)) t.b /\ qy s (EP+i*(E'+Λ)) (EP+i*(E'+Λ)) t.Q /\ ∀v∈L',t.c<v.c ->tO s v.c v.len t.b))) ⟨none,none,L,rfl,um_same,ll0,λt ht j hj=>⟨λ_=>mW t ht,λh=>by have:=(ag.mp hj).1;lia⟩⟩ (λ_ _ _ _ _=>trivial) ?_ ?_
 ·rintro i x ρ M' hx ⟨o4,o5,L',rfl,Lw,ll,NK⟩ N hN;obtain⟨hi,rfl⟩:=step_at hx;obtain⟨j0,Jz⟩: ∃j0:Nat,(j0:Int)=(cs.length:Int) - 1+(i:Int)* -1:=⟨cs.length - 1 - i,by lia⟩
  rw[<- Jz];have hj1:j0+i+1=cs.length:=by lia
  obtain⟨c0,AJ⟩: ∃c0,cs[j0]? =some c0:=⟨_,ae (by lia)⟩
  have Z7:AV (cs.map wi) (some ((j0:Int)+1)) none=(cs.drop (j0+1)).map wi:=by rw[show(j0:Int)+1=((j0+1:Nat):Int) by push_cast;rfl,Iz,tP]
  obtain⟨u0,hu0,Uo⟩:=ll.get (sY (ai AJ));have QE:=(NK u0 hu0 j0 (by rw[Uo];exact AJ)).1 (by lia);have Ni:=Vw i (by lia);have Ni1:=Vu i;dsimp? [Lw];intro v hv;rw[Z7];dsimp? [];have XF:u≠v:=dG Lw hv;have MB:Sm M' (um M' v (.lst ((cs.drop (j0+1)).map wi))):=c4 hv;refine kr (λk ρ M2=> ∃ (o5:Option W) (L1:List e9) (uu:e9),ρ= [some (wi p),some (wi s),some (wr hd),some (wr u),some (wi j0),o5] /\ M2 u=some (.lst (cs.map wi)) /\ M2 v=some (.lst ((cs.drop (j0+1)).map wi)) /\ LL A.dq s p pats M L hd M2 L1 /\ uu∈L1 /\ uu.c=c0 /\ (∀t∈L1,t.c≠c0 ->t∈L') /\ (∀t∈L',t.c≠c0 ->t∈L1) /\(∀ (q:Nat) d,q<k ->(cs.drop (j0+1))[q]? =some d ->tO s d (gP L d) uu.b) /\ (∀ (q:Nat) d,k<=q ->(cs.drop (j0+1))[q]? =some d ->L6 s d (E'+kN (((cs.drop (j0+1)).take k).map (gP L))+gP L d) uu.b) /\lx s Z (E'+i*(E'+Λ)+(E'+Λ)) (E'+i*(E'+Λ)+(E'+Λ)) uu.b /\ qy s (EP+i*(E'+Λ)+(E'+Λ)) (EP+i*(E'+Λ)+(E'+Λ)) uu.Q) ⟨_,L',u0,rfl,by rw[aJ XF];exact Lw,um_same,ll.sm MB,hu0,Uo,λt ht _=>ht,λt ht _=>ht,λq d h=>absurd h (pL q),λq d _ mV x hx c9=> ?_,QE.bx.up (by lia) (by lia),QE.bp.up (by lia) (by lia)⟩ ?_ ?_ ?_
  ·have h1:=QE.bx.1 x c9;have h2:=Lp d;show -(E'+0+gP L d) <=_ /\ _<=E'+0+gP L d;lia
  ·rintro k ρ M2 _ ⟨o5,L1,uu,rfl,h1,h2,_⟩;exact h2
  ·rintro k x ρ M2 hx ⟨o5,L1,uu,rfl,h1,h2,zy,Nl,Rr,Rt,ND,HM,ug,Qm,Ws⟩ N2 Za;obtain⟨d,UT,rfl⟩:=sW hx;have RC:cs[j0+1+k]? =some d:=by rw[dQ] at UT;exact UT
   have aaN:=(ag.mp RC).1;have DY:c0<d:=jf f6 AJ RC (by lia);obtain⟨t,rn,AH⟩:=zy.get (sY (ai RC));have Yk:=Rt t rn (by lia);have Up:=(NK t Yk (j0+1+k) (by rw[AH];exact RC)).2 (by lia);have su:=zy.held.each uu Nl;have st:=zy.held.each t rn;have Wr:=zy.held.vd;have Y8:mX (cs.map wi) (j0:Int)=some (wi c0):=iF (by rw[aA,AJ];rfl);have Um:fu (mU L1) (.inl c0)=some (wr uu.o):=by rw[<- Rr];exact zM zy.held.nd Nl
   have Ul:fu (mU L1) (.inl d)=some (wr t.o):=by rw[<- AH];exact zM zy.held.nd rn
   have tln:t.len=gP L d:=by rw[<- AH];exact zy.gP gi.nd rn
   have hS:=oA (Lo (cs.drop (j0+1))) (k+1);have hSk:kN (((cs.drop (j0+1)).take (k+1)).map (gP L))=kN (((cs.drop (j0+1)).take k).map (gP L))+gP L d:=by rw[bD,UT];show kN (((cs.drop (j0+1)).take k++ [d]).map (gP L))=_;rw[aN];exact F1 _ _
   have hS0:=oA (Lo (cs.drop (j0+1))) k;rw[<- mP] at hS hS0;have hSd:kN ((cs.drop (j0+1)).map (gP L)) <=Λ:=by have:=F2 (Lo cs) (j0+1);rw[<- tP] at this;lia
   have aaL:=Lp d;generalize hSS:kN (((cs.drop (j0+1)).take k).map (gP L))=Sk at hSk hS0 ug;have hQ1:uu.Q.length<=100:=by have:=(zy.uP uu Nl).len su.row.pU;lia
   have hQ2:t.Q.length<=100:=by have:=(zy.uP t rn).len st.row.pU;lia
   dsimp? [h1,Y8,Wr,Um,Ul];refine⟨uu.o,uu.ol,uu.op,t.o,t.ds,t.ol,t.op,p,s,t.c,t.len,t.foot,uu.b,t.b,uu.Q,t.Q,EP+i*(E'+Λ)+(E'+Λ),EP+i*(E'+Λ)+(E'+Λ),Z+8*(E'+i*(E'+Λ)+(E'+Λ)+1),Z+8*(E'+i*(E'+Λ)+(E'+Λ)+1),rfl, .inr ⟨_,_,_,_,su.ins⟩,st.ins,hp,s0,s8,by lia,st.ou,su.row,st.row,xc zy.held Nl rn (by lia),Qm.wt s0 s8 z0 (aV _) (aV _) (by lia),Up.1.wt s0 s8 z0 (by lia) (by lia) (by lia),by lia,by lia,by lia,by lia,Ws.wt su.row.pU (aV _) (aV _),Up.2.1.wt st.row.pU (by lia) (by lia),by lia,by lia,by lia,by lia,by lia,λM3 c1 P2 js mS ec ep ej Ec va ew K9 Ly OQ UM HN EV Rx=> ?_⟩;obtain⟨ms,pV,Nr,EV,NA⟩:=EV;have ll2:=zy.cut Nl rn (by lia) mS ec ep va K9 Ly HN;rw[AH] at Ec va pV;have UZ:=ug k d (aq _) UT;have hj:=zV (f:=d) (bl:= -(E'+Sk+gP L d)) (bh:=E'+Sk+gP L d) st.ou.l0 Nr (pV.nodup_iff.mpr (mD su.row.ga.1 s0)) (λm hm=>by obtain⟨x,hx,e1⟩:=af.mp (pV.mem_iff.mp hm);have:=UZ x (by simpa using(aP.mp hx).2) (by have:=eD su.row.ga (aP.mp hx).1;lia);lia) NA;have Jy: ∀j∈js, -(E'+Sk+gP L d) <=j.1 /\ j.1<=E'+Sk:=λj jH=>by have:=hj j jH;lia
   have nl: ∀ {y:Addr} {l:List W},M2 y=some (.lst l) ->M3 y=some (.lst l):=λe=>K9 _ _ e λhx=>by obtain⟨kvs,e2⟩:=su.row.mem hx;rw[e] at e2;cases e2
   have jE:uu.c∈L1.map (·.c):=af.mpr ⟨uu,Nl,rfl⟩;refine Za _ _ ⟨_,iH L1 (uu.E9 c1 P2),uu.E9 c1 P2,rfl,nl h1,nl h2,ll2,oB jE,Rr,λt' pd ne=> ?_,λt' pd ne=>l9 (ND t' pd ne) (λz=>ne (z.trans Rr)),λq d' hq mV x hx c9=> ?_,λq d' hq mV=> ?_,Qm.cut Up.1 ec Jy ej (by lia) (by lia) (by lia) (by lia),Ws.cut Up.2.1 ep Jy (by lia) (by lia) (by lia) (by lia)⟩
   ·rcases eY pd with e | ⟨e,_⟩
    ·exact absurd (by rw[e];exact Rr) ne
    ·exact Rt t' e ne
   ·rcases dU q k with z | z
    ·have h3:d'<d:=jf f6 (by rw[dQ] at mV;exact mV) RC (by lia);have UA:look c1 x≠0:=c9;rw[va x (by lia)] at UA;exact HM q d' z mV x hx UA
    ·have:q=k:=by lia
     subst this;rw[UT] at mV;cases mV;rw[<- tln];exact Ec x hx c9
   ·have UW:cs[j0+1+q]? =some d':=by rw[dQ] at mV;exact mV
    have h3:d<d':=jf f6 RC UW (by lia);obtain⟨v',wX,hvc⟩:=ll.get (sY (ai UW));have h4:=Up.2.2 v' wX (by lia);rw[hvc,show v'.len=gP L d' by rw[<- hvc];exact ll.gP gi.nd wX] at h4;have:=Lp d';rw[hSk];exact(ug q d' (by lia) mV).cut h4 ec Jy ej (by lia) (by lia) (by lia)
  ·rintro ρ M2 ⟨o5,L1,uu,rfl,h1,h2,zy,Nl,Rr,Rt,ND,HM,_,Qm,Ws⟩;rw[aa] at HM;refine hN _ _ ⟨_,_,L1,rfl,h1,zy,λt ht j hj=>⟨λh=> ?_,λh=> ?_⟩⟩
   ·have ne:t.c≠c0:=λe=>by rw[e] at hj;have:=jf f6 hj AJ (by lia);lia
    exact(NK t (Rt t ht ne) j hj).1 (by lia)
   ·rw[Ni1];by_cases e:t.c=c0
    ·have:t=uu:=ip zy.held.nd ht Nl (e.trans Rr.symm);subst this;refine⟨Qm.up (by lia) (by lia),Ws.up (by lia) (by lia),λv' wX UC=> ?_⟩;obtain⟨j',jH⟩:=HQ (show v'.c∈L.map (·.c) by rw[<- zy.key];exact af.mpr ⟨v',wX,rfl⟩);have h4:=DP f6 AJ jH (by lia);have h5:=(ag.mp jH).1;rw[zy.gP gi.nd wX];exact HM (j' - (j0+1)) v'.c (by rw[fL];lia) (by rw[dQ,show j0+1+(j' - (j0+1))=j' by lia];exact jH)
    ·have Jy:j≠j0:=λz=>e (by rw[z,AJ] at hj;cases hj;rfl);have h4:=(NK t (Rt t ht e) j hj).2 (by lia);refine⟨h4.1.up (by lia) (by lia),h4.2.1.up (by lia) (by lia),λv' wX UC=> ?_⟩;have rq:=jf f6 AJ hj (by lia);exact h4.2.2 v' (Rt v' wX (by lia)) UC
 ·rintro ρ M' ⟨o4,o5,L',rfl,Lw,ll,NK⟩;rw[xR,show((cs.length:Int) - 1 - -1).toNat=cs.length by lia] at NK;refine nj (k M' L' ll (λt ht v hv h=> ?_) λt ht=> ?_)
  ·obtain⟨j,hj⟩:=HQ (show t.c∈L.map (·.c) by rw[<- ll.key];exact af.mpr ⟨t,ht,rfl⟩);exact((NK t ht j hj).2 (by lia)).2.2 v hv h
  ·obtain⟨j,hj⟩:=HQ (show t.c∈L.map (·.c) by rw[<- ll.key];exact af.mpr ⟨t,ht,rfl⟩);have:=(NK t ht j hj).2 (by lia);rw[rB] at this;exact⟨this.1,this.2.1⟩
end
end iA
open PySem L2 WL WP WQ EN PyProof.Rows
namespace iA
open PySem L2 WL WP WQ EN PyProof.Rows
section
variable {P:Program}{w:World}{K:PySem.W.Frag}{mg:Str ->Option Value}{base:Heap}{A:C9}
theorem G9 (T:Txt K mg A):eh P w K mg base kJ 6 A.Cw A.CM ["p","stride","patterns"] (oz K Pd):=by
 have ED:=Ah (P:=P) (w:=w) (base:=base) T;have EE:=Ai (P:=P) (w:=w) (base:=base) T;have zr:=Al (P:=P) (w:=w) (base:=base) T;have QY:=KQ (P:=P) (w:=w) (base:=base) T;have xq:=uf (P:=P) (w:=w) (base:=base) T;have JF:=a7 T.Stair.cl;have XW:=a7 T.d3;have XU:=a7 T.dZ;refine rb T.built.fn ya (by rintro vs M q ⟨u,p,s,Z,w',pats,rfl,_⟩;rfl) λeQ A' outer s H E hr=> ?_;have nd:=ya.nd;refine⟨_,(aI (bX (i:=3) nd rfl (by first | exact Or.inl rfl | exact Or.inr rfl) km) (aI (ij cw rfl (GG rfl (by rfl) T.zh (ab (pv 2) aC)) (qg (n:=2) rfl (fA (cj (i:=4) nd rfl (by first | exact Or.inl rfl | exact Or.inr rfl)) (fA (cj (i:=5) nd rfl (by first | exact Or.inl rfl | exact Or.inr rfl)) me))) (aI (gu (aY T.take_in ED (hr.mono (by decide)) (by rfl) (ab (pv 0) (ab (pv 1) (ab (pv 3) (ab (oN T.Row zr (hr.mono (by decide)) (by rfl) (ab (dv (nU rfl) (by rfl) T.QM Boot.«dict» (ab (pv 5) aC)) (ab (yl (pv 4) (yl aK aK)) aC))) aC)))))) (aR (gu (aY T.lie_low EE (hr.mono (by decide)) (by rfl) (ab (pv 0) (ab (pv 1) (ab (pv 3) aC)))))))) (aI (bX (i:=6) nd rfl (by first | exact Or.inl rfl | exact Or.inr rfl) (cA (fY rfl) (by rfl) T.jz Boot.«sorted» (ab (pv 3) aC))) (aI (bX (i:=7) nd rfl (by first | exact Or.inl rfl | exact Or.inr rfl) (dv lX (by rfl) T.kW Boot.«tuple» (ab (iC rfl (fq.of (sc:=aQ oH) (N:= ["p","stride","patterns","held","which","pattern","firsts","stairs"]) (own:= ["first"]) (fr:= [0,3]) (N':= ["first","p","held"]) rfl rfl rfl (by decide+kernel) rfl (by decide+kernel) (by decide+kernel) (by decide+kernel) (by decide+kernel) (by decide+kernel)) (fI (pv 6)) (λ_ _ _ _=>(cj (i:=0) (by show(["first","p","held"]:List Str).Nodup;decide+kernel) rfl (by first | exact Or.inl rfl | exact Or.inr rfl))) fX (λ_ _ _ _=>jO) (λ_ _ _ _=>(aY T.tidy QY (hr.mono (by decide)) (by rfl) (ab (pv 1) (ab (Ds (by rfl) T.gT rfl (BQ (K:=K) rfl (fJ (fK hr) (pv 2) (pv 0) (λ_ _=>rfl)) rfl)) aC))))) aC))) (aR (cQ (jt (ab (pv 7) (ab (iC rfl (fq.of (sc:=aQ oH) (N:= ["p","stride","patterns","held","which","pattern","firsts","stairs"]) (own:= ["first"]) (fr:= [0,3]) (N':= ["first","p","held"]) rfl rfl rfl (by decide+kernel) rfl (by decide+kernel) (by decide+kernel) (by decide+kernel) (by decide+kernel) (by decide+kernel)) (fI (pv 6)) (λ_ _ _ _=>(cj (i:=0) (by show(["first","p","held"]:List Str).Nodup;decide+kernel) rfl (by first | exact Or.inl rfl | exact Or.inr rfl))) fX (λ_ _ _ _=>jO) (λ_ _ _ _=>(aY T.told_parts xq (hr.mono (by decide)) (by rfl) (ab (pv 1) (ab (BQ (K:=K) rfl (fJ (fK hr) (pv 2) (pv 0) (λ_ _=>rfl)) rfl) (ab aK aC)))))) aC))))))))),?_⟩;try dsimp only[fT]
 refine⟨_,inferInstance,?_⟩;rintro vs M q ⟨u,p,s,Z,w',pats,rfl,hu,PP,k⟩;have hp:=PP.hp;have p0:0<p:=by lia
 have s0:=PP.s0;have s8:=PP.s8;have hp8:=PP.len;have aaB:=PP.w60;have Rm:=PP.z1;have AG:=PP.z0;dsimp? [];intro hd Wq;have nuh:u≠hd:=dG hu Wq;dsimp? [aJ nuh,hu,Hx];rw[show MO.dK []=MO.dK (mU []) from rfl];refine kr (λi ρ M'=> ∃ (o4 o5:Option W) (L:List e9) (bs:List Pt),ρ= [some (wi p),some (wi s),some (wr u),some (wr hd),o4,o5,none,none] /\ W6 A.dq s p Z w' pats i M' hd L bs /\ Sm M M' /\ ∀t∈L, ∀x∈t.adr,M x=none) ⟨none,none,[],[],rfl,⟨⟨um_same,(λt h=>by cases h),lg,List.Pairwise.nil,(λt h=>by cases h)⟩,(λt h=>by cases h),(λt h=>by cases h),(λt h=>by cases h),⟨rfl,λ_ J _ i hi=>absurd hi (pL i),(λt h=>by cases h)⟩,(λ_ t h=>by cases h),(λt h=>by cases h),(λt h=>by cases h),aq _⟩,c4 Wq,(λt h=>by cases h)⟩ ?_ ?_ ?_
 ·rintro i ρ M' _ ⟨o4,o5,L,bs,rfl,_,sm,_⟩;exact sm _ _ hu
 ·rintro i x ρ M' hx ⟨o4,o5,L,bs,rfl,B,sm,ZW⟩ N hN;obtain⟨y,hy,rfl⟩:=LC hx;obtain⟨st,mE,rfl⟩:=nK hy;obtain⟨Yr,Qm⟩:=PP.pat st (ai mE);have Zg:=qh Yr;have JA:=(ag.mp mE).1;have hsl:=(Qm.wt s0 s8 AG (aV _) (aV _) (by lia)).len Zg (by lia);have rA:=B.held.vd;dsimp? [];rw[vO];dsimp? [];refine⟨O5 st,by rw[KG],by rw[O5,aa];lia,λe1 US=> ?_⟩;rw[LD st Zg.1];dsimp? [Fq];intro q1 Yq q2 Wg;have ET:e1≠q1:=dG um_same Yq;have V3:e1≠q2:=dG (by rw[aJ ET];exact um_same) Wg;have TU:q1≠q2:=dG um_same Wg;have f1:M' q1=none:=by rw[aJ (a5 ET)] at Yq;exact Yq
  have f2:M' q2=none:=by rw[aJ (a5 TU),aJ (a5 V3)] at Wg;exact Wg
  refine⟨.inl 0,rfl,by rw[aJ TU];exact um_same, .inl i,rfl,?_⟩;intro x dx iO RA Y0;have TV:e1≠x:=dG (by rw[aJ ET,aJ V3,aJ ET];exact um_same) iO;have Rf:q1≠x:=dG um_same iO;have n3x:q2≠x:=dG (by rw[aJ (a5 TU)];exact um_same) iO;have f3:M' x=none:=by rw[aJ (a5 Rf),aJ (a5 n3x),aJ (a5 Rf),aJ (a5 TV)] at iO;exact iO
  refine⟨x,dx,wr e1,wr q1,rfl,um_same,rfl,?_⟩;rw[um_um];have Ko:cL p (um (um (um (um (um M' e1 (.dK (f' st))) q1 (.dK [])) q2 (.dK [(.inl 0,W.v (V.int 1))])) q1 (.dK [(.inl (i:Int),wr q2)])) x (.ins A.fB dx [("lamps",wr e1),("parts",wr q1)])) e1 q1 st [((i:Int),q2,[(0,1)])]:=⟨by rw[aJ TV,aJ ET,aJ V3,aJ ET];exact um_same,by rw[aJ Rf];exact um_same,(λt ht=>by rw[ah.mp ht,aJ n3x,aJ (a5 TU)];exact um_same),Zg,(λt ht=>by rw[ah.mp ht];exact⟨by simp,λz hz=>by rw[ah.mp hz];exact⟨by decide,by show(1:Int) <p;lia⟩⟩),by simp,by simp[bL,ET,V3,TU]⟩
  have Nk:um (um (um (um (um M' e1 (.dK (f' st))) q1 (.dK [])) q2 (.dK [(.inl 0,W.v (V.int 1))])) q1 (.dK [(.inl (i:Int),wr q2)])) x (.ins A.fB dx [("lamps",wr e1),("parts",wr q1)]) x=some (.ins A.fB dx [("lamps",wr e1),("parts",wr q1)]):=um_same;have ua:Sm M' (um (um (um (um (um M' e1 (.dK (f' st))) q1 (.dK [])) q2 (.dK [(.inl 0,W.v (V.int 1))])) q1 (.dK [(.inl (i:Int),wr q2)])) x (.ins A.fB dx [("lamps",wr e1),("parts",wr q1)])):=λd o e=>by rw[aJ (dG e f3),aJ (dG e f1),aJ (dG e f2),aJ (dG e f1),aJ (dG e US)];exact e
  generalize um (um (um (um (um M' e1 (.dK (f' st))) q1 (.dK [])) q2 (.dK [(.inl 0,W.v (V.int 1))])) q1 (.dK [(.inl (i:Int),wr q2)])) x (.ins A.fB dx [("lamps",wr e1),("parts",wr q1)])=M2 at Ko Nk ua ⊢;have WD: ∀y∈bL e1 q1 [((i:Int),q2,[((0:Int),(1:Int))])],M' y=none:=λy hy=>by
   simp only[bL,av,aH,eB,xE,or_false] at hy;rcases hy with rfl | rfl | rfl
   ·exact US
   ·exact f1
   ·exact f2
  have frN: ∀ {y},M' y=none ->M y=none:=λ{y} e=>by
   cases e2:M y with
   | none=>rfl
   | some o=>rw[sm _ _ e2] at e;cases e
  obtain⟨mI,Qb⟩: ∃mI:Int,mI=(L.length:Int)*w':=⟨_,rfl⟩
  have aaJ:=B.len;have pV:s≠0 ->(L.length:Int) <=s:=λz=>xi B.held (by lia);have aaK:mI<=68:=by rw[Qb];exact MZ PP pV
  have YE:0<=mI:=by rw[Qb];exact dz (by lia) (by lia)
  have mW:=B.mW PP;rw[<- Qb] at mW;have HP:=Hr s i (by lia);have l2:(pats.take (i+1)).length=i+1:=by rw[a6];lia
  have aaH:mI*s<=68*i:=by
   rw[Qb,dW];have h1:(w':Int)*s<=68:=by rw[bK];exact PP.sw
   have h2:=aZ h1 (show 0<=(L.length:Int) by lia);have h3:=bg (show(L.length:Int) <=i by lia) (show(0:Int) <=68 by decide);lia
  have aaI:0<=mI*s:=dz YE s0;have eK:2*(2*mI)*s=4*(mI*s):=by rw[<- dW];exact dW _ _ _
  have uX:=B.held;have lD:Tin A.fB A.dq s p M2 hd x dx e1 q1 (pats.take (i+1)) st [((i:Int),q2,[(0,1)])] L:=by
   refine⟨Nk,⟨ua _ _ uX.vd,λt ht=>(uX.each t ht).keep (fC.sm ua []) (λh=>by cases h) (λ_ _ h=>by cases h),uX.nd,uX.qK,uX.uY⟩,Ko,λt ht y hy Ro=> ?_,λhy=> ?_,qw.first p0 mE,λt ht=>(B.md t ht).more JA⟩
   ·obtain⟨kvs,e⟩:=(uX.each t ht).row.mem Ro;rw[WD y hy] at e;cases e
   ·have:=WD hd hy;rw[rA] at this;cases this
  have bp0:qy s (xy s i) (xy s i) [((i:Int),q2,[((0:Int),(1:Int))])]:=λw y hy=>by
   by_cases z:w=(i:Int)
   ·have e:pf [((i:Int),q2,[((0:Int),(1:Int))])] w= [(0,1)]:=by rw[z];simp[pf]
    rw[e] at hy;have:y=0:=au λhn=>hy (eZ λq hq e=>hn (by rw[ah.mp hq] at e;exact e.symm));lia
   ·have:pf [((i:Int),q2,[((0:Int),(1:Int))])] w= []:=rM λhm=>by rw[lj,ah] at hm;exact z hm
    rw[this] at hy;exact absurd rfl hy
  refine⟨hd,x,dx,e1,q1,p,s,Z,2*mI,w',xy s i,pats.take (i+1),st,[((i:Int),q2,[(0,1)])],L,rfl,hp,s0,s8,lD,AG,by lia,by lia,HP.1,λz=> ?_,by lia,by lia,by lia,by lia,Qm,bp0,mW,λM3 L1 pe X6 WH sp1 V6 LA K8 La=> ?_⟩
  ·have e:=PP.VO z;rw[e] at Qb;exact⟨by rw[Qb];simp,by rw[e];rfl⟩
  rw[eK] at LA;have hs9:(s+1)*(w'+4*(mI*s)+2*(2*mI)) <=9*(332+272*i):=by have h1:=bg (show s+1<=9 by lia) (show 0<=w'+4*(mI*s)+2*(2*mI) by lia);lia
  have aaE:0<=(s+1)*(w'+4*(mI*s)+2*(2*mI)):=dz (by lia) (by lia);have AQ: ∀t∈L1,Wt 1000000 t.b /\ t.len<3000000:=λt ht=>⟨((LA t ht).bx.wt s0 s8 AG (aV _) (aV _) (by lia)).up (by lia),by have:=(LA t ht).len;lia⟩
  obtain⟨bs1,vy⟩:=Es PP B mE pe AQ V6 K8 La;have YD:s≠0 ->(L1.length:Int) <=s:=λz=>xi pe (by lia);have Nq: ∀pt∈pats.take (i+1),cX s p (L1.map (·.b)) (look pt):=λpt nN=>by
   refine sp1 _ ?_;rw[bD,mE] at nN;rcases ax.mp nN with h | h
   ·exact(B.sp pt h).trans λb hb=>cX.of (ax.mpr (.inl hb))
   ·rw[ah.mp h];exact cX.of (ax.mpr (.inr (ah.mpr rfl)))
  obtain⟨nI,Wj⟩: ∃nI:Int,nI=(L1.length:Int)*w':=⟨_,rfl⟩
  have aaG:nI<=68:=by rw[Wj];exact MZ PP YD
  have hn0:0<=nI:=by rw[Wj];exact dz (by lia) (by lia)
  have hΛ:kN (L1.map (·.len)) <=2*nI:=by
   by_cases z:s=0
   ·have:L1.map (·.len)=List.replicate L1.length 0:=jC.mpr ⟨by simp,λb hb=>by obtain⟨t,ht,rfl⟩:=af.mp hb;exact((pe.each t ht).ou).s0 z⟩;rw[this];have: ∀n:Nat,kN (List.replicate n 0)=0:=λn=>by induction n with | zero=>rfl | succ n ih=>rw[List.replicate_succ];show 0+kN _=0;rw[ih];rfl
    rw[this];lia
   ·have:=Hj (D:=1000000) hp (by lia) pe (λt ht=>(AQ t ht).1) (λt ht=>(AQ t ht).2) vy (λb hb=>Nq b (vy.of b hb)) (λb hb y hy=>(PP.pat b (jX (vy.of b hb))).2.1 y hy);rw[show((2*L1.length*w':Nat):Int)=2*nI by rw[Wj];push_cast;rw[dW]] at this;exact this
  dsimp? [];refine⟨hd,p,s,Z,2*(w'+4*(mI*s)),xy s i+(s+1)*(w'+4*(mI*s)+2*(2*mI)),2*nI,pats.take (i+1),L1,rfl,hp,s0,s8,pe,V6,LA,AG,by lia,by lia,by lia,by lia,hΛ,by lia,by lia,λM4 L2 ll XZ bx2=> ?_⟩;have Ny:L2.length=L1.length:=by have:=congrArg List.length ll.key;rwa [aa,aa] at this
  have hgr:(L1.length:Int)*(2*(w'+4*(mI*s))+2*nI) <=(i+1)*(256+544*i):=by have h1:=bg (show(L1.length:Int) <=i+1 by lia) (show 0<=2*(w'+4*(mI*s))+2*nI by lia);have h2:=aZ (show 2*(w'+4*(mI*s))+2*nI<=256+544*i by lia) (show 0<=(i:Int)+1 by lia);lia
  have aaP:0<=(L1.length:Int)*(2*(w'+4*(mI*s))+2*nI):=dz (by lia) (by lia);have aaO:(L1.length:Int)*(2*(w'+4*(mI*s))+2*nI) <=8*(256+544*7):=by have h1:=Int.mul_le_mul (show(L1.length:Int) <=8 by lia) (show 2*(w'+4*(mI*s))+2*nI<=256+544*7 by lia) (by lia) (by decide);exact h1
  have ekp:xy s i+((s+1)*(w'+4*(mI*s)+2*(2*mI))+(L1.length:Int)*(2*(w'+4*(mI*s))+2*nI)) <=xy s (i+1):=by
   by_cases z:s=0
   ·have ew:=PP.VO z;have em:mI=0:=by rw[Qb,ew];simp
    have en:nI=0:=by rw[Wj,ew];simp
    rw[xy,xy,ak z,ak z,em,en,ew];simp
   ·rw[xy,xy,aj z,aj z,T7];lia
  have EO:Sm M M3:=Bx (sm.trans ua) X6 λy hy=>by
   rcases av.mp hy with e | e
   ·rw[e];exact Wq
   ·rcases ax.mp e with e | e
    ·obtain⟨t,ht,e⟩:=eM.mp e;exact ZW t ht y e
    ·exact frN (WD y e)
  have Lx: ∀t∈L1, ∀y∈t.adr,M y=none:=λt ht y hy=>by
   rcases WH t ht y hy with e | e
   ·rcases av.mp e with e | e
    ·rw[e];exact Wq
    ·rcases ax.mp e with e | e
     ·obtain⟨t,ht,e⟩:=eM.mp e;exact ZW t ht y e
     ·exact frN (WD y e)
   ·cases e2:M y with
    | none=>rfl
    | some o=>rw[(sm.trans ua) _ _ e2] at e;cases e
  have S3:Sm M M4:=Bx EO ll.kp λy hy=>by obtain⟨t,ht,e⟩:=eM.mp hy;exact Lx t ht y e
  refine hN _ _ ⟨_,_,L2,bs1,rfl,⟨ll.held,ll.uP,XZ,λpt nN=>ll.sp _ (Nq pt nN),⟨by rw[vy.len,Ny],vy.ind,vy.of⟩,λz t ht=>(bx2 t ht).1.2 z,λt ht=>(bx2 t ht).2.up (by lia) (by lia),λt ht=>⟨((bx2 t ht).1.wt s0 s8 AG (aV _) (aV _) (by lia)).up (by lia),?_⟩,by rw[Ny];lia⟩,S3,λt ht y hy=> ?_⟩
  ·obtain⟨v,hv,e⟩:=af.mp (show t.c∈L1.map (·.c) by rw[<- ll.key];exact af.mpr ⟨t,ht,rfl⟩);rw[ll.ln t ht v hv e.symm];exact(AQ v hv).2
  ·rcases ll.fr t ht y hy with e | e
   ·obtain⟨v,hv,e⟩:=eM.mp e;exact Lx v hv y e
   ·cases e2:M y with
    | none=>rfl
    | some o=>rw[EO _ _ e2] at e;cases e
 ·rintro ρ M' ⟨o4,o5,L,bs,rfl,B,sm,ZW⟩;have Z5:(jx (pats.map cR)).length=pats.length:=by unfold jx;rw[aa,cV,aa]
  rw[Z5] at B;obtain⟨Ls,o⟩:=sG L B.held.nd;have Zd:Ls.length=L.length:=o.perm.length_eq;have hL8:=B.len;have rA:=B.held.vd;have Z1: ∀ (l q:Addr) (f g e:W),[(("lamps" :Str),wr l),(("parts" :Str),wr q),(("first" :Str),f),(("length" :Str),g),(("foot" :Str),e)].lookup ("lamps" :Str)=some (wr l):=λ_ _ _ _ _=>rfl;have Z0: ∀ (l q:Addr) (f g e:W),[(("lamps" :Str),wr l),(("parts" :Str),wr q),(("first" :Str),f),(("length" :Str),g),(("foot" :Str),e)].lookup ("parts" :Str)=some (wr q):=λ_ _ _ _ _=>rfl;dsimp? [rA];refine⟨hd,mU L,L.map (·.c),rfl,rA,by unfold mU;rw[aD,aD];rfl,big (by rw[aa];lia),λv cs hv c6 iU=> ?_⟩;have ecs:cs=Ls.map (·.c):=BV iU (bY.mpr (o.BD.imp λh=>by lia)) (c6.trans (o.perm.map (·.c)).symm);have eW1:cs.map wi=Ls.map λt=>wi t.c:=by rw[ecs,aD];rfl
  have MB:Sm M' (um M' v (.lst (cs.map wi))):=c4 hv;have Ww:um M' v (.lst (cs.map wi)) v=some (.lst (Ls.map λt=>wi t.c)):=by rw[um_same,eW1]
  generalize um M' v (.lst (cs.map wi))=M1 at MB Ww ⊢;have mem: ∀ {t},t∈Ls ->t∈L:=λh=>o.perm.mem_iff.mp h;have at1: ∀ {M3},Sm M1 M3 -> ∀t∈Ls,M3 hd=some (.dK (mU L)) /\ fu (mU L) (.inl t.c)=some (wr t.o) /\ M3 t.o=some (.ins A.dq t.ds [("lamps",wr t.ol),("parts",wr t.op),("first",wi t.c),("length",wi t.len),("foot",wi t.foot)]) /\ cL p M3 t.ol t.op t.b t.Q:=λ{M3} EO t ht=>by have st:=B.held.each t (mem ht);exact⟨EO _ _ (MB _ _ rA),zM B.held.nd (mem ht),EO _ _ (MB _ _ st.ins),st.row.keep (fC.sm (MB.trans EO) []) (λ_ _ h=>by cases h)⟩
  dsimp? [Ww];refine ID (λt:e9=>cR (lA p t.b)) (big (by lia)) (λM3 s3=>s3 _ _ Ww) ?_ λc1 M2 Ql F3 U3=> ?_
  ·intro t ht M3 N s3 hN;obtain⟨g1,g2,g3,g4⟩:=at1 s3 t ht;have g5:=g4.lam;dsimp? [g1,g2,g3,JF,XW,Z1,g5];intro y hy;have DV:(f' t.b).map (λkv=>W.tup [gd kv.1,kv.2])=t.b.map dI:=by unfold f';rw[aD];rfl
   rw[DV];have H0:=(B.fin t (mem ht)).1.len g4.ga (by decide);refine⟨y,p,t.b,rfl,um_same,p0,QD,by lia,?_⟩;dsimp? [];exact hN _ (c4 hy)
  have Qs:=F3 _ _ Ww;have HP:=Hr s pats.length hp8;dsimp? [U3,Qs];refine IF (by rw[aa];exact big (by lia)) λr hr=> ?_;have nrv:v≠r:=dG Qs hr;have U8: ∀ {y o},M2 y=some o ->y≠r:=λe=>dG e hr;refine⟨λi ys M3=> ∃as:List Addr,ys=as.map wr /\ as.length=i /\ (∀ (k:Nat) a,as[k]? =some a ->a≠r /\ ∃ (t:e9) (tl:List Part),Ls[k]? =some t /\ tl.Perm (xN p 1 t.Q) /\ M3 a=some (.lst (tl.map oP))) /\ M3 r=some (.lst ys) /\ Sm M2 M3,⟨[],rfl,rfl,(λk a h=>by simp at h),um_same,c4 hr⟩,?_,?_,?_⟩
  ·rintro i ys M3 hi ⟨as,rfl,hl,_,h3,s3⟩;exact⟨s3 _ _ Qs,h3,by rw[aa];lia⟩
  ·rintro i x ys M3 hx ⟨as,rfl,hl,has,h3,s3⟩ N hN;obtain⟨t,ht,rfl⟩: ∃t,Ls[i]? =some t /\ x=wi t.c:=by
    rw[aA] at hx;cases e:Ls[i]? with
    | none=>rw[e] at hx;cases hx
    | some q=>rw[e] at hx;cases hx;exact⟨q,rfl,rfl⟩
   have Cj:=ai ht;obtain⟨g1,g2,g3,g4⟩:=at1 (F3.trans s3) t Cj;have W8:=(B.bp t (mem Cj)).wt g4.pU (aV _) (aV _);have hQl:t.Q.length<=8:=by have:=(B.md t (mem Cj)).len g4.pU;rw[a6] at this;lia
   have hlen: ∀z∈t.Q,z.2.2.length<=400000:=λz hz=>by have:=(W8 z hz).len (g4.gp z hz) HP.1;lia
   simp? [↓eV,g1,g2,g3,JF,XU,Z0];refine⟨t.ol,t.op,p,1,t.b,t.Q,400000,rfl,p0,by lia,by decide,by decide,g4,by lia,hlen,by decide,a4 (qS _ hQl) (by decide),λa M4 tl s4 ha hM4 c6=> ?_⟩;have nar:a≠r:=a5 (dG h3 ha);simp? [↓eV];refine⟨s4 _ _ h3,hN _ _ ⟨as++ [a],by rw[aN];rfl,by rw[aL,hl];rfl,λk b hb=> ?_,um_same,λy o' e=>by rw[aJ (U8 e)];exact s4 _ _ (s3 _ _ e)⟩⟩;rw[qU] at hb;split at hb
   ·obtain⟨h5,t',tl',h6,h7,h8⟩:=has k b hb;exact⟨h5,t',tl',h6,h7,by rw[aJ h5];exact s4 _ _ h8⟩
   ·rename_i hk;have UK:k=i:=by obtain⟨q1,_⟩:=ag.mp hb;simp at q1;lia
    subst UK;rw[hl,JP] at hb;cases hb;exact⟨nar,t,tl,ht,c6,by rw[aJ nar];exact hM4⟩
  ·rintro ys M3 ⟨as,rfl,hl,has,h3,s3⟩;rw[aa] at hl;have mW:=B.mW PP;have fin:=B.fin;have smM:Sm M M3:=((sm.trans MB).trans F3).trans s3;have T1:M r=none:=by
    cases e:M r with
    | none=>rfl
    | some o=>rw[((sm.trans MB).trans F3) _ _ e] at hr;cases hr
   have Ve:(fO p Ls).length=L.length:=by unfold fO;rw[aa];exact Zd
   have iB:=sf (by lia) B.held o (λt ht=>(fin t ht).1) λt ht=>(fin t ht).2;have etk:pats.take pats.length=pats:=cn;refine nj ?_;have e7:(Ls.map λt=>cR (lA p t.b))=(fO p Ls).map cR:=by unfold fO;rw[aD];rfl
   rw[e7];refine k M3 r as (fO p Ls) (Ls.map (·.Q)) ⟨iB,Be (by lia) B.held o (λt ht=>(fin t ht).1) B.low,λpt nN=>o9 p0 B.held o (B.sp pt (by rw[etk];exact nN)),by rw[aa,Ve,Zd],by rw[Ve];exact B.len,λk st P hk hP=> ?_,λst mE=> ?_,λz=>by rw[Ve];exact xi B.held (by lia)⟩ smM T1 h3 (by rw[hl,Ve,Zd]) λk a P ha hP=> ?_
   ·unfold fO at hk;rw[aA] at hk hP;cases e:Ls[k]? with
    | none=>rw[e] at hk;cases hk
    | some t=>rw[e] at hk hP;cases hk;cases hP;have Cj:=mem (ai e);have row:=(B.held.each t Cj).row;have m:=B.md t Cj;rw[etk] at m;exact⟨⟨λx=>by rw[gC p0 row.ga];exact m.is x,m.key⟩,row.pU,row.gp,B.bp t Cj⟩
   ·obtain⟨t,ht,rfl⟩:=af.mp mE;have Cj:=mem ht;have row:=(B.held.each t Cj).row;have sr:=Bq (by lia) row.ga (B.held.each t Cj).ou (fin t Cj).1;rw[sr.jN,Ve];refine⟨⟨λx hx=>(mW t Cj).bx.1 x (by rw[<- gC p0 row.ga];exact hx),λz x hx=>(mW t Cj).bx.2 z x (by rw[<- gC p0 row.ga];exact hx)⟩,(mW t Cj).len⟩
   ·obtain⟨_,t,tl,h6,h7,h8⟩:=has k a ha;rw[aA,h6] at hP;cases hP;exact⟨tl,h7,h8⟩
end
end iA
open PySem L2 WL WP WQ EN PyProof.Rows
namespace iA
open PySem L2 WL WP WQ EN PyProof.Rows
section
variable {P:Program}{w:World}{K:PySem.W.Frag}{mg:Str ->Option Value}{base:Heap}{A:C9}
theorem nJ (T:Txt K mg A):eh P w K mg base kJ 3 A.jS A.jV ["_law_draw","_law_p_here","_law_most"] (oz K Dv):=by
 have dt:=ko (P:=P) (w:=w) (base:=base) T;have zp:=wH (P:=P) (w:=w) (base:=base) T;refine rb T.k9.fn jk (by rintro vs M q ⟨d,l,p,most,rfl,_⟩;rfl) λeQ A' outer s H E hr=> ?_;have nd:=jk.nd;refine⟨_,(aR (cQ (iC rfl (fq.of (sc:=aQ fH) (N:= ["_law_draw","_law_p_here","_law_most"]) (own:= ["_law_k"]) (fr:= [0,1]) (N':= ["_law_k","_law_draw","_law_p_here"]) rfl rfl rfl (by decide+kernel) rfl (by decide+kernel) (by decide+kernel) (by decide+kernel) (by decide+kernel) (by decide+kernel)) (kl (by rfl) T.jW (ab (aY T.gw dt (hr.mono (by decide)) (by rfl) (ab (pv 0) (ab (bQ eX (pv 2) aK) aC))) aC)) (λ_ _ _ _=>(cj (i:=0) (by show(["_law_k","_law_draw","_law_p_here"]:List Str).Nodup;decide+kernel) rfl (by first | exact Or.inl rfl | exact Or.inr rfl))) fX (λ_ _ _ _=>jO) (λ_ _ _ _=>(aY T.uR zp (hr.mono (by decide)) (by rfl) (ab (pv 1) (ab (pv 2) (ab aK (ab aK aC))))))))),?_⟩;try dsimp only[fT]
 refine⟨_,inferInstance,?_⟩;rintro vs M q ⟨d,l,p,most,rfl,hD,p2,p7,m0,m1,k⟩;dsimp? [];refine⟨d,l,most+1,rfl,hD,by omega,by omega,λn M1 n0 n1 D1 b1=> ?_⟩;dsimp? [];refine⟨⟨by omega,by omega⟩,IF (by rw[kh];exact big (by omega)) λt ht=> ?_⟩;obtain⟨Jt,XI⟩:=D1.ne ht;have Yj:M t=none:=by
  cases e2:M t with
  | none=>rfl
  | some o=>rw[b1 t Jt,e2] at ht;cases ht
 refine⟨λi ys M'=> ∃pats:List Pt,ys=pats.map cR /\ pats.length=i /\ (∀pt∈pats,dE p pt /\ Wt 6 pt /\ pt.length<=4) /\ Dr M' d l /\ M' t=some (.lst ys) /\ kE d M M',⟨[],rfl,rfl,by simp,D1.put ht,um_same,(kE.nb b1).um Yj⟩,?_,?_,?_⟩
 ·rintro i ys M' hi ⟨pats,rfl,hl,_,_,hM,_⟩;exact⟨trivial,hM,by rw[aa];omega⟩
 ·rintro i x ys M' hx ⟨pats,rfl,hl,hk,D5,hM,s5⟩ N2 Za;simp? [↓eV];refine⟨d,l,p,4,6,rfl,D5,p2,by omega,by decide,by decide,by decide,by decide,λps M6 uW Ru D6 b6=> ?_⟩;simp? [↓eV];refine⟨by rw[b6 t Jt];exact hM,Za _ _ ⟨pats++ [lA p ps],by rw[aN];rfl,by simp[hl],λpt nN=> ?_,D6.O3 Jt XI,um_same,(s5.trans (kE.nb b6)).um Yj⟩⟩;rcases ax.mp nN with h | h
  ·exact hk pt h
  ·rw[ah.mp h];refine⟨mj (by omega) ps,λx hx=> ?_,a4 (KW _ _) (by omega)⟩;obtain⟨z,hz,e⟩:=af.mp (cJ hx);obtain⟨y,hy,e2⟩:=Pl hz;have:=Ru y hy;omega
 ·rintro ys M' ⟨pats,rfl,hl,hk,D5,hM,s5⟩;rw[kh] at hl;exact nj (k t pats M' hk (by omega) Yj hM D5 s5)
end
end iA
open PySem L2 WL WP WQ EN PyProof.Rows
namespace iA
open PySem L2 WL WP WQ EN PyProof.Rows
section
variable {P:Program}{w:World}{K:PySem.W.Frag}{mg:Str ->Option Value}{base:Heap}{A:C9}
theorem wJ (T:Txt K mg A):eh P w K mg base kJ 3 A.qH A.qM ["_law_draw","_law_p_here","_law_stride","_law_patterns"] (oz K GW):=by
 have dt:=ko (P:=P) (w:=w) (base:=base) T;have xr:=G6 (P:=P) (w:=w) (base:=base) T;refine rb T.uS.fn oE (by rintro vs M q ⟨d,l,u,p,s,Z,w',pats,rfl,_⟩;rfl) λeQ A' outer s H E hr=> ?_;have nd:=oE.nd;refine⟨_,(aI (bX (i:=4) nd rfl (by first | exact Or.inl rfl | exact Or.inr rfl) (dv iw (by rfl) T.gT Boot.«list» (ab (pv 3) aC))) (aI (fP (cH kn (cA gE (by rfl) T.qP Boot.«len» (ab (pv 4) aC)) aK (dg _)) (aR (cQ (wD (ab (jt aC) aC)))) eU) (aI (bX (i:=5) nd rfl (by first | exact Or.inl rfl | exact Or.inr rfl) (aY T.gw dt (hr.mono (by decide)) (by rfl) (ab (pv 0) (ab (cA gE (by rfl) T.qP Boot.«len» (ab (pv 4) aC)) aC)))) (aI (bX (i:=6) nd rfl (by first | exact Or.inl rfl | exact Or.inr rfl) (aY T.gw dt (hr.mono (by decide)) (by rfl) (ab (pv 0) (ab (cA gE (by rfl) T.qP Boot.«len» (ab (pv 4) aC)) aC)))) (aI (bX (i:=7) nd rfl (by first | exact Or.inl rfl | exact Or.inr rfl) (bQ ik (bQ ka (aY T.gw dt (hr.mono (by decide)) (by rfl) (ab (pv 0) (ab aK aC))) aK) (pv 2))) (aI (bX (i:=8) nd rfl (by first | exact Or.inl rfl | exact Or.inr rfl) (bQ eX aK (aY T.gw dt (hr.mono (by decide)) (by rfl) (ab (pv 0) (ab (bQ ka (pv 1) aK) aC))))) (aI (bX (i:=9) nd rfl (by first | exact Or.inl rfl | exact Or.inr rfl) (aY T.gw dt (hr.mono (by decide)) (by rfl) (ab (pv 0) (ab aK aC)))) (aI (fP (cH kn (pv 9) aK (dg _)) (aR (j8 (aY T.B7 xr (hr.mono (by decide)) (by rfl) (ab (pv 1) (ab (jt aC) (ab (c5 cK (pv 4) (pv 5) (λ_ _=>rfl)) (ab (pv 7) (ab (pv 8) aC)))))) (j9 (pv 4) (pv 5) set_list))) (aR (fP (Ac (cH kn (pv 9) aK (dg _)) (wx (cH yq (pv 5) (pv 6) (dg _)))).pt (aR (j8 (aY T.B7 xr (hr.mono (by decide)) (by rfl) (ab (pv 1) (ab (c5 cK (pv 4) (pv 5) (λ_ _=>rfl)) (ab (c5 cK (pv 4) (pv 6) (λ_ _=>rfl)) (ab (pv 7) (ab (pv 8) aC)))))) (j9 (pv 4) (pv 5) set_list))) (aR (fP (cH kn (pv 9) aK (dg _)) (aI (bX (i:=10) nd rfl (by first | exact Or.inl rfl | exact Or.inr rfl) (c5 cK (pv 4) (pv 5) (λ_ _=>rfl))) (aI (j8 (c5 cK (pv 4) (pv 6) (λ_ _=>rfl)) (j9 (pv 4) (pv 5) set_list)) (aR (j8 (pv 10) (j9 (pv 4) (pv 6) set_list))))) (aR (fP (cH kn (pv 9) aK (dg _)) (aR (gu (GO nq EX EW ml (pv 4) (ab (aY T.B7 xr (hr.mono (by decide)) (by rfl) (ab (pv 1) (ab (jt aC) (ab (c5 cK (pv 4) (pv 5) (λ_ _=>rfl)) (ab (pv 7) (ab (pv 8) aC)))))) aC)))) (aR (gu (GO nq PySem.F.slot_list_insert PySem.F.type_list_insert Dz (pv 4) (ab (pv 5) (ab (jt aC) aC)))))))))))) (aR (cQ (pv 4))))))))))),?_⟩;try dsimp only[fT]
 refine⟨_,inferInstance,?_⟩;rintro vs M q ⟨d,l,u,p,s,Z,w',pats,rfl,hD,hu,hp,s0,s8,z0,z1,w60,hn,jc,k⟩;have p0:0<p:=by omega
 have p7:p<=7:=by omega
 dsimp? [hu];intro t ht;have XG:u≠t:=λe=>by rw[<- e,hu] at ht;cases ht
 obtain⟨Jt,XI⟩:=hD.ne ht;have Ra:kE d M (um M t (.lst (pats.map cR))):=λb o hb e=>by rw[aJ (λz=>by rw[z,ht] at e;cases e)];exact e
 have D0:=hD.put (o:= .lst (pats.map cR)) ht;have U4:um M t (.lst (pats.map cR)) t=some (.lst (pats.map cR)):=um_same;generalize um M t (.lst (pats.map cR))=M1 at Ra D0 U4 ⊢;dsimp? [U4];refine d5 (λh=> ?_) λh=> ?_
 ·intro t2 Jv;have e:pats= []:=by
   cases pats with
   | nil=>rfl
   | cons a b=>rw[aH,aG] at h;omega
  subst e;obtain⟨n2d,n2l⟩:=D0.ne Jv;exact nj (k t2 [[]] _ (IL p0) (Ra.fresh D0 Jv) um_same (D0.put Jv) (Ra.um (Ra.fresh D0 Jv)))
 rw[aa] at h;have hlen:(pats.map cR).length=pats.length:=aa _;dsimp? [U4];refine⟨d,l,pats.length,by rw[hlen],D0,by omega,by omega,λone M2 o0 o1 D2 b2=> ?_⟩;have U3:=(b2 t Jt).trans U4;dsimp? [U3];refine⟨d,l,pats.length,by rw[hlen],D2,by omega,by omega,λother M3 q0 q1 D3 b3=> ?_⟩;dsimp? [];refine⟨d,l,3,rfl,D3,by decide,by decide,λg M4 g0 g1 D4 b4=> ?_⟩;dsimp? [];have hg: -8<=(g - 1)*s /\ (g - 1)*s<=8:=by
  have:g=0 \/ g=1 \/ g=2:=by omega
  rcases this with rfl | rfl | rfl<;>omega
 refine⟨by unfold kK;omega,?_⟩;dsimp? [];refine⟨d,l,p - 1,rfl,D4,by omega,by omega,λm M5 m0 m1 D5 b5=> ?_⟩;dsimp? [];refine⟨d,l,5,rfl,D5,by decide,by decide,λway M6 w0 w1 D6 b6=> ?_⟩;have Ib:=(b6 t Jt).trans ((b5 t Jt).trans ((b4 t Jt).trans ((b3 t Jt).trans U3)));have sb6:=Ra.trans ((kE.nb b2).trans ((kE.nb b3).trans ((kE.nb b4).trans ((kE.nb b5).trans (kE.nb b6)))));clear b2 b3 b4 b5 b6 U3 U4 D0 D2 D3 D4 D5 Ra;obtain⟨i,rfl⟩: ∃i:Nat,one=(i:Int):=⟨one.toNat,by omega⟩
 obtain⟨j,rfl⟩: ∃j:Nat,other=(j:Int):=⟨other.toNat,by omega⟩
 obtain⟨a,hi⟩: ∃a,pats[i]? =some a:=⟨_,ae (by omega)⟩
 obtain⟨b,hj⟩: ∃b,pats[j]? =some b:=⟨_,ae (by omega)⟩
 have Wu:mX (pats.map cR) (i:Int)=some (cR a):=iF (by rw[aA,hi];rfl);have haj:mX (pats.map cR) (j:Int)=some (cR b):=iF (by rw[aA,hj];rfl);have Yd:sU (pats.map cR).length (i:Int)=some i:=by rw[hlen];unfold sU;simp;omega
 have hxj:sU (pats.map cR).length (j:Int)=some j:=by rw[hlen];unfold sU;simp;omega
 have hl: ∀pt∈pats,pt.length<=8000000 /\ ∀z∈pt,0<=z.2 /\ z.2<1000:=λpt nN=>by have h1:=jc pt nN;have h2:=Wt.len (qh h1.1) (h1.2.wt s0 s8 z0 (E:=60) (by omega) (by omega) (by decide)) (by omega);exact⟨by omega,λz hz=>by have:=h1.1.1 z hz;omega⟩
 have ha:=hl a (ai hi);have hb:=hl b (ai hj);have hmt:M t=none:=ht;have fin: ∀jQ:List Pt,Og s p Z w' pats jQ ->q (wr t) (um M6 t (.lst (jQ.map cR))):=λjQ hc=>k t jQ _ hc hmt um_same (D6.O3 Jt XI) (sb6.um hmt);dsimp? [];refine d5 (λh=> ?_) λh=> ?_
 ·dsimp? [Ib,Wu];refine⟨p,[],a,(g - 1)*s,1+m,rfl,p0,trivial,by decide,ha.1,ha.2,?_⟩;dsimp? [Ib,Yd];rw[<- vG];exact nj (fin _ (LI hp jc hi (by omega) (by omega) (by omega) (by omega)))
 have Lr:q (wr t) (um M6 t (.lst ((pats.map cR).take i++ .tup []::(pats.map cR).drop i))):=by rw[<- mP, <- tP];have:=fin _ (LJ p0 jc (i:=i) (by omega));rwa [aN,aH] at this
 dsimp? [];refine d5 (λh1=> ?_) λh1=> ?_
 ·refine wO (λc9=> ?_) λheq=> ?_
  ·dsimp? [Ib,Wu,haj];refine⟨p,a,b,(g - 1)*s,1+m,rfl,p0,trivial,ha.1,hb.1,hb.2,?_⟩;dsimp? [Ib,Yd];rw[<- vG];exact nj (fin _ (LH p0 jc hi hj (by omega) (by omega) (by omega)))
  ·refine d5 (λh2=>by omega) λ_=>d5 (λh3=>by omega) λ_=> ?_;dsimp? [Ib];refine⟨t,_,_,i,rfl,rfl,Ib,by rw[hlen];exact uk (by omega),by rw[hlen];omega,?_⟩;dsimp? [];exact nj Lr
 ·refine d5 (λh2=> ?_) λh2=>d5 (λh3=> ?_) λh3=> ?_
  ·dsimp? [Ib,Wu,haj,Yd];have hMs:um M6 t (.lst ((pats.map cR).set i (cR b))) t=some (.lst ((pats.map cR).set i (cR b))):=um_same;have Nk:sU ((pats.map cR).set i (cR b)).length (j:Int)=some j:=by rw[f7];exact hxj
   dsimp? [hMs,Nk];rw[<- vG, <- vG];exact nj (fin _ (IK jc hi hj))
  ·dsimp? [Ib,Wu];refine⟨p,[],a,(g - 1)*s,1+m,rfl,p0,trivial,by decide,ha.1,ha.2,?_⟩;dsimp? [Ib];refine⟨by rw[hlen];exact uk (by omega),?_⟩;dsimp? [];have:=fin _ (LK (n:=1+m) p0 jc hi (show -1<=g - 1 by omega) (by omega));rw[aN] at this;exact nj this
  ·dsimp? [Ib];refine⟨t,_,_,i,rfl,rfl,Ib,by rw[hlen];exact uk (by omega),by rw[hlen];omega,?_⟩;dsimp? [];exact nj Lr
end
end iA
open PySem L2 WL WP WQ EN PyProof.Rows
namespace iA
open PySem L2 WL WP WQ EN PyProof.Rows
section
variable {P:Program}{w:World}{K:PySem.W.Frag}{mg:Str ->Option Value}{base:Heap}{A:C9}
def w6 (s:Int):Nat:=if s=0 then 0 else((5+s) / s).toNat
theorem bx6 {s:Int}{a:Pt}(s0:0<=s)(s8:s<=8)(h:Wt 6 a):lx s 6 (w6 s) (w6 s) a:=by
 refine⟨λx hx=> ?_,λ_=>h⟩;have h1:=h x hx;have:s=0 \/ s=1 \/ s=2 \/ s=3 \/ s=4 \/ s=5 \/ s=6 \/ s=7 \/ s=8:=by omega
 rcases this with rfl | rfl | rfl | rfl | rfl | rfl | rfl | rfl | rfl<;>simp[hI,w6] <;>omega
def vN (s:Int)(k:Nat):Nat:=if s=0 then 0 else w6 s+k
theorem Om (s:Int)(k:Nat):EM s (vN s k)=vN s (k+1):=by unfold EM vN;split<;>rfl
theorem R1 (s:Int):vN s 0=w6 s:=by unfold vN w6;split<;>rfl
theorem zJ {s:Int}(s0:0<=s)(s8:s<=8){k:Nat}(hk:k<=4):vN s k<=60 /\ s*vN s k<=68 /\ (s=0 ->vN s k=0):=by
 have:s=0 \/ s=1 \/ s=2 \/ s=3 \/ s=4 \/ s=5 \/ s=6 \/ s=7 \/ s=8:=by omega
 have h4:k=0 \/ k=1 \/ k=2 \/ k=3 \/ k=4:=by omega
 rcases this with rfl | rfl | rfl | rfl | rfl | rfl | rfl | rfl | rfl<;>rcases h4 with rfl | rfl | rfl | rfl | rfl<;>decide
theorem CA (l:List Pt):zA (.tup (l.map GQ)) <=50:=by rw[zA];have:=yU (n:=2) (g:=GQ) (λa=>by unfold GQ;rw[zA];have:=tq a;lia) l;lia
theorem Pj (T:Txt K mg A):eh P w K mg base kJ 8 A.NP A.NT ["_law_script"] (xS K):=by
 have EF:=Aj (P:=P) (w:=w) (base:=base) T
 have VB:=Pk (P:=P) (w:=w) (base:=base) T
 have dt:=ko (P:=P) (w:=w) (base:=base) T
 have pO:=nJ (P:=P) (w:=w) (base:=base) T
 have zq:=wJ (P:=P) (w:=w) (base:=base) T
 have xt:=G9 (P:=P) (w:=w) (base:=base) T
 have tS:=ra (P:=P) (w:=w) (base:=base) T
 refine TH T.law.fn F6 (by decide) λeQ A' outer s H E hr=> ?_
 have nd:=F6.nd
 refine⟨_,(aI (bX (i:=1) nd rfl (by first | exact Or.inl rfl | exact Or.inr rfl) (aY T.B8 EF (hr.mono (by decide)) (by rfl) (ab (pv 0) aC))) (aI (bX (i:=2) nd rfl (by first | exact Or.inl rfl | exact Or.inr rfl) (aY T.l_p VB (hr.mono (by decide)) (by rfl) (ab (pv 1) aC))) (aI (bX (i:=3) nd rfl (by first | exact Or.inl rfl | exact Or.inr rfl) (aY T.gw dt (hr.mono (by decide)) (by rfl) (ab (pv 1) (ab aK aC)))) (aI (fP (cH kn (aY T.gw dt (hr.mono (by decide)) (by rfl) (ab (pv 1) (ab aK aC))) aK (dg _)) (aR (bX (i:=3) nd rfl (by first | exact Or.inl rfl | exact Or.inr rfl) (bQ eX aK (aY T.gw dt (hr.mono (by decide)) (by rfl) (ab (pv 1) (ab aK aC)))))) eU) (aI (bX (i:=4) nd rfl (by first | exact Or.inl rfl | exact Or.inr rfl) (aY T.k9 pO (hr.mono (by decide)) (by rfl) (ab (pv 1) (ab (pv 2) (ab aK aC))))) (aI (bX (i:=5) nd rfl (by first | exact Or.inl rfl | exact Or.inr rfl) (dv iw (by rfl) T.gT Boot.«list» (ab (pv 4) aC))) (aI (ij cw rfl (kl (by rfl) T.jW (ab (aY T.gw dt (hr.mono (by decide)) (by rfl) (ab (pv 1) (ab aK aC))) aC)) (cj (i:=6) nd rfl (by first | exact Or.inl rfl | exact Or.inr rfl)) (aR (bX (i:=5) nd rfl (by first | exact Or.inl rfl | exact Or.inr rfl) (aY T.uS zq (hr.mono (by decide)) (by rfl) (ab (pv 1) (ab (pv 2) (ab (pv 3) (ab (pv 5) aC)))))))) (aI (bX (i:=7) nd rfl (by first | exact Or.inl rfl | exact Or.inr rfl) (aY T.built xt (hr.mono (by decide)) (by rfl) (ab (pv 2) (ab (pv 3) (ab (dv iw (by rfl) T.gT Boot.«list» (ab (pv 4) aC)) aC))))) (aI (bX (i:=8) nd rfl (by first | exact Or.inl rfl | exact Or.inr rfl) (aY T.built xt (hr.mono (by decide)) (by rfl) (ab (pv 2) (ab (pv 3) (ab (pv 5) aC))))) (aI (bX (i:=9) nd rfl (by first | exact Or.inl rfl | exact Or.inr rfl) (aY T.built xt (hr.mono (by decide)) (by rfl) (ab (pv 2) (ab (pv 3) (ab (dv iw (by rfl) T.gT Boot.«list» (ab (pv 4) aC)) aC))))) (aI (ij cw rfl (fI (wD (ab (pv 7) (ab (pv 8) (ab (pv 9) aC))))) (cj (i:=10) nd rfl (by first | exact Or.inl rfl | exact Or.inr rfl)) (aI (fP (uJ (kO (nE (cA ku (by rfl) T.fZ Boot.«isinstance» (ab (pv 10) (ab (mf (by rfl) T.kW Boot.«tuple» (show RelV (.ty "tuple") _ from rfl)) aC))))) (uJ (cH yq (cA gE (by rfl) T.qP Boot.«len» (ab (pv 10) aC)) aK (dg _)) (wu (kO (nE (cA ku (by rfl) T.fZ Boot.«isinstance» (ab (c5 gQ (pv 10) aK (λ_ _=>rfl)) (ab (mf (by rfl) T.kW Boot.«tuple» (show RelV (.ty "tuple") _ from rfl)) aC)))))))).pt (aR (cQ sF)) eU) (aR (fP (kO (nE (cA (Ep rfl) (by rfl) T.Vn Boot.«all» (ab (iC rfl (fq.of (sc:=aQ BB) (N:= ["_law_script","_law_draw","_law_p_here","_law_stride","_law_patterns","_law_row","_law_k","_law_found","_law_other","_law_again","_law_told"]) (own:= ["_law_stair"]) (fr:= [2]) (N':= ["_law_stair","_law_p_here"]) rfl rfl rfl (by decide+kernel) rfl (by decide+kernel) (by decide+kernel) (by decide+kernel) (by decide+kernel) (by decide+kernel)) (GC (c5 gQ (pv 10) aK (λ_ _=>rfl))) (λ_ _ _ _=>(cj (i:=0) (by show(["_law_stair","_law_p_here"]:List Str).Nodup;decide+kernel) rfl (by first | exact Or.inl rfl | exact Or.inr rfl))) fX (λ_ _ _ _=>jO) (λ_ _ _ _=>(aY T.oU tS (hr.mono (by decide)) (by rfl) (ab (pv 1) (ab (pv 0) aC))))) aC)))) (aR (cQ sF)) eU)))) (aR (cQ (GP (BR (G1 hr.u60) (c5 gQ (pv 7) aK (λ_ _=>rfl)) (c5 gQ (pv 8) aK (λ_ _=>rfl)) (dg _)) (GI (BR (G1 hr.u60) (c5 gQ (pv 7) aK (λ_ _=>rfl)) (c5 gQ (pv 9) aK (λ_ _=>rfl)) (dg _))))))))))))))))),?_⟩
 try dsimp only[fT]
 refine⟨_,inferInstance,?_⟩
 intro d l M hD
 dsimp? []
 refine⟨d,l,rfl,hD,λp M1 hp D1 _=> ?_⟩
 have p0:0<p:=by omega
 have p7:p<=7:=by omega
 have p2:2<=p:=by omega
 dsimp? []
 refine⟨d,l,5,rfl,D1,by decide,by decide,λs M2 s0 s1 D2 _=> ?_⟩
 simp? [↓eV]
 refine lP (HB (λρ M'=> ∃s:Int,ρ= [none,some (wr d),some (wi p),some (wi s),none,none,none,none,none,none,none] /\ 0<=s /\ s<=8 /\ Dr M' d l) ?_ λN hN=> ?_)
 rotate_left
 ·dsimp? [];refine⟨d,l,6,rfl,D2,by decide,by decide,λg M3 g0 g1 D3 _=> ?_⟩;dsimp? [];refine d5 (λh=> ?_) λh=>hN _ _ ⟨s,rfl,s0,by omega,D3⟩;dsimp? [];refine⟨d,l,4,rfl,D3,by decide,by decide,λg M3 g0 g1 D3 _=> ?_⟩;dsimp? [];exact hN _ _ ⟨5+g,rfl,by omega,by omega,D3⟩
 clear s0 s1 D2
 rintro ρ M3 ⟨s,rfl,s0,s8,D3⟩
 dsimp? []
 refine⟨d,l,p,3,rfl,D3,p2,p7,by decide,by decide,λu pats M4 Ru hn hu Lw D4 _=> ?_⟩
 obtain⟨nud,nul⟩:=D3.ne hu
 dsimp? [Lw]
 intro t ht
 have XG:u≠t:=λe=>by rw[<- e,Lw] at ht;cases ht
 have D5:=D4.put (o:= .lst (pats.map cR)) ht
 have RI:um M4 t (.lst (pats.map cR)) t=some (.lst (pats.map cR)):=um_same
 have Qt:um M4 t (.lst (pats.map cR)) u=some (.lst (pats.map cR)):=by rw[aJ XG];exact Lw
 have Ab:pJ s p 6 (vN s 0) pats:=λpt nN=>⟨(Ru pt nN).1,by rw[R1];exact bx6 s0 s8 (Ru pt nN).2.1⟩
 generalize um M4 t (.lst (pats.map cR))=M5 at D5 RI Qt ⊢
 dsimp? []
 refine⟨d,l,5,rfl,D5,by decide,by decide,λn M6 n0 n1 D6 b6=> ?_⟩
 have U2:=(b6 t (D4.ne ht).1).trans RI
 have U1:=(b6 u nud).trans Qt
 dsimp? []
 refine⟨⟨by omega,by omega⟩,kr (λi ρ M'=> ∃ (o:Option W) (v:Addr) (row:List Pt),ρ= [none,some (wr d),some (wi p),some (wi s),some (wr u),some (wr v),o,none,none,none,none] /\ Dr M' d l /\ M' u=some (.lst (pats.map cR)) /\ M' v=some (.lst (row.map cR)) /\ zw s p pats row /\ pJ s p 6 (vN s i) row /\ row.length<=3+i) ⟨_,t,pats,rfl,D6,U1,U2,zw.refl,Ab,by omega⟩ (λ_ _ _ _ _=>trivial) ?_ ?_⟩
 ·rintro i x ρ M' hx ⟨o,v,row,rfl,D',hu',wX,es,jc,hl⟩ N hN;obtain⟨hi,rfl⟩:=oJ hx;dsimp? [];refine⟨d,l,v,p,s,6,vN s i,row,rfl,D',wX,hp,s0,s8,by decide,by decide,(zJ s0 s8 (by omega)).1,by omega,jc,λt' yd M'' ch pd Zb D'' sb=> ?_⟩;dsimp? [];exact hN _ _ ⟨_,t',yd,rfl,D'',sb u _ nud hu',Zb,es.trans ch.eqs,by rw[<- Om];exact ch.row,by have:=ch.len;omega⟩
 rintro ρ M7 ⟨o,v,row,rfl,D7,Wc,Yi,es,jc,hl⟩
 rw[kh] at jc hl
 clear D4 D5 D6 b6 RI Qt U2 U1 Lw ht XG hu
 dsimp? [Wc]
 intro t1 ht1
 dsimp? []
 have Wb:=zJ s0 s8 (k:=0) (by decide)
 have Yg:=zJ s0 s8 (k:=n.toNat) (by omega)
 have hPa:EA s p 6 (vN s 0) pats:=⟨Ab,by omega,hp,s0,s8,by decide,by decide,Wb.2.2,Wb.1,Wb.2.1⟩
 have hPb:EA s p 6 (vN s n.toNat) row:=⟨jc,by omega,hp,s0,s8,by decide,by decide,Yg.2.2,Yg.1,Yg.2.1⟩
 refine⟨t1,p,s,6,vN s 0,pats,rfl,um_same,hPa,λM8 v1 as1 sts Ps RL sm8 _ _ _ _=> ?_⟩
 have hv8:M8 v=some (.lst (row.map cR)):=sm8 v _ (by rw[aJ (λe=>by rw[e,ht1] at Yi;cases Yi)];exact Yi)
 have hu8:M8 u=some (.lst (pats.map cR)):=sm8 u _ (by rw[aJ (λe=>by rw[e,ht1] at Wc;cases Wc)];exact Wc)
 dsimp? []
 refine⟨v,p,s,6,vN s n.toNat,row,rfl,hv8,hPb,λM9 v2 as2 aax Ps2 aah sm9 _ _ _ _=> ?_⟩
 obtain rfl:=RL.one hp s0 aah es
 have hu9:=sm9 u _ hu8
 dsimp? [hu9]
 intro t2 Jv
 dsimp? []
 refine⟨t2,p,s,6,vN s 0,pats,rfl,um_same,hPa,λM10 v3 as3 aaw Ps3 aag aaz _ _ _ _=> ?_⟩
 obtain rfl:=RL.one hp s0 aag zw.refl
 dsimp? []
 intro r hr
 dsimp? []
 have hn3:sts.length<=3:=a4 RL.QD (by omega)
 have hE:2*((sts.length:Int)*vN s 0) <=960:=by have h:=Nat.mul_le_mul hn3 Wb.1;have e:(sts.length:Int)*vN s 0=((sts.length*vN s 0:Nat):Int):=(Int.natCast_mul _ _).symm;rw[e];lia
 have hL: ∀st∈sts,st.length<=16000000:=λst h=>by have:=Wt.len (qh (RL.iB.of h).pat) ((RL.bx st h).1.wt s0 s8 (by decide) hE hE (by decide)) (by decide);exact a4 this (by decide)
 refine kr (λi ρ M'=> ∃o2:Option W,ρ= [none,some (wr d),some (wi p),some (wi s),some (wr u),some (wr v),o,some (.tup [.tup (sts.map cR),wr v1]),some (.tup [.tup (sts.map cR),wr v2]),some (.tup [.tup (sts.map cR),wr v3]),o2] /\ M' r=some (.lst [.tup [.tup (sts.map cR),wr v1], .tup [.tup (sts.map cR),wr v2], .tup [.tup (sts.map cR),wr v3]])) ⟨_,rfl,um_same⟩ (λi ρ M' _ h=>h.elim λ_ h=>h.2) ?_ ?_
 ·rintro i x ρ M' hx ⟨o2,rfl,nM⟩ N hN;obtain⟨vx,rfl⟩: ∃vx,x= .tup [.tup (sts.map cR),wr vx]:=by
   match i,hx with
   | 0,hx=>exact⟨v1,by simpa using hx.symm⟩
   | 1,hx=>exact⟨v2,by simpa using hx.symm⟩
   | 2,hx=>exact⟨v3,by simpa using hx.symm⟩
   | i+3,hx=>simp at hx
  dsimp? [];refine wO (λh=>absurd rfl h) λ_=> ?_;dsimp? [];refine ze (λ_:Pt=>wb true) (big (by omega)) (λ_ _=>trivial) ?_ λr2 Le=> ?_
  ·intro pt nN M3 N s3 hN;dsimp? [];refine⟨p,pt,rfl,(RL.iB.of nN).pat,hL pt nN,?_⟩;dsimp? [];exact hN
  have Z9: ∀l:List Pt,((l.map λ_=>true).all id)=true:=λl=>by rw[xG];intro b hb;obtain⟨_,_,rfl⟩:=af.mp hb;rfl
  refine Ow (bs:=sts.map λ_=>true) (by rw[um_same,aD];rfl) ?_;rw[Z9];dsimp? [];exact hN _ _ ⟨_,rfl,by rw[aJ (dG nM Le)];exact nM⟩
 rintro ρ M' ⟨o2,rfl,nM⟩
 dsimp? []
 have hd:Ei (.tup (sts.map cR))=some (.tup (sts.map GQ)):=by rw[Ei,y9 LG];rfl
 refine Im (.inl hd) (.inl hd) (CA sts) rfl ?_
 dsimp? []
 refine Im (.inl hd) (.inl hd) (CA sts) rfl ?_
 dsimp? []
 done
end
end iA
namespace iA
open PySem L2 WL WQ PyProof.Rows
theorem walk {l:PySem.W.OpenLaw}{q:Program}{loose:List Str}{XP:(Str ->Option Value) ->Heap ->Prop}{YP:World ->Heap ->Prop}{d:DefRec}{K:Params ->PySem.W.Frag}(hn:l.most=some 63)(UU:d.params.defaults= []) (hY: ∀ (w:World) (h:Heap),YP w h ->(K w.params).In h) (nm:d.name= "law") (F: ∀ (w:World) (mg:Str ->Option Value) (h:Heap),(K w.params).In h ->h.Ns mainGlobals mg -> ∃A,Txt (K w.params) mg A): PySem.W.WalkO q loose XP YP l.row.toRowW d [] (λf vs=>PySem.call f vs):=L2.J5 (n:=63) (k:=8) (x:= "_law_script") (CX:=λ_=>kJ) (sp:=λw=>xS (K w.params)) hn (by decide) UU ⟨rfl,by decide,by decide⟩ hY (λw mg fa h X G e=>(F w mg h X G).elim λ_ T=>PJ T.law (nm▸e) (λ_ _ _ _ _ _ _=>rfl) λ_=>Pj T) (λ_ _ a ns hl _ hS=>⟨a,ns,rfl,hS,λ_=>rfl⟩) λ_ _ _ _ _ z=>z
end iA
def PySem.W.Fast.tw2712393993265628633:Nat:=0
def PySem.W.Fast.tw14178297393973869920:Nat:=0
def PySem.W.Fast.tw5039464981239515627:Nat:=0
def PySem.W.Fast.tw12468153394376142350:Nat:=0
def PySem.W.Fast.tw14616785232405591774:Nat:=0
def PySem.W.Fast.tw5317040415346826411:Nat:=0
def PySem.W.Fast.tw7537523194505096061:Nat:=0
def PySem.W.Fast.tw10523212703246914668:Nat:=0
def PySem.W.Fast.tw2295192464279175502:Nat:=0
def PySem.W.Fast.tw15387914696709316868:Nat:=0
def PySem.W.Fast.tw713645563590300882:Nat:=0
def PySem.W.Fast.tw11647779417036433081:Nat:=0
def PySem.W.Fast.tw14609847958399240537:Nat:=0
def PySem.W.Fast.tw13469523572298019155:Nat:=0
def PySem.W.Fast.tw11300400397860362315:Nat:=0
def PySem.W.Fast.tw12909396292343953736:Nat:=0
def PySem.W.Fast.tw9602839498526562267:Nat:=0
def PySem.W.Fast.tw17607074299155190611:Nat:=0
def PySem.W.Fast.tw10431904771141084203:Nat:=0
def PySem.W.Fast.tw1495684731346390271:Nat:=0
def PySem.W.Fast.tw8090740322025170735:Nat:=0
def PySem.W.Fast.tw12388099917876582462:Nat:=0
def PySem.W.Fast.tw391174431134716254:Nat:=0
def PySem.W.Fast.tw9049830385516666501:Nat:=0
def PySem.W.Fast.tw15687565273672187541:Nat:=0
def PySem.W.Fast.tw12938377762298046598:Nat:=0
def PySem.W.Fast.tw1567132936643894791:Nat:=0
def PySem.W.Fast.tw1536117943888691841:Nat:=0
def PySem.W.Fast.tw499543008251012297:Nat:=0
def PySem.W.Fast.tw13630833542159614420:Nat:=0
def PySem.W.Fast.tw16492500767999907922:Nat:=0
def PySem.W.Fast.tw14676539498816102086:Nat:=0
def PySem.W.Fast.tw9670970077532495628:Nat:=0
def PySem.W.Fast.tw10558917282258717627:Nat:=0
def PySem.W.Fast.tw3646908725859837654:Nat:=0
def PySem.W.Fast.tw7778762962774565427:Nat:=0
def PySem.W.Fast.tw3688749244303511040:Nat:=0
def PySem.W.Fast.tw15621679650787198973:Nat:=0
def PySem.W.Fast.tw14584584921077765555:Nat:=0
def PySem.W.Fast.tw5124193723044306300:Nat:=0
def PySem.W.Fast.tw14385485190973551885:Nat:=0
def PySem.W.Fast.tw15229951549317592946:Nat:=0
def PySem.W.Fast.tw2010982615044416231:Nat:=0
def PySem.W.Fast.tw7867374257406033606:Nat:=0
def PySem.W.Fast.tw6728348413346894728:Nat:=0
def PySem.W.Fast.tw13703485418368633520:Nat:=0
def PySem.W.Fast.tw315155290285399176:Nat:=0
def PySem.W.Fast.tw6601280031250643923:Nat:=0
def PySem.W.Fast.tw2274020052156000592:Nat:=0
def PySem.W.Fast.tw17117817857125735702:Nat:=0
def PySem.W.Fast.tw12596370480473954759:Nat:=0
def PySem.W.Fast.tw6246742873935016525:Nat:=0
def PySem.W.Fast.tw17695876937194871351:Nat:=0
def PySem.W.Fast.tw3536860750894709014:Nat:=0
def PySem.W.Fast.tw1993481691843821689:Nat:=0
def PySem.W.Fast.tw13582462419605379747:Nat:=0
def PySem.W.Fast.tw6368470317853764390:Nat:=0
open PySem PySem.W PyProof.Rows L2
set_option maxRecDepth 100000 in
set_option maxHeartbeats 0 in
theorem PySem.Challenge.cw_duskround_k22_whole_one_form_of_stairs_holds : PySem.Challenge.rw_duskround_k22_whole_one_form_of_stairs.Holds := by
 w_on;o_law;k_head;(case hw=>w_witness2)
 k_fill
 refine iA.walk (l:=PySem.Challenge.rw_duskround_k22_whole_one_form_of_stairs) rfl rfl (λw h Y=>PySem.W.kIn_of Y) rfl λw mg h X G=> ?_
 have' QZ:=dN (x:= "tidy") (ps:= ["p","pairs"]) (st:=iA.v8) X G ?g14 ?g15 ?g16 ?g17 (λ_ _ _ _ _ _ _ _=>rfl);(case g14=>k_is);(case g15=>k_is);(case g16=>k_is);(case g17=>k_is);have' EJ:=dN (x:= "inverse") (ps:= ["p","setting"]) (st:=iA.qe) X G ?g18 ?g19 ?g20 ?g21 (λ_ _ _ _ _ _ _ _=>rfl);(case g18=>k_is);(case g19=>k_is);(case g20=>k_is);(case g21=>k_is);have' Jn:=IJ (x:= "Row") (ps:= ["self","lamps","parts"]) (st:=iA.Gb) X G ?g22 ?g23 ?g24 ?g25 ?g26 ?g27 ?g28 ?g29 ?g30 ?g31 ?g32 ?g33 (λ_ _ _ _ _ _ _ _ _=>rfl);(case g22=>k_is);(case g23=>k_is);(case g24=>k_is);(case g25=>k_is);(case g26=>k_is);(case g27=>k_is);(case g28=>k_is);(case g29=>k_is);(case g30=>k_is);(case g31=>k_is);(case g32=>k_is);(case g33=>k_is);have' mR:=IJ (x:= "Stair") (ps:= ["self","row","first","length","foot"]) (st:=iA.we) X G ?g34 ?g35 ?g36 ?g37 ?g38 ?g39 ?g40 ?g41 ?g42 ?g43 ?g44 ?g45 (λ_ _ _ _ _ _ _ _ _ _ _=>rfl);(case g34=>k_is);(case g35=>k_is);(case g36=>k_is);(case g37=>k_is);(case g38=>k_is);(case g39=>k_is);(case g40=>k_is);(case g41=>k_is);(case g42=>k_is);(case g43=>k_is);(case g44=>k_is);(case g45=>k_is);have' Jm:=dN (x:= "column") (ps:= ["place","stride"]) (st:=iA.sC) X G ?g46 ?g47 ?g48 ?g49 (λ_ _ _ _ _ _ _ _=>rfl);(case g46=>k_is);(case g47=>k_is);(case g48=>k_is);(case g49=>k_is);have' tU:=dN (x:= "first_column") (ps:= ["places","stride"]) (st:=iA.gM) X G ?g50 ?g51 ?g52 ?g53 (λ_ _ _ _ _ _ _ _=>rfl);(case g50=>k_is);(case g51=>k_is);(case g52=>k_is);(case g53=>k_is);have' EK:=dN (x:= "heights") (ps:= ["places","stride","first"]) (st:=iA.kg) X G ?g54 ?g55 ?g56 ?g57 (λ_ _ _ _ _ _ _ _ _=>rfl);(case g54=>k_is);(case g55=>k_is);(case g56=>k_is);(case g57=>k_is);have' uw:=dN (x:= "add_shifted") (ps:= ["p","held","others","by","n"]) (st:=iA.j7) X G ?g58 ?g59 ?g60 ?g61 (λ_ _ _ _ _ _ _ _ _ _ _=>rfl);(case g58=>k_is);(case g59=>k_is);(case g60=>k_is);(case g61=>k_is);have' zv:=dN (x:= "add_moved") (ps:= ["p","stride","row","other","shift","n"]) (st:=iA.lM) X G ?g62 ?g63 ?g64 ?g65 (λ_ _ _ _ _ _ _ _ _ _ _ _=>rfl);(case g62=>k_is);(case g63=>k_is);(case g64=>k_is);(case g65=>k_is);have' pQ:=dN (x:= "too_high_or_low") (ps:= ["found","length"]) (st:=iA.gL) X G ?g66 ?g67 ?g68 ?g69 (λ_ _ _ _ _ _ _ _=>rfl);(case g66=>k_is);(case g67=>k_is);(case g68=>k_is);(case g69=>k_is);have' VE:=dN (x:= "cut") (ps:= ["p","stride","row","stair"]) (st:=iA.Ga) X G ?g70 ?g71 ?g72 ?g73 (λ_ _ _ _ _ _ _ _ _ _=>rfl);(case g70=>k_is);(case g71=>k_is);(case g72=>k_is);(case g73=>k_is);have' LY:=dN (x:= "stood") (ps:= ["p","stride","row"]) (st:=iA.v9) X G ?g74 ?g75 ?g76 ?g77 (λ_ _ _ _ _ _ _ _ _=>rfl);(case g74=>k_is);(case g75=>k_is);(case g76=>k_is);(case g77=>k_is);have' xu:=dN (x:= "told_parts") (ps:= ["p","parts","n"]) (st:=iA.i9) X G ?g78 ?g79 ?g80 ?g81 (λ_ _ _ _ _ _ _ _ _=>rfl);(case g78=>k_is);(case g79=>k_is);(case g80=>k_is);(case g81=>k_is);have' EG:=dN (x:= "take_in") (ps:= ["p","stride","held","row"]) (st:=iA.qb) X G ?g82 ?g83 ?g84 ?g85 (λ_ _ _ _ _ _ _ _ _ _=>rfl);(case g82=>k_is);(case g83=>k_is);(case g84=>k_is);(case g85=>k_is);have' EH:=dN (x:= "lie_low") (ps:= ["p","stride","held"]) (st:=iA.qc) X G ?g86 ?g87 ?g88 ?g89 (λ_ _ _ _ _ _ _ _ _=>rfl);(case g86=>k_is);(case g87=>k_is);(case g88=>k_is);(case g89=>k_is);have' L4:=dN (x:= "built") (ps:= ["p","stride","patterns"]) (st:=iA.oH) X G ?g90 ?g91 ?g92 ?g93 (λ_ _ _ _ _ _ _ _ _=>rfl);(case g90=>k_is);(case g91=>k_is);(case g92=>k_is);(case g93=>k_is);have' EI:=dN (x:= "_law_begin") (ps:= ["_law_script"]) (st:=iA.qd) X G ?g94 ?g95 ?g96 ?g97 (λ_ _ _ _ _ _ _=>rfl);(case g94=>k_is);(case g95=>k_is);(case g96=>k_is);(case g97=>k_is);have' Jl:=dN (x:= "_law_take") (ps:= ["_law_draw","_law_many"]) (st:=iA.sA) X G ?g98 ?g99 ?ZT ?ZS (λ_ _ _ _ _ _ _ _=>rfl);(case g98=>k_is);(case g99=>k_is);(case ZT=>k_is);(case ZS=>k_is);have' VD:=dN (x:= "_law_p") (ps:= ["_law_draw"]) (st:=iA.F') X G ?ZR ?ZQ ?ZP ?ZO (λ_ _ _ _ _ _ _=>rfl);(case ZR=>k_is);(case ZQ=>k_is);(case ZP=>k_is);(case ZO=>k_is);have' Jk:=dN (x:= "_law_tidy") (ps:= ["_law_p_here","_law_pairs"]) (st:=iA.oG) X G ?ZN ?ZM ?ZL ?ZK (λ_ _ _ _ _ _ _ _=>rfl);(case ZN=>k_is);(case ZM=>k_is);(case ZL=>k_is);(case ZK=>k_is);have' zt:=dN (x:= "_law_pattern") (ps:= ["_law_draw","_law_p_here","_law_most","_law_far"]) (st:=iA.lK) X G ?ZJ ?ZI ?ZH ?ZG (λ_ _ _ _ _ _ _ _ _ _=>rfl);(case ZJ=>k_is);(case ZI=>k_is);(case ZH=>k_is);(case ZG=>k_is);have' pR:=dN (x:= "_law_draw_patterns") (ps:= ["_law_draw","_law_p_here","_law_most"]) (st:=iA.fH) X G ?ZF ?ZE ?ZD ?ZC (λ_ _ _ _ _ _ _ _ _=>rfl);(case ZF=>k_is);(case ZE=>k_is);(case ZD=>k_is);(case ZC=>k_is);have' LZ:=dN (x:= "_law_sum") (ps:= ["_law_p_here","_law_one","_law_other","_law_by","_law_many"]) (st:=iA.rH) X G ?ZA ?Zz ?Zy ?Zx (λ_ _ _ _ _ _ _ _ _ _ _=>rfl);(case ZA=>k_is);(case Zz=>k_is);(case Zy=>k_is);(case Zx=>k_is);have' L3:=dN (x:= "_law_int") (ps:= ["_law_thing"]) (st:=iA.wd) X G ?Zw ?Zv ?Zu ?Zt (λ_ _ _ _ _ _ _=>rfl);(case Zw=>k_is);(case Zv=>k_is);(case Zu=>k_is);(case Zt=>k_is);have' tT:=dN (x:= "_law_is_pattern") (ps:= ["_law_p_here","_law_thing"]) (st:=iA.jm) X G ?Zs ?Zr ?Zq ?Zp (λ_ _ _ _ _ _ _ _=>rfl);(case Zs=>k_is);(case Zr=>k_is);(case Zq=>k_is);(case Zp=>k_is);have' zu:=dN (x:= "_law_changed") (ps:= ["_law_draw","_law_p_here","_law_stride","_law_patterns"]) (st:=iA.lL) X G ?Zo ?Zn ?Zm ?Zl (λ_ _ _ _ _ _ _ _ _ _=>rfl);(case Zo=>k_is);(case Zn=>k_is);(case Zm=>k_is);(case Zl=>k_is);have' VC:=dN (x:= "law") (ps:= ["_law_script"]) (st:=iA.BB) X G ?Zk ?Zj ?Zi ?Zh (λ_ _ _ _ _ _ _=>rfl);(case Zk=>k_is);(case Zj=>k_is);(case Zi=>k_is);(case Zh=>k_is);have' zo:=sM Jn "lamps" ?eC;(case eC=>k_is);have' zm:=sM Jn "parts" ?fg;(case fg=>k_is);have' uv:=sM mR "first" ?iD;(case iD=>k_is);have' xo:=sM mR "foot" ?ja;(case ja=>k_is);have' ur:=sM mR "lamps" ?d3;(case d3=>k_is);have' tN:=sM mR "length" ?gO;(case gO=>k_is);have' uq:=sM mR "parts" ?dZ;(case dZ=>k_is)
 refine' ⟨⟨_,_,_,_,_,_,_,_,_,_,_,_,_,_,_,_,_,_,_,_,_,_,_,_,_,_,_,_,_,_,_,_,_,_,_,_,_,_,_,_,_,_,_,_,_,_,_,_,_,_,_,_,_,_,_,_⟩,bS X G ?g1,bS X G ?g2,bS X G ?g3,bS X G ?g4,bS X G ?g5,bS X G ?g6,bS X G ?g7,bS X G ?g8,bS X G ?g9,bS X G ?g10,bS X G ?g11,bS X G ?g12,bS X G ?g13,QZ,EJ,Jn,mR,Jm,tU,EK,uw,zv,pQ,VE,LY,xu,EG,EH,L4,EI,Jl,VD,Jk,zt,pR,LZ,L3,tT,zu,VC,zo,zm,uv,xo,ur,tN,uq⟩
 (case g1=>k_is);(case g2=>k_is);(case g3=>k_is);(case g4=>k_is);(case g5=>k_is);(case g6=>k_is);(case g7=>k_is);(case g8=>k_is);(case g9=>k_is);(case g10=>k_is);(case g11=>k_is);(case g12=>k_is);(case g13=>k_is)
