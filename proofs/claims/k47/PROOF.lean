import PyProof.Rows.All
import Wide.All
import OpenK.AllK
import Wide.FinOn
import Lean
import PyProof.EqAt
import PyProof.EqKinds
import PyProof.TupleCall
import PyProof.Rows.TupIter
import PyProof.ZipIter
import PyProof.Rows.SortShell
import OpenK.KMore
import PyProof.Rows.SetFrom
import KE.KLam
import KE.KNestM
import KE.KDictSum
import KE.KTryOn
import PyProof.NsDelKeeps
import PyProof.RulesAs
import PyProof.Rows.FStr
import PyProof.FString
import KE.KDictLaws
import PyProof.CollectWalk
import PyProof.ListNew
import KE.KIntText
import KE.IntTextLaws
import PyProof.StrBlockI
import PyProof.ConsumeWalk
import PyProof.StrLawsIn
import PyProof.MinMaxWalk
import KE.KMinBuiltin
import PyProof.Rows.CallKwBuiltin
import PyProof.ExcInit
import PyProof.ReprStr
import PyProof.StrLawsRepr
import PySem.SetTable
import PySem.Challenge.RW_runmarks_k47_packed_answers
set_option maxHeartbeats 4000000
local macro_rules|`(tactic|ext b)=>`(tactic| exact ⟨rfl,rfl,rfl,by decide +kernel,rfl,by decide +kernel,by decide +kernel⟩)
local macro_rules|`(tactic|ext g)=>`(tactic| first | exact Or.inl rfl | exact Or.inr rfl)
set_option hygiene false in
local macro_rules|`(tactic|ext j)=>`(tactic| first | (obtain ⟨rfl,_⟩:=h; rfl) | (obtain ⟨_,h⟩:=h; ext j))
set_option hygiene false in
local macro_rules|`(tactic|ext c)=>`(tactic| ((focus intro vs H Q E h; ext j); intro f cdv A outer s H vs Q E hr h))
def zt:=@PySem.wpAny_bind
def zT:=@PySem.Heap.get?_push_of_some
def zk:=@PyProof.Rows.wpS_bind
def zc:=@PySem.wpAny_pure
def zU:=@PySem.Heap.lt_size
def zg:=@PyProof.Rows.wpS_pure
def yn:=@PySem.Heap.get?_push_size
def yN:=@PySem.F.plainAttrs_list
def x5:=@List.Perm.append_left
def xU:=@PySem.F.slot_list_append
def xT:=@PySem.F.type_list_append
def yd:=@PySem.PassesOwn.never
def yZ:=@PySem.boot_len
def xD:=@PySem.W.mg_none_of
def yM:=@PyProof.Rows.wpS_forRange
def yY:=@PySem.wpAny_mono
def wJ:=@PySem.wpAny_Call_Name_kw
def wu:=@PySem.W.kia_one
def vv:=@PySem.mem_of_lookup
def uN:=@PyProof.Rows.callWith_type1
def vt:=@PySem.Calls.spliced_cons
def vq:=@PySem.wpAny_setState_of
def uM:=@PySem.wpAny_getItem_str_slice
def uy:=@beq_eq_false_iff_ne
def uL:=@PySem.Heap.get?_update_other
def uK:=@PySem.F.plainAttrs_str
def vR:=@PySem.wpAny_call_entry
def wI:=@PySem.wpAny_holding
def ux:=@PySem.W.callWith_K
def uJ:=@PySem.Heap.get?_update_self
def uw:=@PySem.wpAny_setField_rec
def uI:=@PySem.F.slot_str_join
def uH:=@PySem.F.type_str_join
def x4:=@if_false
def uG:=@PySem.Around.under_plainId
def uv:=@PySem.wpAny_truthy_bool
def vQ:=@PySem.wpAny_passesOwn
def xC:=@beq_iff_eq
def uu:=@PySem.Calls.spliced_nil
def sP:=@PySem.F.slot_list_extend
def sO:=@PySem.F.type_list_extend
def wH:=@PySem.codeAny_mono
def vp:=@PySem.Paired.length
def vo:=@PySem.W.mg_of
def xy:=@PyProof.Rows.wpS_mono
def sN:=@PySem.wpAny_callSpecial?_slot
def uF:=@PySem.wpAny_setEntries_of
def vP:=@PySem.Heap.size_push
def sM:=@PySem.Calls.callWith_builtin
def ur:=@PySem.wpAny_execs_nil
def uo:=@PySem.codeAny_builtin
def wa:=@PyProof.Rows.wpS_modify
def wZ:=@PySem.wpAny_rule
def uE:=@PySem.fits_of_scanBound
def uD:=@PySem.wpAny_newObj_type
def dW:=@List.getElem?_cons_zero
def dU:=@List.getElem?_cons_succ
def o8:=@PyProof.Rows.F.plain_set_update_loop
def wq:=@or_false
def sJ:=@PySem.Value.isInt_shape
def vO:=@PySem.sizeLine_eq
def o7:=@Option.some.injEq
def lC:=@PyProof.Rows.callWith_builtin1
def o6:=@PySem.Calls.evalArgs_plain
def uC:=@PySem.wpAny_attempt
def uB:=@PySem.plainId_quiet
def lB:=@PySem.F.slot_dict_setdefault
def o5:=@PySem.W.hideAll_get
def o4:=@PySem.W.plainGet_of
def wo:=@if_true
def xB:=@PyProof.Rows.wpS_get
def o3:=@PySem.Heap.SameBut.update
def sI:=@PySem.post_val_or_str
def dS:=@List.set_cons_succ
def dR:=@List.set_cons_zero
def sG:=@PySem.wpAny_fieldsOf
def lA:=@PySem.F.plain_extend_loop
def um:=@PySem.call_meets
def k9:=@List.Pairwise.imp_of_mem
def oz:=@bne_self_eq_false
def oy:=@PySem.wpAny_storeSet_of
def k8:=@PySem.F.plainAttrs_tuple
def k6:=@PySem.F.slot_tuple_index
def kx:=@PySem.F.type_tuple_index
def vn:=@PyProof.Rows.wpS_lift
def ku:=@PySem.F.plain_list_iadd
def kr:=@PySem.F.plainAttrs_dict
def kq:=@PySem.F.slot_dict_items
def dQ:=@List.cons_append
def ox:=@PySem.wpAny_execs_cons
def ot:=@beq_self_eq_true
def oq:=@PySem.wpAny_askSetting
def oo:=@PySem.Str.empty_append
def kj:=@PyProof.noPylong_small
def ki:=@PySem.W.cellsFrom_some
def dP:=@List.nil_append
def kh:=@PySem.W.methodCall_KW
def kf:=@PySem.F.plain_set_new
def ke:=@PySem.F.slot_set_iter
def om:=@PySem.wpAny_ite_split
def uA:=@PySem.wpAny_call
def dO:=@List.map_cons
def dN:=@List.map_nil
def zj:=@List.length_append
def zV:=@List.getElem?_eq_getElem
def za:=@List.length_map
def zi:=@Nat.le_refl
def zZ:=@List.length_cons
def zY:=@List.append_assoc
def y6:=@List.getElem?_append_right
def zI:=@Array.length_toList
def zW:=@List.mem_cons
def zR:=@List.mem_append
def zF:=@List.pairwise_append
def y4:=@List.mem_of_getElem?
def yq:=@List.take_append_drop
def zA:=@List.mem_singleton
def yT:=@List.getElem?_eq_some_iff
def zH:=@List.append_nil
def zK:=@decide_eq_true
def yf:=@List.mem_append_right
def yL:=@List.getD_eq_getElem?_getD
def yw:=@Bool.false_ne_true
def y9:=@List.getElem_mem
def yv:=@List.size_toArray
def y3:=@List.length_take
def zO:=@Nat.le_trans
def zS:=@Nat.zero_le
def yp:=@Int.toNat_natCast
def yP:=@List.take_of_length_le
def yl:=@Nat.lt_of_lt_of_le
def yS:=@Array.getElem?_toList
def yu:=@decide_eq_false
def zJ:=@List.mem_map
def yz:=@dO
def yc:=@List.length_range
def yF:=@List.mem_append_left
def yb:=@dP
def xS:=@List.getElem?_append_left
def yR:=@List.getElem?_map
def zE:=@Nat.ne_of_lt
def zD:=@getElem?_pos
def xx:=@List.mem_cons_of_mem
def xw:=@List.flatten_append
def xq:=@List.mem_iff_getElem
def yX:=@List.map_append
def wY:=@Nat.testBit_two_pow_mul_add
def yE:=@List.flatten_cons
def xp:=@List.mem_cons_self
def xc:=@List.length_reverse
def xb:=@Array.toList_append
def xR:=@List.mem_of_mem_take
def xQ:=@Bool.false_eq_true
def xo:=@List.flatMap_cons
def xn:=@List.drop_sublist
def xv:=@List.length_drop
def yD:=@List.mem_filter
def wG:=@List.drop_eq_getElem_cons
def wF:=@Array.getElem?_eq_getElem
def xa:=@List.take_sublist
def wX:=@List.drop_of_length_le
def yC:=@List.take_succ
def xA:=@Int.natCast_nonneg
def yO:=@List.map_map
def wW:=@List.mem_of_mem_drop
def xP:=@Bool.and_eq_true
def xO:=@List.lookup_cons
def xN:=@List.length_nil
def yK:=@Nat.pow_succ
def w8:=@List.filter_cons
def w6:=@List.getElem_map
def wV:=@Nat.lt_of_le_of_lt
def vm:=@List.eq_nil_or_concat
def vk:=@List.concat_eq_append
def vj:=@List.perm_append_comm
def wm:=@List.not_mem_nil
def wU:=@of_decide_eq_true
def wR:=@Nat.lt_succ_of_lt
def vN:=@List.filter_cons_of_neg
def yB:=@Nat.pow_pos
def xk:=@Nat.zero_add
def wD:=@Int.emod_lt_of_pos
def wk:=@List.foldl_cons
def wj:=@Int.emod_nonneg
def xM:=@Nat.lt_irrefl
def wQ:=@Nat.lt_succ_self
def vi:=@dQ
def wO:=@List.ext_getElem
def wN:=@decide_eq_decide
def wM:=@List.take_length
def vh:=@List.map_congr_left
def vg:=@decide_eq_true_eq
def t6:=@Array.getD_eq_getD_getElem?
def uk:=@List.length_eq_zero_iff
def xK:=@Nat.le_of_lt
def xJ:=@Nat.add_zero
def xI:=@Nat.lt_or_ge
def uh:=@List.filter_eq_nil_iff
def vM:=@List.filter_eq_self
def ug:=@List.length_replicate
def sE:=@List.take_append_of_le_length
def sC:=@List.drop_append_of_le_length
def uf:=@Nat.pow_le_pow_right
def wg:=@Nat.sub_self
def xZ:=@Nat.mod_lt
def vf:=@Bool.eq_iff_iff
def tw:=@Nat.div_div_eq_div_mul
def vL:=@List.range'_succ
def vK:=@List.mem_reverse
def wC:=@Nat.add_assoc
def ue:=@List.getElem_range
def r9:=@Nat.add_mul_mod_self_left
def ve:=@List.drop_zero
def vJ:=@List.nodup_cons
def r8:=@List.getElem_append_left
def wB:=@Nat.ne_of_gt
def tq:=@List.replicate_succ
def r6:=@List.filter_cons_of_pos
def tm:=@List.getElem?_drop
def wA:=@Nat.le_succ
def vd:=@Nat.mul_comm
def rq:=@List.length_filter_le
def uc:=@Nat.not_lt_zero
def ua:=@Bool.not_true
def tj:=@List.foldl_append
def tZ:=@Array.toList_push
def oj:=@Array.toList_setIfInBounds
def oi:=@Nat.shiftRight_eq_div_pow
def uZ:=@List.drop_drop
def oh:=@List.extract_eq_take_drop
def oa:=@List.pairwise_iff_getElem
def tY:=@Nat.mod_eq_of_lt
def rn:=@List.filterMap_cons
def rm:=@List.flatMap_append
def vI:=@Nat.add_comm
def oZ:=@Array.size_setIfInBounds
def tX:=@List.find?_cons
def rj:=@List.filter_append
def tW:=@List.filter_map
def rh:=@List.pairwise_cons
def ka:=@dS
def kZ:=@List.flatten_replicate_singleton
def rg:=@List.filter_congr
def oY:=@Bool.not_eq_true'
def rf:=@dN
def oX:=@List.length_singleton
def kY:=@Nat.and_two_pow_sub_one_eq_mod
def oW:=@List.set_append_right
def uY:=@Nat.sub_zero
def oV:=@List.getElem?_reverse
def rZ:=@List.flatten_nil
def oU:=@Nat.eq_of_testBit_eq
def oS:=@List.getLast?_concat
def oR:=@Array.toList_extract
def tV:=@List.any_cons
def kX:=@List.dropLast_concat_getLast
def rY:=@Nat.pow_dvd_pow
def rX:=@Nat.testBit_and
def oQ:=@Nat.testBit_two_pow
def rW:=@Nat.min_eq_left
def rV:=@List.sum_append
def kW:=@Int.fdiv_eq_ediv_of_nonneg
def kU:=@List.perm_append_singleton
def oP:=@List.mem_filterMap
def tU:=@Nat.le_of_eq
def dM:=@dR
def tT:=@Nat.pow_zero
def oO:=@Nat.add_sub_cancel
def rT:=@List.mem_range
def rS:=@List.drop_take
def rQ:=@List.drop_left
def rP:=@Array.size_map
def kT:=@List.rel_of_pairwise_cons
def kS:=@Option.isSome_iff_exists
def kR:=@List.getElem?_take_of_lt
def oN:=@List.reverse_cons
def oM:=@List.ext_getElem?
def oK:=@Nat.le_succ_of_le
def kQ:=@List.filterMap_cons_none
def kP:=@List.getElem?_replicate
def tR:=@Nat.pow_add
def kO:=@List.pairwise_of_forall
def aF:=@dW
def aE:=@dU
def tQ:=@List.map_id
def kM:=@Nat.add_sub_cancel_left
def oJ:=@Nat.le_of_not_lt
def oI:=@List.mem_flatMap
def kK:=@List.getElem?_set_self
def kJ:=@List.range_succ_eq_map
def kI:=@List.pairwise_lt_range
def kH:=@Array.getElem?_eq_none
def kG:=@List.getElem_replicate
def oH:=@List.of_mem_zip
def oG:=@List.length_set
def rO:=@Nat.lt_trans
def oF:=@List.forIn_cons
def oE:=@List.range_succ
def oC:=@Int.natCast_add
def oB:=@Nat.le_antisymm
def kF:=@List.getElem?_eq_none
def kE:=@Bool.not_false
def oA:=@List.take_zero
def rN:=@Nat.add_mod
def n0:=@List.map_take
def rL:=@Nat.not_lt
def ny:=@Nat.mul_succ
abbrev zh:=PySem.W.Frag
variable {us:List PySem.Value}{P prog:PySem.Program}{w:PySem.World}{h' base:PySem.Heap}{pins:List (PySem.Addr × PySem.Obj)}{t' ep:Nat}{N ps:List PySem.Str}{A:PySem.Around}{E Q:PySem.Value->PySem.Shared->Prop}{K:zh}{st:PySem.Stmt}{es:List PySem.Expr}{tg:PySem.Expr}{pos' apos:PySem.Pos}{fp ts:List PySem.Addr}{C:PySem.Addr}{t:List Bool}{mg:PySem.Str->Option PySem.Value}{fd:PySem.FuncData}{outer:List PySem.Env}{qual:PySem.Str}{scope:PySem.Scope}{cd:PySem.Value}{osl:Array (Option PySem.Value)}{rs ss:List (Nat × Nat)}{caps:List Nat}{clos:List (PySem.Str × PySem.Addr)}{s0:PySem.Shared}
set_option Elab.async false
set_option linter.all false
set_option maxRecDepth 100000
namespace L2
open PySem PySem.Spec PyProof.Rows
abbrev Key:=Sum Int Str
def keyIs:Key->Value->Bool
 | .inl k,v=>Value.isInt k v
 | .inr x,v=>Value.isStrOf x v
def keyH (w:World):Key->Int
 | .inl k=>hashInt k
 | .inr x=>hashStr w x
theorem wL:∀ {k:Key} {v:Value},keyIs k v=true->(∃ i t,k=Sum.inl i/\v=Value.int i t)\/(∃ x t,k=Sum.inr x/\v=Value.str x t)
 | .inl i,v,h=>by
   obtain ⟨t,e⟩:=sJ (k:=i) (v:=v) h;exact .inl ⟨i,t,rfl,e⟩
 | .inr x,v,h=>by
   obtain ⟨t,e⟩:=Value.isStrOf_shape (x:=x) (v:=v) h;exact .inr ⟨x,t,rfl,e⟩
theorem dJ (i:Int)(t:Tok):keyIs (.inl i) (.int i t)=true:=by simp [keyIs,Value.isInt]
theorem dI (x:Str)(t:Tok):keyIs (.inr x) (.str x t)=true:=by simp [keyIs,Value.isStrOf]
theorem key_ll (a b:Int):decide ((Sum.inl a:Key)=Sum.inl b)=(a==b):=by
 by_cases e:a=b;{subst e;simp}
 . have h:¬ (Sum.inl a:Key)=Sum.inl b:=λq=>e (Sum.inl.inj q)
   rw [yu h];exact (uy.mpr e).symm
theorem key_rr (a b:Str):decide ((Sum.inr a:Key)=Sum.inr b)=decide (a=b):=by
 by_cases e:a=b;{subst e;simp}
 . have h:¬ (Sum.inr a:Key)=Sum.inr b:=λq=>e (Sum.inr.inj q)
   rw [yu h,yu e]
theorem key_lr (a:Int)(b:Str):decide ((Sum.inl a:Key)=Sum.inr b)=false:=yu (λq=>nomatch q)
theorem key_rl (a:Str)(b:Int):decide ((Sum.inr a:Key)=Sum.inl b)=false:=yu (λq=>nomatch q)
def mixKind (prog:Program) (w:World):PySem.KeyKind prog w Key where
 is:=keyIs
 hash:=keyH w
 inj := λv a b ha hb=>by
   rcases wL ha with ⟨i,t,rfl,rfl⟩ | ⟨x,t,rfl,rfl⟩
   . rcases wL hb with ⟨j,u,rfl,e⟩ | ⟨y,u,rfl,e⟩
     . injection e with e1 _;rw [e1]
     . exact nomatch e
   . rcases wL hb with ⟨j,u,rfl,e⟩ | ⟨y,u,rfl,e⟩
     . exact nomatch e
     . injection e with e1 _;rw [e1]
 byValue:=λk v h=>by
   rcases wL h with ⟨i,t,rfl,rfl⟩ | ⟨x,t,rfl,rfl⟩<;>rfl
 pyHash:=λhv h=>by
   rcases wL hv with ⟨i,t,rfl,rfl⟩ | ⟨x,t,rfl,rfl⟩
   . exact wpAny_pyHash_int h
   . exact wpAny_pyHash_str h
 eqBool:=λhu hv h=>by
   rcases wL hu with ⟨i,t,rfl,rfl⟩ | ⟨x,t,rfl,rfl⟩
   . rcases wL hv with ⟨j,u,rfl,rfl⟩ | ⟨y,u,rfl,rfl⟩
     . rw [key_ll] at h;exact wpAny_eqBool_int h
     . rw [key_lr] at h;exact SeqAt.EqAt.int_str i t y u _ _ _ _ h
   . rcases wL hv with ⟨j,u,rfl,rfl⟩ | ⟨y,u,rfl,rfl⟩
     . rw [key_rl] at h;exact SeqAt.EqAt.str_int x t j u _ _ _ _ h
     . rw [key_rr] at h;exact wpAny_eqBool_str h
 «strs»:=λk x t v h=>by
   rcases wL h with ⟨i,u,rfl,e⟩ | ⟨y,u,rfl,e⟩
   . exact nomatch e
   . injection e with e1 _
     subst e1;cases v<;>rfl
theorem dH (prog:Program)(w:World)(i:Int)(t:Tok):(mixKind prog w).is (.inl i) (.int i t)=true:=dJ i t
theorem dG (prog:Program)(w:World)(x:Str)(t:Tok):(mixKind prog w).is (.inr x) (.str x t)=true:=dI x t
inductive V where
 | non | bl (b:Bool) | int (i:Int) | str (x:Str) | byt (b:Array UInt8) | flt (b:UInt64) | ref (a:Addr) | ty (n:String)
 deriving DecidableEq
def RelV:V->Value->Prop
 | .non,u=>u=Value.none
 | .bl b,u=>u=Value.bool b
 | .int i,u=>∃ t,u=Value.int i t
 | .str x,u=>∃ t,u=Value.str x t
 | .byt b,u=>∃ t,u=Value.bytes b t
 | .flt b,u=>∃ t,u=Value.float b t
 | .ref a,u=>u=Value.ref a
 | .ty n,u=>u=Value.type n
abbrev Vals:List V->List Value->Prop:=Paired RelV
theorem Vals.length {xs:List V}(r:Vals xs us):xs.length=us.length:=vp r
theorem Vals.get:∀ {xs:List V} {us:List Value} {i:Nat} {x:V},Vals xs us->xs[i]?=some x->∃ u,us[i]?=some u/\RelV x u
 | _,_,_,_,.nil,e=>by simp at e
 | _,_,0,_,.cons r _,e=>by simp at e;subst e;exact ⟨_,rfl,r⟩
 | _,_,i+1,x,.cons _ t,e=>by
   obtain ⟨u,h1,h2⟩:=Vals.get (i:=i) (x:=x) t (by simpa using e);exact ⟨u,by simpa using h1,h2⟩
theorem Vals.set {x:V}{u:Value}(r:RelV x u):∀ {xs:List V} {us:List Value} (i:Nat),Vals xs us->Vals (xs.set i x) (us.set i u)
 | _,_,_,.nil=>.nil
 | _,_,0,.cons _ t=>.cons r t
 | _,_,i+1,.cons q t=>.cons q (Vals.set r i t)
theorem Vals.append {xs ys:List V}{ws:List Value}(h:Vals xs us)(s:Vals ys ws):Vals (xs++ys) (us++ws):=by
 induction h with
 | nil=>exact s
 | cons r _ ih=>exact .cons r ih
theorem Vals.take:∀ {xs:List V} {us:List Value} (n:Nat),Vals xs us->Vals (xs.take n) (us.take n)
 | _,_,0,_=>.nil
 | _,_,_+1,.nil=>.nil
 | _,_,n+1,.cons r t=>.cons r (Vals.take n t)
theorem Vals.drop:∀ {xs:List V} {us:List Value} (n:Nat),Vals xs us->Vals (xs.drop n) (us.drop n)
 | _,_,0,r=>r
 | _,_,_+1,.nil=>.nil
 | _,_,n+1,.cons _ t=>Vals.drop n t
def RelO:Option V->Option Value->Prop
 | some v,some u=>RelV v u
 | none,none=>True
 | _,_=>False
def KV {κ:Type}:List (κ × V)->List (κ × Value)->Prop:=Paired λ(p:κ × V) (q:κ × Value)=>p.1=q.1/\RelV p.2 q.2
def kV:Key->V
 | .inl i=>.int i
 | .inr x=>.str x
inductive HO where
 | lst (xs:List V)
 | tup (xs:List V)
 | dK (kvs:List (Key × V)) | dT (kvs:List (List Key × V))
 | set (S:Int->Bool) (n:Nat)
 | ins (C dx:Addr) (fs:List (Str × V))
 | own (x:Addr)
 | xd (fs:List (Str × V))
 | met (f x:Addr)
 | rng (lo hi:Int)
 | frz (o:Obj) (u:HO)
 | tbl (ps:Array Value)
 | ext (φ:Heap->Prop)
abbrev Hp:=Addr->Option HO
def upd (H:Hp)(a:Addr)(o:HO):Hp:=λb=>if b=a then some o else H b
theorem zm {H:Hp}{a:Addr}{o:HO}:upd H a o a=some o:=by unfold upd;rw [if_pos rfl]
theorem zo {H:Hp}{a b:Addr}{o:HO}(h:b≠a):upd H a o b=H b:=by unfold upd;rw [if_neg h]
theorem upd_upd {H:Hp}{a:Addr}{o u:HO}:upd (upd H a o) a u=upd H a u:=by funext b;unfold upd;split<;>rfl
theorem ne_of {H:Hp}{a b:Addr}{o u:HO}(h:H a=some o)(h':H b=some u)(d:o≠u):a≠b:=by intro e;subst e;rw [h] at h';exact d (Option.some.inj h')
theorem zC {H:Hp}{a b:Addr}{o:HO}(h:H a=some o)(h':H b=none):a≠b:=by intro e;subst e;rw [h] at h';cases h'
section
variable (P:Program)(w:World)
def ObjOk (H:Hp)(h:Heap)(a:Addr):HO->Prop
 | .lst xs=>xs.length<=sizeLine/\∃ (its:List Value) (n:Nat),Vals xs its/\h.get? a=some { cls:=.type "list",data:=.seq its.toArray n }
 | .tup xs=>xs.length<=sizeLine/\∃ its:List Value,Vals xs its/\IsTup h a its.toArray
 | .dK kvs=>kvs.length<=sizeLine/\(a==sysModules)=false/\∃ vs,KV kvs vs/\h.DictOf (mixKind P w) a vs
 | .dT kvs=>kvs.length<=sizeLine/\(a==sysModules)=false/\∃ xs:List (List Key × Addr × Value),
     Paired (λ(p:List Key × V) (q:List Key × Addr × Value)=>p.1=q.1/\H q.2.1=some (.tup (p.1.map kV))/\RelV p.2 q.2.2) kvs xs /\
     ∃ o es ep,h.get? a=some o/\o.ExactDict/\o.data=.dict es ep/\es.toList=xs.map (entryOfKey (tupleKind (mixKind P w)))/\(xs.map (·.1)).Nodup
 | .set S n=>h.SetOf (intKind P w) a S n
 | .ins C dx fs=>H dx=some (.own a)/\fs.length<=1000/\dx≠a/\h.get? a=some (PySem.W.instObj C dx) /\
     ∃ mA,h.Ns1 dx mA/\(∀ f,RelO (fs.lookup f) (mA f))/\PySem.Within mA (fs.map (·.1))
 | .own _=>∃ o,h.get? a=some o
 | .xd fs=>∃ mA,h.Ns1 a mA/\∀ f,RelO (fs.lookup f) (mA f)
 | .rng lo hi=>∃ t u v,h.get? a=some { cls:=.type "range",data:=.fields #[.int lo t,.int hi u,.int 1 v] }
 | .frz o u=>h.get? a=some o/\ObjOk H h a u
 | .tbl ps=>h.get? a=some { cls:=.none,data:=.fields ps }
 | .met f x=>h.get? a=some (PySem.W.methodObj (.ref f) (.ref x))
 | .ext φ=>φ h/\(∃ o,h.get? a=some o)/\∀ h1 h2:Heap,φ h1->(∀ o,h1.get? a=some o->h2.get? a=some o)->φ h2
def HOk (H:Hp)(h:Heap):Prop:=∀ a o,H a=some o->ObjOk P w H h a o
end
section
variable {H H':Hp}{h:Heap}{a:Addr}{o:HO}
theorem ObjOk.lt (x:ObjOk P w H h a o):a<h.objs.size:=by
 cases o with
 | lst xs=>obtain ⟨_,_,_,_,e⟩:=x;exact zU e
 | tup xs=>obtain ⟨_,_,_,p⟩:=x;exact p.lt
 | dK kvs=>obtain ⟨_,_,_,_,o,_,_,e,_⟩:=x;exact zU e
 | dT kvs=>obtain ⟨_,_,_,_,o,_,_,e,_⟩:=x;exact zU e
 | set S n=>obtain ⟨o,_,_,_,e,_⟩:=x;exact zU e
 | ins C dx fs=>obtain ⟨_,_,_,e,_⟩:=x;exact zU e
 | own y=>obtain ⟨_,e⟩:=x;exact zU e
 | xd fs=>obtain ⟨_,⟨_,_,_,e,_⟩,_⟩:=x;exact zU e
 | rng lo hi=>obtain ⟨_,_,_,e⟩:=x;exact zU e
 | frz ob u=>obtain ⟨e,_⟩:=x;exact zU e
 | tbl ps=>exact zU (show h.get? a=some _ from x)
 | met f y=>exact zU (show h.get? a=some _ from x)
 | ext φ=>obtain ⟨_,⟨_,e⟩,_⟩:=x;exact zU e
theorem Paired.mapP {α β:Type}{F G:α->β->Prop}{l₁:List α}{l₂:List β}(h:Paired F l₁ l₂)(f:∀ a b,F a b->G a b):Paired G l₁ l₂:=by
 induction h with
 | nil=>exact .nil
 | cons r _ ih=>exact .cons (f _ _ r) ih
theorem ObjOk.stay (x:ObjOk P w H h a o)(k:∀ b u,(b=a\/H b=some (.own a))->h.get? b=some u->h'.get? b=some u)
   (ho:∀ b,H b=some (.own a)->H' b=some (.own a)) (ht:∀ b xs,H b=some (.tup xs)->H' b=some (.tup xs)):ObjOk P w H' h' a o:=by
 induction o with
 | lst xs=>obtain ⟨z,its,n,r,e⟩:=x;exact ⟨z,its,n,r,k _ _ (.inl rfl) e⟩
 | tup xs=>obtain ⟨z,its,r,ob,e,c⟩:=x;exact ⟨z,its,r,ob,k _ _ (.inl rfl) e,c⟩
 | dK kvs=>obtain ⟨z,y,vs,r,ob,es,ep,e,c⟩:=x;exact ⟨z,y,vs,r,ob,es,ep,k _ _ (.inl rfl) e,c⟩
 | dT kvs =>
   obtain ⟨z,y,xs,r,ob,es,ep,e,c⟩:=x;exact ⟨z,y,xs,Paired.mapP r λp q z=>⟨z.1,ht _ _ z.2.1,z.2.2⟩,ob,es,ep,k _ _ (.inl rfl) e,c⟩
 | set S n=>obtain ⟨ob,es,ep,t,e,c⟩:=x;exact ⟨ob,es,ep,t,k _ _ (.inl rfl) e,c⟩
 | ins C dx fs =>
   obtain ⟨d,z,ne,e,mA,⟨od,es,ep,e2,c⟩,r⟩:=x;exact ⟨ho _ d,z,ne,k _ _ (.inl rfl) e,mA,⟨od,es,ep,k _ _ (.inr d) e2,c⟩,r⟩
 | own y=>obtain ⟨ob,e⟩:=x;exact ⟨ob,k _ _ (.inl rfl) e⟩
 | xd fs=>obtain ⟨mA,⟨od,es,ep,e,c⟩,r⟩:=x;exact ⟨mA,⟨od,es,ep,k _ _ (.inl rfl) e,c⟩,r⟩
 | rng lo hi=>obtain ⟨t,u,v,e⟩:=x;exact ⟨t,u,v,k _ _ (.inl rfl) e⟩
 | frz ob u ih=>obtain ⟨e,q⟩:=x;exact ⟨k _ _ (.inl rfl) e,ih q⟩
 | tbl ps =>
   have e:h.get? a=some { cls:=.none,data:=.fields ps }:=x;show h'.get? a=some { cls:=.none,data:=.fields ps };exact k a _ (.inl rfl) e
 | met f y =>
   have e:h.get? a=some (PySem.W.methodObj (.ref f) (.ref y)):=x;show h'.get? a=some (PySem.W.methodObj (.ref f) (.ref y));exact k a _ (.inl rfl) e
 | ext φ=>obtain ⟨p,⟨o,e⟩,st⟩:=x;exact ⟨st _ _ p λo q=>k _ _ (.inl rfl) q,⟨o,k _ _ (.inl rfl) e⟩,st⟩
theorem HOk.lt (x:HOk P w H h)(e:H a=some o):a<h.objs.size:=(x a o e).lt
theorem HOk.fresh (x:HOk P w H h)(e:h.objs.size<=a):H a=none:=by
 cases q:H a with
 | none=>rfl
 | some u=>exact absurd (yl (x.lt q) e) (xM _)
theorem HOk.kept (x:HOk P w H h)(k:∀ b u,h.get? b=some u->h'.get? b=some u):HOk P w H h':=λa o e =>
 (x a o e).stay (λb u _ q=>k b u q) (λ_ q=>q) λ_ _ q=>q
theorem HOk.laid (x:HOk P w H h)(k:∀ b u,h.get? b=some u->h'.get? b=some u)(hp:h.objs.size<=a)(new:ObjOk P w (upd H a o) h' a o):HOk P w (upd H a o) h':=λb u e=>by
 have hn:=x.fresh hp;by_cases hb:b=a;{subst hb;rw [zm] at e;cases e;exact new};{rw [zo hb] at e;exact (x b u e).stay (λc v _ q=>k c v q) (λc q=>by rw [zo (zC q hn)];exact q) λc xs q=>by rw [zo (zC q hn)];exact q}
end
def Rd (H:Hp)(a:Addr)(u:HO):Prop:=H a=some u\/∃ o,H a=some (.frz o u)
theorem Rd.ok {H:Hp}{h:Heap}{a:Addr}{u:HO}(r:Rd H a u)(x:HOk P w H h):ObjOk P w H h a u:=by
 rcases r with r | ⟨o,r⟩
 . exact x a u r
 . obtain ⟨_,q⟩:=x a _ r;exact q
def Mut:Option HO->Prop
 | some (.lst _)=>True
 | some (.dK _)=>True
 | some (.dT _)=>True
 | some (.set _ _)=>True
 | some (.ins _ _ _)=>True
 | some (.ext _)=>True
 | _=>False
section
variable {H:Hp}{h:Heap}{x e:Addr}{o':HO}
theorem HOk.write (ok:HOk P w H h) (mu:Mut (H x)) (he:e=x\/H e=some (.own x)) (k:∀ b u,b≠e->h.get? b=some u->h'.get? b=some u) (heo:∃ u,h'.get? e=some u)
   (new:ObjOk P w (upd H x o') h' x o'):HOk P w (upd H x o') h':=λb u q=>by
 have nown:∀ c y,H c=some (.own y)->c≠x:=λc y r z=>by subst z;rw [r] at mu;exact mu
 have ntup:∀ c xs,H c=some (.tup xs)->c≠x:=λc xs r z=>by subst z;rw [r] at mu;exact mu
 by_cases hb:b=x;{subst hb;rw [zm] at q;cases q;exact new}
 . rw [zo hb] at q
   by_cases hbe:b=e
   . have q':H b=some (.own x):=by
       rcases he with z | z
       . exact absurd (hbe.trans z) hb
       . rw [hbe];exact z
     rw [q] at q';cases q';obtain ⟨v,hv⟩:=heo;exact ⟨v,by rw [hbe];exact hv⟩
   . refine (ok b u q).stay (λc v hc r=>k c v ?_ r) (λc r=>by rw [zo (nown c b r)];exact r) λc xs r=>by rw [zo (ntup c xs r)];exact r
     rcases hc with rfl | hc
     . exact hbe
     . rintro rfl;rcases he with z | z
       . exact nown c b hc z
       . rw [hc] at z;cases z;exact hb rfl
end
structure Un (fs ex:List Addr)(H H':Hp)(h h':Heap):Prop where
 keep:∀ b o,h.get? b=some o->H b=none->b∉fs->b∉ex->h'.get? b=some o
 slot:∀ b o,h.get? b=some o->H b=none->b∈fs->b∉ex->∃ sl,h'.get? b=some { o with slots:=sl }
 free:∀ b o,h.get? b=some o->H b=none->b∉ex->H' b=none
 there:∀ b o,h.get? b=some o->b∉ex->∃ o',h'.get? b=some o'
 tups:∀ b xs,H b=some (.tup xs)->H' b=some (.tup xs)
 frzs:∀ b o u,H b=some (.frz o u)->H' b=some (.frz o u)
 tbls:∀ b ps,H b=some (.tbl ps)->∃ more,H' b=some (.tbl (ps++more))
section
variable {fs fs' ex ex':List Addr}{H H1 H2:Hp}{h h1 h2:Heap}{a x e:Addr}{o:HO}
theorem Un.any (u:Un fs ex H H1 h h1){b:Addr}{ob:Obj}(q:h.get? b=some ob)(n:H b=none)(hx:b∉ex):∃ sl,h1.get? b=some { ob with slots:=sl }:=by
 by_cases hb:b∈fs;{exact u.slot b ob q n hb hx};{exact ⟨ob.slots,u.keep b ob q n hb hx⟩}
theorem Un.trans (a:Un fs ex H H1 h h1)(b:Un fs ex H1 H2 h1 h2):Un fs ex H H2 h h2 where
 keep:=λc ob q n hc hx=>b.keep c ob (a.keep c ob q n hc hx) (a.free c ob q n hx) hc hx
 slot:=λc ob q n hc hx=>by
   obtain ⟨sl,e1⟩:=a.slot c ob q n hc hx;obtain ⟨sl',e2⟩:=b.slot c _ e1 (a.free c ob q n hx) hc hx;exact ⟨sl',e2⟩
 free:=λc ob q n hx=>by
   obtain ⟨o',e1⟩:=a.there c ob q hx;exact b.free c o' e1 (a.free c ob q n hx) hx
 there:=λc ob q hx=>by
   obtain ⟨o',e1⟩:=a.there c ob q hx;exact b.there c o' e1 hx
 tups:=λc xs q=>b.tups c xs (a.tups c xs q)
 frzs:=λc ob xs q=>b.frzs c ob xs (a.frzs c ob xs q)
 tbls:=λc ps q=>by
   obtain ⟨m1,e1⟩:=a.tbls c ps q;obtain ⟨m2,e2⟩:=b.tbls c _ e1;exact ⟨m1++m2,by rw [e2,Array.append_assoc]⟩
theorem Un.kept (k:∀ b u,h.get? b=some u->h'.get? b=some u):Un fs ex H H h h' :=
 ⟨λb ob q _ _ _=>k b ob q,λb ob q _ _ _=>⟨ob.slots,k b ob q⟩,λ_ _ _ n _=>n,λb ob q _=>⟨ob,k b ob q⟩,λ_ _ q=>q,λ_ _ _ q=>q,λ_ ps q=>⟨#[],by rw [q];simp⟩⟩
theorem Un.refl:Un fs ex H H h h:=Un.kept λ_ _ q=>q
theorem Un.laid (k:∀ b u,h.get? b=some u->h'.get? b=some u)(hp:h.objs.size<=a)(hn:H a=none):Un fs ex H (upd H a o) h h' where
 keep:=λb u q _ _ _=>k b u q
 slot:=λb u q _ _ _=>⟨u.slots,k b u q⟩
 free:=λb u q n _=>by rw [zo (zE (yl (zU q) hp))];exact n
 there:=λb u q _=>⟨u,k b u q⟩
 tups:=λb xs q=>by rw [zo (zC q hn)];exact q
 frzs:=λb u xs q=>by rw [zo (zC q hn)];exact q
 tbls:=λb ps q=>⟨#[],by rw [zo (zC q hn),q];simp⟩
theorem Un.write (mu:Mut (H x))(he:e=x\/H e=some (.own x))(k:∀ b u,b≠e->h.get? b=some u->h'.get? b=some u)(heo:∃ u,h'.get? e=some u):Un fs ex H (upd H x o) h h':=by
 have hx:∀ b,H b=none->b≠x:=λb n z=>by subst z;rw [n] at mu;exact mu
 have hb:∀ b,H b=none->b≠e:=λb n z=>by
   subst z;rcases he with r | r
   . exact hx b n r
   . rw [n] at r;cases r
 have hm:∀ b u,H b=some u->¬ Mut (some u)->b≠x:=λb u q nm z=>by subst z;rw [q] at mu;exact nm mu
 refine ⟨λb u q n _ _=>k b u (hb b n) q,λb u q n _ _=>⟨u.slots,k b u (hb b n) q⟩,λb u q n _=>by rw [zo (hx b n)];exact n,λb u q _=>?_,
   λb xs q=>by rw [zo (hm b _ q λz=>z)];exact q,λb u xs q=>by rw [zo (hm b _ q λz=>z)];exact q,λb ps q=>⟨#[],by rw [zo (hm b _ q λz=>z),q];simp⟩⟩
 by_cases hbe:b=e;{subst hbe;exact heo};{exact ⟨u,k b u hbe q⟩}
end
def trk (h:Heap)(H:Hp):List Addr:=(List.range h.objs.size).filter λa=>(H a).isSome
def hidT (h:Heap)(H:Hp):Heap:=PySem.W.hideAll h (trk h H)
theorem kD (h:Heap)(H:Hp):(hidT h H).objs.size=h.objs.size:=PySem.W.hideAll_size _ _
theorem kB {h:Heap}{H:Hp}{b:Addr}{o:Obj}(e:h.get? b=some o)(n:H b=none):(hidT h H).get? b=some o :=
 o5 _ e λhm=>by
   have q:(H b).isSome=true:=(yD.mp hm).2;rw [n] at q;simp at q
theorem kA {h:Heap}{H:Hp}{b:Addr}{o:Obj}(e:(hidT h H).get? b=some o):h.get? b=some o/\H b=none:=by
 have e':h.get? b=some o:=PySem.W.of_hideAll (trk h H) e;refine ⟨e',?_⟩;cases q:H b with
 | none=>rfl
 | some x =>
   have hm:b∈trk h H:=yD.mpr ⟨rT.mpr (zU e'),by simp [q]⟩;have z:(hidT h H).get? b=none:=PySem.W.hideAll_none (trk h H) hm;rw [z] at e;cases e
def allNews (g h:Heap)(L:Addr):List (Addr × Obj):=(List.range h.objs.size).filterMap λa=>if a=L\/(g.get? a).isSome=true then none else (h.get? a).map λo=>(a,o)
def rest (g h:Heap)(L d:Addr):List (Addr × Obj):=(allNews g h L).filter λp=>decide (p.1≠d)
structure Mod (K:zh)(mg:Str->Option Value)(base:Heap):Prop where
 kin:K.In base
 glob:base.Ns mainGlobals mg
 blt:∃ mb,base.Ns builtinsNs mb/\∀ x:Str,x≠"__name__"->mb x=bootBuiltins x
 nolimit:base.NoLimit
structure Cx where
 prog:Program
 w:World
 K:zh
 mg:Str->Option Value
 base:Heap
 A:Around
 N:List Str
 s₀:Shared
 H₀:Hp
 env:Env
 outer:List Env
 stack:List Env
 ex:List Addr
 fn:Str->Bool
 calm:Bool
 pn:List (Addr × Obj)
 xe:Value->Shared->Prop
def frs (l:List Env):List Addr:=l.filterMap (·.frame)
abbrev Cx.fs (X:Cx):List Addr:=frs X.outer
def Vis (sc:Scope)(x:Str):Prop:=sc.names.lookup x=some .local\/sc.names.lookup x=some .cell\/sc.names.lookup x=some .free
def Loc (sc:Scope)(x:Str):Prop:=sc.names.lookup x=some .local\/sc.names.lookup x=some .cell
def Look (env:Env)(h:Heap)(m:Str->Option Value)(x:Str)(u:Value):Prop :=
 (env.kindOf x=some .local/\m x=some u)\/((env.kindOf x=some .cell\/env.kindOf x=some .free)/\∃ c,env.cells.lookup x=some c/\h.IsCell c (some u))
structure Cx.Ok (X:Cx):Prop where
 mod:Mod X.K X.mg X.base
 kind:X.env.scope.kind=.function
 glob:X.env.globals=mainGlobals
 blt:X.env.builtins=builtinsNs
 above:X.s₀.heap.objs.size<=X.env.locals
 inj:∀ x y c,X.env.cells.lookup x=some c->X.env.cells.lookup y=some c->x=y
 has:∀ x,(X.env.kindOf x=some .cell\/X.env.kindOf x=some .free)->∃ c,X.env.cells.lookup x=some c
 cab:∀ x c,X.fn x=true->X.env.cells.lookup x=some c->X.s₀.heap.objs.size<=c
 hd:X.calm=true->X.A.handled=none
 frames:X.A.frames=some X.stack
 stk:X.stack=X.outer\/(X.stack=X.env::X.outer/\X.env.frame=some X.env.locals)
 exf:∀ b∈X.ex,b≠X.env.locals/\∀ x c,X.env.cells.lookup x=some c->c≠b
 bs:∀ b o,X.base.get? b=some o->X.s₀.heap.get? b=some o/\X.H₀ b=none
 bsz:X.base.objs.size<=X.s₀.heap.objs.size
 noex:∀ b o,X.base.get? b=some o->b∉X.ex
 exfs:∀ b∈X.ex,b∉X.fs
 funs:X.s₀.heap.FunFrames X.base X.outer
 frf:∀ b∈X.fs,X.H₀ b=none
structure Inv (X:Cx)(pins:List (Addr × Obj))(σ:List (Option V))(H:Hp)(s:Shared):Prop where
 ok:X.Ok
 os:s.os=X.s₀.os
 bare:AllBare s.gens
 base:Un X.fs X.ex X.H₀ H X.s₀.heap s.heap
 loc:∃ m,s.heap.Ns X.env.locals m/\∀ (i:Nat) (x:Str) (v:V),X.N[i]?=some x->σ[i]?=some (some v)->Vis X.env.scope x->∃ u,RelV v u/\Look X.env s.heap m x u
 cell:∀ x c,X.env.cells.lookup x=some c->∃ v,s.heap.IsCell c v
 free:H X.env.locals=none
 freeC:∀ x c,X.env.cells.lookup x=some c->H c=none
 pin:∀ p∈X.pn++pins,s.heap.get? p.1=some p.2/\H p.1=none/\p.1≠X.env.locals/\p.1∉X.fs/\∀ v,p.2.data≠.cell v
 hok:HOk X.prog X.w H s.heap
 len:σ.length=X.N.length
section
variable {X:Cx}{σ:List (Option V)}{H H':Hp}{s:Shared}
theorem Cx.Ok.nofr (ok:X.Ok){b:Addr}{o:Obj}(e:X.base.get? b=some o):b∉X.fs:=λhb=>by
 have:=(ok.funs.mem hb).1;rw [e] at this;cases this
theorem Inv.bs (I:Inv X pins σ H s):∀ b o,X.base.get? b=some o->s.heap.get? b=some o/\H b=none:=λb o e =>
 ⟨I.base.keep b o (I.ok.bs b o e).1 (I.ok.bs b o e).2 (I.ok.nofr e) (I.ok.noex b o e),I.base.free b o (I.ok.bs b o e).1 (I.ok.bs b o e).2 (I.ok.noex b o e)⟩
theorem Inv.bk (I:Inv X pins σ H s):∀ b o,X.base.get? b=some o->s.heap.get? b=some o:=λb o e=>(I.bs b o e).1
theorem Inv.mod (I:Inv X pins σ H s):Mod X.K X.mg X.base:=I.ok.mod
theorem Inv.kIn (I:Inv X pins σ H s):X.K.In s.heap:=I.ok.mod.kin.keeps I.bk
theorem Inv.lt (I:Inv X pins σ H s):X.env.locals<s.heap.objs.size:=let ⟨_,hn,_⟩:=I.loc;hn.lt
theorem Inv.sz (I:Inv X pins σ H s):X.s₀.heap.objs.size<=s.heap.objs.size:=zO I.ok.above (xK I.lt)
theorem Inv.nofs (I:Inv X pins σ H s){a:Addr}(h:s.heap.objs.size<=a):a∉X.fs:=λhb=>by
 obtain ⟨_,o,ho,_⟩:=I.ok.funs.mem hb;exact absurd (yl (zU ho) (zO I.sz h)) (xM _)
theorem Inv.cne (I:Inv X pins σ H s):∀ x c,X.env.cells.lookup x=some c->c≠X.env.locals:=λx c e z=>by
 obtain ⟨v,o,ho,hd⟩:=I.cell x c e;obtain ⟨m,⟨o',es,ep,ho',hd',_⟩,_⟩:=I.loc;rw [z,ho'] at ho;cases ho;rw [hd'] at hd;cases hd
theorem Inv.funs (I:Inv X pins σ H s):s.heap.FunFrames X.base X.outer:=by
 have all:∀ (l:List Env),(∀ b∈frs l,b∈X.fs)->X.s₀.heap.FunFrames X.base l->s.heap.FunFrames X.base l:=by
   intro l;induction l with
   | nil=>intro _ _;trivial
   | cons env r ih =>
     intro hs hl;obtain ⟨hk,⟨L,o,hf,hn,ho,hd⟩,hr⟩:=hl;have hL:L∈X.fs:=hs L (by unfold frs;rw [rn,hf];exact xp);obtain ⟨sl,e⟩:=I.base.slot L o ho (I.ok.frf L hL) hL λz=>I.ok.exfs L z hL
     exact ⟨hk,⟨L,_,hf,hn,e,hd⟩,ih (λb hb=>hs b (by unfold frs;rw [rn,hf];exact xx _ hb)) hr⟩
 exact all X.outer (λ_ hb=>hb) I.ok.funs
theorem Inv.stack (I:Inv X pins σ H s):s.heap.FunFrames X.base X.stack:=by
 rcases I.ok.stk with e | ⟨e,hf⟩
 . rw [e];exact I.funs
 . rw [e];obtain ⟨m,hn,_⟩:=I.loc;refine .cons (by rw [I.ok.kind];decide) hf hn ?_ I.funs;exact Heap.get?_none_of_le (zO I.ok.bsz I.ok.above)
theorem Inv.stkSub (I:Inv X pins σ H s):∀ b∈frs X.stack,b∈X.env.locals::X.fs:=λb hb=>by
 rcases I.ok.stk with e | ⟨e,hf⟩
 . rw [e] at hb;exact xx _ hb
 . rw [e] at hb;unfold frs at hb;rw [rn,hf] at hb;exact hb
theorem Inv.stkFree (I:Inv X pins σ H s):∀ b∈frs X.stack,H b=none:=λb hb=>by
 rcases zW.mp (I.stkSub b hb) with e | hb
 . rw [e];exact I.free
 . obtain ⟨_,o,ho,_⟩:=I.ok.funs.mem hb;exact I.base.free b o ho (I.ok.frf b hb) λz=>I.ok.exfs b z hb
theorem Inv.step {g':Array GenState}{d':Drawn}{ch:List Addr}(I:Inv X pins σ H s)
   (hch:∀ b∈ch,(b∈X.ex\/X.s₀.heap.objs.size<=b)/\b≠X.env.locals/\(∀ x c,X.env.cells.lookup x=some c->c≠b)/\∀ p∈X.pn++pins,p.1≠b)
   (keep:∀ b o,b≠X.env.locals->b∉X.fs->b∉ch->s.heap.get? b=some o->H b=none->h'.get? b=some o)
   (slot:∀ b o,b≠X.env.locals->b∈X.fs->b∉ch->s.heap.get? b=some o->H b=none->∃ sl,h'.get? b=some { o with slots:=sl }) (free:∀ b o,b∉ch->s.heap.get? b=some o->H b=none->H' b=none)
   (there:∀ b o,b∉ch->s.heap.get? b=some o->∃ o',h'.get? b=some o')
   (tups:∀ b xs,H b=some (.tup xs)->H' b=some (.tup xs)) (frzs:∀ b o u,H b=some (.frz o u)->H' b=some (.frz o u)) (tbls:∀ b ps,H b=some (.tbl ps)->∃ more,H' b=some (.tbl (ps++more)))
   (ns:∀ m,s.heap.Ns X.env.locals m->h'.Ns X.env.locals m) (hok:HOk X.prog X.w H' h') (hg:AllBare g') :
   Inv X pins σ H' { s with heap:=h',gens:=g',drawn:=d',toks:=t' }:=by
 have neL:∀ b o,X.s₀.heap.get? b=some o->b≠X.env.locals:=λb o e=>zE (yl (zU e) I.ok.above)
 have neC:∀ b o,X.s₀.heap.get? b=some o->b∉X.ex->b∉ch:=λb o e hx hb=>by
   rcases (hch b hb).1 with z | z
   . exact hx z
   . exact absurd (yl (zU e) z) (xM _)
 have cellK:∀ x c,X.env.cells.lookup x=some c->∀ v,s.heap.IsCell c v->h'.IsCell c v:=λx c e v ⟨o,ho,hd⟩=>by
   have nch:c∉ch:=λz=>(hch c z).2.2.1 x c e rfl
   by_cases hc:c∈X.fs;{obtain ⟨sl,q⟩:=slot c o (I.cne x c e) hc nch ho (I.freeC x c e);exact ⟨_,q,hd⟩};{exact ⟨o,keep c o (I.cne x c e) hc nch ho (I.freeC x c e),hd⟩}
 refine ⟨I.ok,I.os,hg,⟨λb o e n hb hx=>?_,λb o e n hb hx=>?_,λb o e n hx=>?_,λb o e hx=>?_,λb xs e=>tups b xs (I.base.tups b xs e),λb o xs e=>frzs b o xs (I.base.frzs b o xs e),λb ps e=>?_⟩,?_,λx c e=>?_,?_,λx c e=>?_,λp hp=>?_,hok,I.len⟩;{exact keep b o (neL b o e) hb (neC b o e hx) (I.base.keep b o e n hb hx) (I.base.free b o e n hx)};{obtain ⟨sl,e1⟩:=I.base.slot b o e n hb hx;obtain ⟨sl',e2⟩:=slot b _ (neL b o e) hb (neC b o e hx) e1 (I.base.free b o e n hx);exact ⟨sl',e2⟩};{obtain ⟨o',e1⟩:=I.base.there b o e hx;exact free b o' (neC b o e hx) e1 (I.base.free b o e n hx)};{obtain ⟨o',e1⟩:=I.base.there b o e hx;exact there b o' (neC b o e hx) e1};{obtain ⟨m1,e1⟩:=I.base.tbls b ps e;obtain ⟨m2,e2⟩:=tbls b _ e1;exact ⟨m1++m2,by rw [e2,Array.append_assoc]⟩}
 . obtain ⟨m,hn,hl⟩:=I.loc;refine ⟨m,ns m hn,λi x v e1 e2 e3=>?_⟩;obtain ⟨u,r,l⟩:=hl i x v e1 e2 e3;refine ⟨u,r,?_⟩;rcases l with l | ⟨k,c,e,z⟩
   . exact .inl l
   . exact .inr ⟨k,c,e,cellK x c e _ z⟩
 . obtain ⟨v,z⟩:=I.cell x c e;exact ⟨v,cellK x c e v z⟩
 . obtain ⟨m,⟨o,_,_,ho,_⟩,_⟩:=I.loc;exact free _ o (λz=>(hch _ z).2.1 rfl) ho I.free
 . obtain ⟨v,o,ho,hd⟩:=I.cell x c e;exact free c o (λz=>(hch c z).2.2.1 x c e rfl) ho (I.freeC x c e)
 . obtain ⟨e,n,ne,nf,d⟩:=I.pin p hp;have nch:p.1∉ch:=λz=>(hch p.1 z).2.2.2 p hp rfl
   exact ⟨keep p.1 p.2 ne nf nch e n,free p.1 p.2 nch e n,ne,nf,d⟩
theorem Inv.un (I:Inv X pins σ H s)(u:Un X.fs [] H H' s.heap h')(hok:HOk X.prog X.w H' h'):Inv X pins σ H' { s with heap:=h',toks:=t' }:=by
 obtain ⟨m,⟨o,es,ep,ho,r⟩,_⟩:=id I.loc;obtain ⟨sl,hL⟩:=u.any ho I.free (by simp);exact I.step (g':=s.gens) (d':=s.drawn) (ch:=[]) (λ_ z=>nomatch z) (λb o _ hb _ e n=>u.keep b o e n hb (by simp)) (λb o _ hb _ e n=>u.slot b o e n hb (by simp)) (λb o _ e n=>u.free b o e n (by simp)) (λb o _ e=>u.there b o e (by simp)) u.tups u.frzs u.tbls (λm' hm=>by
   obtain ⟨o',es',ep',ho',r'⟩:=hm;rw [ho] at ho';cases ho';exact ⟨_,es',ep',hL,r'⟩) hok I.bare
theorem Inv.call {g':Array GenState}{d':Drawn}{ch:List Addr}(I:Inv X pins σ H s)(u:Un (frs X.stack) ch H H' s.heap h')(hok:HOk X.prog X.w H' h')(hg:AllBare g')
   (hch:∀ b∈ch,(b∈X.ex\/X.s₀.heap.objs.size<=b)/\b≠X.env.locals/\(∀ x c,X.env.cells.lookup x=some c->c≠b)/\∀ p∈X.pn++pins,p.1≠b) :
   Inv X pins σ H' { s with heap:=h',gens:=g',drawn:=d',toks:=t' }:=by
 obtain ⟨m,⟨o,es,ep,ho,r⟩,_⟩:=id I.loc;obtain ⟨sl,hL⟩:=u.any ho I.free λz=>(hch _ z).2.1 rfl
 exact I.step (ch:=ch) hch (λb o hL hb hc e n=>u.keep b o e n (λz=>(zW.mp (I.stkSub b z)).elim hL hb) hc) (λb o _ _ hc e n=>u.any e n hc) (λb o hc e n=>u.free b o e n hc) (λb o hc e=>u.there b o e hc) u.tups u.frzs u.tbls (λm' hm=>by
   obtain ⟨o',es',ep',ho',r'⟩:=hm;rw [ho] at ho';cases ho';exact ⟨_,es',ep',hL,r'⟩) hok hg
theorem Inv.turned {it:Addr}(I:Inv X pins σ H s)(k:∀ b o,b≠it->s.heap.get? b=some o->h'.get? b=some o)(hn:H it=none)(hL:it≠X.env.locals)
   (h1:it∈X.ex\/X.s₀.heap.objs.size<=it) (h2:∀ x c,X.env.cells.lookup x=some c->c≠it) (h3:∀ p∈X.pn++pins,p.1≠it):Inv X pins σ H { s with heap:=h',toks:=t' }:=by
 have nit:∀ b u,H b=some u->b≠it:=λb u e z=>by rw [z,hn] at e;cases e
 refine I.step (g':=s.gens) (d':=s.drawn) (ch:=[it]) (λb hb=>?_) (λb o _ _ hc e _=>k b o (λz=>hc (by simp [z])) e) (λb o _ _ hc e _=>⟨o.slots,k b o (λz=>hc (by simp [z])) e⟩) (λ_ _ _ _ n=>n)
   (λb o hc e=>⟨o,k b o (λz=>hc (by simp [z])) e⟩) (λ_ _ e=>e) (λ_ _ _ e=>e) (λb ps e=>⟨#[],by rw [e];simp⟩) (λm hm=>?_) (λb u e=>?_) I.bare
 . have e:b=it:=by simpa using hb
   subst e;exact ⟨h1,hL,h2,h3⟩
 . obtain ⟨o,es,ep,ho,r⟩:=hm;exact ⟨o,es,ep,k _ o (Ne.symm hL) ho,r⟩
 . refine (I.hok b u e).stay (λc v hc q=>k c v ?_ q) (λ_ q=>q) λ_ _ q=>q
   rcases hc with z | z
   . rw [z];exact nit b u e
   . exact nit c _ z
theorem Inv.tok (I:Inv X pins σ H s)(t:Nat):Inv X pins σ H { s with toks:=t }:=I.un (h':=s.heap) (t':=t) Un.refl I.hok
theorem Inv.kept (I:Inv X pins σ H s)(k:∀ b u,s.heap.get? b=some u->h'.get? b=some u):Inv X pins σ H { s with heap:=h',toks:=t' }:=I.un (Un.kept k) (I.hok.kept k)
theorem Inv.laid {a:Addr}{o:HO}(I:Inv X pins σ H s)(k:∀ b u,s.heap.get? b=some u->h'.get? b=some u)(hp:s.heap.objs.size<=a)(new:ObjOk X.prog X.w (upd H a o) h' a o) :
   Inv X pins σ (upd H a o) { s with heap:=h',toks:=t' }:=I.un (Un.laid k hp (I.hok.fresh hp)) (I.hok.laid k hp new)
theorem Inv.write {x e:Addr}{o:HO}(I:Inv X pins σ H s)(mu:Mut (H x))(he:e=x\/H e=some (.own x))(k:∀ b u,b≠e->s.heap.get? b=some u->h'.get? b=some u)(heo:∃ u,h'.get? e=some u)
   (new:ObjOk X.prog X.w (upd H x o) h' x o):Inv X pins σ (upd H x o) { s with heap:=h',toks:=t' }:=I.un (Un.write mu he k heo) (I.hok.write mu he k heo new)
theorem Inv.weak {σ':List (Option V)}(I:Inv X pins σ H s)(hl:σ'.length=σ.length)(w:∀ (i:Nat) v,σ'[i]?=some (some v)->σ[i]?=some (some v)):Inv X pins σ' H s :=
 ⟨I.ok,I.os,I.bare,I.base,let ⟨m,hn,hl'⟩:=I.loc;⟨m,hn,λi x v e1 e2 e3=>hl' i x v e1 (w i v e2) e3⟩,I.cell,I.free,I.freeC,I.pin,I.hok,hl.trans I.len⟩
theorem Inv.pins_of {pins':List (Addr × Obj)}(I:Inv X pins σ H s)(h:∀ p∈pins',s.heap.get? p.1=some p.2/\H p.1=none/\p.1≠X.env.locals/\p.1∉X.fs/\∀ v,p.2.data≠.cell v):Inv X pins' σ H s :=
 ⟨I.ok,I.os,I.bare,I.base,I.loc,I.cell,I.free,I.freeC,λp hp=>(zR.mp hp).elim (λz=>I.pin p (yF _ z)) (h p),I.hok,I.len⟩
theorem i9 (hN:N.Nodup){i j:Nat}{x:Str}(a:N[i]?=some x)(b:N[j]?=some x):i=j:=by obtain ⟨h1,e1⟩:=yT.mp a;obtain ⟨h2,e2⟩:=yT.mp b;exact (List.getElem_inj hN).mp (e1.trans e2.symm)
theorem dF {M:Model} {i:Nat} {x:Str} {v:V} {u:Value} {Q:Unit->Shared->Prop} (I:Inv X pins σ H s) (hN:X.N.Nodup) (hi:X.N[i]?=some x) (hx:Loc X.env.scope x) (r:RelV v u)
   (h:∀ s',Inv X pins (σ.set i (some v)) H s'->(∃ a,Heap.SameBut a s.heap s'.heap/\(a=X.env.locals\/X.env.cells.lookup x=some a))->Q () s') (hf:X.fn x=true\/X.env.scope.names.lookup x=some .local:=by first | exact .inl rfl | exact .inr rfl | assumption):wpAny M A (storeName X.env x u) Q E s:=by
 obtain ⟨m,hn,hl⟩:=id I.loc;have hcls:(X.env.scope.kind==.class||(X.env.scope.kind==.module&&X.env.locals != X.env.globals))=false:=by rw [I.ok.kind];rfl
 have hiσ:i<σ.length:=by rw [I.len];exact (yT.mp hi).1
 have cne:=I.cne;have tracked:∀ {a:Addr} {h':Heap},(∃ o,s.heap.get? a=some o/\H a=none)->Heap.SameBut a s.heap h'->HOk X.prog X.w H h':=λ{a h'} ha hs b ob e=>by
   obtain ⟨_,_,hfree⟩:=ha;refine (I.hok b ob e).stay (λc w' hc q=>(hs.2 c ?_).trans q) (λ_ q=>q) λ_ _ q=>q
   rintro rfl;rcases hc with rfl | hc
   . rw [hfree] at e;cases e
   . rw [hfree] at hc;cases hc
 rcases hx with hk | hk
 . refine wpAny_storeName_local hk hn (λh' hn' hs=>?_) hcls;obtain ⟨oL,_,_,hoL,_⟩:=id hn;refine h _ ⟨I.ok,I.os,I.bare,⟨λb o e n hb hx=>?_,λb o e n hb hx=>?_,I.base.free,λb o e hx=>?_,I.base.tups,I.base.frzs,I.base.tbls⟩,⟨_,hn',λj y v' e1 e2 e3=>?_⟩,λy c e=>?_,I.free,I.freeC,λp hp=>?_,tracked ⟨oL,hoL,I.free⟩ hs,by simpa using I.len⟩ ⟨_,hs,.inl rfl⟩
   . exact (hs.2 b (zE (yl (zU e) I.ok.above))).trans (I.base.keep b o e n hb hx)
   . obtain ⟨sl,e1⟩:=I.base.slot b o e n hb hx;exact ⟨sl,(hs.2 b (zE (yl (zU e) I.ok.above))).trans e1⟩
   . obtain ⟨o',e1⟩:=I.base.there b o e hx;exact ⟨o',(hs.2 b (zE (yl (zU e) I.ok.above))).trans e1⟩
   . by_cases hj:j=i
     . subst hj;rw [hi] at e1;cases e1;rw [kK hiσ] at e2;cases e2;exact ⟨u,r,.inl ⟨hk,by simp⟩⟩
     . rw [List.getElem?_set_ne (Ne.symm hj)] at e2;obtain ⟨u',r',q⟩:=hl j y v' e1 e2 e3;refine ⟨u',r',?_⟩;rcases q with ⟨k,e⟩ | ⟨k,c,e,z⟩
       . refine .inl ⟨k,?_⟩;have:y≠x:=λe=>hj (i9 hN e1 (e ▸ hi))
         simp [this,e]
       . exact .inr ⟨k,c,e,z.sameBut hs (cne y c e)⟩
   . obtain ⟨w',z⟩:=I.cell y c e;exact ⟨w',z.sameBut hs (cne y c e)⟩
   . obtain ⟨e,n,ne,nf,d⟩:=I.pin p hp;exact ⟨(hs.2 p.1 ne).trans e,n,ne,nf,d⟩
 . have hfn:X.fn x=true:=by
     rcases hf with z | z
     . exact z
     . rw [z] at hk;cases hk
   obtain ⟨c,hc⟩:=I.ok.has x (.inl hk);obtain ⟨w',z⟩:=I.cell x c hc;refine wpAny_storeName_cell I.ok.kind hk hc z (λh' hc' hs=>?_);obtain ⟨oc,hoc,hocd⟩:=id z;refine h { s with heap:=h' } ⟨I.ok,I.os,I.bare,⟨λb o e n hb hx=>?_,λb o e n hb hx=>?_,I.base.free,λb o e hx=>?_,I.base.tups,I.base.frzs,I.base.tbls⟩,⟨m,hn.sameBut hs (Ne.symm (cne x c hc)),λj y v' e1 e2 e3=>?_⟩,λy c' e=>?_,I.free,I.freeC,λp hp=>?_,tracked ⟨oc,hoc,I.freeC x c hc⟩ hs,by simpa using I.len⟩ ⟨c,hs,.inr hc⟩;{exact (hs.2 b (zE (yl (zU e) (I.ok.cab x c hfn hc)))).trans (I.base.keep b o e n hb hx)};{obtain ⟨sl,e1⟩:=I.base.slot b o e n hb hx;exact ⟨sl,(hs.2 b (zE (yl (zU e) (I.ok.cab x c hfn hc)))).trans e1⟩};{obtain ⟨o',e1⟩:=I.base.there b o e hx;exact ⟨o',(hs.2 b (zE (yl (zU e) (I.ok.cab x c hfn hc)))).trans e1⟩}
   . by_cases hj:j=i
     . subst hj;rw [hi] at e1;cases e1;rw [kK hiσ] at e2;cases e2;exact ⟨u,r,.inr ⟨.inl hk,c,hc,hc'⟩⟩
     . rw [List.getElem?_set_ne (Ne.symm hj)] at e2;obtain ⟨u',r',q⟩:=hl j y v' e1 e2 e3;refine ⟨u',r',?_⟩;rcases q with q | ⟨k,c',e,z'⟩
       . exact .inl q
       . refine .inr ⟨k,c',e,z'.sameBut hs ?_⟩;rintro rfl;exact hj (i9 hN e1 (I.ok.inj _ _ _ e hc ▸ hi))
   . by_cases hcc:c'=c
     . subst hcc;exact ⟨_,hc'⟩
     . obtain ⟨w2,z2⟩:=I.cell y c' e;exact ⟨w2,z2.sameBut hs hcc⟩
   . obtain ⟨e,n,ne,nf,d⟩:=I.pin p hp;refine ⟨(hs.2 p.1 ?_).trans e,n,ne,nf,d⟩;intro q;rw [q,hoc] at e;have q':oc=p.2:=Option.some.inj e;exact d w' (by rw [<- q'];exact hocd)
theorem i8 {M:Model}{i:Nat}{x:Str}{v:V}{u:Value}{Q:Unit->Shared->Prop}(I:Inv X pins σ H s)(hN:X.N.Nodup)(hi:X.N[i]?=some x)(hx:Loc X.env.scope x)(r:RelV v u)
   (h:∀ s',Inv X pins (σ.set i (some v)) H s'->Q () s') (hf:X.fn x=true\/X.env.scope.names.lookup x=some .local:=by first | exact .inl rfl | exact .inr rfl | assumption):wpAny M A (storeName X.env x u) Q E s :=
 dF I hN hi hx r (λs' I' _=>h s' I') hf
theorem Inv.call' {s':Shared}{ch:List Addr}(I:Inv X pins σ H s)(ho:s'.os=s.os)(u:Un (frs X.stack) ch H H' s.heap s'.heap)(hok:HOk X.prog X.w H' s'.heap)(hg:AllBare s'.gens)
   (hch:∀ b∈ch,(b∈X.ex\/X.s₀.heap.objs.size<=b)/\b≠X.env.locals/\(∀ x c,X.env.cells.lookup x=some c->c≠b)/\∀ p∈X.pn++pins,p.1≠b):Inv X pins σ H' s':=by
 obtain ⟨h',g',d',t',o'⟩:=s';have e:o'=s.os:=ho;subst e;exact I.call (g':=g') (t':=t') (d':=d') u hok hg hch
end
abbrev XK:=Value->Option Addr->Hp->Prop
abbrev St:=List (Option V)
abbrev VK:=V->Hp->Prop
abbrev TE:=St->Hp->VK->Prop
abbrev TT:=St->Hp->(Bool->Hp->Prop)->Prop
abbrev TA:=St->Hp->(List V->Hp->Prop)->Prop
structure Ends where
 nx:St->Hp->Prop
 rt:VK
 bk:St->Hp->Prop:=λ_ _=>False
 ct:St->Hp->Prop:=λ_ _=>False
abbrev TS:=Ends->St->Hp->Prop
def EP (X:Cx)(pins:List (Addr × Obj))(σ:St)(Q:VK)(u:Value)(s':Shared):Prop:=∃ v H',Inv X pins σ H' s'/\RelV v u/\Q v H'
def TP (X:Cx)(pins:List (Addr × Obj))(σ:St)(Q:Bool->Hp->Prop)(b:Bool)(s':Shared):Prop:=∃ H',Inv X pins σ H' s'/\Q b H'
def AP (X:Cx)(pins:List (Addr × Obj))(σ:St)(Q:List V->Hp->Prop)(us:List Value)(s':Shared):Prop:=∃ vs H',Inv X pins σ H' s'/\Vals vs us/\Q vs H'
def SP (X:Cx)(pins:List (Addr × Obj))(D:Ends)(f:Flow)(s':Shared):Prop :=
 match f with
 | .next=>∃ σ' H',Inv X pins σ' H' s'/\D.nx σ' H'
 | .brk=>∃ σ' H',Inv X pins σ' H' s'/\D.bk σ' H'
 | .cont=>∃ σ' H',Inv X pins σ' H' s'/\D.ct σ' H'
 | .ret u=>∃ v σ' H',Inv X pins σ' H' s'/\RelV v u/\D.rt v H'
def PE (X:Cx)(e:Expr)(t:TE):Prop :=
 ∀ (pins:List (Addr × Obj)) (s:Shared) (σ:St) (H:Hp) (Q:VK),Inv X pins σ H s->t σ H Q->wpAny (model X.prog X.w) X.A (eval e X.env) (EP X pins σ Q) X.xe s
def PT (X:Cx)(e:Expr)(t:TT):Prop :=
 ∀ (pins:List (Addr × Obj)) (s:Shared) (σ:St) (H:Hp) (Q:Bool->Hp->Prop),Inv X pins σ H s->t σ H Q->wpAny (model X.prog X.w) X.A (isTrue e X.env (eval e X.env)) (TP X pins σ Q) X.xe s
def PW (X:Cx)(e:Expr)(t:TT):Prop :=
 ∀ (whole:Sem Value) (pins:List (Addr × Obj)) (s:Shared) (σ:St) (H:Hp) (Q:Bool->Hp->Prop),Inv X pins σ H s->t σ H Q->wpAny (model X.prog X.w) X.A (isTrue e X.env whole) (TP X pins σ Q) X.xe s
theorem PW.pt {X:Cx}{e:Expr}{t:TT}(h:PW X e t):PT X e t:=h _
def PA (X:Cx)(es:List Expr)(t:TA):Prop :=
 ∀ (pos:Pos) (pins:List (Addr × Obj)) (s:Shared) (σ:St) (H:Hp) (Q:List V->Hp->Prop),Inv X pins σ H s->t σ H Q->wpAny (model X.prog X.w) X.A (spliced (backTo pos (starEach es X.env))) (AP X pins σ Q) X.xe s
def PS (X:Cx)(st:Stmt)(t:TS):Prop :=
 ∀ (pins:List (Addr × Obj)) (s:Shared) (σ:St) (H:Hp) (D:Ends),Inv X pins σ H s->t D σ H->wpAny (model X.prog X.w) X.A (exec st X.env) (SP X pins D) X.xe s
def PSs (X:Cx)(st:List Stmt)(t:TS):Prop :=
 ∀ (pins:List (Addr × Obj)) (s:Shared) (σ:St) (H:Hp) (D:Ends),Inv X pins σ H s->t D σ H->wpAny (model X.prog X.w) X.A (execs st X.env) (SP X pins D) X.xe s
theorem thn {α:Type}{t:Sem α}{Q Q':α->Shared->Prop}{M:Model}{s:Shared}(h:wpAny M A t Q E s)(hQ:∀ a s,Q a s->Q' a s):wpAny M A t Q' E s:=yY h hQ λ_ _ x=>x
section
variable {X:Cx}
def onV (o:Option (Option V))(Q:V->Prop):Prop:=match o with | some (some v)=>Q v | _=>False
def onI (x:V)(Q:Int->Prop):Prop:=match x with | .int i=>Q i | _=>False
def onB (x:V)(Q:Bool->Prop):Prop:=match x with | .bl k=>Q k | _=>False
def onR (x:V)(Q:Addr->Prop):Prop:=match x with | .ref a=>Q a | _=>False
def onT (b:Bool)(Q:Prop):Prop:=match b with | true=>Q | false=>False
theorem onV_s {v:V}{Q:V->Prop}:onV (some (some v)) Q=Q v:=rfl
theorem onI_i {i:Int}{Q:Int->Prop}:onI (.int i) Q=Q i:=rfl
theorem onB_b {k:Bool}{Q:Bool->Prop}:onB (.bl k) Q=Q k:=rfl
theorem onR_r {a:Addr}{Q:Addr->Prop}:onR (.ref a) Q=Q a:=rfl
theorem onT_t {Q:Prop}:onT true Q=Q:=rfl
theorem onV_x {o:Option (Option V)}{Q:V->Prop}(h:onV o Q):∃ v,o=some (some v)/\Q v:=match o,h with | some (some v),h=>⟨v,rfl,h⟩
theorem vH {x:V}{Q:Int->Prop}(h:onI x Q):∃ i,x=.int i/\Q i:=match x,h with | .int i,h=>⟨i,rfl,h⟩
theorem uX {x:V}{Q:Bool->Prop}(h:onB x Q):∃ k,x=.bl k/\Q k:=match x,h with | .bl k,h=>⟨k,rfl,h⟩
theorem onR_x {x:V}{Q:Addr->Prop}(h:onR x Q):∃ a,x=.ref a/\Q a:=match x,h with | .ref a,h=>⟨a,rfl,h⟩
theorem onT_x {b:Bool}{Q:Prop}(h:onT b Q):b=true/\Q:=match b,h with | true,h=>⟨rfl,h⟩
theorem nk {o:Option (Option V)}{Q:V->Prop}:onV o Q=∃ v,o=some (some v)/\Q v:=propext ⟨onV_x,λ⟨_,e,h⟩=>by subst e;exact h⟩
theorem nj {x:V}{Q:Int->Prop}:onI x Q=∃ i,x=.int i/\Q i:=propext ⟨vH,λ⟨_,e,h⟩=>by subst e;exact h⟩
theorem onB_ap {x:V}{Q:Bool->Prop}:onB x Q=∃ k,x=.bl k/\Q k:=propext ⟨uX,λ⟨_,e,h⟩=>by subst e;exact h⟩
theorem onR_ap {x:V}{Q:Addr->Prop}:onR x Q=∃ a,x=.ref a/\Q a:=propext ⟨onR_x,λ⟨_,e,h⟩=>by subst e;exact h⟩
theorem onT_ap {b:Bool}{Q:Prop}:onT b Q=(b=true/\Q):=propext ⟨onT_x,λ⟨e,h⟩=>by subst e;exact h⟩
theorem ni {x y:V}{Q:Int->Int->Prop}(h:onI x λi=>onI y λj=>Q i j):∃ i j,x=.int i/\y=.int j/\Q i j:=let ⟨i,e,h⟩:=vH h;let ⟨j,e2,h⟩:=vH h;⟨i,j,e,e2,h⟩
def tVar (i:Nat):TE:=λσ H Q=>onV σ[i]? λv=>Q v H
def tC (v:V):TE:=λ_ H Q=>Q v H
theorem pe_var {i:Nat}{x:Str}{pos:Pos}(hN:X.N[i]?=some x)(hv:Vis X.env.scope x)(hd:(x==("__debug__":Str))=false:=by decide)(hcd:(x==("__classdict__":Str))=false:=by decide):PE X (.Name x pos) (tVar i):=by
 intro pins s σ H Q I h;obtain ⟨v,e,h⟩:=onV_x h;obtain ⟨m,hn,hl⟩:=I.loc;obtain ⟨u,r,l⟩:=hl i x v hN e hv;have fin:EP X pins σ Q u s:=⟨v,H,I,r,h⟩
 rcases l with ⟨hk,hm⟩ | ⟨hk,c,hc,hcell⟩
 . exact wpAny_Name (wpAny_loadName_local I.ok.kind hk hn hm fin) hd
 . rcases hk with hk | hk
   . exact wpAny_Name (wpAny_loadName_cell I.ok.kind hk hc hcell fin) hd
   . exact wpAny_Name (wpAny_loadName_free I.ok.kind hk hc hcell fin hcd) hd
theorem zx {i j pos}:PE X (.Constant (.int i) j pos) (tC (.int i)):=λ_ _ _ H _ I h=>wpAny_Constant_int ⟨.int i,H,I.tok _,⟨_,rfl⟩,h⟩
theorem yJ {b j pos}:PE X (.Constant (.bool b) j pos) (tC (.bl b)):=λ_ _ _ H _ I h=>Constant_bool ⟨.bl b,H,I,rfl,h⟩
theorem nZ {j pos}:PE X (.Constant .none j pos) (tC .non):=λ_ _ _ H _ I h=>Constant_none ⟨.non,H,I,rfl,h⟩
theorem xj {x j pos}:PE X (.Constant (.str x) j pos) (tC (.str x)):=λ_ _ _ H _ I h=>Calls.Constant_str ⟨.str x,H,I.tok _,⟨_,rfl⟩,h⟩
def Gl (X:Cx)(x:Str):Prop:=X.env.kindOf x=some .globalImplicit
theorem vb {s:Shared}{σ:St}{H:Hp}{x:Str}{u:Value}{pos:Pos}(I:Inv X pins σ H s)(hg:Gl X x)(hm:X.mg x=some u)(h:Q u s)
   (hd:(x==("__debug__":Str))=false:=by decide):wpAny (model X.prog X.w) X.A (eval (.Name x pos) X.env) Q E s :=
 Calls.Name_function_global I.ok.kind hg (Calls.loadGlobal_global (by rw [I.ok.glob];exact I.mod.glob.keeps I.bk) hm h) hd
theorem va {s:Shared}{σ:St}{H:Hp}{x:Str}{u:Value}{pos:Pos}(I:Inv X pins σ H s)(hg:Gl X x)(hm:X.mg x=none)(hv:bootBuiltins x=some u)(h:Q u s)
   (hn:x≠"__name__":=by decide) (hd:(x==("__debug__":Str))=false:=by decide):wpAny (model X.prog X.w) X.A (eval (.Name x pos) X.env) Q E s:=by
 obtain ⟨mb,h1,h2⟩:=I.mod.blt;exact Calls.Name_function_global I.ok.kind hg (Calls.loadGlobal_builtin (by rw [I.ok.glob];exact I.mod.glob.keeps I.bk) hm (by rw [I.ok.blt];exact h1.keeps I.bk) ((h2 x hn).trans hv) h) hd
theorem nY {x:Str}{v:V}{u:Value}{pos:Pos}(hg:Gl X x)(hm:X.mg x=some u)(r:RelV v u)(hd:(x==("__debug__":Str))=false:=by decide):PE X (.Name x pos) (tC v) :=
 λ_ _ _ H _ I h=>vb I hg hm ⟨v,H,I,r,h⟩ hd
theorem vz {x:Str}{v:V}{u:Value}{pos:Pos}(hg:Gl X x)(hm:X.mg x=none)(hv:bootBuiltins x=some u)(r:RelV v u)(hn:x≠"__name__":=by decide)(hd:(x==("__debug__":Str))=false:=by decide):PE X (.Name x pos) (tC v) :=
 λ_ _ _ H _ I h=>va I hg hm hv ⟨v,H,I,r,h⟩ hn hd
variable {a b:Expr}{ta tb:TE}{pos:Pos}
def tB (t:TE):TT:=λσ H Q=>t σ H λx H1=>onB x λc=>Q c H1
theorem ya {e:Expr}{t:TE}(h:PE X e t)(he:∀ whole,isTrue e X.env whole=(do let v <- whole;standAt e.pos;holding [v] (truthy v)):=by intro _;rfl):PT X e (tB t):=by intro pins s σ H Q I hw;refine isTrue_plain (thn (h pins s σ H _ I hw) λv s1 ⟨x,H1,I1,r1,q1⟩=>?_) (he _);obtain ⟨d,rfl,q⟩:=uX q1;cases r1;exact uv ⟨H1,I1,q⟩
variable {tA tB':TT}{rest:List Expr}
def tAnd (t u:TT):TT:=λσ H Q=>t σ H λc H1=>if c=true then u σ H1 Q else Q false H1
def tOr (t u:TT):TT:=λσ H Q=>t σ H λc H1=>if c=true then Q true H1 else u σ H1 Q
def tNot (t:TT):TT:=λσ H Q=>t σ H λc H1=>Q (!c) H1
theorem rK (ha:PT X a tA):PW X (.BoolOp .And [a] pos) tA:=by
 intro wh pins s σ H Q I h;refine isTrue_and (thn (ha pins s σ H Q I h) λc s1 e=>?_);cases c with
 | true=>exact isTrue_and_nil e
 | false=>exact e
theorem vZ (ha:PT X a tA):PW X (.BoolOp .Or [a] pos) tA:=by
 intro wh pins s σ H Q I h;refine isTrue_or (thn (ha pins s σ H Q I h) λc s1 e=>?_);cases c with
 | false=>exact isTrue_or_nil e
 | true=>exact e
theorem rJ (ha:PT X a tA)(hb:PW X (.BoolOp .And (b::rest) pos) tB'):PW X (.BoolOp .And (a::b::rest) pos) (tAnd tA tB'):=by
 intro wh pins s σ H Q I h;refine isTrue_and (thn (ha pins s σ H _ I h) λc s1 ⟨H1,I1,q1⟩=>?_);cases c with
 | true=>exact hb wh pins s1 σ H1 Q I1 q1
 | false=>exact ⟨H1,I1,q1⟩
theorem xH (ha:PT X a tA)(hb:PW X (.BoolOp .Or (b::rest) pos) tB'):PW X (.BoolOp .Or (a::b::rest) pos) (tOr tA tB'):=by
 intro wh pins s σ H Q I h;refine isTrue_or (thn (ha pins s σ H _ I h) λc s1 ⟨H1,I1,q1⟩=>?_);cases c with
 | true=>exact ⟨H1,I1,q1⟩
 | false=>exact hb wh pins s1 σ H1 Q I1 q1
theorem yj (ha:PT X a tA):PT X (.UnaryOp .Not a pos) (tNot tA):=by intro pins s σ H Q I h;exact isTrue_not (ha pins s σ H (λc H1=>Q (!c) H1) I h)
def tAndV (ta tb:TE):TE:=λσ H Q=>ta σ H λx H1=>onB x λc=>if c=true then tb σ H1 Q else Q (.bl false) H1
def tNotV (ta:TE):TE:=λσ H Q=>ta σ H λx H1=>onB x λc=>Q (.bl (!c)) H1
theorem vY {op}{t:TE}(h:PE X a t):PE X (.BoolOp op [a] pos) t:=λpins s σ H Q I hw=>BoolOp_one (h pins s σ H Q I hw)
theorem we (ha:PE X a ta)(hb:PE X (.BoolOp .And (b::rest) pos) tb):PE X (.BoolOp .And (a::b::rest) pos) (tAndV ta tb):=by
 intro pins s σ H Q I h;refine BoolOp_and (thn (ha pins s σ H _ I h) λv s1 ⟨x,H1,I1,r1,q1⟩=>?_);obtain ⟨c,rfl,q1⟩:=uX q1;cases r1;refine uv ?_;cases c with
 | true=>exact hb pins s1 σ H1 Q I1 q1
 | false=>exact ⟨.bl false,H1,I1,rfl,q1⟩
theorem pe_not (ha:PE X a ta):PE X (.UnaryOp .Not a pos) (tNotV ta):=by intro pins s σ H Q I h;refine UnaryOp_ (thn (ha pins s σ H _ I h) λv s1 ⟨x,H1,I1,r1,q1⟩=>?_);obtain ⟨c,rfl,q1⟩:=uX q1;cases r1;exact not_of (uv ⟨.bl (!c),H1,I1,rfl,q1⟩)
def tIf (t:TT)(ta tb:TE):TE:=λσ H Q=>t σ H λc H1=>if c=true then ta σ H1 Q else tb σ H1 Q
theorem rH {c:Expr}(hc:PT X c tA)(ha:PE X a ta)(hb:PE X b tb):PE X (.IfExp c a b pos) (tIf tA ta tb):=by
 intro pins s σ H Q I h;refine wpAny_IfExp (thn (hc pins s σ H _ I h) λd s1 ⟨H1,I1,q1⟩=>?_);cases d with
 | true=>exact ha pins s1 σ H1 Q I1 q1
 | false=>exact hb pins s1 σ H1 Q I1 q1
end
def SqL (K:zh) (H:Hp) (a:Addr) (xs:List V):Prop :=
 Rd H a (.lst xs) \/
   ∃ (o:Obj) (its:Array Value) (n:Nat),K.lookup a=some o/\o.cls=.type "list"/\o.dict=none/\o.data=.seq its n/\its.size<=sizeLine/\Vals xs its.toList
def SqT (K:zh) (H:Hp) (a:Addr) (xs:List V):Prop :=
 Rd H a (.tup xs) \/
   ∃ (o:Obj) (its:Array Value) (n:Nat),K.lookup a=some o/\o.cls=.type "tuple"/\o.data=.seq its n/\its.size<=sizeLine/\Vals xs its.toList
def absV:Value->Option V
 | .none=>some .non
 | .bool b=>some (.bl b)
 | .int i _=>some (.int i)
 | .str x _=>some (.str x)
 | .bytes b _=>some (.byt b)
 | .float b _=>some (.flt b)
 | .ref a=>some (.ref a)
 | .type n=>some (.ty n)
 | _=>none
theorem RelV.abs {x:V}{u:Value}(r:RelV x u):absV u=some x:=by
 cases x with
 | non=>cases r;rfl
 | bl _=>cases r;rfl
 | int _=>obtain ⟨t,rfl⟩:=r;rfl
 | str _=>obtain ⟨t,rfl⟩:=r;rfl
 | byt _=>obtain ⟨t,rfl⟩:=r;rfl
 | flt _=>obtain ⟨t,rfl⟩:=r;rfl
 | ref _=>cases r;rfl
 | ty _=>cases r;rfl
theorem RelV.inj {x y:V}{u:Value}(r:RelV x u)(q:RelV y u):x=y:=Option.some.inj (r.abs.symm.trans q.abs)
theorem Vals.inj {xs ys:List V}(h:Vals xs us)(g:Vals ys us):xs=ys:=by
 induction h generalizing ys with
 | nil=>cases g;rfl
 | cons r _ ih =>
   cases g with
   | cons q t=>rw [r.inj q,ih t]
section
variable {X:Cx}{σ:St}{H:Hp}{s:Shared}{a:Addr}{xs ys:List V}
theorem SqL.of (h:H a=some (.lst xs)):SqL K H a xs:=.inl (.inl h)
theorem SqT.of (h:H a=some (.tup xs)):SqT K H a xs:=.inl (.inl h)
theorem Inv.list (I:Inv X pins σ H s)(h:SqL X.K H a xs):∃ its:List Value,Vals xs its/\PlainL s.heap a its.toArray/\xs.length<=sizeLine:=by
 rcases h with h | ⟨o,its,n,hk,hc,hd,hs,hz,r⟩
 . obtain ⟨z,its,n,r,e⟩:=h.ok I.hok;exact ⟨its,r,⟨_,n,e,rfl,rfl,rfl⟩,z⟩
 . refine ⟨its.toList,r,⟨o,n,I.kIn a o hk,hc,hd,by simpa using hs⟩,?_⟩;have e:=r.length;simp only [zI] at e;lia
theorem Inv.tuple (I:Inv X pins σ H s)(h:SqT X.K H a xs):∃ its:List Value,Vals xs its/\IsTup s.heap a its.toArray/\xs.length<=sizeLine:=by
 rcases h with h | ⟨o,its,n,hk,hc,hs,hz,r⟩
 . obtain ⟨z,its,r,p⟩:=h.ok I.hok;exact ⟨its,r,p,z⟩
 . refine ⟨its.toList,r,⟨o,I.kIn a o hk,hc,n,by simpa using hs⟩,?_⟩;have e:=r.length;simp only [zI] at e;lia
theorem Inv.list_inj (I:Inv X pins σ H s)(h:SqL X.K H a xs)(h':SqL X.K H a ys):xs=ys:=by
 obtain ⟨its,r,⟨o,n,e,_,_,d⟩,_⟩:=I.list h;obtain ⟨its',r',⟨o',n',e',_,_,d'⟩,_⟩:=I.list h';rw [e] at e';cases e';rw [d] at d';injection d' with d1 _
 have:its=its':=by simpa using congrArg Array.toList d1
 subst this;exact r.inj r'
end
abbrev Cx.wish (X:Cx)(E:Value->Shared->Prop):Cx:={ X with xe:=E }
abbrev Cx.nox (X:Cx):Cx:=X.wish λ_ _=>False
theorem Cx.Ok.wish {X:Cx}(ok:X.Ok)(E:Value->Shared->Prop):(X.wish E).Ok :=
 ⟨ok.mod,ok.kind,ok.glob,ok.blt,ok.above,ok.inj,ok.has,ok.cab,ok.hd,ok.frames,ok.stk,ok.exf,ok.bs,ok.bsz,ok.noex,ok.exfs,ok.funs,ok.frf⟩
theorem Cx.Ok.unwish {X:Cx}(ok:(X.wish E).Ok):X.Ok :=
 ⟨ok.mod,ok.kind,ok.glob,ok.blt,ok.above,ok.inj,ok.has,ok.cab,ok.hd,ok.frames,ok.stk,ok.exf,ok.bs,ok.bsz,ok.noex,ok.exfs,ok.funs,ok.frf⟩
section
variable {X:Cx}{σ:St}{H:Hp}{s:Shared}
theorem Inv.wish (I:Inv X pins σ H s)(E:Value->Shared->Prop):Inv (X.wish E) pins σ H s:=⟨I.ok.wish E,I.os,I.bare,I.base,I.loc,I.cell,I.free,I.freeC,I.pin,I.hok,I.len⟩
theorem Inv.unwish (I:Inv (X.wish E) pins σ H s):Inv X pins σ H s:=⟨I.ok.unwish,I.os,I.bare,I.base,I.loc,I.cell,I.free,I.freeC,I.pin,I.hok,I.len⟩
theorem SP.unwish {D:Ends}{f:Flow}{s':Shared}(h:SP (X.wish E) pins D f s'):SP X pins D f s':=by
 cases f with
 | next=>obtain ⟨σ',H',I,q⟩:=h;exact ⟨σ',H',I.unwish,q⟩
 | brk=>obtain ⟨σ',H',I,q⟩:=h;exact ⟨σ',H',I.unwish,q⟩
 | cont=>obtain ⟨σ',H',I,q⟩:=h;exact ⟨σ',H',I.unwish,q⟩
 | ret u=>obtain ⟨v,σ',H',I,r,q⟩:=h;exact ⟨v,σ',H',I.unwish,r,q⟩
theorem PSs.nox {st:List Stmt}{t:TS}(h:PSs X.nox st t):PSs X st t:=λpins s σ H D I hw =>
 yY (h pins s σ H D (I.wish _) hw) (λ_ _ q=>q.unwish) λ_ _ z=>False.elim z
end
section
variable {X:Cx}{rest:List Stmt}{t u:TS}{e:Expr}{te:TE}{pos:Pos}
def tNext:TS:=λD σ H=>D.nx σ H
def tSeq (t u:TS):TS:=λD σ H=>t { D with nx:=u D } σ H
theorem zM:PSs X [] tNext:=λ_ _ σ H _ I h=>ur ⟨σ,H,I,h⟩
theorem zu (h1:PS X st t)(h2:PSs X rest u):PSs X (st::rest) (tSeq t u):=by
 intro pins s σ H D I h;refine ox (thn (h1 pins s σ H { D with nx:=u D } I h) λf s1 q=>?_);cases f with
 | next =>
   obtain ⟨σ',H',I',q⟩:=q;exact h2 pins s1 σ' H' D I' q
 | ret v=>exact q
 | brk=>exact q
 | cont=>exact q
theorem zp (h1:PS X st t):PSs X [st] t:=by
 intro pins s σ H D I h;refine ox (thn (h1 pins s σ H D I h) λf s1 q=>?_);cases f with
 | next=>exact ur q
 | ret v=>exact q
 | brk=>exact q
 | cont=>exact q
theorem Inv.quiet {σ:St}{H:Hp}{s:Shared}(I:Inv X pins σ H s):interactive X.env=false:=by simp [interactive,I.ok.kind]
def tDrop (te:TE):TS:=λD σ H=>te σ H λ_ H1=>D.nx σ H1
theorem yQ (he:PE X e te)(hs:swapsWith e none pos.line X.env=pure false:=by rfl):PS X (.Expr e pos) (tDrop te):=by intro pins s σ H D I h;exact wpAny_Expr_any (thn (he pins s σ H _ I h) λv s1 ⟨x,H1,I1,r1,q1⟩=>⟨σ,H1,I1,q1⟩) I.quiet hs
def tRet (te:TE):TS:=λD σ H=>te σ H D.rt
theorem zb (he:PE X e te):PS X (.Return (some e) pos) (tRet te):=by intro pins s σ H D I h;exact wpAny_Return_some (thn (he pins s σ H _ I h) λv s1 ⟨x,H1,I1,r1,q1⟩=>⟨x,σ,H1,I1,r1,q1⟩)
def tIfS (c:TT)(t u:TS):TS:=λD σ H=>c σ H λb H1=>if b=true then t D σ H1 else u D σ H1
theorem zQ {c:Expr}{a b:List Stmt}{tc:TT}(hc:PT X c tc)(ha:PSs X a t)(hb:PSs X b u):PS X (.If c a b pos) (tIfS tc t u):=by
 intro pins s σ H D I h;refine wpAny_If (thn (hc pins s σ H _ I h) λd s1 ⟨H1,I1,q1⟩=>?_);cases d with
 | true=>exact ha pins s1 σ H1 D I1 q1
 | false=>exact hb pins s1 σ H1 D I1 q1
def tNever:TS:=λ_ _ _=>False
theorem i7:PS X st tNever:=λ_ _ _ _ _ _ h=>h.elim
theorem dE {sts:List Stmt}:PSs X sts tNever:=λ_ _ _ _ _ _ h=>h.elim
end
abbrev TG:=V->St->Hp->(St->Hp->Prop)->Prop
abbrev TGs:=List V->St->Hp->(St->Hp->Prop)->Prop
def PG (X:Cx) (target:Expr) (t:TG):Prop :=
 ∀ (pins:List (Addr × Obj)) (s:Shared) (σ:St) (H:Hp) (v:V) (u:Value) (Q:St->Hp->Prop),Inv X pins σ H s->RelV v u->t v σ H Q ->
   wpAny (model X.prog X.w) X.A (assign target X.env u) (λ_ s'=>∃ σ' H',Inv X pins σ' H' s'/\Q σ' H') X.xe s
def PGs (X:Cx) (ts:List Expr) (t:TGs):Prop :=
 ∀ (pins:List (Addr × Obj)) (s:Shared) (σ:St) (H:Hp) (vs:List V) (us:List Value) (Q:St->Hp->Prop),Inv X pins σ H s->Vals vs us->t vs σ H Q ->
   wpAny (model X.prog X.w) X.A (assignInOrder ((assignEach ts X.env).map (·.2)) us) (λ_ s'=>∃ σ' H',Inv X pins σ' H' s'/\Q σ' H') X.xe s
abbrev TSet:=V->V->V->Hp->(Hp->Prop)->Prop
def PSet (X:Cx) (t:TSet):Prop :=
 ∀ (pins:List (Addr × Obj)) (s:Shared) (σ:St) (H:Hp) (o i v:V) (ov iv u:Value) (Q:Hp->Prop),Inv X pins σ H s->RelV o ov->RelV i iv->RelV v u->t o i v H Q ->
   wpAny (model X.prog X.w) X.A (setItem ov iv u) (λ_ s'=>∃ H',Inv X pins σ H' s'/\Q H') X.xe s
section
variable {X:Cx}{pos:Pos}
def gName (i:Nat):TG:=λv σ H Q=>Q (σ.set i (some v)) H
theorem yA {i:Nat}{x:Str}(hN:X.N.Nodup)(hi:X.N[i]?=some x)(hx:Loc X.env.scope x)(hf:X.fn x=true\/X.env.scope.names.lookup x=some .local:=by first | exact .inl rfl | exact .inr rfl | assumption):PG X (.Name x pos) (gName i):=by intro pins s σ H v u Q I r h;exact wpAny_assign_Name (i8 I hN hi hx r (λs' I'=>⟨_,H,I',h⟩) hf)
def gNil:TGs:=λvs σ H Q=>vs=[]/\Q σ H
def gCons (t:TG)(u:TGs):TGs:=λvs σ H Q=>∃ v r,vs=v::r/\t v σ H λσ' H'=>u r σ' H' Q
theorem vG:PGs X [] gNil:=by intro pins s σ H vs us Q I r h;obtain ⟨e,h⟩:=h;subst e;cases r;exact assignInOrder_nil ⟨σ,H,I,h⟩
theorem xu {e:Expr}{t:TG}{u:TGs}(h1:PG X e t)(h2:PGs X es u)
   (hs:(assignEach (e::es) X.env).map (·.2)=assign e X.env::(assignEach es X.env).map (·.2):=by rfl):PGs X (e::es) (gCons t u):=by
 intro pins s σ H vs us Q I r h;obtain ⟨v,vr,e1,h⟩:=h;subst e1;cases r with
 | cons r rr =>
   rw [hs];refine assignInOrder_cons (thn (h1 pins s σ H _ _ _ I r h) λ_ s1 ⟨σ1,H1,I1,q1⟩=>?_);exact h2 pins s1 σ1 H1 _ _ Q I1 rr q1
def gTup (K:zh)(n:Nat)(t:TGs):TG:=λv σ H Q=>∃ a xs,v=.ref a/\SqT K H a xs/\xs.length=n/\t xs σ H Q
theorem pg_tup {k:Nat}{t:TGs}{n:Nat}(hc:X.calm=true)(h:PGs X es t)
   (hn:(assignEach es X.env).length=n:=by rfl) (hst:(assignEach es X.env).findIdx? (·.1)=none:=by rfl):PG X (.Tuple es k pos) (gTup X.K n t):=by
 intro pins s σ H v u Q I r hw;obtain ⟨a,xs,e1,hq,hl,hw⟩:=hw;subst e1;cases r;obtain ⟨its,rv,ht,hz⟩:=I.tuple hq;refine assign_Tuple_tuple (I.ok.hd hc) ht (by simp [hn,<- hl,rv.length]) hst λh' hx=>?_
 have I1:Inv X pins σ H { s with heap:=h' }:=I.kept (t':=s.toks) λb o e=>hx b o (zE (zU e)) e
 exact h pins _ σ H xs _ Q I1 (by simpa using rv) hw
def gSub (to ti:TE)(t:TSet):TG:=λv σ H Q=>to σ H λo H1=>ti σ H1 λi H2=>t o i v H2 λH3=>Q σ H3
theorem nX {o i:Expr}{to ti:TE}{t:TSet}(ho:PE X o to)(hi:PE X i ti)(hs:PSet X t)
   (ha:∀ v,assign (.Subscript o i pos) X.env v=(do
     let ov <- holding [v] (eval o X.env)
     let iv <- holding [v,ov] (eval i X.env)
     standAt pos
     holding [v,ov,iv] (setItem ov iv v)
     release [v,ov,iv] []):=by intro _;rfl):PG X (.Subscript o i pos) (gSub to ti t):=by
 intro pins s σ H v u Q I r h;rw [ha];refine zt (wI (thn (ho pins s σ H _ I h) λov s1 ⟨x,H1,I1,r1,q1⟩=>?_));refine zt (wI (thn (hi pins s1 σ H1 _ I1 q1) λiv s2 ⟨y,H2,I2,r2,q2⟩=>?_));refine zt (wpAny_standAt (zt (wI (thn (hs pins s2 σ H2 x y v ov iv u _ I2 r1 r2 r q2) λ_ s3 ⟨H3,I3,q3⟩=>?_))));exact wpAny_release ⟨σ,H3,I3,q3⟩
def tAsg (te:TE)(g:TG):TS:=λD σ H=>te σ H λx H1=>g x σ H1 D.nx
theorem tO {e:Expr}{te:TE}{g:TG}(he:PE X e te)(hg:PG X tg g)(hs:swapsWithSole [tg] e pos.line X.env=pure false:=by rfl)(hw:swappedStores [tg] e X.env=pure none:=by rfl)
   (h1:(assignEach [tg] X.env).map (·.2)=[assign tg X.env]:=by rfl):PS X (.Assign [tg] e pos) (tAsg te g):=by
 intro pins s σ H D I h;refine wpAny_Assign_stores (thn (he pins s σ H _ I h) λv s1 ⟨x,H1,I1,r1,q1⟩=>?_) hs hw;rw [h1];exact thn (hg pins s1 σ H1 x v _ I1 r1 q1) λ_ s2 q=>q
theorem ps_set {i:Nat}{x:Str}{e:Expr}{te:TE}(hN:X.N.Nodup)(hi:X.N[i]?=some x)(hx:Loc X.env.scope x)(he:PE X e te)(hs:swapsWith e (some (.Name x pos')) pos.line X.env=pure false:=by rfl)(hf:X.fn x=true\/X.env.scope.names.lookup x=some .local:=by first | exact .inl rfl | exact .inr rfl | assumption) :
   PS X (.Assign [.Name x pos'] e pos) (tAsg te (gName i)):=by
 intro pins s σ H D I h;refine wpAny_Assign_Name (thn (he pins s σ H _ I h) λv s1 ⟨y,H1,I1,r1,q1⟩=>?_) hs;exact i8 I1 hN hi hx r1 (λs2 I2=>⟨_,H1,I2,q1⟩) hf
def tPar (i j:Nat)(ta:TA):TS:=λD σ H=>ta σ H λvs H1=>∃ v w,vs=[v,w]/\D.nx ((σ.set i (some v)).set j (some w)) H1
end
section
variable {X:Cx}{pos:Pos}
def tWhile (c:TT)(tb:TS):TS:=λD σ H=>∃ W:Nat->St->Hp->Prop,(∃ m,W m σ H)/\∀ m σ H,W m σ H ->
 c σ H λb H1=>if b=true then ∃ N:St->Hp->Prop,(∀ σ' H',N σ' H'->∃ m',m'<m/\W m' σ' H')/\tb { D with nx:=N,ct:=N,bk:=D.nx } σ H1 else D.nx σ H1
theorem ps_while {c:Expr}{body:List Stmt}{tc:TT}{tb:TS}(hp:PassesOwn (model X.prog X.w) X.A X.env X.xe)(hc:PT X c tc)(hb:PSs X body tb):PS X (.While c body [] pos) (tWhile tc tb):=by
 intro pins s σ H D I h;obtain ⟨W,⟨m0,w0⟩,turn⟩:=h;refine wpAny_While (codeAny_whileLoop (λn s'=>∃ σ' H',Inv X pins σ' H' s'/\W n σ' H') ?_ m0 ⟨σ,H,I,w0⟩);rintro n s1 ⟨σ1,H1,I1,w1⟩;refine vQ hp (thn (hc pins s1 σ1 H1 _ I1 (turn n σ1 H1 w1)) λb s2 ⟨H2,I2,q2⟩=>?_);cases b with
 | true =>
   obtain ⟨N,hN,q2⟩:=q2;rw [if_pos rfl];refine vQ hp (thn (hb pins s2 σ1 H2 _ I2 q2) λf s3 q3=>?_);cases f with
   | next =>
     obtain ⟨σ3,H3,I3,n3⟩:=q3;obtain ⟨m',hm,w3⟩:=hN σ3 H3 n3;exact ⟨m',hm,σ3,H3,I3,w3⟩
   | cont =>
     obtain ⟨σ3,H3,I3,n3⟩:=q3;obtain ⟨m',hm,w3⟩:=hN σ3 H3 n3;exact ⟨m',hm,σ3,H3,I3,w3⟩
   | brk=>exact q3
   | ret v=>exact q3
 | false =>
   rw [if_neg yw];exact ur ⟨σ1,H2,I2,q2⟩
end
structure It where
 go:Nat->Hp->Prop
 yld:Nat->Hp->V->Hp->Prop
 stop:Nat->Hp->Prop
def FpOk (X:Cx)(pins:List (Addr × Obj))(H:Hp)(b:Addr):Prop :=
 H b=none/\b≠X.env.locals/\b∉X.fs/\(b∈X.ex\/X.s₀.heap.objs.size<=b)/\(∀ x c,X.env.cells.lookup x=some c->c≠b)/\∀ p∈X.pn++pins,p.1≠b
theorem Inv.fpOk {X:Cx}{σ:St}{H H':Hp}{s:Shared}{b:Addr}(I:Inv X pins σ H s)(hb:s.heap.objs.size<=b)(hn:H' b=none):FpOk X pins H' b:=by
 refine ⟨hn,wB (yl I.lt hb),I.nofs hb,.inr (zO I.sz hb),λx c e z=>?_,λp hp z=>?_⟩;{obtain ⟨v,q⟩:=I.cell x c e;exact absurd (yl q.lt (by rw [z];exact hb)) (xM _)};{exact absurd (yl (zU (I.pin p hp).1) (by rw [z];exact hb)) (xM _)}
structure Turn (P:Program)(w:World)(K:zh)(tg:Expr)(J:It)(fp:List Addr)(it:Addr)(tn:Nat->Heap->Prop):Prop where
 mem:it∈fp
 obj:∀ i h,tn i h->∀ b∈fp,∃ o,h.get? b=some o/\∀ v,o.data≠.cell v
 keep:∀ i h h',tn i h->(∀ b∈fp,∀ o,h.get? b=some o->h'.get? b=some o)->tn i h'
 item:∀ (X:Cx),X.prog=P->X.w=w->X.K=K->X.calm=true->∀ (i:Nat) (pins:List (Addr × Obj)) (s:Shared) (σ:St) (H:Hp) (E:Value->Shared->Prop),Inv X pins σ H s->(∀ b∈fp,FpOk X pins H b)->tn i s.heap->J.go i H ->
   wpAny (model P w) X.A (pyNext (.ref it)) (λr s1=>∃ u,r=some u /\
     wpAny (model P w) X.A (letOwnedTupleGo tg (.ref it) u) (λ_ s2=>∃ x H',Inv X pins σ H' s2/\RelV x u/\J.yld i H x H'/\tn (i+1) s2.heap/\∀ b∈fp,H' b=none) E s1) E s
 done:∀ (X:Cx),X.prog=P->X.w=w->X.K=K->X.calm=true->∀ (i:Nat) (pins:List (Addr × Obj)) (s:Shared) (σ:St) (H:Hp) (E:Value->Shared->Prop),Inv X pins σ H s->(∀ b∈fp,FpOk X pins H b)->tn i s.heap->J.stop i H ->
   wpAny (model P w) X.A (pyNext (.ref it)) (λr s1=>r=none/\Inv X pins σ H s1) E s
 self:∀ (A:Around) (i:Nat) (s:Shared) (Q:Value->Shared->Prop) (E:Value->Shared->Prop),tn i s.heap->Q (.ref it) s->wpAny (model P w) A (pyIter (.ref it)) Q E s
abbrev TI:=St->Hp->(It->Hp->Prop)->Prop
def PIE (X:Cx)(pins:List (Addr × Obj))(σ:St)(tg:Expr)(R:It->Hp->Prop)(itv:Value)(s2:Shared):Prop :=
 ∃ (it:Addr) (fp:List Addr) (tn:Nat->Heap->Prop) (J:It) (H':Hp),itv=.ref it/\Inv X pins σ H' s2/\Turn X.prog X.w X.K tg J fp it tn/\tn 0 s2.heap/\(∀ b∈fp,FpOk X pins H' b)/\R J H'
def PI (X:Cx) (tg iter:Expr) (wi:TI):Prop :=
 ∀ (pins:List (Addr × Obj)) (s:Shared) (σ:St) (H:Hp) (R:It->Hp->Prop),Inv X pins σ H s->wi σ H R ->
   wpAny (model X.prog X.w) X.A (eval iter X.env) (λv s1=>wpAny (model X.prog X.w) X.A (pyIter v) (PIE X pins σ tg R) X.xe s1) X.xe s
theorem go_of {M:Model} {s:Shared} {it:Addr} {u:Value} {o:Obj} {n:String} {vs:Array Value} {Q:Unit->Shared->Prop} (ho:s.heap.get? it=some o) (hc:o.cls=.type n) (hd:o.data=.fields vs)
   (hn:["enumerate","zip","dict_itemiterator","dict_reverseitemiterator","odict_iterator","itertools.zip_longest","itertools.pairwise"].contains n=false) (hQ:Q () s):wpAny M A (letOwnedTupleGo tg (.ref it) u) Q E s:=by
 unfold letOwnedTupleGo
 cases tg <;> first
   | exact zc hQ
   | (cases u<;>first
       | exact zc hQ
       | (refine zt (wpAny_load ho ?_)
          rw [hc,hd];show wpAny M A (if (["enumerate","zip","dict_itemiterator","dict_reverseitemiterator","odict_iterator","itertools.zip_longest","itertools.pairwise"].contains n&&vs[0]?==some (rawInt _))=true then _ else _) Q E s;rw [if_neg (by intro h;rw [hn,Bool.false_and] at h;cases h)];exact zc hQ))
def Itl (K:zh)(a:Addr):It :=
 ⟨λi H=>∃ xs x,SqL K H a xs/\xs[i]?=some x,λi H x H'=>H'=H/\∀ xs,SqL K H a xs->xs[i]?=some x,λi H=>∃ xs,SqL K H a xs/\xs.length<=i⟩
def Itr (lo:Int)(n:Nat):It:=⟨λi _=>i<n,λi H x H'=>H'=H/\x=.int (lo+i),λi _=>n<=i⟩
theorem dD (a it:Addr):Turn P w K tg (Itl K a) [it] it (λi h=>h.IsListIter it a i) where
 mem:=by simp
 obj:=λi h st b hb=>by
   have e:b=it:=by simpa using hb
   subst e;obtain ⟨o,e,c,d⟩:=st;exact ⟨o,e,λv z=>by rw [d] at z;cases z⟩
 keep:=λi h h' st k=>st.at λo e=>k it (by simp) o e
 item:=by
   intro X hP hw hK hc i pins s σ H E I hf st hg;subst hP hw hK;obtain ⟨xs,x,hq,hx⟩:=hg;obtain ⟨its,rv,p,hz⟩:=I.list hq;obtain ⟨u,hu,ru⟩:=rv.get hx;obtain ⟨f0,f1,f2,f3,f4,f5⟩:=hf it (by simp);refine wpAny_pyNext_list_item st p.isList (x:=u) (by simpa using hu) λh' st' sb=>?_
   have I1:Inv X pins σ H { s with heap:=h' }:=I.turned (t':=s.toks) (λb o hb e=>(sb.2 b hb).trans e) f0 f1 f3 f4 f5;obtain ⟨o,e,c,d⟩:=id st';exact ⟨u,rfl,go_of (s:={ s with heap:=h' }) e c d (by decide) ⟨x,H,I1,ru,⟨rfl,λys hy=>by rw [I.list_inj hy hq];exact hx⟩,st',λb hb=>(hf b hb).1⟩⟩
 done:=by intro X hP hw hK hc i pins s σ H E I hf st hg;subst hP hw hK;obtain ⟨xs,hq,hx⟩:=hg;obtain ⟨its,rv,p,hz⟩:=I.list hq;obtain ⟨f0,f1,f2,f3,f4,f5⟩:=hf it (by simp);have hl:=rv.length;exact wpAny_pyNext_list_end (I.ok.hd hc) st p.isList (by simp;lia) λh' eb=>⟨rfl,I.turned (t':=s.toks) (λb o hb e=>eb b o hb e) f0 f1 f3 f4 f5⟩
 self:=λ_ _ _ _ _ st h=>wpAny_pyIter_listiter st h
theorem dC (it:Addr)(lo:Int)(n:Nat):Turn P w K tg (Itr lo n) [it] it (λi h=>IsRangeIter h it (lo+(i:Nat)*1) ((n:Int)-(i:Nat)) 1) where
 mem:=by simp
 obj := λi h st b hb=>by
   have e:b=it:=by simpa using hb
   subst e;exact ⟨_,st,λv z=>by
     have z':Data.fields _=Data.cell v:=z;cases z'⟩
 keep:=λi h h' st k=>k it (by simp) _ st
 item:=by
   intro X hP hw hK hc i pins s σ H E I hf st hg;subst hP hw hK;obtain ⟨f0,f1,f2,f3,f4,f5⟩:=hf it (by simp);have W:=Walks.range (prog:=X.prog) (w:=X.w) (I.ok.hd hc) it lo 1 n;refine W.item i s _ _ hg st λv h' tk hv st' kk=>?_
   obtain ⟨t,rfl⟩:=hv;have I1:Inv X pins σ H { s with heap:=h',toks:=tk }:=I.turned (λb o hb e=>kk b o (by simpa using hb) e) f0 f1 f3 f4 f5;refine ⟨_,rfl,go_of (s:={ s with heap:=h',toks:=tk }) (n:="range_iterator") st' rfl rfl (by decide) ⟨.int (lo+i),H,I1,⟨t,?_⟩,⟨rfl,rfl⟩,st',λb hb=>(hf b hb).1⟩⟩;rw [Int.mul_one]
 done:=by intro X hP hw hK hc i pins s σ H E I hf st hg;subst hP hw hK;obtain ⟨f0,f1,f2,f3,f4,f5⟩:=hf it (by simp);exact wpAny_pyNext_range_end (I.ok.hd hc) st (by have:n<=i:=hg;lia) λh' eb=>⟨rfl,I.turned (t':=s.toks) (λb o hb e=>eb b o hb e) f0 f1 f3 f4 f5⟩
 self:=λ_ _ _ _ _ st h=>wpAny_pyIter_rangeiter st h
section
variable {X:Cx}
def iList (K:zh)(tl:TE):TI:=λσ H R=>tl σ H λx H1=>onR x λa=>(∃ xs,SqL K H1 a xs)/\R (Itl K a) H1
theorem pi_list {l:Expr}{tl:TE}(hl:PE X l tl):PI X tg l (iList X.K tl):=by
 intro pins s σ H R I h;refine thn (hl pins s σ H _ I h) λv s1 ⟨x,H1,I1,r1,q1⟩=>?_
 obtain ⟨a,e,⟨xs,hq⟩,q⟩:=onR_x q1;subst e;cases r1;obtain ⟨its,rv,p,hz⟩:=I1.list hq;refine wpAny_pyIter_list p.isList ?_;refine ⟨s1.heap.objs.size,[s1.heap.objs.size],_,_,H1,rfl,I1.kept (t':=s1.toks) λb o e=>zT _ e,dD a _,⟨_,yn _ rfl,rfl,rfl⟩,λb hb=>?_,q⟩;have e:b=s1.heap.objs.size:=by simpa using hb
 subst e;exact I1.fpOk (zi _) (I1.hok.fresh (zi _))
theorem i6 {σ:St}{H:Hp}{s:Shared}{R:It->Hp->Prop}{lo hi:Int}{t u v:Tok}{tk:Nat}(I:Inv X pins σ H s)(h1:-(2^62)<=lo)(h2:lo<2^62)(h3:-(2^62)<=hi)(h4:hi<2^62)
   (q:R (Itr lo (hi-lo).toNat) H):wpAny (model X.prog X.w) X.A (pyIter (.ref s.heap.objs.size)) (PIE X pins σ tg R) E { s with heap:=s.heap.push { cls:=.type "range",data:=.fields #[.int lo t,.int hi u,.int 1 v] },toks:=tk }:=by
 refine wpAny_pyIter_range (IsRange.new ..) (small_one h1 h2 h3 h4) ?_;have I1:Inv X pins σ H { s with heap:=s.heap.push { cls:=.type "range",data:=.fields #[.int lo t,.int hi u,.int 1 v] },toks:=tk }:=I.kept λb o e=>zT _ e
 refine ⟨(s.heap.push { cls:=.type "range",data:=.fields #[.int lo t,.int hi u,.int 1 v] }).objs.size,[(s.heap.push { cls:=.type "range",data:=.fields #[.int lo t,.int hi u,.int 1 v] }).objs.size],_,_,H,rfl,
   I1.kept (t':=tk) λb o e=>zT _ e,dC _ lo (hi-lo).toNat,?_,λb hb=>?_,q⟩
 . have e1:lo+((0:Nat):Int)*1=lo:=by simp
   have e2:(((hi-lo).toNat:Nat):Int)-((0:Nat):Int)=Builtin.Range.rangeSize lo hi 1:=by rw [rangeSize_one];split<;>lia
   show IsRangeIter _ _ (lo+((0:Nat):Int)*1) ((((hi-lo).toNat:Nat):Int)-((0:Nat):Int)) 1;rw [e1,e2];exact yn _ rfl
 . have e:b=(s.heap.push { cls:=.type "range",data:=.fields #[.int lo t,.int hi u,.int 1 v] }).objs.size:=by simpa using hb
   subst e;exact I1.fpOk (zi _) (I1.hok.fresh (zi _))
def iRng1 (ta:TA):TI:=λσ H R=>ta σ H λvs H1=>∃ j:Int,vs=[.int j]/\-(2^62)<=j/\j<2^62/\R (Itr 0 j.toNat) H1
def iRng2 (ta:TA):TI:=λσ H R=>ta σ H λvs H1=>∃ i j:Int,vs=[.int i,.int j]/\(-(2^62)<=i/\i<2^62/\-(2^62)<=j/\j<2^62)/\R (Itr i (j-i).toNat) H1
theorem xG {a:Expr}{ta:TA}{p pos:Pos}(hg:Gl X "range")(hm:X.mg "range"=none)(ha:PA X [a] ta)(hs:starEach [a] X.env=[(false,eval a X.env)]:=by rfl):PI X tg (.Call (.Name "range" p) [a] [] pos) (iRng1 ta):=by
 intro pins s σ H R I h;refine Call_ (va I hg hm boot_range (uN (thn (ha pos pins s σ H _ I h) λus s1 ⟨vs,H1,I1,r1,q1⟩=>?_) hs rfl));obtain ⟨j,e,q1,q2,q⟩:=q1;subst e;cases r1 with
 | cons r rr =>
   cases rr;obtain ⟨t,rfl⟩:=r;exact call_range_1 (i6 I1 (by lia) (by lia) q1 q2 (by simpa using q))
theorem dB {a b:Expr}{ta:TA}{p pos:Pos}(hg:Gl X "range")(hm:X.mg "range"=none)(ha:PA X [a,b] ta)(hs:starEach [a,b] X.env=[(false,eval a X.env),(false,eval b X.env)]:=by rfl)(hs2:starEach [b] X.env=[(false,eval b X.env)]:=by rfl) :
   PI X tg (.Call (.Name "range" p) [a,b] [] pos) (iRng2 ta):=by
 intro pins s σ H R I h;refine Call_ (va I hg hm boot_range (uN (thn (ha pos pins s σ H _ I h) λus s1 ⟨vs,H1,I1,r1,q1⟩=>?_) (by rw [hs,hs2]) (by rw [hs2];rfl)));obtain ⟨i,j,e,⟨q1,q2,q3,q4⟩,q⟩:=q1;subst e;cases r1 with
 | cons r rr =>
   cases rr with
   | cons r' rr =>
     cases rr;obtain ⟨t,rfl⟩:=r;obtain ⟨t',rfl⟩:=r';exact call_range_2 (i6 I1 q1 q2 q3 q4 q)
def tFor (wi:TI)(g:TG)(tb:TS):TS:=λD σ H=>wi σ H λJ H1=>∃ W:Nat->Nat->St->Hp->Prop,(∃ m,W 0 m σ H1)/\∀ i m σ H,W i m σ H ->
 (J.stop i H/\D.nx σ H)\/(J.go i H/\∃ N:St->Hp->Prop,(∀ σ' H',N σ' H'->∃ m',m'<m/\W (i+1) m' σ' H')/\∀ x H',J.yld i H x H'->g x σ H' λσ2 H2=>tb { D with nx:=N,ct:=N,bk:=D.nx } σ2 H2)
def pinsAt (fp:List Addr)(h:Heap):List (Addr × Obj):=fp.filterMap λb=>(h.get? b).map λo=>(b,o)
theorem nW {h:Heap}{b:Addr}{o:Obj}(hb:b∈fp)(e:h.get? b=some o):(b,o)∈pinsAt fp h:=oP.mpr ⟨b,hb,by rw [e];rfl⟩
theorem dA {h:Heap}{p:Addr × Obj}(hp:p∈pinsAt fp h):p.1∈fp/\h.get? p.1=some p.2:=by
 obtain ⟨b,hb,e⟩:=oP.mp hp;cases q:h.get? b with
 | none=>rw [q] at e;cases e
 | some o =>
   rw [q] at e;have e':(b,o)=p:=Option.some.inj e;subst e';exact ⟨hb,q⟩
theorem Inv.pinned {σ:St}{H:Hp}{s:Shared}(I:Inv X pins σ H s)(hf:∀ b∈fp,FpOk X pins H b)(ho:∀ b∈fp,∃ o,s.heap.get? b=some o/\∀ v,o.data≠.cell v):Inv X (pins++pinsAt fp s.heap) σ H s :=
 I.pins_of λp hp=>(zR.mp hp).elim (λz=>I.pin p (yf _ z)) λz=>by
   obtain ⟨hb,e⟩:=dA z;obtain ⟨f0,f1,f2,_⟩:=hf p.1 hb;obtain ⟨o,e',d⟩:=ho p.1 hb;rw [e] at e';cases e';exact ⟨e,f0,f1,f2,d⟩
theorem Inv.unpinned {pl:List (Addr × Obj)}{σ:St}{H:Hp}{s:Shared}(I:Inv X (pins++pl) σ H s):Inv X pins σ H s:=I.pins_of λp hp=>I.pin p (yf _ (yF _ hp))
theorem yW {iter:Expr}{body:List Stmt}{wi:TI}{g:TG}{tb:TS}{pos:Pos}(hp:PassesOwn (model X.prog X.w) X.A X.env X.xe)(hc:X.calm=true)(hi:PI X tg iter wi)(hg:PG X tg g)(hb:PSs X body tb)
   (hs:∀ x,foldedSetIterable iter X.env x=pure x:=by intro _;rfl):PS X (.For tg iter body [] pos) (tFor wi g tb):=by
 intro pins s σ H D I h;refine wpAny_For (thn (hi pins s σ H _ I h) λv s1 h1=>thn h1 λitv s2 h2=>?_) hs;obtain ⟨it,fp,tn,J,H2,e,I2,T,st2,f2,W,⟨m0,w0⟩,turn⟩:=h2;subst e;have stat:∀ {H':Hp},(∀ b∈fp,H' b=none)->∀ b∈fp,FpOk X pins H' b:=λhn b hb=>⟨hn b hb,(f2 b hb).2⟩
 refine codeAny_forLoop_any (λn s'=>∃ i σ' H',Inv X pins σ' H' s'/\tn i s'.heap/\(∀ b∈fp,H' b=none)/\W i n σ' H') ?_ m0 ⟨0,σ,H2,I2,st2,λb hb=>(f2 b hb).1,w0⟩;rintro n s3 ⟨i,σ3,H3,I3,st3,fr3,w3⟩;rcases turn i n σ3 H3 w3 with ⟨stop,qn⟩ | ⟨go,N,hN,step⟩
 . refine vQ hp (thn (T.done X rfl rfl rfl hc i pins s3 σ3 H3 X.xe I3 (stat fr3) st3 stop) λr s4 ⟨hr,I4⟩=>?_);subst hr;exact ur ⟨σ3,H3,I4,qn⟩
 . refine vQ hp (thn (T.item X rfl rfl rfl hc i pins s3 σ3 H3 X.xe I3 (stat fr3) st3 go) λr s4 ⟨u,hr,h4⟩=>?_);subst hr;refine vQ hp (thn h4 λ_ s5 hq=>?_);obtain ⟨x,H5,I5,r5,y5,st5,fr5⟩:=hq;have I5':=I5.pinned (stat fr5) (T.obj _ _ st5);refine vQ hp (thn (hg _ s5 σ3 H5 x u _ I5' r5 (step x H5 y5)) λ_ s6 ⟨σ6,H6,I6,q6⟩=>?_);refine vQ hp (thn (hb _ s6 σ6 H6 _ I6 q6) λf s7 q7=>?_);have again:∀ {σ7:St} {H7:Hp},Inv X (pins++pinsAt fp s5.heap) σ7 H7 s7->N σ7 H7->∃ m,m<n/\∃ i σ' H',Inv X pins σ' H' s7/\tn i s7.heap/\(∀ b∈fp,H' b=none)/\W i m σ' H':=λ{σ7 H7} I7 n7=>by
     obtain ⟨m',hm,w7⟩:=hN σ7 H7 n7;refine ⟨m',hm,i+1,σ7,H7,I7.unpinned,T.keep _ _ _ st5 λb hb o e=>(I7.pin (b,o) (yf _ (yf _ (nW hb e)))).1,λb hb=>?_,w7⟩;obtain ⟨o,e,d⟩:=T.obj _ _ st5 b hb;exact (I7.pin (b,o) (yf _ (yf _ (nW hb e)))).2.1
   cases f with
   | next=>obtain ⟨σ7,H7,I7,n7⟩:=q7;exact again I7 n7
   | cont=>obtain ⟨σ7,H7,I7,n7⟩:=q7;exact again I7 n7
   | brk=>obtain ⟨σ7,H7,I7,q7⟩:=q7;exact ⟨σ7,H7,I7.unpinned,q7⟩
   | ret v=>obtain ⟨x7,σ7,H7,I7,r7,q7⟩:=q7;exact ⟨x7,σ7,H7,I7.unpinned,r7,q7⟩
end
theorem for_list {a:Addr}{xs:List V}{g:TG}{tb:TS}{D:Ends}{σ:St}{H:Hp}(Pv:Nat->St->Hp->Prop)(h0:Pv 0 σ H)(hl:∀ i σ H,i<=xs.length->Pv i σ H->SqL K H a xs)
   (hs:∀ i x σ H,xs[i]?=some x->Pv i σ H->g x σ H λσ2 H2=>tb { D with nx:=Pv (i+1),ct:=Pv (i+1),bk:=D.nx } σ2 H2) (hd:∀ σ H,Pv xs.length σ H->D.nx σ H) :
   ∃ W:Nat->Nat->St->Hp->Prop,(∃ m,W 0 m σ H)/\∀ i m σ H,W i m σ H ->
     ((Itl K a).stop i H/\D.nx σ H)\/((Itl K a).go i H/\∃ N:St->Hp->Prop,(∀ σ' H',N σ' H'->∃ m',m'<m/\W (i+1) m' σ' H')/\∀ x H',(Itl K a).yld i H x H'->g x σ H' λσ2 H2=>tb { D with nx:=N,ct:=N,bk:=D.nx } σ2 H2):=by
 refine ⟨λi m σ H=>m=xs.length-i/\i<=xs.length/\Pv i σ H,⟨xs.length,by simp,zS _,h0⟩,?_⟩;rintro i m σ H ⟨rfl,hi,p⟩;have q:=hl i σ H hi p;by_cases hlt:i<xs.length;{refine .inr ⟨⟨xs,xs[i],q,by simp [hlt]⟩,Pv (i+1),λσ' H' p'=>⟨xs.length-(i+1),by lia,rfl,hlt,p'⟩,λx H' y=>?_⟩;obtain ⟨e,y⟩:=y;subst e;exact hs i x σ _ (y xs q) p}
 . have e:i=xs.length:=by lia
   subst e;exact .inl ⟨⟨xs,q,zi _⟩,hd σ H p⟩
theorem c9 {lo:Int}{n:Nat}{g:TG}{tb:TS}{D:Ends}{σ:St}{H:Hp}(Pv:Nat->St->Hp->Prop)(h0:Pv 0 σ H)
   (hs:∀ i σ H,i<n->Pv i σ H->g (.int (lo+i)) σ H λσ2 H2=>tb { D with nx:=Pv (i+1),ct:=Pv (i+1),bk:=D.nx } σ2 H2) (hd:∀ σ H,Pv n σ H->D.nx σ H) :
   ∃ W:Nat->Nat->St->Hp->Prop,(∃ m,W 0 m σ H)/\∀ i m σ H,W i m σ H ->
     ((Itr lo n).stop i H/\D.nx σ H)\/((Itr lo n).go i H/\∃ N:St->Hp->Prop,(∀ σ' H',N σ' H'->∃ m',m'<m/\W (i+1) m' σ' H')/\∀ x H',(Itr lo n).yld i H x H'->g x σ H' λσ2 H2=>tb { D with nx:=N,ct:=N,bk:=D.nx } σ2 H2):=by
 refine ⟨λi m σ H=>m=n-i/\i<=n/\Pv i σ H,⟨n,by simp,zS _,h0⟩,?_⟩;rintro i m σ H ⟨rfl,hi,p⟩;by_cases hlt:i<n;{refine .inr ⟨hlt,Pv (i+1),λσ' H' p'=>⟨n-(i+1),by lia,rfl,hlt,p'⟩,λx H' y=>?_⟩;obtain ⟨e,y⟩:=y;subst e y;exact hs i σ _ hlt p}
 . have e:i=n:=by lia
   subst e;exact .inl ⟨zi _,hd σ H p⟩
theorem while_by {c:TT}{tb:TS}{D:Ends}{σ:St}{H:Hp}(Pv:St->Hp->Prop)(μ:St->Hp->Nat)(h0:Pv σ H)
   (hs:∀ σ H,Pv σ H->c σ H λb H1=>if b=true then tb { D with nx:=λσ' H'=>Pv σ' H'/\μ σ' H'<μ σ H,ct:=λσ' H'=>Pv σ' H'/\μ σ' H'<μ σ H,bk:=D.nx } σ H1 else D.nx σ H1)
   (mono:∀ σ H Q Q',(∀ b H1,Q b H1->Q' b H1)->c σ H Q->c σ H Q'):tWhile c tb D σ H:=by
 refine ⟨λm σ H=>m=μ σ H/\Pv σ H,⟨_,rfl,h0⟩,?_⟩;rintro m σ H ⟨rfl,p⟩;refine mono σ H _ _ (λb H1 q=>?_) (hs σ H p);cases b with
 | true=>exact ⟨_,λσ' H' ⟨p',l⟩=>⟨_,l,rfl,p'⟩,q⟩
 | false=>exact q
abbrev R2:=V->V->Hp->VK->Prop
def OpR (X:Cx) (f:Value->Value->Sem Value) (r:R2):Prop :=
 ∀ (pins:List (Addr × Obj)) (s:Shared) (σ:St) (H:Hp) (x y:V) (v u:Value) (Q:VK),Inv X pins σ H s->RelV x v->RelV y u->r x y H Q ->
   wpAny (model X.prog X.w) X.A (f v u) (EP X pins σ Q) X.xe s
def UnR (X:Cx) (f:Value->Sem Value) (r:V->Hp->VK->Prop):Prop :=
 ∀ (pins:List (Addr × Obj)) (s:Shared) (σ:St) (H:Hp) (x:V) (v:Value) (Q:VK),Inv X pins σ H s->RelV x v->r x H Q ->
   wpAny (model X.prog X.w) X.A (f v) (EP X pins σ Q) X.xe s
def CallR (X:Cx) (f:Value) (r:List V->Hp->VK->Prop):Prop :=
 ∀ (pins:List (Addr × Obj)) (s:Shared) (σ:St) (H:Hp) (xs:List V) (us:List Value) (Q:VK),Inv X pins σ H s->Vals xs us->r xs H Q ->
   wpAny (model X.prog X.w) X.A (call f us) (EP X pins σ Q) X.xe s
def tOp (r:R2)(ta tb:TE):TE:=λσ H Q=>ta σ H λx H1=>tb σ H1 λy H2=>r x y H2 Q
def tUn (r:V->Hp->VK->Prop)(ta:TE):TE:=λσ H Q=>ta σ H λx H1=>r x H1 Q
def rI (C:Int->Int->Prop)(g:Int->Int->V):R2:=λx y H Q=>onI x λi=>onI y λj=>C i j/\Q (g i j) H
def rI0 (g:Int->Int->V):R2:=λx y H Q=>onI x λi=>onI y λj=>Q (g i j) H
def rU (g:Int->V):V->Hp->VK->Prop:=λx H Q=>onI x λi=>Q (g i) H
section
variable {X:Cx}{a b c:Expr}{ta tb tc:TE}{pos:Pos}
theorem binT (ha:PE X a ta)(hb:PE X b tb){s:Shared}{σ:St}{H:Hp}{R:V->V->Hp->Prop}(I:Inv X pins σ H s)
   (h:ta σ H λx H1=>tb σ H1 λy H2=>R x y H2) {f:Value->Value->Sem Value}
   (hf:∀ v u s2 x y H2,Inv X pins σ H2 s2->RelV x v->RelV y u->R x y H2->wpAny (model X.prog X.w) X.A (f v u) Q X.xe s2) :
   wpAny (model X.prog X.w) X.A (eval a X.env) (λv s₁=>wpAny (model X.prog X.w) X.A (eval b X.env) (λu s₂=>wpAny (model X.prog X.w) X.A (f v u) Q X.xe s₂) X.xe s₁) X.xe s:=by
 refine thn (ha pins s σ H _ I h) λv s1 ⟨x,H1,I1,r1,q1⟩=>?_
 refine thn (hb pins s1 σ H1 _ I1 q1) λu s2 ⟨y,H2,I2,r2,q2⟩=>?_
 exact hf v u s2 x y H2 I2 r1 r2 q2
theorem zv {op:Operator}{r:R2}(ho:OpR X (binaryOp op) r)(ha:PE X a ta)(hb:PE X b tb):PE X (.BinOp a op b pos) (tOp r ta tb):=by intro pins s σ H Q I h;exact wpAny_BinOp (binT ha hb I h λv u s2 x y H2 I2 rx ry q=>ho pins s2 σ H2 x y v u Q I2 rx ry q)
theorem vF {op:UnaryOp}{r:V->Hp->VK->Prop}(ho:UnR X (unaryOp op) r)(ha:PE X a ta):PE X (.UnaryOp op a pos) (tUn r ta):=by intro pins s σ H Q I h;exact UnaryOp_ (thn (ha pins s σ H _ I h) λv s1 ⟨x,H1,I1,r1,q1⟩=>ho pins s1 σ H1 x v Q I1 r1 q1)
theorem opI {f:Value->Value->Sem Value}{C:Int->Int->Prop}{g:Int->Int->Int}
   (rule:∀ (i j:Int) (t u:Tok) (s:Shared) (Q:Value->Shared->Prop) (E:Value->Shared->Prop),C i j->Q (.int (g i j) s.toks) { s with toks:=s.toks+1 }->wpAny (model X.prog X.w) X.A (f (.int i t) (.int j u)) Q E s) :
   OpR X f (rI C λi j=>.int (g i j)):=by
 intro pins s σ H x y v u Q I rx ry h;obtain ⟨i,j,rfl,rfl,hc,q⟩:=ni h;obtain ⟨t,rfl⟩:=rx;obtain ⟨t',rfl⟩:=ry;exact rule i j t t' s _ _ hc ⟨.int (g i j),H,I.tok _,⟨_,rfl⟩,q⟩
theorem opI0 {f:Value->Value->Sem Value}{g:Int->Int->Int}
   (rule:∀ (i j:Int) (t u:Tok) (s:Shared) (Q:Value->Shared->Prop) (E:Value->Shared->Prop),Q (.int (g i j) s.toks) { s with toks:=s.toks+1 }->wpAny (model X.prog X.w) X.A (f (.int i t) (.int j u)) Q E s) :
   OpR X f (rI0 λi j=>.int (g i j)):=by
 intro pins s σ H x y v u Q I rx ry h;obtain ⟨i,j,rfl,rfl,q⟩:=ni h;obtain ⟨t,rfl⟩:=rx;obtain ⟨t',rfl⟩:=ry;exact rule i j t t' s _ _ ⟨.int (g i j),H,I.tok _,⟨_,rfl⟩,q⟩
theorem opB0 {f:Value->Value->Sem Value}{g:Int->Int->Bool}
   (rule:∀ (i j:Int) (t u:Tok) (s:Shared) (Q:Value->Shared->Prop) (E:Value->Shared->Prop),Q (.bool (g i j)) s->wpAny (model X.prog X.w) X.A (f (.int i t) (.int j u)) Q E s) :
   OpR X f (rI0 λi j=>.bl (g i j)):=by
 intro pins s σ H x y v u Q I rx ry h;obtain ⟨i,j,rfl,rfl,q⟩:=ni h;obtain ⟨t,rfl⟩:=rx;obtain ⟨t',rfl⟩:=ry;exact rule i j t t' s _ _ ⟨.bl (g i j),H,I,rfl,q⟩
def CDiv (i j:Int):Prop:=0<j/\j<1073741824
def CPow (i j:Int):Prop:=0<=j/\j<=1000000/\i.natAbs<2^64
def CMul (i j:Int):Prop:=(-(2^64)<i/\i<2^64)\/(-(2^64)<j/\j<2^64)
theorem CMul.ok {i j:Int}(h:CMul i j):IntMulOk i j:=by
 rcases h with ⟨h1,h2⟩ | ⟨h1,h2⟩
 . exact .of_left (intBits_le_64 h1 h2)
 . exact .of_right (intBits_le_64 h1 h2)
theorem i5 (k:Nat):(0:Int)<=2^k:=by rw [two_pow_cast];exact xA _
theorem zX:OpR X (binaryOp .Add) (rI0 λi j=>.int (i+j)):=opI0 λ_ _ _ _ _ _ _ q=>add_int q
theorem yI:OpR X (binaryOp .Sub) (rI0 λi j=>.int (i-j)):=opI0 λ_ _ _ _ _ _ _ q=>sub_int q
theorem xt:OpR X (binaryOp .Mult) (rI CMul λi j=>.int (i*j)):=opI λ_ _ _ _ _ _ _ hc q=>mul_int q hc.ok
theorem xr:OpR X (binaryOp .FloorDiv) (rI CDiv λi j=>.int (i/j)):=opI λi j _ _ _ _ _ hc q=>by
 have h1:(0:Int)<j:=hc.1;have h2:j<1073741824:=hc.2;exact floordiv_int (by lia) (by rw [kW i (by lia)];exact q) (.inl (kj (by lia)))
theorem zL:OpR X (binaryOp .Mod) (rI (λ_ j=>0<j) λi j=>.int (i%j)):=opI λi j _ _ _ _ _ hc q=>by
 have h1:(0:Int)<j:=hc;exact mod_int' (by lia) (by rw [Int.fmod_eq_emod_of_nonneg i (by lia)];exact q)
theorem op_pow:OpR X (binaryOp .Pow) (rI CPow λi j=>.int (i^j.toNat)):=opI λ_ _ _ _ _ _ _ hc q=>pow_int_small hc.1 hc.2.1 hc.2.2 q
theorem tN:OpR X (binaryOp .RShift) (rI (λ_ j=>0<=j) λi j=>.int (i/2^j.toNat)):=opI λi j _ _ _ _ _ hc q =>
 rshift_int hc (by rw [kW i (i5 _)];exact q)
theorem w4:OpR X (binaryOp .BitAnd) (rI0 λi j=>.int (Builtin.bitAnd i j)):=opI0 λ_ _ _ _ _ _ _ q=>and_int q
theorem op_or:OpR X (binaryOp .BitOr) (rI0 λi j=>.int (Builtin.bitOr i j)):=opI0 λ_ _ _ _ _ _ _ q=>or_int q
theorem unI {f:Value->Sem Value}{g:Int->Int}
   (rule:∀ (i:Int) (t:Tok) (s:Shared) (Q:Value->Shared->Prop) (E:Value->Shared->Prop),Q (.int (g i) s.toks) { s with toks:=s.toks+1 }->wpAny (model X.prog X.w) X.A (f (.int i t)) Q E s) :
   UnR X f (rU λi=>.int (g i)):=by
 intro pins s σ H x v Q I rx h;obtain ⟨i,rfl,q⟩:=vH h;obtain ⟨t,rfl⟩:=rx;exact rule i t s _ _ ⟨.int (g i),H,I.tok _,⟨_,rfl⟩,q⟩
theorem vE:UnR X (unaryOp .USub) (rU λi=>.int (-i)):=unI λ_ _ _ _ _ q=>neg_int q
end
def scal:V->V->Bool
 | .non,.non=>true | .non,.int _=>true | .int _,.non=>true | .non,.bl _=>true | .bl _,.non=>true | .non,.str _=>true | .str _,.non=>true
 | .int _,.int _=>true | .bl _,.bl _=>true | .str _,.str _=>true | .byt _,.byt _=>true
 | .int _,.str _=>true | .str _,.int _=>true | .bl _,.str _=>true | .str _,.bl _=>true
 | _,_=>false
def rEq:R2:=λx y H Q=>onT (scal x y) (Q (.bl (decide (x=y))) H)
def rNe:R2:=λx y H Q=>onT (scal x y) (Q (.bl (!decide (x=y))) H)
theorem i4 {i j:Int}:decide (V.int i=V.int j)=(i==j):=by rw [vf];simp
theorem dec_bl {i j:Bool}:decide (V.bl i=V.bl j)=(i==j):=by rw [vf];simp
theorem i0 {i j:Str}:decide (V.str i=V.str j)=(i==j):=by rw [vf];simp
theorem iz {i j:Array UInt8}:decide (V.byt i=V.byt j)=(i.toList==j.toList):=by rw [vf];cases i;cases j;simp
section
variable {X:Cx}{a b c:Expr}{ta tb tc:TE}{pos:Pos}
theorem y8 {σ:St}{H:Hp}{s:Shared}{Q:VK}{k k':Bool}(I:Inv X pins σ H s)(q:Q (.bl k) H)(e:k=k'):EP X pins σ Q (.bool k') s:=by subst e;exact ⟨.bl k,H,I,rfl,q⟩
theorem yo:OpR X (compareOp .Eq) rEq:=by
 intro pins s σ H x y v u Q I rx ry h;obtain ⟨hs,q⟩:=onT_x h;cases x with
 | non =>
   cases rx;cases y with
   | non=>cases ry;exact PySem.EqNone.eq_none_none (y8 I q (by simp))
   | bl j=>cases ry;exact PySem.EqNone.eq_none_bool (y8 I q (by simp))
   | int j=>obtain ⟨t',rfl⟩:=ry;exact PySem.EqNone.eq_none_int (y8 I q (by simp))
   | str j=>obtain ⟨t',rfl⟩:=ry;exact PySem.EqNone.eq_none_str (y8 I q (by simp))
   | _=>exact absurd (show false=true from hs) yw
 | bl i =>
   cases rx;cases y with
   | non=>cases ry;exact PySem.EqNone.eq_bool_none (y8 I q (by simp))
   | bl j=>cases ry;exact eq_bool (y8 I q dec_bl)
   | str j=>obtain ⟨t',rfl⟩:=ry;exact PySem.EqMixed.eq_bool_str (y8 I q (by simp))
   | _=>exact absurd (show false=true from hs) yw
 | int i =>
   obtain ⟨t,rfl⟩:=rx;cases y with
   | non=>cases ry;exact PySem.EqNone.eq_int_none (y8 I q (by simp))
   | int j=>obtain ⟨t',rfl⟩:=ry;exact eq_int (y8 I q i4)
   | str j=>obtain ⟨t',rfl⟩:=ry;exact PySem.EqMixed.eq_int_str (y8 I q (by simp))
   | _=>exact absurd (show false=true from hs) yw
 | str i =>
   obtain ⟨t,rfl⟩:=rx;cases y with
   | non=>cases ry;exact PySem.EqNone.eq_str_none (y8 I q (by simp))
   | bl j=>cases ry;exact PySem.EqMixed.eq_str_bool (y8 I q (by simp))
   | int j=>obtain ⟨t',rfl⟩:=ry;exact PySem.EqMixed.eq_str_int (y8 I q (by simp))
   | str j=>obtain ⟨t',rfl⟩:=ry;exact eq_str (y8 I q i0)
   | _=>exact absurd (show false=true from hs) yw
 | byt i =>
   obtain ⟨t,rfl⟩:=rx;cases y with
   | byt j=>obtain ⟨t',rfl⟩:=ry;exact PySem.W.eq_bytes (y8 I q iz)
   | _=>exact absurd (show false=true from hs) yw
 | _=>cases y<;>exact absurd (show false=true from hs) yw
theorem op_ne:OpR X (compareOp .NotEq) rNe:=by
 intro pins s σ H x y v u Q I rx ry h;obtain ⟨hs,q⟩:=onT_x h;cases x with
 | non =>
   cases rx;cases y with
   | non=>cases ry;exact PySem.EqNone.ne_none_none (y8 I q (by simp))
   | bl j=>cases ry;exact PySem.EqNone.ne_none_bool (y8 I q (by simp))
   | int j=>obtain ⟨t',rfl⟩:=ry;exact PySem.EqNone.ne_none_int (y8 I q (by simp))
   | str j=>obtain ⟨t',rfl⟩:=ry;exact PySem.EqNone.ne_none_str (y8 I q (by simp))
   | _=>exact absurd (show false=true from hs) yw
 | bl i =>
   cases rx;cases y with
   | non=>cases ry;exact PySem.EqNone.ne_bool_none (y8 I q (by simp))
   | bl j=>cases ry;exact ne_bool (y8 I q (congrArg not dec_bl))
   | str j=>obtain ⟨t',rfl⟩:=ry;exact PySem.EqMixed.ne_bool_str (y8 I q (by simp))
   | _=>exact absurd (show false=true from hs) yw
 | int i =>
   obtain ⟨t,rfl⟩:=rx;cases y with
   | non=>cases ry;exact PySem.EqNone.ne_int_none (y8 I q (by simp))
   | int j=>obtain ⟨t',rfl⟩:=ry;exact ne_int (y8 I q (congrArg not i4))
   | str j=>obtain ⟨t',rfl⟩:=ry;exact PySem.EqMixed.ne_int_str (y8 I q (by simp))
   | _=>exact absurd (show false=true from hs) yw
 | str i =>
   obtain ⟨t,rfl⟩:=rx;cases y with
   | non=>cases ry;exact PySem.EqNone.ne_str_none (y8 I q (by simp))
   | bl j=>cases ry;exact PySem.EqMixed.ne_str_bool (y8 I q (by simp))
   | int j=>obtain ⟨t',rfl⟩:=ry;exact PySem.EqMixed.ne_str_int (y8 I q (by simp))
   | str j=>obtain ⟨t',rfl⟩:=ry;exact ne_str (y8 I q (congrArg not i0))
   | _=>exact absurd (show false=true from hs) yw
 | byt i =>
   obtain ⟨t,rfl⟩:=rx;cases y with
   | byt j=>obtain ⟨t',rfl⟩:=ry;exact PySem.W.ne_bytes (y8 I q (congrArg not iz))
   | _=>exact absurd (show false=true from hs) yw
 | _=>cases y<;>exact absurd (show false=true from hs) yw
theorem wc:OpR X (compareOp .Lt) (rI0 λi j=>.bl (decide (i<j))):=opB0 λ_ _ _ _ _ _ _ q=>lt_int q
theorem wK:OpR X (compareOp .LtE) (rI0 λi j=>.bl (decide (i<=j))):=opB0 λ_ _ _ _ _ _ _ q=>le_int q
theorem tM:OpR X (compareOp .Gt) (rI0 λi j=>.bl (decide (j<i))):=opB0 λ_ _ _ _ _ _ _ q=>gt_int q
theorem op_ge:OpR X (compareOp .GtE) (rI0 λi j=>.bl (decide (j<=i))):=opB0 λ_ _ _ _ _ _ _ q=>ge_int q
theorem nomark (b:Expr){op:CmpOp}(h:op≠.In:=by decide)(h2:op≠.NotIn:=by decide):behindInMarks op b=false:=by
 have e1:(op==CmpOp.In)=false:=by cases op<;>first | rfl | exact absurd rfl h
 have e2:(op==CmpOp.NotIn)=false:=by cases op<;>first | rfl | exact absurd rfl h2
 cases b<;>simp [behindInMarks,e1,e2]
theorem iy {op:CmpOp}{r:R2}(ho:OpR X (compareOp op) r)(ha:PE X a ta)(hb:PE X b tb)(hm:behindInMarks op b=false):PE X (.Compare a [op] [b] pos) (tOp r ta tb):=by intro pins s σ H Q I h;exact wpAny_Compare1 (binT ha hb I h λv u s2 x y H2 I2 rx ry q=>ho pins s2 σ H2 x y v u Q I2 rx ry q) hm
def tTest (t:TE):TT:=λσ H Q=>t σ H λx H'=>onB x λk=>Q k H'
theorem pt_cmpR {op:CmpOp}{r:R2}(ho:OpR X (compareOp op) r)(ha:PE X a ta)(hb:PE X b tb)(hm:behindInMarks op b=false):PT X (.Compare a [op] [b] pos) (tTest (tOp r ta tb)):=by
 intro pins s σ H Q I h;refine wpAny_isTrue_Compare1 (thn (ha pins s σ H _ I h) λv s1 ⟨x,H1,I1,r1,q1⟩=>thn (hb pins s1 σ H1 _ I1 q1) λu s2 ⟨y,H2,I2,r2,q2⟩ =>
   thn (ho pins s2 σ H2 x y v u _ I2 r1 r2 q2) λc s3 ⟨z,H3,I3,r3,q3⟩=>?_) hm
 obtain ⟨k,e,q3⟩:=uX q3;subst e;cases r3;exact uv ⟨H3,I3,q3⟩
def tChain (r r':R2)(ta tb tc:TE):TE:=λσ H Q=>ta σ H λx H1=>tb σ H1 λy H2=>r x y H2 λz H3=>∃ k,z=.bl k /\
 (if k=true then tc σ H3 λw' H4=>r' y w' H4 Q else Q (.bl false) H3)
theorem rG {op op':CmpOp}{r r':R2}(ho:OpR X (compareOp op) r)(ho':OpR X (compareOp op') r')(ha:PE X a ta)(hb:PE X b tb)(hc:PE X c tc)
   (hm:lastMarks [op,op'] [b,c]=false:=by with_unfolding_all rfl):PT X (.Compare a [op,op'] [b,c] pos) (tTest (tChain r r' ta tb tc)):=by
 intro pins s σ H Q I h;refine isTrue_chain (thn (ha pins s σ H _ I h) λv s1 ⟨x,H1,I1,r1,q1⟩=>test_link (thn (hb pins s1 σ H1 _ I1 q1) λu s2 ⟨y,H2,I2,r2,q2⟩ =>
   thn (ho pins s2 σ H2 x y v u _ I2 r1 r2 q2) λd s3 ⟨z,H3,I3,r3,k,e,q3⟩=>?_)) hm
 subst e;cases r3;refine uv ?_;cases k with
 | false =>
   have q':Q false H3:=by rw [if_neg (by decide)] at q3;exact q3
   exact ite_ff ⟨H3,I3,q'⟩
 | true =>
   refine ite_tt (test_last (thn (hc pins s3 σ H3 _ I3 q3) λw' s4 ⟨z',H4,I4,r4,q4⟩=>thn (ho' pins s4 σ H4 y z' u w' _ I4 r2 r4 q4) λd' s5 ⟨z2,H5,I5,r5,q5⟩=>?_));obtain ⟨k2,e2,q5⟩:=uX q5;subst e2;cases r5;exact uv ⟨H5,I5,q5⟩
theorem line63:(sizeLine:Nat)<2^63:=by rw [vO];decide
theorem vals1 {x:V}(r:Vals [x] us):∃ u,us=[u]/\RelV x u:=by
 cases r with
 | cons r1 r2=>cases r2;exact ⟨_,rfl,r1⟩
theorem vals2 {x y:V}(r:Vals [x,y] us):∃ u w',us=[u,w']/\RelV x u/\RelV y w':=by
 cases r with
 | cons r1 r2 =>
   cases r2 with
   | cons r3 r4=>cases r4;exact ⟨_,_,rfl,r1,r3⟩
theorem c8 (hc:X.calm=true):CallR X (.builtin "min") (λxs H Q=>∃ i j,xs=[.int i,.int j]/\Q (.int (if j<i then j else i)) H):=by
 intro pins s σ H xs us Q I r h;obtain ⟨i,j,rfl,q⟩:=h;obtain ⟨u,w',rfl,⟨t,rfl⟩,⟨t',rfl⟩⟩:=vals2 r;refine min_two_ints (I.ok.hd hc) λh' tk k=>⟨_,H,I.kept k,?_,q⟩
 by_cases hj:j<i;{rw [if_pos hj,if_pos hj];exact ⟨_,rfl⟩};{rw [if_neg hj,if_neg hj];exact ⟨_,rfl⟩}
theorem cz:CallR X (.type "int") (λxs H Q=>(∃ i,xs=[.int i]/\Q (.int i) H)\/∃ k,xs=[.bl k]/\Q (.int (if k then 1 else 0)) H):=by
 intro pins s σ H xs us Q I r h;rcases h with ⟨i,rfl,q⟩ | ⟨k,rfl,q⟩
 . obtain ⟨u,rfl,t,rfl⟩:=vals1 r;exact call_int_int ⟨.int i,H,I,⟨_,rfl⟩,q⟩
 . obtain ⟨u,rfl,r1⟩:=vals1 r;cases r1;exact call_int_bool ⟨.int (if k then 1 else 0),H,I.tok _,⟨_,rfl⟩,q⟩
theorem nV:CallR X (.type "str") (λxs H Q=>∃ i,xs=[.int i]/\i.natAbs.log2<1920/\Q (.str (toString i)) H):=by intro pins s σ H xs us Q I r h;obtain ⟨i,rfl,hz,q⟩:=h;obtain ⟨u,rfl,t,rfl⟩:=vals1 r;exact PySem.P.str_of_int hz ⟨.str _,H,I.tok _,⟨_,rfl⟩,q⟩
end
structure ObjM (h:Heap)(x dx C:Addr)(mA:Str->Option Value):Prop where
 obj:h.get? x=some (PySem.W.instObj C dx)
 ns:h.Ns1 dx mA
 ne:dx≠x
theorem cy {h:Heap}{dx:Addr}{mA:Str->Option Value}(n:h.Ns1 dx mA):∃ od,h.get? dx=some od/\∀ name,PySem.W.lookIn name od=some (mA name):=by
 obtain ⟨o,es,ep,ho,hd,hk,_,hm⟩:=n;refine ⟨o,ho,λname=>?_⟩;have e:=hm name;unfold nsFind findBy at e;rw [<- Array.find?_toList] at e;unfold PySem.W.lookIn;rw [hd];dsimp only;split
 . rename_i y q
   rw [q] at e;exact congrArg some e
 . rename_i q
   rw [q] at e;have a:es.toList.any (·.refKey)=false:=by rw [List.any_eq_false];intro y hy;obtain ⟨z,t,hkey⟩:=hk y (Array.mem_toList_iff.mp hy);simp [DictEntry.refKey,hkey]
   have a':¬ es.toList.any (·.refKey)=true:=by rw [a];exact yw
   rw [if_neg a'];exact congrArg some e
theorem ObjM.look {h:Heap}{x dx:Addr}{mA:Str->Option Value}(I:ObjM h x dx C mA):∃ od,PySem.W.InstAt h x (PySem.W.instObj C dx) C (some od)/\∀ name,PySem.W.lookIn name od=some (mA name) :=
 let ⟨od,ho,hl⟩:=cy I.ns
 ⟨od,⟨I.obj,rfl,rfl,ho⟩,hl⟩
section
variable {s:Shared}{x dx f:Addr}{mA:Str->Option Value}{name:Str}{v:Value}
theorem get_map {expr:Bool}(X:K.In s.heap)(I:ObjM s.heap x dx C mA)(hg:PySem.W.plainGet K C name=true)(hh:PySem.W.hasDictIn K C=true)
   (ha:PySem.W.findIn K (.ref C) name=some none) (hv:mA name=some v) (hv':PySem.W.handedIn v=true) (h:Q v { s with toks:=s.toks+1 }) :
   wpAny (model prog w) A (getAttr (.ref x) name expr) Q E s:=by
 obtain ⟨od,J,hl⟩:=I.look;exact PySem.W.get_value X J (o4 hg).1 (PySem.W.findObj_own hh ha rfl (by rw [hl,hv])) hv' h
theorem get_meth {pl:Sem Bool}{Q:Value × List Value->Shared->Prop}(X:K.In s.heap)(I:ObjM s.heap x dx C mA)(hg:PySem.W.plainGet K C name=true)
   (hf:PySem.W.findIn K (.ref C) name=some (some (.ref f))) (ht:PySem.W.isFn K (.ref f)=true) (hv:mA name=none) (h:Q (.ref f,[.ref x]) s) :
   wpAny (model prog w) A (getMethod (.ref x) name pl) Q E s:=by
 obtain ⟨od,J,hl⟩:=I.look;exact PySem.W.method_fn X J (o4 hg).1 (o4 hg).2 hf (xC.mp ht) (by show (PySem.W.lookIn name od).map (·.isSome)=some false;rw [hl,hv];rfl) h
theorem set_map {ns:List Str}{Q:Unit->Shared->Prop}(X:K.In s.heap)(I:ObjM s.heap x dx C mA)
   (hs:PySem.W.findIn K (.ref C) "__setattr__"=some (some (.builtin "object.__setattr__"))) (hp:PySem.W.plainOver K C=true) (ht:PySem.W.takerIn K C name=some none) (hh:PySem.W.hasDictIn K C=true)
   (hw:PySem.Within mA ns) (hsz:ns.length<=sizeLine)
   (h:∀ h',ObjM h' x dx C (λy=>if y=name then some v else mA y)->Heap.SameBut dx s.heap h'->Q () { s with heap:=h',toks:=s.toks+2 }) :
   wpAny (model prog w) A (setAttr (.ref x) name v) Q E s:=by
 obtain ⟨od,J,hl⟩:=I.look;refine PySem.W.set_plain X J hs (PySem.W.osa_open (s:={ s with toks:=s.toks+1 }) (r:=none) X J hp ht λb=>?_);obtain ⟨cd,hc,hd'⟩:=PySem.W.any_some hh;have hx:s.heap.get? x=some ⟨.ref C,some dx,.plain,#[]⟩:=I.obj;refine zt (zc (zt (zt (wpAny_loadPart hx (zt (PySem.W.Looks.here (s:={ s with toks:=s.toks+1 }) (PySem.W.looks_clsIn X hc) ?_))))));rw [hd'];refine zc (a:=some dx) (zt (zc (zt ?_)));refine wpAny_nsSet1 (s:={ s with toks:=s.toks+1 }) I.ns λh' hn2 hs2=>?_
 obtain ⟨oD,esD,epD,hoD,hdD,hcD⟩:=hn2.count (PySem.Within.cons name v hw);refine zt (wpAny_lookBehind hoD (by rw [hdD];exact pastItsLine_dict (zO hcD (by rw [zZ];lia))) ?_);exact zc (h _ ⟨(hs2.2 _ (Ne.symm I.ne)).trans I.obj,hn2,I.ne⟩ hs2)
theorem make_map {R:Result->Shared->Prop}{vs:List Value}{kw:List (Str × Value)}(X:K.In s.heap)(hm:PySem.W.makesIn K C=true)
   (hi:PySem.W.findIn K (.ref C) "__init__"=some (some (.ref f))) (hf:PySem.W.typeIn K (.ref f)=some (.type "function"))
   (h:codeAny (model prog w) (A.under (.builtin "type.__call__" ⟨.ref C::vs,kw⟩)) (.call (.ref f) ⟨.ref (s.heap.objs.size+1)::vs,kw⟩) (PySem.W.InitBack (s.heap.objs.size+1) R)
     { s with heap:=(s.heap.push PySem.W.emptyDict).push (PySem.W.instObj C s.heap.objs.size) }) :
   codeAny (model prog w) A (.call (.ref C) ⟨vs,kw⟩) R s:=by
 obtain ⟨hh,g,d,t,os⟩:=s;exact PySem.W.make_core (PySem.W.makes_of X hm) (PySem.W.looks_findIn X hi) (λself=>PySem.W.bind_fn X self hf) (.inl rfl) h
end
def putF (f:Str)(v:V):List (Str × V)->List (Str × V)
 | []=>[(f,v)]
 | (g,x)::r=>if g=f then (g,v)::r else (g,x)::putF f v r
theorem iw (f g:Str) (v:V):∀ fs:List (Str × V),(putF f v fs).lookup g=if g=f then some v else fs.lookup g
 | []=>by
   show List.lookup g [(f,v)]=_;by_cases h:g=f;{have hb:(g==f)=true:=xC.mpr h;simp only [List.lookup,hb,if_pos h]}
   . have hb:(g==f)=false:=uy.mpr h;simp only [List.lookup,hb,if_neg h]
 | (k, x)::r=>by
   have ih:=iw f g v r;rw [show putF f v ((k,x)::r)=(if k=f then (k,v)::r else (k,x)::putF f v r) from rfl];by_cases hk:k=f
   . rw [if_pos hk];by_cases h:g=k
     . have hb:(g==k)=true:=xC.mpr h;simp only [List.lookup,hb,if_pos (h.trans hk)]
     . have hb:(g==k)=false:=uy.mpr h;simp only [List.lookup,hb,if_neg (λe:g=f=>h (e.trans hk.symm))]
   . rw [if_neg hk];by_cases h:g=k
     . have hb:(g==k)=true:=xC.mpr h;simp only [List.lookup,hb,if_neg (λe:g=f=>hk (h.symm.trans e))]
     . have hb:(g==k)=false:=uy.mpr h;simp only [List.lookup,hb];exact ih
theorem nQ (f:Str) (v:V):∀ fs:List (Str × V),f∈(putF f v fs).map (·.1)/\∀ g,g∈fs.map (·.1)->g∈(putF f v fs).map (·.1)
 | []=>⟨by simp [putF],λg h=>by simp at h⟩
 | (k, x)::r=>by
   obtain ⟨i1,i2⟩:=nQ f v r;rw [show putF f v ((k,x)::r)=(if k=f then (k,v)::r else (k,x)::putF f v r) from rfl];by_cases hk:k=f;{rw [if_pos hk];subst hk;exact ⟨by simp,λg h=>by simpa using h⟩}
   . rw [if_neg hk];refine ⟨?_,λg h=>?_⟩
     . rw [yz];exact xx _ i1
     . rw [yz] at h ⊢;rcases zW.mp h with e | e
       . exact zW.mpr (.inl e)
       . exact xx _ (i2 g e)
theorem iu (f:Str)(v:V):∀ fs:List (Str × V),(putF f v fs).length<=fs.length+1
 | []=>by simp [putF]
 | (k,x)::r=>by
   have ih:=iu f v r;rw [show putF f v ((k,x)::r)=(if k=f then (k,v)::r else (k,x)::putF f v r) from rfl];by_cases hk:k=f;{rw [if_pos hk,zZ,zZ];lia};{rw [if_neg hk,zZ,zZ];lia}
theorem RelO.some_of {v:V}{o:Option Value}(r:RelO (some v) o):∃ u,o=some u/\RelV v u:=by
 cases o with
 | none=>exact (show False from r).elim
 | some u=>exact ⟨u,rfl,r⟩
theorem RelO.none_of {o:Option Value}(r:RelO none o):o=none:=by
 cases o with
 | none=>rfl
 | some u=>exact (show False from r).elim
theorem cx {v:V}{u:Value}(r:RelV v u):PySem.W.handedIn u=true:=by
 cases v with
 | non=>cases (show u=Value.none from r);rfl
 | bl b=>cases (show u=Value.bool b from r);rfl
 | int i=>obtain ⟨t,e⟩:=(show ∃ t,u=Value.int i t from r);cases e;rfl
 | str x=>obtain ⟨t,e⟩:=(show ∃ t,u=Value.str x t from r);cases e;rfl
 | byt b=>obtain ⟨t,e⟩:=(show ∃ t,u=Value.bytes b t from r);cases e;rfl
 | flt b=>obtain ⟨t,e⟩:=(show ∃ t,u=Value.float b t from r);cases e;rfl
 | ref a=>cases (show u=Value.ref a from r);rfl
 | ty n=>cases (show u=Value.type n from r);rfl
section
variable {H H':Hp}{h:Heap}{a dx:Addr}{fs fs':List (Str × V)}
theorem rF (hok:HOk P w H h)(e:H a=some (.ins C dx fs)):∃ mA,ObjM h a dx C mA/\(∀ f,RelO (fs.lookup f) (mA f))/\PySem.Within mA (fs.map (·.1))/\fs.length<=1000/\H dx=some (.own a):=by
 obtain ⟨d,z,ne,ob,mA,n,r,q⟩:=(show ObjOk P w H h a (.ins C dx fs) from hok a _ e)
 exact ⟨mA,⟨ob,n,ne⟩,r,q,z,d⟩
end
structure Cls (K:zh)(C:Addr):Prop where
 pg:PySem.W.plainGet K C Str.empty=true
 hd:PySem.W.hasDictIn K C=true
 po:PySem.W.plainOver K C=true
 sa:PySem.W.findIn K (.ref C) "__setattr__"=some (some (.builtin "object.__setattr__"))
theorem Cls.get (c:Cls K C)(f:Str):PySem.W.plainGet K C f=true:=c.pg
def NoAttr (K:zh)(C:Addr)(f:Str):Prop:=PySem.W.findIn K (.ref C) f=some none
theorem NoAttr.taker {f:Str}(n:NoAttr K C f):PySem.W.takerIn K C f=some none:=by unfold PySem.W.takerIn;rw [show PySem.W.findIn K (.ref C) f=some none from n];rfl
structure Meth (K:zh)(C:Addr)(m:Str)(f:Addr):Prop where
 at_:PySem.W.findIn K (.ref C) m=some (some (.ref f))
 fn:PySem.W.isFn K (.ref f)=true
 kp:PySem.W.keepIn K (.ref f)=true
section
variable {X:Cx}{σ:St}{H:Hp}{s:Shared}{a dx:Addr}{fs:List (Str × V)}{f:Str}{v:V}
theorem cw {b:Bool}(I:Inv X pins σ H s)(e:H a=some (.ins C dx fs))(c:Cls X.K C)(n:NoAttr X.K C f)(l:fs.lookup f=some v)
   (h:∀ u s',Inv X pins σ H s'->RelV v u->Q u s'):wpAny (model X.prog X.w) A (getAttr (.ref a) f b) Q E s:=by
 obtain ⟨mA,O,r,_,_,_⟩:=rF I.hok e;obtain ⟨u,hu,ru⟩:=RelO.some_of (v:=v) (o:=mA f) (by rw [<- l];exact r f);exact get_map I.kIn O (c.get f) c.hd n hu (cx ru) (h u _ (I.tok _) ru)
theorem iq {m:Str}{g:Addr}{pl:Sem Bool}{Q:Value × List Value->Shared->Prop}(I:Inv X pins σ H s)(e:H a=some (.ins C dx fs))(c:Cls X.K C)(k:Meth X.K C m g)(l:fs.lookup m=none)
   (h:Q (.ref g,[.ref a]) s):wpAny (model X.prog X.w) A (getMethod (.ref a) m pl) Q E s:=by
 obtain ⟨mA,O,r,_,_,_⟩:=rF I.hok e;have hn:mA m=none:=RelO.none_of (by rw [<- l];exact r m);exact get_meth I.kIn O (c.get m) k.at_ k.fn hn h
theorem cu {y:V}{u:Value}{Q:Unit->Shared->Prop}(I:Inv X pins σ H s)(e:H a=some (.ins C dx fs))(c:Cls X.K C)(n:NoAttr X.K C f)(hl:fs.length<1000)(ry:RelV y u)
   (h:∀ s',Inv X pins σ (upd H a (.ins C dx (putF f y fs))) s'->Q () s'):wpAny (model X.prog X.w) A (setAttr (.ref a) f u) Q E s:=by
 obtain ⟨mA,O,r,wi,_,ho⟩:=rF I.hok e;have hz:(fs.map (·.1)).length<=sizeLine:=by rw [za,vO];lia
 refine set_map I.kIn O c.sa c.po n.taker c.hd wi hz λh' O' sb=>h _ ?_
 have hd:∃ o,h'.get? dx=some o:=let ⟨o,_,_,e',_⟩:=O'.ns;⟨o,e'⟩
 refine I.write (x:=a) (e:=dx) (by rw [e];exact True.intro) (.inr ho) (λb q hb z=>(sb.2 b hb).trans z) hd ?_;refine ⟨by rw [zo O.ne];exact ho,?_,O.ne,O'.obj,_,O'.ns,λg=>?_,λg hg=>?_⟩;{have:=iu f y fs;lia}
 . show RelO ((putF f y fs).lookup g) (if g=f then some u else mA g);rw [iw];by_cases q:g=f
   . rw [if_pos q,if_pos q];exact ry
   . rw [if_neg q,if_neg q];exact r g
 . by_cases q:g=f
   . rw [q];exact (nQ f y fs).1
   . refine (nQ f y fs).2 g (wi g λz=>hg ?_);show (if g=f then some u else mA g)=none;rw [if_neg q];exact z
theorem Inv.made (I:Inv X pins σ H s):Inv X pins σ (upd (upd H s.heap.objs.size (.own (s.heap.objs.size+1))) (s.heap.objs.size+1) (.ins C s.heap.objs.size []))
   { s with heap:=(s.heap.push PySem.W.emptyDict).push (PySem.W.instObj C s.heap.objs.size) }:=by
 have e1:(s.heap.push PySem.W.emptyDict).get? s.heap.objs.size=some PySem.W.emptyDict:=yn s.heap rfl;have e2:((s.heap.push PySem.W.emptyDict).push (PySem.W.instObj C s.heap.objs.size)).get? (s.heap.objs.size+1)=some (PySem.W.instObj C s.heap.objs.size):=by
   have:=yn (s.heap.push PySem.W.emptyDict) (o:=PySem.W.instObj C s.heap.objs.size) rfl
   rwa [vP] at this
 have e3:(s.heap.push PySem.W.emptyDict).Ns s.heap.objs.size (λ_=>none):=⟨PySem.W.emptyDict,#[],_,e1,rfl,(λe he=>absurd he (by simp)),λ_=>rfl⟩
 have I1:=I.laid (a:=s.heap.objs.size) (o:=.own (s.heap.objs.size+1)) (h':=s.heap.push PySem.W.emptyDict) (t':=s.toks) (λb u q=>zT _ q) (zi _) ⟨_,e1⟩;refine I1.laid (a:=s.heap.objs.size+1) (o:=.ins C s.heap.objs.size []) (t':=s.toks) (λb u q=>zT _ q) (tU (vP _ _)) ?_;have ne:s.heap.objs.size≠s.heap.objs.size+1:=zE (wQ _);refine ⟨by rw [zo ne,zm],zS _,ne,e2,λ_=>none,(Heap.Ns1.of_empty e3).at λo q=>zT _ q,λ_=>True.intro,λy hy=>absurd rfl hy⟩
theorem attr_of {env:Env}{e:Expr}{f:Str}{pos:Pos}{s:Shared}(hb:attributeBase e f env (eval e env)=eval e env)
   (h:wpAny (model prog w) A (eval e env) (λo s₁=>wpAny (model prog w) A (getAttr o f true) Q E s₁) E s):wpAny (model prog w) A (eval (.Attribute e f pos) env) Q E s :=
 Attribute_any_ h (by rw [arm_eval_Attribute,hb])
end
def tFld (K:zh)(ta:TE)(f:Str):TE:=λσ H Q=>ta σ H λx H1=>∃ a C dx fs v,x=.ref a/\H1 a=some (.ins C dx fs)/\Cls K C/\NoAttr K C f/\fs.lookup f=some v/\Q v H1
def sFld (K:zh)(ta tv:TE)(f:Str):TS:=λD σ H=>tv σ H λy H1=>ta σ H1 λx H2=>∃ a C dx fs,x=.ref a/\H2 a=some (.ins C dx fs)/\Cls K C/\NoAttr K C f/\fs.length<1000 /\
 D.nx σ (upd H2 a (.ins C dx (putF f y fs)))
section
variable {X:Cx}{o e value:Expr}{f:Str}{pos tpos:Pos}{ta tv:TE}
theorem pe_fld (he:PE X e ta)(hb:attributeBase e f X.env (eval e X.env)=eval e X.env):PE X (.Attribute e f pos) (tFld X.K ta f):=by intro pins s σ H Q I h;refine attr_of hb (thn (he pins s σ H _ I h) λu s1 hq=>?_);obtain ⟨x,H1,I1,rx,a,C,dx,fs,v,ex,ea,c,n,l,q⟩:=hq;subst ex;obtain rfl:u=Value.ref a:=rx;exact cw I1 ea c n l λu' s2 I2 ru=>⟨v,H1,I2,ru,q⟩
theorem ps_fld (ha:PE X o ta)(hv:PE X value tv)(hs:swapsWith value (some (.Attribute o f pos')) pos.line X.env=pure false):PS X (.Assign [.Attribute o f pos'] value pos) (sFld X.K ta tv f):=by intro pins s σ H D I h;refine plainObj_wpAny_Assign_Attribute (thn (hv pins s σ H _ I h) λu s1 ⟨y,H1,I1,ry,q⟩=>thn (ha pins s1 σ H1 _ I1 q) λov s2 hq=>?_) hs;obtain ⟨x,H2,I2,rx,a,C,dx,fs,ex,ea,c,n,l,q2⟩:=hq;subst ex;obtain rfl:ov=Value.ref a:=rx;exact cu I2 ea c n l ry λs3 I3=>⟨σ,_,I3,q2⟩
end
section
variable {X:Cx}{σ:St}{H:Hp}{s:Shared}{c:Value}{b:Bool}
inductive TyOf (K:zh) (H:Hp):V->Value->Prop where
 | non:TyOf K H .non (.type "NoneType")
 | bl (x:Bool):TyOf K H (.bl x) (.type "bool")
 | int (i:Int):TyOf K H (.int i) (.type "int")
 | str (x:Str):TyOf K H (.str x) (.type "str")
 | flt (x:UInt64):TyOf K H (.flt x) (.type "float")
 | lst {a:Addr} {xs:List V} (e:H a=some (.lst xs)):TyOf K H (.ref a) (.type "list")
 | frz {a:Addr} {o:Obj} {xs:List V} (e:H a=some (.frz o (.lst xs))):TyOf K H (.ref a) (.type "list")
 | tup {a:Addr} {xs:List V} (e:H a=some (.tup xs)):TyOf K H (.ref a) (.type "tuple")
 | dK {a:Addr} {kvs:List (Key × V)} (e:H a=some (.dK kvs)):TyOf K H (.ref a) (.type "dict")
 | dT {a:Addr} {kvs:List (List Key × V)} (e:H a=some (.dT kvs)):TyOf K H (.ref a) (.type "dict")
 | ins {a C dx:Addr} {fs:List (Str × V)} (e:H a=some (.ins C dx fs)) (cl:Cls K C) (ha:PySem.W.findIn K (.ref C) "__class__"=some (some (.builtin "object.__class__")))
     (hn:PySem.W.specialIn K (.builtin "object.__class__") "__get__"=some (some (.builtin "getset_descriptor.__get__"))) (htk:PySem.W.takesIn K (.builtin "object.__class__")=some true)
     (hm:PySem.W.mroIn K C (.type "object")=some true):TyOf K H (.ref a) (.ref C)
theorem cq {x:V}{u t:Value}(I:Inv X pins σ H s)(rx:RelV x u)(ty:TyOf X.K H x t)(e:PySem.W.kitOne X.K t c=some b)(h:∀ tk,Q (.bool b) { s with toks:=tk }) :
   wpAny (model X.prog X.w) A (call (.builtin "isinstance") [u,c]) Q E s:=by
 cases ty with
 | non=>cases (show u=Value.none from rx);exact wu PySem.W.kitx_none I.kIn True.intro e (λz=>nomatch z) h
 | bl y=>cases (show u=Value.bool y from rx);exact wu PySem.W.kitx_bool I.kIn True.intro e (λz=>nomatch z) h
 | int i=>obtain ⟨t,q⟩:=(show ∃ t,u=Value.int i t from rx);cases q;exact wu PySem.W.kitx_int I.kIn True.intro e (λz=>nomatch z) h
 | str y=>obtain ⟨t,q⟩:=(show ∃ t,u=Value.str y t from rx);cases q;exact wu PySem.W.kitx_str I.kIn True.intro e (λz=>nomatch z) h
 | flt y=>obtain ⟨t,q⟩:=(show ∃ t,u=Value.float y t from rx);cases q;exact wu PySem.W.kitx_float I.kIn True.intro e (λz=>nomatch z) h
 | @lst a xs ea =>
   cases (show u=Value.ref a from rx);obtain ⟨_,_,n,_,h1⟩:=(show ObjOk X.prog X.w H s.heap a (.lst xs) from I.hok a _ ea)
   exact wu PySem.W.kitx_list I.kIn ⟨_,h1,rfl⟩ e (λz=>nomatch z) h
 | @frz a ob xs ea =>
   cases (show u=Value.ref a from rx);obtain ⟨_,_,_,n,_,h1⟩:=(show ObjOk X.prog X.w H s.heap a (.frz ob (.lst xs)) from I.hok a _ ea)
   exact wu PySem.W.kitx_list I.kIn ⟨_,h1,rfl⟩ e (λz=>nomatch z) h
 | @tup a xs ea =>
   cases (show u=Value.ref a from rx);obtain ⟨_,_,_,p⟩:=(show ObjOk X.prog X.w H s.heap a (.tup xs) from I.hok a _ ea)
   obtain ⟨o,h1,h2,_⟩:=p;exact wu PySem.W.kitx_tuple I.kIn ⟨o,h1,h2⟩ e (λz=>nomatch z) h
 | @dK a kvs ea =>
   cases (show u=Value.ref a from rx);obtain ⟨_,_,vs,_,p⟩:=(show ObjOk X.prog X.w H s.heap a (.dK kvs) from I.hok a _ ea)
   obtain ⟨o,es,ep,h1,h2,_⟩:=p;exact wu PySem.W.kitx_dict I.kIn ⟨o,h1,h2.1⟩ e (λz=>nomatch z) h
 | @dT a kvs ea =>
   cases (show u=Value.ref a from rx);obtain ⟨_,_,xs,_,o,es,ep,h1,h2,_⟩:=(show ObjOk X.prog X.w H s.heap a (.dT kvs) from I.hok a _ ea)
   exact wu PySem.W.kitx_dict I.kIn ⟨o,h1,h2.1⟩ e (λz=>nomatch z) h
 | @ins a C dx fs ea cl ha hn htk hm =>
   cases (show u=Value.ref a from rx);obtain ⟨mA,O,_⟩:=rF I.hok ea;obtain ⟨od,J,_⟩:=O.look;exact wu (PySem.W.kitx_own (cl.get _) cl.hd ha hn htk hm) I.kIn J e (λz=>nomatch z) h
end
structure Room (k:Nat)(A:Around):Prop where
 hd:A.handled=none
 dp:A.depth+3*k+5<recursionLimit
 un:A.units+16*k+200<cLine
theorem Room.mono {j k:Nat}(r:Room k A)(h:j<=k):Room j A:=⟨r.hd,by have:=r.dp;lia,by have:=r.un;lia⟩
theorem Room.deeper {k:Nat}(r:Room (k+1) A)(env:Env):Room k (A.deeper env) :=
 ⟨r.hd,by have:=r.dp;show A.depth+1+3*k+5<_;lia,by have:=r.un;show A.units+3+16*k+200<_;lia⟩
theorem cp {kw:List (Str × Value)}:(A.under (.builtin "type.__call__" ⟨.ref C::us,kw⟩)).depth=A.depth+1:=by
 first | rfl | simp [Around.under,Code.weight,Code.isCreation,Code.isGuard,Code.isCaller,Code.frames,Code.isFrame,guardIds]
theorem cm {kw:List (Str × Value)}:(A.under (.builtin "type.__call__" ⟨.ref C::us,kw⟩)).units=A.units+1:=by
 first | rfl | simp [Around.under,Code.cUnits,Code.frames,Code.isFrame]
theorem Room.make {k:Nat}(r:Room (k+1) A)(C:Addr)(us:List Value)(kw:List (Str × Value)):Room k (A.under (.builtin "type.__call__" ⟨.ref C::us,kw⟩)) :=
 ⟨r.hd,by have:=r.dp;rw [cp];lia,by have:=r.un;rw [cm];lia⟩
theorem Room.depth {k:Nat}(r:Room k A):A.depth<recursionLimit:=by have:=r.dp;lia
def tNil:TA:=λ_ H Q=>Q [] H
def tCons (ta:TE)(tr:TA):TA:=λσ H Q=>ta σ H λx H1=>tr σ H1 λxs H2=>Q (x::xs) H2
section
variable {X:Cx}{e:Expr}{te:TE}{t:TA}{pos:Pos}
theorem zw:PA X [] tNil:=λ_ _ _ _ H Q I h=>uu ⟨[],H,I,.nil,h⟩
theorem zy (ha:PE X e te)(hr:PA X es t)(hs:starEach (e::es) X.env=(false,eval e X.env)::starEach es X.env:=by rfl):PA X (e::es) (tCons te t):=by intro pos pins s σ H Q I h;rw [hs];show wpAny _ _ (spliced ((false,eval e X.env)::backTo pos (starEach es X.env))) _ _ s;refine vt (thn (ha pins s σ H _ I h) λu s1 ⟨x,H1,I1,r1,q1⟩=>?_);exact thn (hr pos pins s1 σ H1 _ I1 q1) λus s2 ⟨xs,H2,I2,r2,q2⟩=>⟨x::xs,H2,I2,.cons r1 r2,q2⟩
def tTup (t:TA):TE:=λσ H Q=>t σ H λxs H1=>xs.length<=sizeLine/\∀ p,H1 p=none->Q (.ref p) (upd H1 p (.tup xs))
def tLst (t:TA):TE:=λσ H Q=>t σ H λxs H1=>xs.length<=sizeLine/\∀ p,H1 p=none->Q (.ref p) (upd H1 p (.lst xs))
theorem wz {x1}(h:PA X es t):PE X (.Tuple es x1 pos) (tTup t):=by intro pins s σ H Q I hq;refine wpAny_Tuple_spliced (thn (h pos pins s σ H _ I hq) λus s1 ⟨xs,H1,I1,r,z,q⟩=>⟨by rw [<- r.length];exact z,?_⟩);have hf:H1 s1.heap.objs.size=none:=I1.hok.fresh (zi _);refine ⟨.ref s1.heap.objs.size,upd H1 s1.heap.objs.size (.tup xs),I1.laid (t':=s1.toks) (λb u e=>zT _ e) (zi _) ?_,rfl,q _ hf⟩;exact ⟨z,us,r,⟨_,yn _ rfl,rfl,_,rfl⟩⟩
theorem yi (h:PA X es t):PE X (.List es pos) (tLst t):=by intro pins s σ H Q I hq;refine wpAny_List_spliced (thn (h pos pins s σ H _ I hq) λus s1 ⟨xs,H1,I1,r,z,q⟩=>⟨by rw [<- r.length];exact z,?_⟩);have hf:H1 s1.heap.objs.size=none:=I1.hok.fresh (zi _);refine ⟨.ref s1.heap.objs.size,upd H1 s1.heap.objs.size (.lst xs),I1.laid (t':=s1.toks) (λb u e=>zT _ e) (zi _) ?_,rfl,q _ hf⟩;exact ⟨z,us,0,r,yn _ rfl⟩
end
abbrev Sp:=List V->Hp->VK->XK->Prop
abbrev CXT:=List Env->Hp->Shared->XK->Value->Shared->Prop
structure Env0 (P:Program)(w:World)(K:zh)(mg:Str->Option Value)(base:Heap)(A:Around)(outer:List Env)(s:Shared)(H:Hp):Prop where
 frames:A.frames=some outer
 mod:Mod K mg base
 bs:∀ b o,base.get? b=some o->s.heap.get? b=some o/\H b=none
 bsz:base.objs.size<=s.heap.objs.size
 funs:s.heap.FunFrames base outer
 frf:∀ b∈frs outer,H b=none
 hok:HOk P w H s.heap
 bare:AllBare s.gens
def CE (outer:List Env)(P:Program)(w:World)(H:Hp)(s:Shared)(Q:VK)(u:Value)(s':Shared):Prop :=
 ∃ v H',s'.os=s.os/\AllBare s'.gens/\Un (frs outer) [] H H' s.heap s'.heap/\HOk P w H' s'.heap/\RelV v u/\Q v H'
def CR (CX:CXT)(outer:List Env)(P:Program)(w:World)(H:Hp)(s:Shared)(Q:VK)(E:XK)(r:Result)(s':Shared):Prop :=
 match r with
 | .ok (.ret u)=>CE outer P w H s Q u s'
 | .ok _=>False
 | .error e=>CX outer H s E e s'
structure FnOk (P:Program)(w:World)(K:zh)(mg:Str->Option Value)(base:Heap)(CX:CXT)(k:Nat)(f:Addr)(fd:FuncData)(ps:List Str)(sp:Sp):Prop where
 len:∀ vs H Q E,sp vs H Q E->vs.length=ps.length
 run:∀ (A:Around) (outer:List Env) (s:Shared) (H:Hp) (args:Args) (us:List Value) (vs:List V) (Q:VK) (E:XK),Room k A->Env0 P w K mg base A outer s H->BindsTo s fd args (ps.zip us)->Vals vs us->sp vs H Q E ->
   codeAny (model P w) A (.call (.ref f) args) (CR CX outer P w H s Q E) s
theorem FnOk.mono {CX:CXT}{j k:Nat}{f:Addr}{sp:Sp}(F:FnOk P w K mg base CX j f fd ps sp)(h:j<=k) :
   FnOk P w K mg base CX k f fd ps sp:=⟨F.len,λA outer s H args us vs Q E hr=>F.run A outer s H args us vs Q E (hr.mono h)⟩
theorem Env0.make {s:Shared}{H:Hp}(e:Env0 P w K mg base A outer s H)(C:Addr)(us:List Value)(kw:List (Str × Value)) :
   Env0 P w K mg base (A.under (.builtin "type.__call__" ⟨.ref C::us,kw⟩)) outer s H:=⟨by first | exact e.frames | (simpa [Around.under,Code.envs,Code.isFrame,pushEnvs] using e.frames),e.mod,e.bs,e.bsz,e.funs,e.frf,e.hok,e.bare⟩
section
variable {X:Cx}{σ:St}{H:Hp}{s s':Shared}
theorem Inv.env0 (I:Inv X pins σ H s):Env0 X.prog X.w X.K X.mg X.base X.A X.stack s H :=
 ⟨I.ok.frames,I.ok.mod,I.bs,zO I.ok.bsz I.sz,I.stack,I.stkFree,I.hok,I.bare⟩
theorem Inv.after {Q:VK}{u:Value}(I:Inv X pins σ H s)(h:CE X.stack X.prog X.w H s Q u s'):EP X pins σ Q u s':=by obtain ⟨v,H',os,bare,un,hok,r,q⟩:=h;obtain ⟨hh,g,d,t,os'⟩:=s';obtain rfl:os'=s.os:=os;exact ⟨v,H',I.call (h':=hh) (g':=g) (d':=d) (t':=t) (ch:=[]) un hok bare (λb z=>absurd z (by simp)),r,q⟩
end
def tCall (sp:Sp)(dvs:List V)(E:XK)(t:TA):TE:=λσ H Q=>t σ H λvs H1=>sp (vs++dvs) H1 Q E
def tMake (C:Addr)(sp:Sp)(dvs:List V)(E:XK)(t:TA):TE:=λσ H Q=>t σ H λvs H1=>∀ x dx,H1 x=none->H1 dx=none->dx≠x ->
 sp (.ref x::(vs++dvs)) (upd (upd H1 dx (.own x)) x (.ins C dx [])) (λv H2=>v=.non/\Q (.ref x) H2) E
def Binds (K:zh)(fd:FuncData)(ps:List Str)(ds:List Value):Prop :=
 ∀ (s:Shared) (us:List Value),K.In s.heap->(us++ds).length=ps.length->BindsTo s fd ⟨us,[]⟩ (ps.zip (us++ds))
theorem Binds.all (h:∀ us:List Value,us.length=ps.length->bindArgs fd ⟨us,[]⟩=pure (ps.zip us)):Binds K fd ps []:=λs us _ hl=>by
 rw [zH] at hl ⊢;exact .of_eq (h us hl)
def Passes (CX:CXT)(X:Cx)(E:XK):Prop:=∀ (pins:List (Addr × Obj)) (σ:St) (H:Hp) (s:Shared) (e:Value) (s':Shared),Inv X pins σ H s->CX X.stack H s E e s'->X.xe e s'
section
variable {X:Cx}{CX:CXT}{k:Nat}{f:Addr}{sp:Sp}{dvs:List V}{ds:List Value}{E:XK}{x m:Str}{p pos:Pos}{e o:Expr}{ta:TE}{t:TA}
theorem rE {σ:St}{H:Hp}{s:Shared}{Q:VK}{vs:List V}(F:FnOk X.prog X.w X.K X.mg X.base CX k f fd ps sp)(hr:Room k X.A)(hb:Binds X.K fd ps ds)(hd:Vals dvs ds)(hx:Passes CX X E)
   (I:Inv X pins σ H s) (r:Vals vs us) (h:sp (vs++dvs) H Q E):wpAny (model X.prog X.w) X.A (call (.ref f) us) (EP X pins σ Q) X.xe s:=by
 have r2:Vals (vs++dvs) (us++ds):=r.append hd;have hl:(us++ds).length=ps.length:=by rw [<- r2.length];exact F.len _ _ _ _ h
 refine uA (wH (F.run X.A X.stack s H ⟨us,[]⟩ (us++ds) (vs++dvs) Q E hr I.env0 (hb s us I.kIn hl) r2 h) λr s' hq=>?_);cases r with
 | error e=>exact hx pins σ H s e s' I hq
 | ok fl =>
   cases fl with
   | ret u=>exact I.after hq
   | next=>exact False.elim hq
   | brk=>exact False.elim hq
   | cont=>exact False.elim hq
theorem ip (F:FnOk X.prog X.w X.K X.mg X.base CX k f fd ps sp)(hr:Room k X.A)(hg:Gl X x)(hm:X.mg x=some (.ref f))(hk:PySem.W.keepIn X.K (.ref f)=true)(hb:Binds X.K fd ps ds)(hd:Vals dvs ds)(hx:Passes CX X E)
   (ha:PA X (e::es) t) (hdb:(x==("__debug__":Str))=false:=by decide) (he:starEach (e::es) X.env=(false,eval e X.env)::starEach es X.env:=by rfl) (hpl:(backTo pos (starEach es X.env)).any (·.1)=false:=by rfl) :
   PE X (.Call (.Name x p) (e::es) [] pos) (tCall sp dvs E t):=by
 intro pins s σ H Q I h;refine wJ (vb I hg hm ?_ hdb);refine ux (h₀:=X.base) I.ok.mod.kin hk (thn (ha pos pins s σ H _ I h) λus s1 ⟨vs,H1,I1,r,q⟩=>⟨I1.kIn,?_⟩) he hpl;exact rE F hr hb hd hx I1 r q
structure Mk (K:zh)(C f:Addr):Prop where
 makes:PySem.W.makesIn K C=true
 init:PySem.W.findIn K (.ref C) "__init__"=some (some (.ref f))
 fn:PySem.W.isFn K (.ref f)=true
 kp:PySem.W.keepIn K (.ref C)=true
theorem run_make {σ:St}{H:Hp}{s:Shared}{Q:VK}{vs:List V}(M:Mk X.K C f)(F:FnOk X.prog X.w X.K X.mg X.base CX k f fd ps sp)(hr:Room (k+1) X.A)(hb:Binds X.K fd ps ds)(hd:Vals dvs ds)
   (hx:Passes CX X E) (I:Inv X pins σ H s) (r:Vals vs us)
   (h:∀ x dx,H x=none->H dx=none->dx≠x->sp (.ref x::(vs++dvs)) (upd (upd H dx (.own x)) x (.ins C dx [])) (λv H2=>v=.non/\Q (.ref x) H2) E) :
   wpAny (model X.prog X.w) X.A (call (.ref C) us) (EP X pins σ Q) X.xe s:=by
 have hq:=h (s.heap.objs.size+1) s.heap.objs.size (I.hok.fresh (wA _)) (I.hok.fresh (zi _)) (zE (wQ _));have I2:=Inv.made (C:=C) I;have r2:Vals (V.ref (s.heap.objs.size+1)::(vs++dvs)) (Value.ref (s.heap.objs.size+1)::(us++ds)):=.cons rfl (r.append hd);have hl:(Value.ref (s.heap.objs.size+1)::us++ds).length=ps.length:=by have e:=r2.length;rw [F.len _ _ _ _ hq] at e;exact e.symm
 refine uA (make_map (f:=f) I.kIn M.makes M.init (xC.mp M.fn) (wH (F.run _ X.stack _ _ ⟨Value.ref (s.heap.objs.size+1)::us,[]⟩ (Value.ref (s.heap.objs.size+1)::(us++ds)) _ _ E (hr.make C us [])
   (I2.env0.make C us []) (hb _ (Value.ref (s.heap.objs.size+1)::us) I2.kIn hl) r2 hq) λr s' hq'=>?_))
 cases r with
 | error e=>exact hx pins σ _ _ e s' I2 hq'
 | ok fl =>
   cases fl with
   | ret u =>
     obtain ⟨v,H',I3,rv,ev,q3⟩:=I2.after hq';subst ev;exact ⟨rv,⟨V.ref (s.heap.objs.size+1),H',I3,rfl,q3⟩⟩
   | next=>exact False.elim hq'
   | brk=>exact False.elim hq'
   | cont=>exact False.elim hq'
theorem pe_make (M:Mk X.K C f)(F:FnOk X.prog X.w X.K X.mg X.base CX k f fd ps sp)(hr:Room (k+1) X.A)(hg:Gl X x)(hm:X.mg x=some (.ref C))(hb:Binds X.K fd ps ds)(hd:Vals dvs ds)(hx:Passes CX X E)
   (ha:PA X (e::es) t) (hdb:(x==("__debug__":Str))=false:=by decide) (he:starEach (e::es) X.env=(false,eval e X.env)::starEach es X.env:=by rfl) (hpl:(backTo pos (starEach es X.env)).any (·.1)=false:=by rfl) :
   PE X (.Call (.Name x p) (e::es) [] pos) (tMake C sp dvs E t):=by
 intro pins s σ H Q I h;refine wJ (vb I hg hm ?_ hdb);refine ux (h₀:=X.base) I.ok.mod.kin M.kp (thn (ha pos pins s σ H _ I h) λus s1 ⟨vs,H1,I1,r,q⟩=>⟨I1.kIn,?_⟩) he hpl;exact run_make M F hr hb hd hx I1 r q
end
section
variable {X:Cx}{CX:CXT}{k:Nat}{f:Addr}{ks:List Str}{sp:Sp}{E:XK}{x m:Str}{p pos kpos:Pos}{e o:Expr}{kws:List Keyword}{te ta:TE}{t tk:TA}{nm:Option Str}
variable {g:List Value->List Value->List Value}{gV:List V->List V->List V}
end
structure FnScope (N P:List Str)(sc:Scope):Prop where
 kind:sc.kind=.function
 co:sc.isCoroutine=false
 gen:sc.isGenerator=false
 nd:N.Nodup
 pre:N.take P.length=P
 par:∀ x∈P,sc.names.lookup x=some .local\/sc.names.lookup x=some .cell
 nofree:∀ y∈sc.names,y.2≠.free
theorem ik {kindOf:Str->Option NameKind}{x:Str}:∀ {binds:List (Str × Value)} {m:Str->Option Value},(∀ v,(x,v)∉binds)->bindL kindOf binds m x=m x
 | [],_,_=>rfl
 | (n,v)::r,m,h=>by
   unfold bindL;rw [ik λw hw=>h w (xx _ hw)];split
   . have:x≠n:=by rintro rfl;exact h v xp
     simp [this]
   . rfl
theorem ij {kindOf:Str->Option NameKind}{x:Str}:∀ {binds:List (Str × Value)} {m:Str->Option Value},(∀ v,(x,v)∉binds)->bindC kindOf binds m x=m x
 | [],_,_=>rfl
 | (n,v)::r,m,h=>by
   unfold bindC;rw [ij λw hw=>h w (xx _ hw)];split;{rfl}
   . have:x≠n:=by rintro rfl;exact h v xp
     simp [this]
theorem ig {kindOf:Str->Option NameKind}{x:Str}{v:Value}:∀ {P:List Str} {vs:List Value} {i:Nat} {m:Str->Option Value},P.Nodup->P[i]?=some x->vs[i]?=some v->kindOf x=some .local ->
   bindL kindOf (P.zip vs) m x=some v
 | [],_,_,_,_,h,_,_=>by simp at h
 | _::_,[],_,_,_,_,h,_=>by simp at h
 | p::P,w::vs,0,m,nd,h1,h2,hk=>by
   simp at h1 h2;subst h1;subst h2;show bindL kindOf ((p,w)::P.zip vs) m p=_;unfold bindL;rw [ik λv hv=>(vJ.mp nd).1 (oH hv).1,if_pos hk];simp
 | p::P,w::vs,i+1,m,nd,h1,h2,hk=>by
   show bindL kindOf ((p,w)::P.zip vs) m x=_;unfold bindL;exact ig (i:=i) (vJ.mp nd).2 (by simpa using h1) (by simpa using h2) hk
theorem ie {kindOf:Str->Option NameKind}{x:Str}{v:Value}:∀ {P:List Str} {vs:List Value} {i:Nat} {m:Str->Option Value},P.Nodup->P[i]?=some x->vs[i]?=some v->kindOf x≠some .local ->
   bindC kindOf (P.zip vs) m x=some v
 | [],_,_,_,_,h,_,_=>by simp at h
 | _::_,[],_,_,_,_,h,_=>by simp at h
 | p::P,w::vs,0,m,nd,h1,h2,hk=>by
   simp at h1 h2;subst h1;subst h2;show bindC kindOf ((p,w)::P.zip vs) m p=_;unfold bindC;rw [ij λv hv=>(vJ.mp nd).1 (oH hv).1,if_neg hk];simp
 | p::P,w::vs,i+1,m,nd,h1,h2,hk=>by
   show bindC kindOf ((p,w)::P.zip vs) m x=_;unfold bindC;exact ie (i:=i) (vJ.mp nd).2 (by simpa using h1) (by simpa using h2) hk
def start (N:List Str)(vs:List V):St:=vs.map some++List.replicate (N.length-vs.length) none
def cxOf (CX:CXT)(P:Program)(w:World)(K:zh)(mg:Str->Option Value)(base:Heap)(N:List Str)(qual:Str)(scope:Scope)(f:Addr)(cd:Value)(A:Around)(outer:List Env)(s:Shared)(H:Hp)(E:XK):Cx where
 prog:=P
 w:=w
 K:=K
 mg:=mg
 base:=base
 A:=A.deeper (envOfC qual scope s.heap.objs.size f cd)
 N:=N
 s₀:=s
 H₀:=H
 env:=envOfC qual scope s.heap.objs.size f cd
 outer:=outer
 stack:=envOfC qual scope s.heap.objs.size f cd::outer
 ex:=[]
 calm:=true
 fn:=λ_=>true
 pn:=[]
 xe:=λe s'=>wpAny (model P w) (A.deeper (envOfC qual scope s.heap.objs.size f cd)) (leaving (envOfC qual scope s.heap.objs.size f cd) e) (λ_ s''=>CX outer H s E e s'') (λe' s''=>CX outer H s E e' s'') s'
theorem iZ {sc:Scope}{n:Nat}{x:Str}(h:sc.names.lookup x=some .cell):∃ c,(cellsFrom n sc.names []).lookup x=some c:=by have q:=ki sc.names n [] (.inl h);exact kS.mp q
theorem ck {CX:CXT} {f:Addr} {s s1:Shared} {H:Hp} {E:XK} {vs:List V}
   (S:FnScope N ps scope) (hd:A.handled=none) (e0:Env0 P w K mg base A outer s H) (hl:vs.length=ps.length) (r:Vals vs us)
   (x:InCallC s s.heap.objs.size (bindL (envOfC qual scope s.heap.objs.size f cd).kindOf (ps.zip us) λ_=>none) (cellsFrom (s.heap.objs.size+1) scope.names []) (bindC (envOfC qual scope s.heap.objs.size f cd).kindOf (ps.zip us) λ_=>none) s1) :
   Inv (cxOf CX P w K mg base N qual scope f cd A outer s H E) [] (start N vs) H s1:=by
 have hpl:ps.length<=N.length:=by have:=congrArg List.length S.pre;rw [y3] at this;lia
 obtain ⟨h1,tk,rfl,hk⟩:=x.done;have noA:∀ b:Addr,b∉(cxOf CX P w K mg base N qual scope f cd A outer s H E).ex:=λb z=>absurd (show b∈([]:List Addr) from z) (by simp)
 refine ⟨⟨e0.mod,S.kind,rfl,rfl,zi _,λy z c h1 h2=>?_,λy hy=>?_,λy c _ h=>?_,λ_=>hd,Around.frames_deeper e0.frames,.inr ⟨rfl,rfl⟩,λb z=>absurd z (noA b),e0.bs,e0.bsz,λb _ _=>noA b,λb z=>absurd z (noA b),e0.funs,e0.frf⟩,
   rfl,e0.bare,Un.kept hk,⟨_,x.toInCall.ns,λi y v h1 h2 h3=>?_⟩,λy c h=>⟨_,x.cell y c h⟩,e0.hok.fresh (zi _),λy c h=>?_,λp hp=>absurd (show p∈([]:List (Addr × Obj)) from hp) (by simp),e0.hok.kept hk,?_⟩
 . exact name_of_addr x.apart (vv h1) (vv h2)
 . have hy:scope.names.lookup y=some .cell\/scope.names.lookup y=some .free:=hy;rcases hy with hy | hy
   . exact iZ hy
   . exact absurd rfl (S.nofree _ (vv hy))
 . exact xK (x.above y c (vv h))
 . have hi:i<vs.length:=by
     unfold start at h2;by_cases hi:i<vs.length;{exact hi};{rw [y6 (by simpa using hi)] at h2;rw [kP] at h2;split at h2<;>cases h2}
   have ha:vs[i]?=some v:=by
     unfold start at h2;rw [xS (by simpa using hi),yR] at h2;cases e:vs[i]? with
     | none=>rw [e] at h2;cases h2
     | some a=>rw [e] at h2;cases h2;rfl
   obtain ⟨u,hu,rv⟩:=r.get ha;have hp:ps[i]?=some y:=by rw [<- S.pre,kR (by lia)];exact h1
   have ndP:ps.Nodup:=by rw [<- S.pre];exact S.nd.sublist (xa _ _)
   refine ⟨u,rv,?_⟩;rcases S.par y (y4 hp) with k | k
   . exact .inl ⟨k,ig ndP hp hu k⟩
   . obtain ⟨c,e⟩:=iZ (n:=s.heap.objs.size+1) k;refine .inr ⟨.inl k,c,e,?_⟩;have q:=x.cell y c e;rw [ie ndP hp hu (by show scope.names.lookup y≠_;rw [k];decide)] at q;exact q
 . exact e0.hok.fresh (xK (x.above y c (vv h)))
 . unfold start;show _=N.length;rw [zj,za,ug];lia
theorem fn_of {CX:CXT}{k:Nat}{f:Addr}{name:Str}{params:Arguments}{body:List Stmt}{dV kV doc pm cdv ct oc:Value}{an od:Option Addr}{sp:Sp}(lk:K.lookup f=some ⟨oc,od,.func (PySem.W.fnOf name qual params body scope dV kV doc pm an cdv ct),osl⟩)(hcd:PySem.W.codeIn K cdv qual=true)(S:FnScope N ps scope)
   (len:∀ vs H Q E,sp vs H Q E->vs.length=ps.length)
   (hbody:∀ (A:Around) (outer:List Env) (s:Shared) (H:Hp) (vs:List V) (Q:VK) (E:XK),Room k (A.deeper (envOfC qual scope s.heap.objs.size f cdv))->sp vs H Q E ->
     ∃ t,PSs (cxOf CX P w K mg base N qual scope f cdv A outer s H E) body t/\t { nx:=λ_ H'=>Q .non H',rt:=Q } (start N vs) H) :
   FnOk P w K mg base CX (k+1) f (PySem.W.fnOf name qual params body scope dV kV doc pm an cdv ct) ps sp:=by
 refine ⟨len,λA outer s H args us vs Q E hr e0 hb r hsp=>?_⟩;have hl:=len _ _ _ _ hsp;have KX:K.In s.heap:=e0.mod.kin.keeps λb o e=>(e0.bs b o e).1
 have lim:s.heap.NoLimit:=e0.mod.nolimit.keeps λb o e=>(e0.bs b o e).1
 have hkind:∀ y∈ps.zip us,scope.names.lookup y.1=some .local\/(scope.names.lookup y.1=some .cell/\((cellsFrom (s.heap.objs.size+1) scope.names []).lookup y.1).isSome=true):=λ⟨n,v⟩ hy=>by
   rcases S.par n (oH hy).1 with q | q
   . exact .inl q
   . exact .inr ⟨q,ki _ _ _ (.inl q)⟩
 refine codeAny_call_function hr.depth (KX _ _ lk) rfl S.co S.gen rfl (PySem.W.codeRec_of KX hcd) (hb _ _ _ _ ?_);refine wpAny_newFunctionEnv_cells S.kind hkind λenv he s1 x=>?_
 subst he;refine ⟨lim.keeps x.toInCall.keep,codeAny_func ?_⟩;obtain ⟨t,ht,hq⟩:=hbody A outer s H vs Q E (hr.deeper _) hsp;have I:Inv (cxOf CX P w K mg base N qual scope f cdv A outer s H E) [] (start N vs) H s1:=ck S hr.hd e0 hl r x;refine yY (ht [] s1 (start N vs) H _ I hq) (λfl s' hs=>?_) λe s' hs=>hs
 have fin:∀ {σ':St} {H':Hp} {v:V} {u:Value},Inv (cxOf CX P w K mg base N qual scope f cdv A outer s H E) [] σ' H' s'->RelV v u->Q v H'->CE outer P w H s Q u s' :=
   λ{σ' H' v u} J rv q=>⟨v,H',J.os,J.bare,J.base,J.hok,rv,q⟩
 cases fl with
 | ret u =>
   obtain ⟨v,σ',H',J,rv,q⟩:=hs;exact fin J rv q
 | next =>
   obtain ⟨σ',H',J,q⟩:=hs;exact fin (v:=V.non) (u:=Value.none) J rfl q
 | brk =>
   obtain ⟨_,_,_,q⟩:=hs;exact False.elim q
 | cont =>
   obtain ⟨_,_,_,q⟩:=hs;exact False.elim q
end L2
variable {vs xs:List L2.V}{g:L2.TG}{v:L2.V}{X:L2.Cx}{te:L2.TE}{σ:L2.St}{H H1 H':L2.Hp}{sp:L2.Sp}{kvs:List (L2.Key × L2.V)}{tt:L2.TT}{D:L2.Ends}
namespace L2
open PySem PySem.Spec PyProof.Rows
section
variable {x:Str}{p pos:Pos}{e:Expr}{t:TA}{id T:String}{r:List V->Hp->VK->Prop}
def tCB (r:List V->Hp->VK->Prop)(t:TA):TE:=λσ H Q=>t σ H λvs H1=>r vs H1 Q
theorem zB (hc:CallR X (.builtin id) r)(hg:Gl X x)(hm:X.mg x=none)(hv:bootBuiltins x=some (.builtin id))(ha:PA X (e::es) t)(hn:x≠"__name__":=by decide)(hdb:(x==("__debug__":Str))=false:=by decide)
   (he:starEach (e::es) X.env=(false,eval e X.env)::starEach es X.env:=by rfl) (hpl:(backTo pos (starEach es X.env)).any (·.1)=false:=by rfl):PE X (.Call (.Name x p) (e::es) [] pos) (tCB r t):=by
 intro pins s σ H Q I h;refine wJ (va I hg hm hv ?_ hn hdb);exact lC (thn (ha pos pins s σ H _ I h) λus s1 ⟨vs,H1,I1,r1,q1⟩=>hc pins s1 σ H1 vs us Q I1 r1 q1) he hpl
theorem tK (hc:CallR X (.type T) r)(hg:Gl X x)(hm:X.mg x=none)(hv:bootBuiltins x=some (.type T))(ha:PA X (e::es) t)(hn:x≠"__name__":=by decide)(hdb:(x==("__debug__":Str))=false:=by decide)
   (he:starEach (e::es) X.env=(false,eval e X.env)::starEach es X.env:=by rfl) (hpl:(backTo pos (starEach es X.env)).any (·.1)=false:=by rfl):PE X (.Call (.Name x p) (e::es) [] pos) (tCB r t):=by
 intro pins s σ H Q I h;refine wJ (va I hg hm hv ?_ hn hdb);exact uN (thn (ha pos pins s σ H _ I h) λus s1 ⟨vs,H1,I1,r1,q1⟩=>hc pins s1 σ H1 vs us Q I1 r1 q1) he hpl
end
end L2
namespace HT
open PySem PyProof.Rows
section
open PySem.SeqAt
open PySem.AutoSeq1 (wpAny_loadPart')
open PySem.MeetsSeq PySem.MeetsSeq2 PySem.MeetsSeq3
end
section
variable {s:Shared}
def sIx (n d:Nat):Option Int->Nat
 | none=>d
 | some v=>if v<0 then (v+(n:Int)).toNat else min v.toNat n
theorem sIx_nat (n d k:Nat):sIx n d (some (k:Int))=min k n:=by show (if (k:Int)<0 then ((k:Int)+(n:Int)).toNat else min (k:Int).toNat n)=min k n;rw [if_neg (by lia),yp]
end
end HT
namespace L2
open PySem PySem.Spec PyProof.Rows
abbrev TO:=St->Hp->(Option Int->Hp->Prop)->Prop
def PO (X:Cx) (e:Option Expr) (t:TO):Prop :=
 ∀ (pins:List (Addr × Obj)) (s:Shared) (σ:St) (H:Hp) (Q:Option Int->Hp->Prop),Inv X pins σ H s->t σ H Q ->
   wpAny (model X.prog X.w) X.A (evalPart e X.env) (λu s'=>∃ o H',Inv X pins σ H' s'/\IsPart u o/\Q o H') X.xe s
def tNoPart:TO:=λ_ H Q=>Q none H
def tPart (t:TE):TO:=λσ H Q=>t σ H λx H1=>onI x λi=>Q (some i) H1
theorem cj {ns:List Int}:∀ {us:List Value},Vals (ns.map V.int) us->IntsAre us ns:=by
 induction ns with
 | nil=>intro us r;rw [rf] at r;cases r;exact .nil
 | cons n ns ih =>
   intro us r;rw [yz] at r;cases r with
   | cons r1 r2 =>
     obtain ⟨t,e⟩:=r1;subst e;exact .cons n t (ih r2)
section
variable {e:Expr}{lo hi:Option Expr}{tl th:TO}{pos p2:Pos}
theorem iY:PO X none tNoPart:=by intro pins s σ H Q I h;rw [evalPart_none];exact zc ⟨none,H,I,.none,h⟩
theorem uW (h:PE X e te):PO X (some e) (tPart te):=by
 intro pins s σ H Q I hw;rw [evalPart_some];refine thn (h pins s σ H _ I hw) λu s1 ⟨x,H1,I1,r1,q1⟩=>?_
 obtain ⟨i,rfl,q⟩:=vH q1;obtain ⟨t,rfl⟩:=r1;exact ⟨some i,H1,I1,.int i t,q⟩
def SlR (X:Cx) (r:V->Option Int->Option Int->Hp->VK->Prop):Prop :=
 ∀ (pins:List (Addr × Obj)) (s:Shared) (σ:St) (H:Hp) (x:V) (v vl vu:Value) (lo hi:Option Int) (sl:Addr) (Q:VK),Inv X pins σ H s->RelV x v->s.heap.IsSliceOf sl vl vu .none->IsPart vl lo->IsPart vu hi->r x lo hi H Q ->
   ∃ T id,typeLookup (.type T) "__getitem__"=pure (some (.builtin id))/\s.TypeIs v T/\wpAny (model X.prog X.w) X.A (getItem v (.ref sl)) (EP X pins σ Q) X.xe s
def tSl (r:V->Option Int->Option Int->Hp->VK->Prop)(te:TE)(tl th:TO):TE:=λσ H Q=>te σ H λx H1=>tl σ H1 λl H2=>th σ H2 λu H3=>r x l u H3 Q
theorem rD {r:V->Option Int->Option Int->Hp->VK->Prop}(hr:SlR X r)(he:PE X e te)(hl:PO X lo tl)(hu:PO X hi th):PE X (.Subscript e (.Slice lo hi none p2) pos) (tSl r te tl th):=by
 intro pins s σ H Q I h;refine Subscript_ (thn (he pins s σ H _ I h) λv s1 ⟨x,H1,I1,r1,q1⟩=>?_);refine wpAny_Slice (thn (hl pins s1 σ H1 _ I1 q1) λvl s2 ⟨l,H2,I2,pl,q2⟩=>thn (hu pins s2 σ H2 _ I2 q2) λvu s3 ⟨u,H3,I3,pu,q3⟩=>?_);rw [evalPart_none];refine zc ?_;have I4:Inv X pins σ H3 { s3 with heap:=s3.heap.push { cls:=.type "slice",data:=.fields #[vl,vu,.none] } }:=I3.kept (t':=s3.toks) λb ob q=>zT _ q
 obtain ⟨T,id,hT,ht,hg⟩:=hr pins { s3 with heap:=s3.heap.push { cls:=.type "slice",data:=.fields #[vl,vu,.none] } } σ H3 x v vl vu l u s3.heap.objs.size Q I4 r1 (Heap.IsSliceOf.new ..) pl pu q3;show wpAny (model X.prog X.w) X.A (subscriptTail e (.Slice lo hi none p2) v (.ref s3.heap.objs.size)) (EP X pins σ Q) X.xe { s3 with heap:=s3.heap.push { cls:=.type "slice",data:=.fields #[vl,vu,.none] } };exact tail_any (ops:=[.ref s3.heap.objs.size,v]) ht hT hg (by with_unfolding_all rfl)
def cutV (xs:List V)(lo hi:Option Int):List V:=(xs.drop (HT.sIx xs.length 0 lo)).take (HT.sIx xs.length xs.length hi-HT.sIx xs.length 0 lo)
theorem cg (xs:List V)(lo hi:Option Int):(cutV xs lo hi).length<=xs.length:=by unfold cutV;rw [y3,xv];lia
def rSlT (K:zh):V->Option Int->Option Int->Hp->VK->Prop:=λx lo hi H Q=>∃ a xs,x=.ref a/\SqT K H a xs /\
 ¬ (HT.sIx xs.length 0 lo=0/\HT.sIx xs.length xs.length hi=xs.length)/\∀ p,H p=none->Q (.ref p) (upd H p (.tup (cutV xs lo hi)))
def rCatT (K:zh):R2:=λx y H Q=>∃ a b xs ys,x=.ref a/\y=.ref b/\SqT K H a xs/\SqT K H b ys/\xs≠[]/\xs.length+ys.length<=sizeLine /\
 (ys=[]->Q (.ref a) H)/\(ys≠[]->∀ p,H p=none->Q (.ref p) (upd H p (.tup (xs++ys))))
end
def ixN (n:Nat)(i:Int):Option Nat:=if 0<=i then (if i<n then some i.toNat else none) else if -(n:Int)<=i then some (i+n).toNat else none
def atI {α:Type}(xs:List α)(i:Int):Option α:=(ixN xs.length i).bind λj=>xs[j]?
theorem iX {n:Nat}{i:Int}{j:Nat}(h:ixN n i=some j):seqIndex? i n=some j/\j<n/\-(n:Int)<=i/\i<n:=by
 unfold ixN at h;by_cases h0:0<=i
 . rw [if_pos h0] at h;by_cases h1:i<n
   . rw [if_pos h1] at h;have e:i.toNat=j:=Option.some.inj h;exact ⟨by rw [seqIndex_of h0 h1,e],by lia,by lia,h1⟩
   . rw [if_neg h1] at h;cases h
 . rw [if_neg h0] at h;by_cases h1:-(n:Int)<=i
   . rw [if_pos h1] at h;have e:(i+n).toNat=j:=Option.some.inj h;exact ⟨by rw [seqIndex_neg (by lia) h1,e],by lia,h1,by lia⟩
   . rw [if_neg h1] at h;cases h
theorem nP {α:Type}{xs:List α}{i:Int}{v:α}(h:atI xs i=some v):∃ j,seqIndex? i xs.length=some j/\xs[j]?=some v/\j<xs.length/\-(xs.length:Int)<=i/\i<xs.length:=by
 unfold atI at h;cases e:ixN xs.length i with
 | none=>rw [e] at h;cases h
 | some j =>
   rw [e] at h;obtain ⟨h1,h2,h3,h4⟩:=iX e;exact ⟨j,h1,h,h2,h3,h4⟩
theorem vD {α:Type}{xs:List α}{j:Nat}{v:α}(h:xs[j]?=some v):atI xs (j:Int)=some v:=by
 have hj:j<xs.length:=(yT.mp h).1;have e:ixN xs.length (j:Int)=some j:=by unfold ixN;rw [if_pos (by lia),if_pos (by lia)];simp
 unfold atI;rw [e];exact h
theorem iW {α:Type}(xs:List α)(v:α):atI (xs++[v]) (-1)=some v:=by
 have hl:(xs++[v]).length=xs.length+1:=by simp
 have e:ixN (xs++[v]).length (-1)=some xs.length:=by
   unfold ixN;rw [hl,if_neg (by decide),if_pos (by lia)];congr 1
   lia
 unfold atI;rw [e];show (xs++[v])[xs.length]?=some v;simp
def PlainIx (b:Expr):Prop:=∀ o i,subscripted b false o i=operate [o,i] (getItem o i)
def IxR (X:Cx) (r:R2):Prop :=
 ∀ (value slice:Expr) (pins:List (Addr × Obj)) (s:Shared) (σ:St) (H:Hp) (x y:V) (v u:Value) (Q:VK),Inv X pins σ H s->RelV x v->RelV y u->r x y H Q ->
   subscripted slice false v u=operate [v,u] (getItem v u)->wpAny (model X.prog X.w) X.A (subscriptTail value slice v u) (EP X pins σ Q) X.xe s
def MtR (X:Cx) (id:String) (r:V->List V->Hp->VK->Prop):Prop :=
 ∀ (pins:List (Addr × Obj)) (s:Shared) (σ:St) (H:Hp) (x:V) (xs:List V) (v:Value) (us:List Value) (Q:VK),Inv X pins σ H s->RelV x v->Vals xs us->r x xs H Q ->
   wpAny (model X.prog X.w) X.A (call (.builtin id) (v::us)) (EP X pins σ Q) X.xe s
section
variable {a b:Expr}{ta tb:TE}{pos:Pos}
theorem pe_ix {r:R2}(hr:IxR X r)(ha:PE X a ta)(hb:PE X b tb)(hs:PlainIx b):PE X (.Subscript a b pos) (tOp r ta tb):=by intro pins s σ H Q I h;exact Subscript_ (binT ha hb I h λv u s2 x y H2 I2 rx ry q=>hr a b pins s2 σ H2 x y v u Q I2 rx ry q (hs _ _))
def rIxL (K:zh):R2:=λx y H Q=>onR x λp=>onI y λi=>∃ xs,SqL K H p xs/\∃ v,atI xs i=some v/\Q v H
def rIxT (K:zh):R2:=λx y H Q=>onR x λp=>onI y λi=>∃ xs,SqT K H p xs/\∃ v,atI xs i=some v/\Q v H
def rIxS:R2:=λx y H Q=>∃ z i c,x=.str z/\y=.int i/\z.length<=sizeLine/\atI z.cps.toList i=some c/\Q (.str ⟨#[c]⟩) H
theorem ix_list:IxR X (rIxL X.K):=by
 intro value slice pins s σ H x y v u Q I rx ry h hs;obtain ⟨p,rfl,h⟩:=onR_x h;obtain ⟨i,rfl,xs,hq,z,he,q⟩:=vH h;cases rx;obtain ⟨t,rfl⟩:=ry;obtain ⟨its,r,pl,hz⟩:=I.list hq;obtain ⟨j,h1,h2,h3,h4,h5⟩:=nP he;obtain ⟨w,ew,rw'⟩:=r.get h2;have hl:=r.length;have hn:=line63;have fin:EP X pins σ Q w s:=⟨z,H,I,rw',q⟩
 by_cases h0:0<=i
 . have hj:i.toNat=j:=by
     rw [seqIndex_of h0 h5] at h1;exact Option.some.inj h1
   exact item_listR pl.isList h0 (by lia) (by rw [hj];simpa using ew) fin hs
 . have hj:(i+(its.toArray.size:Int)).toNat=j:=by
     rw [seqIndex_neg (by lia) h4] at h1;rw [yv,<- hl];exact Option.some.inj h1
   exact subscriptTail_builtinR (x:=w) pl.isList.typeIs slot_list_getitem.lookup
     (wpAny_getItem_list_neg (Q:=λr s'=>r=w/\EP X pins σ Q r s') pl.isList (by lia) (by rw [yv]<;>lia) (by lia) (by rw [hj];simpa using ew) ⟨rfl,fin⟩) hs
theorem ix_tup:IxR X (rIxT X.K):=by
 intro value slice pins s σ H x y v u Q I rx ry h hs;obtain ⟨p,rfl,h⟩:=onR_x h;obtain ⟨i,rfl,xs,hq,z,he,q⟩:=vH h;cases rx;obtain ⟨t,rfl⟩:=ry;obtain ⟨its,r,pl,hz⟩:=I.tuple hq;obtain ⟨j,h1,h2,h3,h4,h5⟩:=nP he;obtain ⟨w,ew,rw'⟩:=r.get h2;have hl:=r.length;have hn:=line63;have fin:EP X pins σ Q w s:=⟨z,H,I,rw',q⟩
 exact subscriptTail_builtinR (x:=w) pl.typeIs slot_tuple_getitem.lookup
   (getItem_tuple (j:=j) (Q:=λr s'=>r=w/\EP X pins σ Q r s') pl (by lia) (by lia) (by rw [yv,<- hl];exact h1) (by simpa using ew) ⟨rfl,fin⟩) hs
theorem ix_str:IxR X rIxS:=by
 intro value slice pins s σ H x y v u Q I rx ry h hs;obtain ⟨z,i,c,rfl,rfl,hz,he,q⟩:=h;obtain ⟨t,rfl⟩:=rx;obtain ⟨t',rfl⟩:=ry;obtain ⟨j,h1,h2,h3,h4,h5⟩:=nP he;have hl:z.cps.toList.length=z.length:=by simp [Str.length]
 rw [hl] at h1 h4 h5;have hn:=line63;exact tail_any (typeIs_str s z t) slot_str_getitem.lookup (getItem_str (c:=c) (by
   have e1:decide (i < -(2^63:Int))=false:=yu (by lia);have e2:decide (i≥2^63)=false:=yu (by lia);rw [e1,e2,Bool.or_false]) (by rw [h1];simpa using h2) ⟨.str ⟨#[c]⟩,H,I.tok _,⟨_,rfl⟩,q⟩) hs
theorem cf (its:List Value)(n j:Nat)(u:Value):Obj.mapSeq (·.setIfInBounds j u) { cls:=.type "list",data:=.seq its.toArray n }={ cls:=.type "list",data:=.seq (its.set j u).toArray n }:=by simp [Obj.mapSeq]
theorem Inv.lst {s:Shared}{p:Addr}(I:Inv X pins σ H s)(h:H p=some (.lst xs)) :
   ∃ (its:List Value) (n:Nat),Vals xs its/\s.heap.get? p=some { cls:=.type "list",data:=.seq its.toArray n }/\xs.length<=sizeLine:=by
 obtain ⟨z,its,n,r,e⟩:=I.hok p _ h;exact ⟨its,n,r,e,z⟩
theorem Inv.lstUpd {s:Shared}{p:Addr}{ys:List V}{its its':List Value}{n n':Nat}{f:Obj->Obj}(I:Inv X pins σ H s)(h:H p=some (.lst xs))
   (ho:s.heap.get? p=some { cls:=.type "list",data:=.seq its.toArray n }) (hf:f { cls:=.type "list",data:=.seq its.toArray n }={ cls:=.type "list",data:=.seq its'.toArray n' }) (r:Vals ys its') (hz:ys.length<=sizeLine) (t:Nat) :
   Inv X pins σ (upd H p (.lst ys)) { s with heap:=s.heap.update p f,toks:=t }:=by
 have e:(s.heap.update p f).get? p=some { cls:=.type "list",data:=.seq its'.toArray n' }:=by rw [uJ f ho (by rw [hf]<;>rfl),hf]
 refine I.write (x:=p) (e:=p) (by rw [h];trivial) (.inl rfl) (λb u hb q=>(uL _ _ (Ne.symm hb)).trans q) ⟨_,e⟩ ?_;exact ⟨hz,its',n',r,e⟩
def rSetL:V->V->V->Hp->(Hp->Prop)->Prop:=λo i v H Q=>∃ p xs k j,o=.ref p/\i=.int k/\H p=some (.lst xs)/\ixN xs.length k=some j/\Q (upd H p (.lst (xs.set j v)))
theorem nO:PSet X rSetL:=by
 intro pins s σ H o i v ov iv u Q I ro ri rv h;obtain ⟨p,xs,k,j,rfl,rfl,hp,hj,q⟩:=h;cases ro;obtain ⟨t,rfl⟩:=ri;obtain ⟨its,n,r,ho,hz⟩:=I.lst hp;obtain ⟨h1,h2,h3,h4⟩:=iX hj;have hl:=r.length;have hn:=line63;have I':Inv X pins σ (upd H p (.lst (xs.set j v))) { s with heap:=s.heap.update p (Obj.mapSeq (·.setIfInBounds j u)) } :=
   I.lstUpd hp ho (cf its n j u) (r.set rv j) (by rw [oG];exact hz) s.toks
 by_cases h0:0<=k
 . have hk:k.toNat=j:=by
     rw [seqIndex_of h0 h4] at h1;exact Option.some.inj h1
   exact PySem.W.ki_setAt ho h0 (by lia) (by rw [yv,<- hl];exact h4) (by rw [hk];exact ⟨_,I',q⟩)
 . have hk:(k+(its.toArray.size:Int)).toNat=j:=by
     rw [seqIndex_neg (by lia) h3] at h1;rw [yv,<- hl];exact Option.some.inj h1
   exact PySem.W.ki_setBack ho (by lia) (by rw [yv,<- hl];exact h3) (by lia) (by rw [hk];exact ⟨_,I',q⟩)
theorem cZ (lo hi:Option Int)(n:Nat):(sliceBounds lo hi none n).1=((HT.sIx n 0 lo:Nat):Int)/\(sliceBounds lo hi none n).2.1=((HT.sIx n n hi:Nat):Int)/\(sliceBounds lo hi none n).2.2=1:=by
 refine ⟨?_,?_,rfl⟩
 . cases lo with
   | none=>simp [sliceBounds,HT.sIx]
   | some i =>
     simp only [sliceBounds,HT.sIx,Option.getD_none,show (1:Int) > 0 by decide,wo];by_cases h:i<0;{simp only [h,wo]<;>lia};{simp only [h,x4]<;>lia}
 . cases hi with
   | none=>simp [sliceBounds,HT.sIx]
   | some i =>
     simp only [sliceBounds,HT.sIx,Option.getD_none,show (1:Int) > 0 by decide,wo];by_cases h:i<0;{simp only [h,wo]<;>lia};{simp only [h,x4]<;>lia}
theorem cY (its:List Value)(lo hi:Option Int):slicePick its.toArray lo hi none=((its.drop (HT.sIx its.length 0 lo)).take (HT.sIx its.length its.length hi-HT.sIx its.length 0 lo)).toArray:=by obtain ⟨h1,h2,h3⟩:=cZ lo hi its.toArray.size;unfold slicePick;rw [h1,h2,h3];simp only [sliceRange_one,pick_run,yv]<;>rfl
def rSlL (K:zh):V->Option Int->Option Int->Hp->VK->Prop:=λx lo hi H Q=>∃ a xs,x=.ref a/\SqL K H a xs/\∀ p,H p=none->Q (.ref p) (upd H p (.lst (cutV xs lo hi)))
theorem sl_list:SlR X (rSlL X.K):=by intro pins s σ H x v vl vu lo hi sl Q I rx hs pl pu h;obtain ⟨a,xs,rfl,hx,q⟩:=h;cases rx;obtain ⟨its,r,ht,hz⟩:=I.list hx;have hlen:=r.length;refine ⟨"list",_,slot_list_getitem.lookup,ht.isList.typeIs,?_⟩;refine wpAny_getItem_list_slice ht.isList hs pl pu .none (by simp) ?_ (by rw [yv]<;>lia);rw [cY,<- hlen];refine ⟨.ref s.heap.objs.size,_,I.laid (t':=s.toks) (o:=.lst (cutV xs lo hi)) (λb ob q=>zT _ q) (zi _) ?_,rfl,q _ (I.hok.fresh (zi _))⟩;exact ⟨zO (cg xs lo hi) hz,_,0,(r.drop (HT.sIx xs.length 0 lo)).take (HT.sIx xs.length xs.length hi-HT.sIx xs.length 0 lo),yn _ rfl⟩
def flatV:V->Bool
 | .non=>true
 | .bl _=>true
 | .int _=>true
 | .str _=>true
 | _=>false
def eqV:V->V->Bool
 | .non,.non=>true
 | .bl a,.bl b=>a==b
 | .bl a,.int b=>(if a then 1 else 0)==b
 | .int a,.bl b=>a==(if b then 1 else 0)
 | .int a,.int b=>a==b
 | .str a,.str b=>a==b
 | _,_=>false
theorem eqAt_V {s:Shared}{y x:V}{u v:Value}(ry:RelV y u)(rx:RelV x v)(fy:flatV y=true)(fx:flatV x=true):SeqAt.EqAt A s u v (eqV y x):=by
 cases y with
 | non =>
   cases ry;cases x with
   | non=>cases rx;exact SeqAt.EqAt.same _
   | bl b=>cases rx;exact SeqAt.EqAt.none_bool b
   | int b=>obtain ⟨t,rfl⟩:=rx;exact SeqAt.EqAt.none_int b t
   | str b=>obtain ⟨t,rfl⟩:=rx;exact SeqAt.EqAt.none_str b t
   | _=>exact absurd (show false=true from fx) yw
 | bl a =>
   cases ry;cases x with
   | non=>cases rx;exact SeqAt.EqAt.bool_none a
   | bl b=>cases rx;exact SeqAt.EqAt.bool_bool a b
   | int b=>obtain ⟨t,rfl⟩:=rx;exact SeqAt.EqAt.bool_int a b t
   | str b=>obtain ⟨t,rfl⟩:=rx;exact SeqAt.EqAt.bool_str a b t
   | _=>exact absurd (show false=true from fx) yw
 | int a =>
   obtain ⟨t',rfl⟩:=ry;cases x with
   | non=>cases rx;exact SeqAt.EqAt.int_none a t'
   | bl b=>cases rx;exact SeqAt.EqAt.int_bool a t' b
   | int b=>obtain ⟨t,rfl⟩:=rx;exact SeqAt.EqAt.int_int a t' b t
   | str b=>obtain ⟨t,rfl⟩:=rx;exact SeqAt.EqAt.int_str a t' b t
   | _=>exact absurd (show false=true from fx) yw
 | str a =>
   obtain ⟨t',rfl⟩:=ry;cases x with
   | non=>cases rx;exact SeqAt.EqAt.str_none a t'
   | bl b=>cases rx;exact SeqAt.EqAt.str_bool a t' b
   | int b=>obtain ⟨t,rfl⟩:=rx;exact SeqAt.EqAt.str_int a t' b t
   | str b=>obtain ⟨t,rfl⟩:=rx;exact SeqAt.EqAt.str_str a t' b t
   | _=>exact absurd (show false=true from fx) yw
 | _=>exact absurd (show false=true from fy) yw
def eqU (x:V)(u:Value):Bool:=match u with
 | .none=>eqV .non x
 | .bool b=>eqV (.bl b) x
 | .int i _=>eqV (.int i) x
 | .str z _=>eqV (.str z) x
 | _=>false
theorem eqU_of {x y:V}{u:Value}(r:RelV y u)(f:flatV y=true):eqU x u=eqV y x:=by
 cases y with
 | non=>cases r;rfl
 | bl b=>cases r;rfl
 | int i=>obtain ⟨t,rfl⟩:=r;rfl
 | str z=>obtain ⟨t,rfl⟩:=r;rfl
 | _=>exact absurd (show false=true from f) yw
theorem nN {x:V}:∀ {xs:List V} {us:List Value},Vals xs us->xs.all flatV=true->us.any (eqU x)=xs.any λy=>eqV y x
 | _,_,.nil,_=>rfl
 | y::xs,u::us,.cons r t,f=>by
   rw [List.all_cons,xP] at f;rw [tV,tV,eqU_of r f.1,nN t f.2]
theorem nM {A:Around}{s:Shared}{x:V}{v:Value}(rx:RelV x v)(fx:flatV x=true):∀ {xs:List V} {us:List Value},Vals xs us->xs.all flatV=true->∀ u∈us,SeqAt.EqAt A s u v (eqU x u)
 | _,_,.nil,_=>λu hu=>by cases hu
 | y::xs,u::us,.cons r t,f=>λu' hu=>by
   rw [List.all_cons,xP] at f;rcases zW.mp hu with rfl | hu
   . rw [eqU_of r f.1];exact eqAt_V r rx f.1 fx
   . exact nM rx fx t f.2 u' hu
def inV (x:V)(xs:List V):Bool:=xs.any λy=>eqV y x
def rIn (K:zh)(neg:Bool):R2:=λx y H Q=>∃ p xs,y=.ref p/\(SqL K H p xs\/SqT K H p xs)/\flatV x=true/\xs.all flatV=true/\Q (.bl (if neg then !inV x xs else inV x xs)) H
theorem cX:OpR X (compareOp .In) (rIn X.K false):=by
 intro pins s σ H x y v u Q I rx ry h;obtain ⟨p,xs,rfl,hq,fx,fs,q⟩:=h;cases ry;rcases hq with hq | hq
 . obtain ⟨its,r,pl,hz⟩:=I.list hq;refine SeqAt.in_listAt (eqU x) pl.isList (λw hw=>nM rx fx r fs w (by simpa using hw)) ⟨.bl _,H,I,rfl,?_⟩;rw [show its.toArray.any (eqU x)=its.any (eqU x) by simp,nN r fs];exact q
 . obtain ⟨its,r,pl,hz⟩:=I.tuple hq;refine SeqAt.in_tupleAt (eqU x) pl (λw hw=>nM rx fx r fs w (by simpa using hw)) ⟨.bl _,H,I,rfl,?_⟩;rw [show its.toArray.any (eqU x)=its.any (eqU x) by simp,nN r fs];exact q
theorem cW:CallR X (.builtin "len") (λxs H Q=>∃ p ys,xs=[.ref p]/\(SqL X.K H p ys\/SqT X.K H p ys)/\Q (.int ys.length) H):=by
 intro pins s σ H xs us Q I r h;obtain ⟨p,ys,rfl,hq,q⟩:=h;obtain ⟨u,rfl,rx⟩:=vals1 r;cases rx;have hn:=line63;rcases hq with hq | hq
 . obtain ⟨its,r',pl,hz⟩:=I.list hq;have hlen:=r'.length;exact Calls.call_len_list pl.isList (by simp only [yv]<;>lia) ⟨.int ys.length,H,I.tok _,⟨s.toks+1,by rw [yv,hlen]⟩,q⟩
 . obtain ⟨its,r',pl,hz⟩:=I.tuple hq;have hlen:=r'.length;exact len_tuple pl (by simp only [yv]<;>lia) ⟨.int ys.length,H,I.tok _,⟨s.toks+1,by rw [yv,hlen]⟩,q⟩
theorem uV:CallR X (.builtin "len") (λxs H Q=>∃ z,xs=[.str z]/\z.length<=sizeLine/\Q (.int z.length) H):=by intro pins s σ H xs us Q I r h;obtain ⟨z,rfl,hz,q⟩:=h;obtain ⟨u,rfl,t,rfl⟩:=vals1 r;have hn:=line63;exact len_str (by lia) ⟨.int z.length,H,I.tok _,⟨_,rfl⟩,q⟩
theorem cV:CallR X (.type "list") (λxs H Q=>∃ p ys,xs=[.ref p]/\(SqL X.K H p ys\/SqT X.K H p ys)/\∀ l,H l=none->Q (.ref l) (upd H l (.lst ys))):=by
 intro pins s σ H xs us Q I r h;obtain ⟨p,ys,rfl,hq,q⟩:=h;obtain ⟨u,rfl,rx⟩:=vals1 r;cases rx;have fin:∀ (its:List Value),Vals ys its->ys.length<=sizeLine->∀ (h':Heap) (c':Nat),(∀ b o',s.heap.get? b=some o'->h'.get? b=some o') ->
     h'.get? s.heap.objs.size=some { cls:=.type "list",dict:=none,data:=.seq its.toArray c',slots:=#[] }->EP X pins σ Q (.ref s.heap.objs.size) { s with heap:=h' }:=λits r' hz h' c' kp e =>
   ⟨.ref s.heap.objs.size,_,I.laid (t':=s.toks) kp (zi _) (show ObjOk X.prog X.w _ h' _ (.lst ys) from ⟨hz,its,c',r',e⟩),rfl,q _ (I.hok.fresh (zi _))⟩
 rcases hq with hq | hq
 . obtain ⟨its,r',pl,hz⟩:=I.list hq;have hlen:=r'.length;obtain ⟨o,ho,hc,n,hd⟩:=pl.isList;exact call_list_seq p (.inl rfl) ho hc hd (λh' c' kp e=>fin its r' hz h' c' kp e) (by simp only [yv]<;>lia)
 . obtain ⟨its,r',pl,hz⟩:=I.tuple hq;have hlen:=r'.length;obtain ⟨o,ho,hc,n,hd⟩:=pl;exact call_list_seq p (.inr rfl) ho hc hd (λh' c' kp e=>fin its r' hz h' c' kp e) (by simp only [yv]<;>lia)
def tyV (K:zh)(T:String)(x:V)(H:Hp):Prop:=match x with
 | .str _=>T="str"
 | .int _=>T="int"
 | .ref p=>(T="list"/\∃ xs,SqL K H p xs)\/(T="tuple"/\∃ o,K.lookup p=some o/\o.cls=.type "tuple"/\o.dict=none) \/
     (T="dict"/\((∃ kvs,H p=some (.dK kvs))\/∃ kvs,H p=some (.dT kvs)))\/(T="set"/\∃ S n,H p=some (.set S n))
 | _=>False
theorem tyV_is {s:Shared} {T:String} {x:V} {v:Value} (I:Inv X pins σ H s) (r:RelV x v) (ty:tyV X.K T x H) :
   s.TypeIs v T/\∀ a,v=.ref a->∃ ob,s.heap.get? a=some ob/\ob.dict=none:=by
 cases x with
 | str z =>
   obtain ⟨t,rfl⟩:=r;cases (show T="str" from ty);exact ⟨typeIs_str s z t,λ_ e=>nomatch e⟩
 | int i =>
   obtain ⟨t,rfl⟩:=r;cases (show T="int" from ty);exact ⟨typeIs_int s i t,λ_ e=>nomatch e⟩
 | ref p =>
   cases r;rcases ty with ⟨rfl,xs,hq⟩ | ⟨rfl,o,hk,hc,hd⟩ | ⟨rfl,hk⟩ | ⟨rfl,S,n,hk⟩
   . obtain ⟨its,_,pl,_⟩:=I.list hq;refine ⟨pl.isList.typeIs,λa e=>?_⟩;cases e;obtain ⟨o,n,e,c,hd,_⟩:=pl;exact ⟨o,e,hd⟩
   . refine ⟨⟨o,I.kIn p o hk,hc⟩,λa e=>?_⟩;cases e;exact ⟨o,I.kIn _ o hk,hd⟩
   . have z:∃ o,s.heap.get? p=some o/\o.ExactDict:=by
       rcases hk with ⟨kvs,hk⟩ | ⟨kvs,hk⟩
       . obtain ⟨_,_,_,_,o,_,_,e,ex,_⟩:=I.hok p _ hk;exact ⟨o,e,ex⟩
       . obtain ⟨_,_,_,_,o,_,_,e,ex,_⟩:=I.hok p _ hk;exact ⟨o,e,ex⟩
     obtain ⟨o,e,ex⟩:=z;refine ⟨⟨o,e,ex.1⟩,λa e2=>?_⟩;cases e2;exact ⟨o,e,ex.2.1⟩
   . obtain ⟨o,_,_,_,e,ex,_⟩:=I.hok p _ hk;refine ⟨⟨o,e,ex.1⟩,λa e2=>?_⟩;cases e2;exact ⟨o,e,ex.2.1⟩
 | _=>exact False.elim ty
def tBM0 (K:zh)(T:String)(r:V->List V->Hp->VK->Prop)(to:TE):TE:=λσ H Q=>to σ H λx H1=>tyV K T x H1/\r x [] H1 Q
def tBM (K:zh)(T:String)(r:V->List V->Hp->VK->Prop)(to:TE)(t:TA):TE:=λσ H Q=>to σ H λx H1=>tyV K T x H1/\t σ H1 λxs H2=>r x xs H2 Q
variable {o e:Expr}{to:TE}{t:TA}{name:Str}{cpos:Pos}{T id:String}{r:V->List V->Hp->VK->Prop}
theorem pe_bm0 (pa:PlainAttrs T)(slot:Slot T name id)(hty:typeOf (.builtin id)=pure (.type "method_descriptor"))(hm:MtR X id r)(ho:PE X o to)
   (hbase:attributeBase o name X.env (eval o X.env)=eval o X.env:=by rfl) (hline:(apos.endLine==cpos.line)=true:=by rfl):PE X (.Call (.Attribute o name apos) [] [] cpos) (tBM0 X.K T r to):=by
 intro pins s σ H Q I h;refine wpAny_Call_method0_late hbase hline (thn (ho pins s σ H _ I h) λv s1 ⟨x,H1,I1,r1,ty,q1⟩=>?_);obtain ⟨h1,h2⟩:=tyV_is I1 r1 ty;exact ⟨T,id,pa,slot,hty,h1,h2,sM rfl (PySem.evalArgs_none (hm pins s1 σ H1 x [] v [] Q I1 r1 .nil q1))⟩
theorem pe_bm (pa:PlainAttrs T)(slot:Slot T name id)(hty:typeOf (.builtin id)=pure (.type "method_descriptor"))(hm:MtR X id r)(ho:PE X o to)(ha:PA X (e::es) t)
   (hbase:attributeBase o name X.env (eval o X.env)=eval o X.env:=by rfl)
   (hfew:((backTo cpos (starEach (e::es) X.env)).all (λx=>!x.1)&&(backToKw cpos (keywordEach [] X.env)).all (λx=>x.1.isSome)
     && decide ((e::es).length+([]:List Keyword).length+(if ([]:List Keyword).isEmpty then 0 else 1)<30))=true:=by rfl)
   (hline:(apos.endLine==cpos.line)=true:=by rfl) (hs:starEach (e::es) X.env=(false,eval e X.env)::starEach es X.env:=by rfl) (hplain:(backTo cpos (starEach es X.env)).any (·.1)=false:=by rfl) :
   PE X (.Call (.Attribute o name apos) (e::es) [] cpos) (tBM X.K T r to t):=by
 intro pins s σ H Q I h;refine wpAny_Call_method_late hbase hfew hline rfl (thn (ho pins s σ H _ I h) λv s1 ⟨x,H1,I1,r1,ty,q1⟩=>?_);obtain ⟨h1,h2⟩:=tyV_is I1 r1 ty;refine ⟨T,id,pa,slot,hty,h1,h2,?_⟩;have hA:=ha cpos pins s1 σ H1 _ I1 q1;rw [hs] at hA ⊢;refine sM (by show (false||(backTo cpos (starEach es X.env)).any (·.1))=false;rw [hplain]<;>rfl) (o6 ?_);exact thn hA λus s2 ⟨vs,H2,I2,r2,q2⟩=>hm pins s2 σ H2 x vs v us Q I2 r1 r2 q2
end
def MtM (X:Cx) (id:String) (r:V->List V->Hp->VK->Prop):Prop :=
 ∀ (pins:List (Addr × Obj)) (s:Shared) (σ:St) (H:Hp) (x:V) (xs:List V) (v:Value) (us:List Value) (Q:VK),Inv X pins σ H s->RelV x v->Vals xs us->r x xs H Q ->
   wpAny (model X.prog X.w) X.A (call (.builtin id) (v::us)) (EP X pins σ Q) X.xe s
theorem Vals.one {x:V}(h:Vals [x] us):∃ u,us=[u]/\RelV x u:=by
 cases h with
 | cons r t =>
   cases t;exact ⟨_,rfl,r⟩
theorem Vals.two {x y:V}(h:Vals [x,y] us):∃ u v,us=[u,v]/\RelV x u/\RelV y v:=by
 cases h with
 | cons r t =>
   obtain ⟨v,rfl,q⟩:=Vals.one t;exact ⟨_,_,rfl,r,q⟩
theorem Vals.zero:∀ {us:List Value},Vals [] us->us=[]
 | _,.nil=>rfl
theorem Vals.reverse (h:Vals xs us):Vals xs.reverse us.reverse:=by
 induction h with
 | nil=>exact .nil
 | cons r t ih=>rw [oN,oN];exact Vals.append ih (.cons r .nil)
theorem Vals.rep (h:Vals xs us):∀ k:Nat,Vals (List.replicate k xs).flatten (List.replicate k us).flatten
 | 0=>.nil
 | k+1=>by
   rw [tq,tq,yE,yE];exact Vals.append h (Vals.rep h k)
theorem iV (its:List Value):∀ (k:Nat) (acc:List Value),
   List.foldl (λx1 x2=>x1++x2) acc.toArray (List.replicate k its.toArray)=(acc++(List.replicate k its).flatten).toArray
 | 0,acc=>by simp
 | k + 1,acc=>by
   have e:acc.toArray++its.toArray=(acc++its).toArray:=by simp
   have e2:(acc++its)++(List.replicate k its).flatten=acc++(List.replicate (k+1) its).flatten:=by rw [tq,yE,zY]
   rw [<- e2,<- iV its k (acc++its),<- e,tq,wk]
section
variable {s:Shared}{l b:Addr}{ys zs:List V}
theorem Inv.lset {its its':List Value}{n:Nat}{f:Array Value->Array Value}(I:Inv X pins σ H s)(hH:H l=some (.lst xs))
   (e:s.heap.get? l=some { cls:=.type "list",data:=.seq its.toArray n }) (hf:f its.toArray=its'.toArray) (hv:Vals ys its') (hz:ys.length<=sizeLine) :
   Inv X pins σ (upd H l (.lst ys)) { s with heap:=s.heap.update l (Obj.mapSeq f),toks:=t' }:=by
 have q:=PySem.IsL.update e f;rw [hf] at q;refine I.write (x:=l) (e:=l) (by rw [hH];exact trivial) (.inl rfl) (λb' u hb hu=>(uL s.heap (Obj.mapSeq f) (Ne.symm hb)).trans hu) ⟨_,q⟩ ?_;exact ⟨hz,its',_,hv,q⟩
theorem Inv.lnew {its:List Value}(I:Inv X pins σ H s)(hv:Vals ys its)(hz:ys.length<=sizeLine) :
   Inv X pins σ (upd H s.heap.objs.size (.lst ys)) { s with heap:=s.heap.push { cls:=.type "list",data:=.seq its.toArray },toks:=t' } :=
 I.laid (λ_ _ q=>zT _ q) (zi _) ⟨hz,its,0,hv,yn _ rfl⟩
theorem Inv.fresh (I:Inv X pins σ H s):H s.heap.objs.size=none:=I.hok.fresh (zi _)
theorem Inv.lstM (I:Inv X pins σ H s)(hH:H l=some (.lst xs)):xs.length<=sizeLine/\∃ (its:List Value) (n:Nat),Vals xs its/\xs.length=its.length/\s.heap.get? l=some { cls:=.type "list",data:=.seq its.toArray n }:=by obtain ⟨z,its,n,r,e⟩:=I.hok l _ hH;exact ⟨z,its,n,r,r.length,e⟩
theorem notLongL {n:Nat}(h:n<=sizeLine):Builtin.List.listTooLong n=false:=by unfold Builtin.List.listTooLong;exact yu (by lia)
end
def rAppend:V->List V->Hp->VK->Prop:=λx vs H Q=>∃ l xs y,x=.ref l/\vs=[y]/\H l=some (.lst xs)/\xs.length<sizeLine/\Q .non (upd H l (.lst (xs++[y])))
theorem xY:MtM X "list.append" rAppend:=by intro pins s σ H x vs v us Q I rx rv h;obtain ⟨l,xs,y,rfl,rfl,hH,hz,q⟩:=h;cases rx;obtain ⟨u,rfl,ru⟩:=rv.one;obtain ⟨z,its,n,r,hl,e⟩:=I.lstM hH;refine um F.slot_list_append ⟨_,e,rfl⟩ F.entry_list_append (F.args_list_append_2 _ _) (PySem.list_append l its.toArray n u (by rw [yv];lia)) ⟨e,?_⟩;refine ⟨.non,_,I.lset (its':=its++[u]) hH e (by simp) (r.append (.cons ru .nil)) ?_,rfl,q⟩;rw [zj,oX];lia
def rExtend:V->List V->Hp->VK->Prop:=λx vs H Q=>∃ l b xs zs,x=.ref l/\vs=[.ref b]/\H l=some (.lst xs)/\H b=some (.lst zs)/\xs.length+zs.length<=sizeLine/\Q .non (upd H l (.lst (xs++zs)))
theorem rC:MtM X "list.extend" rExtend:=by
 intro pins s σ H x vs v us Q I rx rv h;obtain ⟨l,b,xs,zs,rfl,rfl,hH,hB,hz,q⟩:=h;cases rx;obtain ⟨u,rfl,ru⟩:=rv.one;cases ru;obtain ⟨z,its,n,r,hl,e⟩:=I.lstM hH;obtain ⟨z2,its2,n2,r2,hl2,e2⟩:=I.lstM hB;have hsz:its.toArray.size+its2.toArray.size<=sizeLine:=by rw [yv,yv];lia
 have hlong:¬ (!its.toArray.isEmpty&&Builtin.List.listTooLong (its.toArray.size+its2.toArray.size))=true:=by rw [notLongL hsz,Bool.and_false];exact yw
 refine um F.slot_list_extend ⟨_,e,rfl⟩ F.entry_list_extend (F.args_list_extend_2 _ _)
   (AutoSeq1.list_extend_list_list_0 l its.toArray n b its2.toArray n2 hlong (by rw [yv];lia) (by lia)) ⟨e,e2,?_⟩
 refine ⟨.non,_,I.lset (its':=its++its2) hH e (by simp) (r.append r2) ?_,rfl,q⟩;rw [zj];lia
def rReverse:V->List V->Hp->VK->Prop:=λx vs H Q=>∃ l xs,x=.ref l/\vs=[]/\H l=some (.lst xs)/\Q .non (upd H l (.lst xs.reverse))
theorem cU:MtM X "list.reverse" rReverse:=by intro pins s σ H x vs v us Q I rx rv h;obtain ⟨l,xs,rfl,rfl,hH,q⟩:=h;cases rx;have hus:=rv.zero;subst hus;obtain ⟨z,its,n,r,hl,e⟩:=I.lstM hH;refine um F.slot_list_reverse ⟨_,e,rfl⟩ F.entry_list_reverse (F.args_list_reverse_1 _) (AutoSeq1.list_reverse_list_0 l its.toArray n (by rw [yv];lia)) ⟨e,?_⟩;refine ⟨.non,_,I.lset (its':=its.reverse) hH e (by simp) r.reverse ?_,rfl,q⟩;rw [xc];lia
def rCat:R2:=λx y H Q=>∃ l b xs zs,x=.ref l/\y=.ref b/\H l=some (.lst xs)/\H b=some (.lst zs)/\xs.length+zs.length<=sizeLine/\∀ p,H p=none->Q (.ref p) (upd H p (.lst (xs++zs)))
theorem op_cat:OpR X (binaryOp .Add) rCat:=by
 intro pins s σ H x y v u Q I rx ry h;obtain ⟨l,b,xs,zs,rfl,rfl,hH,hB,hz,q⟩:=h;cases rx;cases ry;obtain ⟨z,its,n,r,hl,e⟩:=I.lstM hH;obtain ⟨z2,its2,n2,r2,hl2,e2⟩:=I.lstM hB;refine PySem.P.add_list e e2 ?_ (by rw [yv,yv];lia);have ea:its.toArray++its2.toArray=(its++its2).toArray:=by simp
 rw [ea];exact ⟨.ref _,_,I.lnew (t':=s.toks) (r.append r2) (by rw [zj];lia),rfl,q _ I.fresh⟩
def rRep:R2:=λx y H Q=>∃ l k xs,x=.ref l/\y=.int k/\H l=some (.lst xs)/\-(2^63)<=k/\k<2^63/\xs.length*k.toNat<=sizeLine /\
 ∀ p,H p=none->Q (.ref p) (upd H p (.lst (List.replicate k.toNat xs).flatten))
theorem len_rep {α:Type}(xs:List α)(k:Nat):(List.replicate k xs).flatten.length=k*xs.length:=by
 induction k with
 | zero=>simp
 | succ k ih=>rw [tq,yE,zj,ih,Nat.succ_mul,vI]
theorem op_rep:OpR X (binaryOp .Mult) rRep:=by
 intro pins s σ H x y v u Q I rx ry h;obtain ⟨l,k,xs,rfl,rfl,hH,h1,h2,hz,q⟩:=h;cases rx;obtain ⟨t,rfl⟩:=ry;obtain ⟨z,its,n,r,hl,e⟩:=I.lstM hH;have hlen:its.toArray.size*k.toNat<=sizeLine:=by rw [yv,<- hl];exact hz
 have hcap:¬ its.toArray.size*k.toNat > (2^63-1)/8:=by
   have:(sizeLine:Nat)<=(2^63-1)/8:=by decide
   lia
 have hfit:¬ (!Builtin.List.listFitsIndex k)=true:=by rw [fitsIndex_both h1 h2];exact yw
 have hlong:¬ Builtin.List.listTooLong (its.toArray.size*k.toNat)=true:=by rw [notLongL hlen];exact yw
 have hnew:List.foldl (λx1 x2=>x1++x2) #[] (List.replicate (if its.toArray.isEmpty=true then 0 else k.toNat) its.toArray)=(List.replicate k.toNat its).flatten.toArray:=by
   have f0:∀ m:Nat,List.foldl (λx1 x2=>x1++x2) #[] (List.replicate m its.toArray)=(List.replicate m its).flatten.toArray:=λm=>by
     have:=iV its m [];rw [yb] at this;exact this
   rw [f0];cases its with
   | nil=>simp
   | cons a r'=>rw [if_neg (by simp)]
 refine wpAny_binaryOp_repeat_ref (T:="list") (U:="int") (by decide) ⟨_,e,rfl⟩ (λs'=>typeIs_int s' k t) noFill_list_mul F.fills_int_mul F.slot_int_rmul repeat_list F.slot_int_index.lookup
   (um F.slot_int_rmul (typeIs_int s k t) F.entry_int_rmul (F.args_int_rmul_2 _ _) (int___rmul___int_list k t l its.toArray n)
     ⟨e,rfl,⟨_,e,rfl⟩,um F.slot_list_mul ⟨_,e,rfl⟩ F.entry_list_mul (F.args_list_mul_2 _ _) (AutoListH.list___mul___list_int_3 l its.toArray n k t hfit hcap hlong) ⟨e,?_⟩⟩)
 rw [hnew];exact ⟨.ref _,_,I.lnew (t':=s.toks) (r.rep k.toNat) (by rw [len_rep,vd];exact hz),rfl,q _ I.fresh⟩
section
variable {s:Shared}
set_option maxRecDepth 100000 in
end
end L2
namespace Att
open PySem PySem.W PySem.Calls PyProof.Rows
theorem cT {P:Params}{h:Heap}:∀ (ns:List Int) (vs:List Value),WellAll P h vs (ns.map WData.int)->IntsAre vs ns:=by
 intro ns;induction ns with
 | nil =>
   intro vs w;rw [rf] at w;cases w;exact .nil
 | cons n ns ih =>
   intro vs w;rw [yz] at w;cases w with
   | cons a b =>
     cases a;exact .cons _ _ (ih _ b)
theorem cS {l:OpenLaw}{n:Nat}(hn:l.most=some n){P:Params}{h:Heap}{args:List WData}{vals:List Value}
   (hpre:l.row.toRowW.claim.pre args=true) (hwl:WellAll P h vals args) :
   ∃ a vs ns,vals=[Value.ref a]/\args=[WData.list (ns.map WData.int)]/\h.get? a=some { cls:=.type "list",data:=.seq vs.toArray }/\IntsAre vs ns/\ns.length<=n:=by
 have hsh:WShape.hasAll [] args [.list .int]=true:=(pre_splitW hpre).1;have hc:l.pre.holds [] { args:=args }=true:=(pre_splitW hpre).2;obtain ⟨d,r,rfl,h1,h2⟩:=hasAllW_cons hsh;obtain rfl:=hasAllW_nil h2;obtain ⟨xs,rfl,h3⟩:=hasW_list h1;obtain ⟨ns,rfl⟩:=items_int h3;have hlen:ns.length<=n:=by
   unfold OpenLaw.pre at hc;have h4:(WTm.not (.lt (.lit (.int (n:Int))) (.len (.arg 0)))).holds [] { args:=[.list (ns.map .int)] }=true:=by have h4:=(holds_andW hc).1;rw [hn] at h4;exact h4
   have h5:=condW_of h4 (w_not (w_lt w_lit (w_len_list (w_arg rfl))));rw [za] at h5;refine oJ λq=>?_
   have q':(n:Int)<((ns.length:Nat):Int):=by lia
   first
     | (rw [zK q'] at h5;exact absurd h5 (by decide))
     | (simp at h5;lia)
 cases hwl with
 | cons w1 w2 =>
   cases w2;cases w1 with
   | list ho hall=>exact ⟨_,_,ns,rfl,rfl,ho,cT ns _ hall,hlen⟩
theorem cR (l:OpenLaw)(args:List WData):l.row.toRowW.claim.post args (.bool true) args=true :=
 postW_of (r:=l.row.toRowW) (X:=(true==true))
   (show WShape.has [] (.bool true) .bool=true by first | rfl | decide | simp [WShape.has,WShape.arms,WShape.armsAll])
   (show (WTm.eq .res (.lit (.bool true))).value [] { args:=args,res:=some (.bool true),after:=args }=some (.bool (true==true)) from w_eq_bool (w_res rfl) w_lit) rfl
section
variable {s:Shared}{K:Frag}
end
end Att
namespace L2
open PySem PySem.Spec PyProof.Rows
theorem nK:∀ {vs:List Value} {ns:List Int},IntsAre vs ns->Vals (ns.map V.int) vs
 | _,_,.nil=>.nil
 | _,_,.cons n t h=>.cons ⟨t,rfl⟩ (nK h)
abbrev KOf {K:zh}{h:Heap}(_:K.In h):zh:=K
def inClass (s:Stmt)(j:Nat):Stmt:=match s with
 | .ClassDef _ _ _ body _ _ _ _ _ _ _=>body.getD j (.Pass ⟨0,0,0,0⟩)
 | _=>.Pass ⟨0,0,0,0⟩
def defArgs (s:Stmt):Arguments:=match s with
 | .FunctionDef _ a _ _ _ _ _ _ _ _=>a
 | _=>{ posonlyargs:=[],args:=[],vararg:=none,kwonlyargs:=[],kw_defaults:=[],kwarg:=none,defaults:=[] }
def defBody (s:Stmt):List Stmt:=match s with
 | .FunctionDef _ _ b _ _ _ _ _ _ _=>b
 | _=>[]
def defScope (s:Stmt):Scope:=match s with
 | .FunctionDef _ _ _ _ _ _ sc _ _ _=>sc
 | _=>{ kind:=.function,names:=[],isGenerator:=false,isCoroutine:=false }
abbrev CX0:CXT:=λ_ _ _ _ _ _=>False
abbrev E0:XK:=λ_ _ _=>False
theorem pass0:Passes CX0 X E0:=λ_ _ _ _ _ _ _ h=>h.elim
structure Fun (K:zh)(x qual:Str)(st:Stmt)(f:Addr)(fd:FuncData):Prop where
 ex:∃ (oc:Value) (od:Option Addr) (kV doc pm:Value) (an:Option Addr) (cdv ct:Value) (osl:Array (Option Value)),
   fd=PySem.W.fnOf x qual (defArgs st) (defBody st) (defScope st) .none kV doc pm an cdv ct/\K.lookup f=some ⟨oc,od,.func fd,osl⟩/\PySem.W.codeIn K cdv qual=true
 kp:PySem.W.keepIn K (.ref f)=true
theorem Fun.ok {x:Str}{f:Addr}{k:Nat}(F:Fun K x qual st f fd)(S:FnScope N ps (defScope st))(len:∀ vs H Q E,sp vs H Q E->vs.length=ps.length)
   (hbody:∀ (cdv:Value) (A:Around) (outer:List Env) (s:Shared) (H:Hp) (vs:List V) (Q:VK) (E:XK),Room k (A.deeper (envOfC qual (defScope st) s.heap.objs.size f cdv))->sp vs H Q E ->
     ∃ t,PSs (cxOf CX0 P w K mg base N qual (defScope st) f cdv A outer s H E).nox (defBody st) t/\t { nx:=λ_ H'=>Q .non H',rt:=Q } (start N vs) H):FnOk P w K mg base CX0 (k+1) f fd ps sp:=by
 obtain ⟨oc,od,kV,doc,pm,an,cdv,ct,osl,rfl,lk,hcd⟩:=F.ex;refine fn_of lk hcd S len λA outer s H vs Q E hr hsp=>?_
 obtain ⟨t,h,q⟩:=hbody cdv A outer s H vs Q E hr hsp;exact ⟨t,h.nox,q⟩
theorem Fun.binds {x:Str}{f:Addr}(F:Fun K x qual st f fd)
   (h:∀ (kV doc pm:Value) (an:Option Addr) (cdv ct:Value) (us:List Value),us.length=ps.length->bindArgs (PySem.W.fnOf x qual (defArgs st) (defBody st) (defScope st) .none kV doc pm an cdv ct) ⟨us,[]⟩=pure (ps.zip us)):Binds K fd ps []:=by
 obtain ⟨oc,od,kV,doc,pm,an,cdv,ct,osl,rfl,lk,hcd⟩:=F.ex;exact .all (h kV doc pm an cdv ct)
theorem vC {x:Str}{f:Addr}{oc:Value}{od an:Option Addr}{kV doc pm cdv ct:Value}(l:K.lookup f=some ⟨oc,od,.func (PySem.W.fnOf x qual (defArgs st) (defBody st) (defScope st) .none kV doc pm an cdv ct),osl⟩)
   (c:PySem.W.codeIn K cdv qual=true) (k:PySem.W.keepIn K (.ref f)=true):Fun K x qual st f (PySem.W.fnOf x qual (defArgs st) (defBody st) (defScope st) .none kV doc pm an cdv ct):=⟨⟨oc,od,kV,doc,pm,an,cdv,ct,osl,rfl,l,c⟩,k⟩
theorem small1000 {n:Nat}(h:n<=1000):n<sizeLine:=wV h (by decide)
theorem pv (i:Nat){x:Str}{pos:Pos}(hN:X.N[i]?=some x:=by rfl)(hv:Vis X.env.scope x:=by first | exact Or.inl rfl | exact Or.inr (Or.inl rfl) | exact Or.inr (Or.inr rfl))(hd:(x==("__debug__":Str))=false:=by decide)
   (hcd:(x==("__classdict__":Str))=false:=by decide):PE X (.Name x pos) (tVar i):=pe_var hN hv hd hcd
def Same (H H':Hp):Prop:=∀ b o,H b=some o->H' b=some o
theorem Same.refl (H:Hp):Same H H:=λ_ _ h=>h
theorem Same.trans {H2:Hp}(a:Same H H1)(b:Same H1 H2):Same H H2:=λc o h=>b c o (a c o h)
theorem Same.free (e:Same H H'){l:Addr}(h:H' l=Option.none):H l=Option.none:=by
 cases q:H l with
 | none=>rfl
 | some o =>
   rw [e l o q] at h;cases h
theorem Same.seq {a:Addr}(e:Same H H')(h:SqL K H a xs):SqL K H' a xs:=by
 rcases h with (h | ⟨o,h⟩) | h
 . exact .inl (.inl (e _ _ h))
 . exact .inl (.inr ⟨o,e _ _ h⟩)
 . exact .inr h
section
variable {κ:Type}[DecidableEq κ]
def valV (kvs:List (κ × V))(k:κ):Option V:=(kvs.find? λkv=>decide (kv.1=k)).map (·.2)
def putK (kvs:List (κ × V))(k:κ)(v:V):List (κ × V) :=
 if (kvs.any λkv=>decide (kv.1=k))=true then kvs.map (λkv=>if kv.1=k then (kv.1,v) else kv) else kvs++[(k,v)]
theorem iU {p:κ × V}{r:List (κ × V)}{k:κ}(e:p.1=k):valV (p::r) k=some p.2:=by simp [valV,tX,e]
theorem iT {p:κ × V}{r:List (κ × V)}{k:κ}(e:¬ p.1=k):valV (p::r) k=valV r k:=by simp [valV,tX,e]
theorem iS (k:κ):∀ kvs:List (κ × V),(kvs.any λkv=>decide (kv.1=k))=(valV kvs k).isSome
 | []=>rfl
 | p::r=>by
   rw [tV];by_cases e:p.1=k;{simp only [iU e,zK e,Bool.true_or,Option.isSome_some]};{rw [iT e,yu e,Bool.false_or];exact iS k r}
theorem cQ (kvs:List (κ × V))(k:κ)(v:V):(putK kvs k v).length<=kvs.length+1:=by
 unfold putK;split;{rw [za];lia};{rw [zj,zZ,xN];lia}
theorem putK_new {kvs:List (κ × V)}{k:κ}(v:V)(h:valV kvs k=none):putK kvs k v=kvs++[(k,v)]:=by unfold putK;rw [iS,h];exact if_neg (by decide)
theorem KV.val {kvs:List (κ × V)}{vs:List (κ × Value)}(r:KV kvs vs)(k:κ):RelO (valV kvs k) (valueAt vs k):=by
 unfold KV at r;induction r with
 | nil=>exact True.intro
 | @cons p q ps qs h t ih =>
   obtain ⟨h1,h2⟩:=h;by_cases e:p.1=k
   . have e':q.1=k:=h1.symm.trans e;have b:valueAt (q::qs) k=some q.2:=by simp [valueAt,tX,e']
     rw [iU e,b];exact h2
   . have e':¬ q.1=k:=λz=>e (h1.trans z)
     have b:valueAt (q::qs) k=valueAt qs k:=by simp [valueAt,tX,e']
     rw [iT e,b];exact ih
theorem KV.any {kvs:List (κ × V)}{vs:List (κ × Value)}(r:KV kvs vs)(k:κ):(kvs.any λkv=>decide (kv.1=k))=vs.any λkv=>decide (kv.1=k):=by
 unfold KV at r;induction r with
 | nil=>rfl
 | cons h t ih=>rw [tV,tV,ih,h.1]
theorem KV.repl {kvs:List (κ × V)}{vs:List (κ × Value)}(r:KV kvs vs)(k:κ){y:V}{u:Value}(ry:RelV y u) :
   KV (kvs.map λkv=>if kv.1=k then (kv.1,y) else kv) (vs.map λkv=>if kv.1=k then (kv.1,u) else kv):=by
 unfold KV at r ⊢;induction r with
 | nil=>exact .nil
 | @cons p q ps qs h t ih =>
   rw [yz,yz];refine .cons ?_ ih;obtain ⟨h1,h2⟩:=h;by_cases e:p.1=k;{rw [if_pos e,if_pos (h1.symm.trans e)];exact ⟨h1,ry⟩};{rw [if_neg e,if_neg (λz=>e (h1.trans z))];exact ⟨h1,h2⟩}
theorem KV.put {kvs:List (κ × V)}{vs:List (κ × Value)}(r:KV kvs vs)(k:κ){y:V}{u:Value}(ry:RelV y u):KV (putK kvs k y) (stored vs k u):=by
 unfold putK stored;rw [r.any k];by_cases e:(vs.any λkv=>decide (kv.1=k))=true;{rw [if_pos e,if_pos e];exact r.repl k ry};{rw [if_neg e,if_neg e];exact Paired.snoc r ⟨rfl,ry⟩}
theorem KV.length {kvs:List (κ × V)}{vs:List (κ × Value)}(r:KV kvs vs):kvs.length=vs.length:=vp r
end
theorem kV_is {k:Key}{u:Value}(r:RelV (kV k) u):(mixKind P w).is k u=true:=by
 cases k with
 | inl i=>obtain ⟨t,e⟩:=(show ∃ t,u=Value.int i t from r);subst e;exact dH P w i t
 | inr x=>obtain ⟨t,e⟩:=(show ∃ t,u=Value.str x t from r);subst e;exact dG P w x t
theorem iR {P:Program}{w:World}:∀ {ks:List Key} {us:List Value},Vals (ks.map kV) us->ItemsAre (mixKind P w) ks us
 | [],_,r=>by rw [rf] at r;cases r;exact .nil
 | k::ks,_,r=>by
   rw [yz] at r;cases r with
   | cons h t=>exact .cons (kV_is h) (iR t)
abbrev KT (H:Hp):List (List Key × V)->List (List Key × Addr × Value)->Prop:=Paired λp q=>p.1=q.1/\H q.2.1=some (.tup (p.1.map kV))/\RelV p.2 q.2.2
section
variable {h:Heap}{a:Addr}
theorem rd_of {u:HO}(ok:HOk P w H h)(e:Rd H a u):ObjOk P w H h a u:=e.ok ok
theorem dk_rd (ok:HOk P w H h)(e:Rd H a (.dK kvs)):kvs.length<=sizeLine/\(a==sysModules)=false/\∃ vs,KV kvs vs/\h.DictOf (mixKind P w) a vs :=
 show ObjOk P w H h a (.dK kvs) from rd_of ok e
theorem dk_of (ok:HOk P w H h)(e:H a=some (.dK kvs)):kvs.length<=sizeLine/\(a==sysModules)=false/\∃ vs,KV kvs vs/\h.DictOf (mixKind P w) a vs:=dk_rd ok (.inl e)
theorem key_of {ks:List Key}(ok:HOk P w H h)(e:H a=some (.tup (ks.map kV))):(tupleKind (mixKind P w)).is h ks a:=by
 obtain ⟨_,its,r,o,h1,h2,n,h3⟩:=(show ObjOk P w H h a (.tup (ks.map kV)) from ok a _ e)
 exact ⟨o,its.toArray,n,h1,h2,h3,by simpa using iR r⟩
theorem dt_rd {kvs:List (List Key × V)} (ok:HOk P w H h) (e:Rd H a (.dT kvs)):kvs.length<=sizeLine/\(a==sysModules)=false /\
   ∃ xs,KT H kvs xs/\h.DictOfH (tupleKind (mixKind P w)) a xs:=by
 obtain ⟨z,y,xs,r,o,es,ep,h1,h2,h3,h4,h5⟩:=(show ObjOk P w H h a (.dT kvs) from rd_of ok e)
 refine ⟨z,y,xs,r,o,es,ep,h1,h2,h3,h4,λx hx=>?_,h5⟩;have all:∀ {l:List (List Key × V)} {m:List (List Key × Addr × Value)},KT H l m->∀ x∈m,(tupleKind (mixKind P w)).is h x.1 x.2.1:=by
   intro l m q;induction q with
   | nil=>intro x hx;exact nomatch hx
   | @cons p q ps qs hq t ih =>
     intro x hx;rcases zW.mp hx with e | hx
     . subst e;exact key_of ok (by rw [<- hq.1];exact hq.2.1)
     . exact ih x hx
 exact all r x hx
end
section
variable {s:Shared}{a:Addr}{y:V}{u r:Value}{o:Option V}
theorem Inv.big (I:Inv X pins σ H s):sysModules<s.heap.objs.size:=by have h:mainGlobals<s.heap.objs.size:=(I.mod.glob.keeps I.bk).lt;exact rO (by decide) h
theorem d_write {ob:HO}(I:Inv X pins σ H s)(mu:Mut (H a))(hs:Heap.SameBut a s.heap h')(he:∃ q,h'.get? a=some q)(new:ObjOk X.prog X.w (upd H a ob) h' a ob) :
   Inv X pins σ (upd H a ob) { s with heap:=h',toks:=t' } :=
 I.write (x:=a) (e:=a) mu (.inl rfl) (λb q hb z=>(hs.2 b hb).trans z) he new
theorem dk_new {vs:List (Key × Value)}(z:kvs.length<=sizeLine)(hd:(a==sysModules)=false)(rel:KV kvs vs)(dd:h'.DictOf (mixKind P w) a vs) :
   ObjOk P w H' h' a (.dK kvs):=⟨z,hd,vs,rel,dd⟩
end
section
variable {s:Shared}{a:Addr}{k:Key}{u:Value}
end
section
variable {o i e value:Expr}{pos tpos:Pos}{td ty tv:TE}
end
theorem dk_empty (h:Heap)(hb:sysModules<h.objs.size):ObjOk P w H (h.push { cls:=.type "dict",data:=.dict #[] }) h.objs.size (.dK []) :=
 ⟨zS _,uy.mpr (Ne.symm (zE hb)),[],.nil,Heap.DictOf.new h⟩
def tDNewK:TE:=λ_ H Q=>∀ p,H p=none->Q (.ref p) (upd H p (.dK []))
section
variable {pos:Pos}
theorem pe_dnewK:PE X (.Dict [] [] pos) tDNewK:=λpins s σ H Q I h =>
 wpAny_Dict_empty ⟨.ref s.heap.objs.size,_,I.laid (a:=s.heap.objs.size) (o:=.dK []) (t':=s.toks) (λ_ _ q=>zT _ q) (zi _) (dk_empty s.heap I.big),rfl,h _ (I.hok.fresh (zi _))⟩
end
structure M2 (X:Cx)(o:Expr)(m:Str)(apos:Pos)(e f:Expr)(cpos:Pos):Prop where
 base:attributeBase o m X.env (eval o X.env)=eval o X.env
 few:((backTo cpos (starEach [e,f] X.env)).all (λx=>!x.1)&&(backToKw cpos (keywordEach [] X.env)).all (λx=>x.1.isSome)
   && decide (([e,f]:List Expr).length+([]:List Keyword).length+(if ([]:List Keyword).isEmpty then 0 else 1)<30))=true
 line:(apos.endLine==cpos.line)=true
 trees:backTo cpos (starEach [e,f] X.env)=[(false,eval e X.env),(false,eval f X.env)]
def IsD (H:Hp)(a:Addr):Prop:=(∃ kvs,Rd H a (.dK kvs))\/∃ kvs,Rd H a (.dT kvs)
theorem isD_at {s:Shared}{a:Addr}(I:Inv X pins σ H s)(d:IsD H a) :
   s.TypeIs (.ref a) "dict"/\(∀ b,Value.ref a=.ref b->∃ ob,s.heap.get? b=some ob/\ob.dict=none)/\(a==sysModules)=false:=by
 rcases d with ⟨kvs,e⟩ | ⟨kvs,e⟩
 . obtain ⟨_,hd,vs,_,dd⟩:=dk_rd I.hok e;refine ⟨dd.typeIs,λb q=>?_,hd⟩;cases q;obtain ⟨ob,_,_,h1,h2,_⟩:=dd;exact ⟨ob,h1,h2.2.1⟩
 . obtain ⟨_,hd,xs,_,dd⟩:=dt_rd I.hok e;refine ⟨dd.typeIs,λb q=>?_,hd⟩;cases q;obtain ⟨ob,_,_,h1,h2,_⟩:=dd;exact ⟨ob,h1,h2.2.1⟩
section
variable {s:Shared}{a:Addr}{y d:V}{u r:Value}{o:Option V}
end
section
variable {o e f:Expr}{cpos:Pos}{td ty tx:TE}
end
section
variable {s:Shared}{a:Addr}
end
section
variable {s:Shared}{a:Addr}{y:V}{u:Value}
end
section
variable {κ:Type}[DecidableEq κ]
end
end L2
namespace BM
open PySem L2 PyProof.Rows
def wd:List Nat->Nat
 | []=>0
 | p::r=>2^p+wd r
def Up:Nat->List Nat->Prop
 | _,[]=>True
 | a,p::r=>a<=p/\Up (p+1) r
theorem Up.mono:∀ {a b:Nat} {ps:List Nat},Up b ps->a<=b->Up a ps
 | _,_,[],_,_=>trivial
 | _,_,_::_,h,e=>⟨zO e h.1,h.2⟩
theorem Up.filter {p:Nat->Bool}:∀ {a:Nat} {ps:List Nat},Up a ps->Up a (ps.filter p)
 | _,[],_=>trivial
 | a,q::r,h=>by
   rw [w8];split;{exact ⟨h.1,Up.filter h.2⟩};{exact (Up.filter h.2).mono (zO h.1 (wA _))}
theorem Up.dvd:∀ {a:Nat} {ps:List Nat},Up a ps->2^a ∣ wd ps
 | _,[],_=>Nat.dvd_zero _
 | a,p::r,h=>Nat.dvd_add (rY 2 h.1) (Nat.dvd_trans (rY 2 (zO h.1 (wA _))) (Up.dvd h.2))
theorem Up.lt:∀ {a k:Nat} {ps:List Nat},Up a ps->(∀ p∈ps,p<k)->a<=k->wd ps+2^a<=2^k
 | _,_,[],_,_,e=>by
   show 0+_<=_;rw [xk];exact uf (by decide) e
 | a,k,p::r,h,hk,_=>by
   have h1:p<k:=hk p xp;have ih:=Up.lt (a:=p+1) (k:=k) h.2 (λq hq=>hk q (xx _ hq)) h1;have h2:2^a<=2^p:=uf (by decide) h.1;rw [yK] at ih;show 2^p+wd r+2^a<=2^k;lia
theorem Up.lt' {k:Nat}{ps:List Nat}(h:Up 0 ps)(hk:∀ p∈ps,p<k):wd ps<2^k:=by have:=Up.lt h hk (zS _);lia
theorem and_pred (x p:Nat):(2^(p+1)*x+2^p) &&& (2^(p+1)*x+2^p-1)=2^(p+1)*x:=by
 have hp:0<2^p:=yB (by decide);have e1:2^(p+1)*x+2^p-1=2^(p+1)*x+(2^p-1):=by lia
 have l1:2^p<2^(p+1):=Nat.pow_lt_pow_right (by decide) (wQ _);rw [e1];apply oU
 intro i;have q:=wY x (b:=0) (i:=p+1) (yB (by decide)) i;rw [xJ] at q;rw [rX,wY x l1 i,wY x (b:=2^p-1) (i:=p+1) (by lia) i,q];split
 . rw [oQ,Nat.testBit_two_pow_sub_one,Nat.zero_testBit];by_cases e:p=i
   . subst e;simp
   . simp [e]
 . simp
theorem iQ {p:Nat}{r:List Nat}(h:Up (p+1) r):wd (p::r) &&& (wd (p::r)-1)=wd r:=by obtain ⟨x,hx⟩:=h.dvd;show (2^p+wd r) &&& (2^p+wd r-1)=wd r;rw [hx,vI (2^p)];exact and_pred x p
theorem wd_pos {p:Nat}{r:List Nat}:0<wd (p::r):=by have:0<2^p:=yB (by decide);show 0<2^p+wd r;lia
theorem qy:∀ (xs ys:List Nat),wd (xs++ys)=wd xs+wd ys
 | [],ys=>(xk _).symm
 | x::xs,ys=>by
   show 2^x+wd (xs++ys)=2^x+wd xs+wd ys;rw [qy xs ys,wC]
theorem Up.left:∀ {a:Nat} {xs ys:List Nat},Up a (xs++ys)->Up a xs
 | _,[],_,_=>trivial
 | _,_::_,_,h=>⟨h.1,Up.left h.2⟩
theorem Up.last:∀ {a p:Nat} {xs ys:List Nat},Up a (xs++p::ys)->∀ q∈xs,q<p
 | _,_,[],_,_,_,hq=>by simp at hq
 | a,p,x::xs,ys,h,q,hq=>by
   have h2:Up (x+1) (xs++p::ys):=h.2;rcases zW.mp hq with e | e
   . subst e;have:∀ {b:Nat} {zs:List Nat},Up b (zs++p::ys)->b<=p:=by
       intro b zs;induction zs generalizing b with
       | nil=>exact λz=>z.1
       | cons z zs ih=>exact λw=>zO w.1 (Nat.le_of_succ_le (ih w.2))
     exact this h2
   . exact Up.last h2 q e
theorem wd_mod (k:Nat):∀ {a:Nat} {ps:List Nat},Up a ps->wd ps%2^k=wd (ps.filter λp=>decide (p<k)):=by
 intro a ps h;have split:wd ps=wd (ps.filter λp=>decide (p<k))+wd (ps.filter λp=>!decide (p<k)):=by
   clear h;induction ps with
   | nil=>rfl
   | cons p r ih =>
     rw [w8,w8];by_cases e:p<k;{simp only [e,decide_true,wo,ua,xQ,x4];show 2^p+wd r=2^p+wd _+wd _;lia}
     . simp only [e,decide_false,x4,kE,wo,xQ];show 2^p+wd r=wd _+(2^p+wd _)
       lia
 have h1:wd (ps.filter λp=>decide (p<k))<2^k:=Up.lt' ((h.filter).mono (zS _)) λp hp=>by
   have:=(yD.mp hp).2;exact wU this
 have h2:2^k ∣ wd (ps.filter λp=>!decide (p<k)):=by
   have:∀ (qs:List Nat),(∀ q∈qs,k<=q)->2^k ∣ wd qs:=by
     intro qs;induction qs with
     | nil=>exact λ_=>Nat.dvd_zero _
     | cons q r ih=>exact λw=>Nat.dvd_add (rY 2 (w q xp)) (ih λz hz=>w z (xx _ hz))
   refine this _ λq hq=>?_
   have:=(yD.mp hq).2;simp at this;exact this
 rw [split];obtain ⟨x,hx⟩:=h2;rw [hx,r9,tY h1]
theorem wd_mask {ps:List Nat}(k:Nat)(h:Up 0 ps):wd ps &&& (2^k-1)=wd (ps.filter λp=>decide (p<k)):=by rw [kY,wd_mod k h]
theorem iP {x y:Int}(hx:0<=x)(hy:0<=y):Builtin.bitOr x y=((x.toNat ||| y.toNat:Nat):Int):=by
 have nn:∀ z:Int,Builtin.bitNot (Builtin.bitNot z)=z:=λz=>by unfold Builtin.bitNot;lia
 have e:Builtin.bitOr x y=Builtin.bitNot (Builtin.bitAnd (Builtin.bitNot x) (Builtin.bitNot y)):=rfl;rw [e,bitAnd_nn (by unfold Builtin.bitNot;lia) (by unfold Builtin.bitNot;lia),nn,nn,nn]
def pint (ps:List Nat):List V:=ps.map λ(p:Nat)=>V.int (p:Int)
theorem vB {ps:List Nat}{i:Nat}{x:V}(hi:(pint ps)[i]?=some x):∃ p:Nat,ps[i]?=some p/\x=.int p:=by
 unfold pint at hi;rw [yR] at hi;cases e:ps[i]? with
 | none=>rw [e] at hi;cases hi
 | some p=>rw [e] at hi;exact ⟨p,rfl,(Option.some.inj hi).symm⟩
theorem iO {ps:List Nat}{x:V}(hx:x∈pint ps):∃ p:Nat,p∈ps/\x=.int p:=by obtain ⟨p,h,e⟩:=zJ.mp hx;exact ⟨p,h,e.symm⟩
theorem yh (ps:List Nat):(pint ps).length=ps.length:=za _
def onI (p:Int->Bool):V->Bool
 | .int z=>p z
 | _=>false
theorem tJ:∀ {a:Nat} {ps:List Nat},Up a ps->∀ i,(wd ps).testBit i=decide (i∈ps)
 | _,[],_,i=>by simp [wd]
 | a,p :: r,h,i=>by
   obtain ⟨x,hx⟩:=Up.dvd h.2;have ih:=tJ h.2 i;have l1:2^p<2^(p+1):=Nat.pow_lt_pow_right (by decide) (wQ _);have e:wd (p::r)=2^(p+1)*x+2^p:=by show 2^p+wd r=_;rw [hx];lia
   have q:=wY x (b:=0) (i:=p+1) (yB (by decide)) i;rw [xJ,<- hx,ih] at q;rw [e,wY x l1 i];split
   . rename_i hlt
     rw [if_pos hlt] at q;have nm:i∉r:=by simpa using q
     rw [oQ];by_cases hp:p=i;{subst hp;simp}
     . have:¬ i=p:=λz=>hp z.symm
       simp [hp,nm,this]
   . rename_i hge
     rw [if_neg hge] at q;rw [<- q];have:¬ i=p:=by lia
     simp [this]
theorem Up.of_lt:∀ {a:Nat} {ps:List Nat},Up a ps->∀ p∈ps,a<=p
 | _,[],_,_,h=>by simp at h
 | a,q::r,h,p,hp=>by
   rcases zW.mp hp with e | e
   . subst e;exact h.1
   . have:=Up.of_lt h.2 p e;have:=h.1;lia
theorem Up.ext:∀ {a:Nat} {ps qs:List Nat},Up a ps->Up a qs->(∀ i,i∈ps↔i∈qs)->ps=qs
 | _,[],[],_,_,_=>rfl
 | _,[],q::_,_,_,h=>by have:=(h q).mpr xp;simp at this
 | _,p::_,[],_,_,h=>by have:=(h p).mp xp;simp at this
 | a,p :: r,q::s,hp,hq,h=>by
   have e:p=q:=by
     have h1:=(h p).mp xp;have h2:=(h q).mpr xp;rcases zW.mp h1 with z | z
     . exact z
     . rcases zW.mp h2 with y | y
       . exact y.symm
       . have:=Up.of_lt hq.2 p z;have:=Up.of_lt hp.2 q y;lia
   subst e;have:r=s:=Up.ext hp.2 hq.2 λi=>by
     have:=h i;constructor
     . intro m;have l:=Up.of_lt hp.2 i m;rcases zW.mp (this.mp (xx _ m)) with z | z
       . lia
       . exact z
     . intro m;have l:=Up.of_lt hq.2 i m;rcases zW.mp (this.mpr (xx _ m)) with z | z
       . lia
       . exact z
   rw [this]
theorem nJ {ps:List Nat}{w:Nat}(h:Up 0 ps)(hw:∀ i,w.testBit i=decide (i∈ps)):w=wd ps :=
 oU λi=>by rw [hw,tJ h]
theorem up_range (p:Nat->Bool)(n:Nat):Up 0 ((List.range n).filter p):=by
 have:∀ a,Up a ((List.range' a n).filter p):=by
   induction n with
   | zero=>exact λa=>trivial
   | succ n ih =>
     intro a;rw [vL,w8];split;{exact ⟨zi _,ih (a+1)⟩};{exact (ih (a+1)).mono (wA _)}
 rw [List.range_eq_range'];exact this 0
theorem iN:∀ (n a:Nat),Up a (List.range' a n)
 | 0,_=>trivial
 | n+1,a=>by rw [vL];exact ⟨zi _,iN n (a+1)⟩
def pl (n w:Nat):List Nat:=(List.range n).filter w.testBit
theorem up_pl (n w:Nat):Up 0 (pl n w):=up_range _ _
theorem mem_pl {n w i:Nat}:i∈pl n w↔i<n/\w.testBit i=true:=by unfold pl;simp
theorem pl_wd {n:Nat}{ps:List Nat}(h:Up 0 ps)(hn:∀ p∈ps,p<n):pl n (wd ps)=ps :=
 Up.ext (up_pl _ _) h λi=>by
   rw [mem_pl,tJ h];simp;exact hn i
theorem log2_wd {ps:List Nat}{p:Nat}(h:Up 0 (ps++[p])):(wd (ps++[p])).log2=p:=by
 have hl:wd ps<2^p:=Up.lt' (h.left) h.last;rw [qy];have e:wd [p]=2^p:=by show 2^p+0=2^p;lia
 rw [e];have h0:wd ps+2^p≠0:=by have:0<2^p:=yB (by decide);lia
 have a1:=(Nat.le_log2 h0 (k:=p)).mpr (by lia);have a2:=(Nat.log2_lt h0 (k:=p+1)).mpr (by rw [yK];lia);lia
theorem iM:∀ (n a:Nat),wd (List.range' a n)+2^a=2^(a+n)
 | 0,a=>by simp [wd]
 | n+1,a=>by
   rw [vL];have:=iM n (a+1);show 2^a+wd _+2^a=_;have e:a+(n+1)=a+1+n:=by lia
   rw [e,<- this,yK];lia
theorem Up.drop:∀ (i:Nat) {ps:List Nat},Up 0 ps->Up 0 (ps.drop i)
 | 0,_,h=>h
 | _+1,[],_=>trivial
 | i+1,_::_,h=>Up.drop i (h.2.mono (zS _))
def numA (n:Nat):List Bool->Nat
 | []=>n
 | b::r=>numA (2*n+b.toNat) r
theorem qx (b:Bool):∀ (bs:List Bool) (n:Nat),numA n (bs++[b])=2*numA n bs+b.toNat
 | [],_=>rfl
 | c::r,n=>qx b r (2*n+c.toNat)
theorem nI:∀ (bs:List Bool) (n:Nat),numA n bs=n*2^bs.length+numA 0 bs
 | [],n=>by simp [numA]
 | c::r,n=>by
   show numA (2*n+c.toNat) r=n*2^(r.length+1)+numA (2*0+c.toNat) r;rw [nI r (2*n+c.toNat),nI r (2*0+c.toNat),yK,Nat.add_mul,Nat.mul_zero,xk,vd 2 n,Nat.mul_assoc,vd 2 (2^r.length)];lia
theorem nH (b:Bool)(r:List Bool):numA 0 (b::r)=b.toNat*2^r.length+numA 0 r:=by show numA (2*0+b.toNat) r=_;rw [nI,Nat.mul_zero,xk]
theorem qw:∀ (bs:List Bool),numA 0 bs<2^bs.length
 | []=>by simp [numA]
 | b::r=>by
   rw [nH,zZ,yK];have:=qw r;have:b.toNat*2^r.length<=1*2^r.length:=Nat.mul_le_mul_right _ (by cases b<;>decide);lia
theorem iL:∀ (bs:List Bool) (i:Nat),i<bs.length->(numA 0 bs).testBit (bs.length-1-i)=bs.getD i false
 | [],i,h=>by simp at h
 | b::r,0,_=>by
   rw [nH,List.getD_cons_zero,zZ];have e:r.length+1-1-0=r.length:=by lia
   rw [e,vd];have:=wY b.toNat (qw r) r.length;rw [this,if_neg (xM _),wg];cases b<;>rfl
 | b::r,i+1,h=>by
   have h':i<r.length:=by simpa using h
   rw [nH,List.getD_cons_succ,zZ];have e:r.length+1-1-(i+1)=r.length-1-i:=by lia
   rw [e,vd];rw [wY b.toNat (qw r),if_pos (by lia)];exact iL r i h'
def orW (ps:List Nat):Nat:=ps.foldl (λw p=>w ||| 2^p) 0
theorem orW_snoc (ps:List Nat)(p:Nat):orW (ps++[p])=orW ps ||| 2^p:=by unfold orW;rw [tj];rfl
theorem cO (ps:List Nat) (i:Nat):(orW ps).testBit i=decide (i∈ps):=by
 have:∀ (qs:List Nat) (w:Nat),(qs.foldl (λw p=>w ||| 2^p) w).testBit i=(w.testBit i||decide (i∈qs)):=by
   intro qs;induction qs with
   | nil=>intro w;simp
   | cons p r ih =>
     intro w;rw [wk,ih,Nat.testBit_or,oQ];by_cases h:p=i;{subst h;simp}
     . have:¬ i=p:=λz=>h z.symm
       simp [h,this]
 unfold orW;rw [this];simp
theorem orW_up {ps:List Nat}(h:Up 0 ps):orW ps=wd ps:=nJ h (cO ps)
def orR (rs:List (Nat × Nat)):Nat:=rs.foldl (λw r=>w ||| wd (List.range' r.1 (r.2+1-r.1))) 0
theorem orR_snoc (rs:List (Nat × Nat))(r:Nat × Nat):orR (rs++[r])=orR rs ||| wd (List.range' r.1 (r.2+1-r.1)):=by unfold orR;rw [tj];rfl
def cov (rs:List (Nat × Nat))(i:Nat):Prop:=∃ r∈rs,r.1<=i/\i<=r.2
theorem cN (rs:List (Nat × Nat)) (i:Nat):(orR rs).testBit i=true↔cov rs i:=by
 have:∀ (qs:List (Nat × Nat)) (w:Nat),(qs.foldl (λw r=>w ||| wd (List.range' r.1 (r.2+1-r.1))) w).testBit i=true↔(w.testBit i=true\/cov qs i):=by
   intro qs;induction qs with
   | nil=>intro w;simp [cov]
   | cons r q ih =>
     intro w;rw [wk,ih,Nat.testBit_or,Bool.or_eq_true,tJ (iN _ _)];have e:(decide (i∈List.range' r.1 (r.2+1-r.1))=true)↔(r.1<=i/\i<=r.2):=by rw [vg,List.mem_range'_1];lia
     rw [e];unfold cov;constructor
     . rintro ((h | h) | ⟨z,hz,h⟩)
       . exact .inl h
       . exact .inr ⟨r,xp,h⟩
       . exact .inr ⟨z,xx _ hz,h⟩
     . rintro (h | ⟨z,hz,h⟩)
       . exact .inl (.inl h)
       . rcases zW.mp hz with e2 | e2
         . subst e2;exact .inl (.inr h)
         . exact .inr ⟨z,e2,h⟩
 unfold orR;rw [this];simp
def addP (rs:List (Nat × Nat))(p:Nat):List (Nat × Nat):=match rs.getLast? with
 | some (a,b)=>if b+1=p then rs.dropLast++[(a,p)] else rs++[(p,p)]
 | none=>[(p,p)]
def runsOf (ps:List Nat):List (Nat × Nat):=ps.foldl addP []
theorem tI (p:Nat):addP [] p=[(p,p)]:=rfl
theorem vX {a b p:Nat}(h:b+1=p):addP (rs++[(a,b)]) p=rs++[(a,p)]:=by unfold addP;rw [oS];show (if b+1=p then _ else _)=_;rw [if_pos h,List.dropLast_concat]
theorem vW {a b p:Nat}(h:b+1≠p):addP (rs++[(a,b)]) p=rs++[(a,b)]++[(p,p)]:=by unfold addP;rw [oS];show (if b+1=p then _ else _)=_;rw [if_neg h]
theorem qv (ps:List Nat)(p:Nat):runsOf (ps++[p])=addP (runsOf ps) p:=by unfold runsOf;rw [tj];rfl
theorem runs_le:∀ {rs:List (Nat × Nat)} {p:Nat},(∀ r∈rs,r.1<=r.2)->∀ r∈addP rs p,r.1<=r.2:=by
 intro rs p h r hr;rcases vm rs with e | ⟨q,⟨a,b⟩,e⟩
 . subst e;rw [tI] at hr;have:r=(p,p):=by simpa using hr
   subst this;exact zi _
 . rw [vk] at e
   subst e;have hab:=h (a,b) (by simp);by_cases e:b+1=p
   . rw [vX e] at hr;rcases zR.mp hr with z | z
     . exact h r (zR.mpr (.inl z))
     . have:r=(a,p):=by simpa using z
       subst this;show a<=p;have hab:a<=b:=hab;lia
   . rw [vW e] at hr;rcases zR.mp hr with z | z
     . exact h r z
     . have:r=(p,p):=by simpa using z
       subst this;exact zi _
theorem nE (rs qs:List (Nat × Nat))(i:Nat):cov (rs++qs) i↔cov rs i\/cov qs i:=by
 unfold cov;simp only [zR];constructor
 . rintro ⟨r,h | h,z⟩
   . exact .inl ⟨r,h,z⟩
   . exact .inr ⟨r,h,z⟩
 . rintro (⟨r,h,z⟩ | ⟨r,h,z⟩)
   . exact ⟨r,.inl h,z⟩
   . exact ⟨r,.inr h,z⟩
theorem qu (a b i:Nat):cov [(a,b)] i↔a<=i/\i<=b:=by unfold cov;simp
theorem cov_addP (p i:Nat) (h:∀ r∈rs,r.1<=r.2):cov (addP rs p) i↔cov rs i\/i=p:=by
 rcases vm rs with e | ⟨q,⟨a,b⟩,e⟩
 . subst e;rw [tI,qu];unfold cov;simp;lia
 . rw [vk] at e
   subst e;have hab:a<=b:=h (a,b) (by simp);by_cases e:b+1=p
   . rw [vX e,nE,nE,qu,qu]
     constructor
     . rintro (z | z)
       . exact .inl (.inl z)
       . by_cases hp:i=p
         . exact .inr hp
         . exact .inl (.inr (by lia))
     . rintro ((z | z) | z)
       . exact .inl z
       . exact .inr (by lia)
       . exact .inr (by lia)
   . rw [vW e,nE,qu];constructor
     . rintro (z | z)
       . exact .inl z
       . exact .inr (by lia)
     . rintro (z | z)
       . exact .inl z
       . exact .inr (by lia)
theorem snocInd {α:Type} {motive:List α->Prop} (nil:motive []) (snoc:∀ xs x,motive xs->motive (xs++[x])):∀ xs,motive xs:=by
 have:∀ n xs,xs.length=n->motive xs:=by
   intro n;induction n with
   | zero=>intro xs h;cases xs with
     | nil=>exact nil
     | cons _ _=>cases h
   | succ n ih =>
     intro xs h;rcases vm xs with e | ⟨ys,y,e⟩
     . subst e;exact nil
     . rw [vk] at e;subst e;rw [zj] at h;exact snoc ys y (ih ys (by simpa using h))
 exact λxs=>this _ xs rfl
theorem tH (ps:List Nat):∀ r∈runsOf ps,r.1<=r.2:=by
 induction ps using snocInd with
 | nil=>intro r h;simp [runsOf] at h
 | snoc ps p ih=>rw [qv];exact runs_le ih
theorem iK (ps:List Nat)(i:Nat):cov (runsOf ps) i↔i∈ps:=by
 induction ps using snocInd with
 | nil=>unfold cov runsOf;simp
 | snoc ps p ih=>rw [qv,cov_addP p i (tH ps),ih];simp
theorem cM {ps:List Nat}(h:Up 0 ps):orR (runsOf ps)=wd ps:=nJ h λi=>by
 rw [vf,cN,iK];simp
theorem iJ {ps:List Nat}{n:Nat}(h:∀ p∈ps,p<n):∀ r∈runsOf ps,r.2<n:=λr hr=>by
 have h1:=tH ps r hr;exact h _ ((iK ps r.2).mp ⟨r,hr,h1,zi _⟩)
theorem addP_len (rs:List (Nat × Nat))(p:Nat):(addP rs p).length<=rs.length+1:=by
 rcases vm rs with e | ⟨q,⟨a,b⟩,e⟩
 . subst e;exact zi _
 . rw [vk] at e;subst e;by_cases e:b+1=p
   . rw [vX e];simp
   . rw [vW e];simp
theorem nC (ps:List Nat):(runsOf ps).length<=ps.length:=by
 induction ps using snocInd with
 | nil=>exact zi _
 | snoc ps p ih =>
   rw [qv,zj];have:=addP_len (runsOf ps) p;show _<=ps.length+1;lia
inductive Dec:List Nat->List (Nat × Nat)->Prop
 | nil:Dec [] []
 | cons {p n:Nat} {rest:List Nat} {rs:List (Nat × Nat)} (u:Up (p+n+2) rest) (h:Dec rest rs):Dec (List.range' p (n+1)++rest) ((p,p+n)::rs)
theorem iI:∀ (r:List Nat) (p:Nat),Up (p+1) r->∃ n rest,p::r=List.range' p (n+1)++rest/\Up (p+n+2) rest/\rest.length<=r.length
 | [],p,_=>⟨0,[],rfl,trivial,zi _⟩
 | q :: r,p,u=>by
   by_cases e:q=p+1
   . subst e;obtain ⟨n,rest,h1,h2,h3⟩:=iI r (p+1) u.2;refine ⟨n+1,rest,?_,?_,?_⟩
     . rw [vL,vi,<- h1]
     . have e:p+(n+1)+2=p+1+n+2:=by lia
       rw [e];exact h2
     . rw [zZ];lia
   . exact ⟨0,q::r,rfl,⟨by have:=u.1;lia,u.2⟩,zi _⟩
theorem dec_of:∀ (m:Nat) (ps:List Nat) {a:Nat},ps.length<=m->Up a ps->∃ rs,Dec ps rs
 | _,[],_,_,_=>⟨[],.nil⟩
 | 0,_::_,_,h,_=>by simp at h
 | m+1,p::r,_,h,u=>by
   obtain ⟨n,rest,h1,h2,h3⟩:=iI r p u.2;obtain ⟨rs,hd⟩:=dec_of m rest (by rw [zZ] at h;lia) h2;exact ⟨_,by rw [h1];exact .cons h2 hd⟩
theorem cJ {rs0 q:List (Nat × Nat)}(p:Nat)(h:q≠[]):addP (rs0++q) p=rs0++addP q p:=by
 rcases vm q with e | ⟨q0,⟨a,b⟩,e⟩
 . exact absurd e h
 . rw [vk] at e;subst e;by_cases e:b+1=p
   . rw [vX e,<- zY,vX e,zY]
   . rw [vW e,<- zY,vW e,zY,zY,zY]
theorem addP_ne (q:List (Nat × Nat))(p:Nat):addP q p≠[]:=by
 rcases vm q with e | ⟨q0,⟨a,b⟩,e⟩
 . subst e;rw [tI];simp
 . rw [vk] at e;subst e;by_cases e:b+1=p
   . rw [vX e];simp
   . rw [vW e];simp
theorem iH:∀ (ys:List Nat) {rs0 q:List (Nat × Nat)},q≠[]->ys.foldl addP (rs0++q)=rs0++ys.foldl addP q
 | [],_,_,_=>rfl
 | y::ys,rs0,q,h=>by rw [wk,cJ y h,wk,iH ys (addP_ne q y)]
theorem fold_gap {b:Nat}{a:Nat}:∀ {ys:List Nat},Up (b+2) ys->ys.foldl addP [(a,b)]=(a,b)::ys.foldl addP []
 | [],_=>rfl
 | y :: ys,u=>by
   have e:addP [(a,b)] y=[(a,b)]++[(y,y)]:=by have:=vW (rs:=[]) (a:=a) (b:=b) (p:=y) (by have:=u.1;lia);simpa using this
   rw [wk,e,iH ys (by simp),wk,tI];rfl
theorem iG:∀ (n p a b:Nat),b+1=p->(List.range' p n).foldl addP [(a,b)]=[(a,b+n)]
 | 0,_,_,_,_=>rfl
 | n+1,p,a,b,e=>by
   rw [vL,wk];have:=vX (rs:=[]) (a:=a) (b:=b) e;rw [show addP [(a,b)] p=[(a,p)] by simpa using this,iG n (p+1) a p rfl];congr 2
   lia
theorem cI (p n:Nat):runsOf (List.range' p (n+1))=[(p,p+n)]:=by unfold runsOf;rw [vL,wk,tI,iG n (p+1) p p rfl]
theorem Dec.runs:∀ {ps:List Nat} {rs:List (Nat × Nat)},Dec ps rs->runsOf ps=rs
 | _,_,.nil=>rfl
 | _,_,.cons (p:=p) (n:=n) (rest:=rest) u h=>by
   have ih:=Dec.runs h;unfold runsOf;rw [tj];show rest.foldl addP (runsOf (List.range' p (n+1)))=_;rw [cI,fold_gap u];show _::runsOf rest=_;rw [ih]
def expand (rs:List (Nat × Nat)):List Nat:=rs.flatMap λr=>List.range' r.1 (r.2+1-r.1)
theorem Dec.expand:∀ {ps:List Nat} {rs:List (Nat × Nat)},Dec ps rs->expand rs=ps
 | _,_,.nil=>rfl
 | _,_,.cons (p:=p) (n:=n) u h=>by
   have ih:=Dec.expand h;unfold BM.expand at ih ⊢;rw [xo,ih];congr 2
   show p+n+1-p=n+1;lia
def Apart:Nat->List (Nat × Nat)->Prop
 | _,[]=>True
 | a,r::rs=>a<=r.1/\r.1<=r.2/\Apart (r.2+2) rs
theorem Dec.apart:∀ {ps:List Nat} {rs:List (Nat × Nat)} {a:Nat},Dec ps rs->Up a ps->Apart a rs
 | _,_,_,.nil,_=>trivial
 | _,_,_,.cons (p:=p) (n:=n) u h,w=>by
   refine ⟨?_,Nat.le_add_right _ _,Dec.apart h u⟩;rw [vL] at w;exact w.1
theorem runs_ok {ps:List Nat}(u:Up 0 ps):expand (runsOf ps)=ps/\Apart 0 (runsOf ps):=by obtain ⟨rs,h⟩:=dec_of _ ps (zi _) u;rw [h.runs];exact ⟨h.expand,h.apart u⟩
end BM
namespace L2
open PySem PySem.Spec PyProof.Rows
section
variable {R:Result->Shared->Prop}{s:Shared}
theorem cH  {elt target iter:Expr}{ifs:List Expr}{pos:Pos}{it acc:Value}{env:Env}(I:Nat->Shared->Prop)(Ee:Value->Shared->Prop)(hx:∀ e s,Ee e s->notedBy (model prog w) A env (λe' s'=>R (.error e') s') e s)
   (turn : ∀ n s,I n s->wpAny (model prog w) A (pyNext it) (λr s₁=>match r with
     | none=>R (.ok .next) s₁
     | some v=>wpAny (model prog w) A (letOwnedTupleGo target it v) (λ_ s₀=>wpAny (model prog w) A (assign target env v) (λ_ s₂ =>
         wpAny (model prog w) A (forIn ifs true λc r=>if r=true then do let ok <- isTrue c env (eval c env);pure (ForInStep.yield ok) else pure (ForInStep.yield r)) (λok s₃ =>
           if ok=true then wpAny (model prog w) A (eval elt env) (λx s₄ =>
             wpAny (model prog w) A (call (.builtin "list.append") [acc,x]) (λ_ s₅=>∃ m,m<n/\I m s₅) Ee s₄) Ee s₃
           else ∃ m,m<n/\I m s₃) Ee s₂) Ee s₀) Ee s₁) Ee s)
   (n:Nat) (h:I n s):codeAny (model prog w) A (.compLoop (.ListComp elt [⟨target,iter,ifs,0⟩] scope pos) 0 it acc env) R s:=by
 refine codeAny_loop rfl I (λn s hI=>?_) n h;show wpAny _ A ((compTurn (.ListComp elt [⟨target,iter,ifs,0⟩] scope pos) 0 it acc env).onRaise (λx=>do noteFrame x env;theTreesLotGoes x)) _ _ s;refine wpAny_noted ?_;rw [compTurn_list];refine zt (wpAny_standAt (zt (yY (turn n s hI) (λr s₁ h₁=>?_) hx)));cases r with
 | none=>exact zc h₁
 | some v =>
   refine zt (yY h₁ (λ_ s₀ h₀=>?_) hx);refine zt (yY h₀ (λ_ s₂ h₂=>zt (yY h₂ (λok s₃ h₃=>?_) hx)) hx);cases ok with
   | false=>exact zc ⟨rfl,h₃⟩
   | true=>exact zt (zt (yY h₃ (λx s₄ h₄=>zt (yY h₄ (λ_ s₅ h₅=>zc (zc ⟨rfl,h₅⟩)) hx)) hx))
end
theorem m9 {env:Env}:∀ (names:List (Str × NameKind)) (acc:List (Str × Addr)),(∀ z∈names,z.2=.free->∃ c,env.cells.lookup z.1=some c) ->
   ∃ cl,(forIn names acc λx r=>if (x.2==NameKind.free)=true then do let a <- cellOf env x.1;pure (ForInStep.yield ((x.1,a)::r)) else pure (ForInStep.yield r):Sem (List (Str × Addr)))=pure cl /\
     (∀ y c,cl.lookup y=some c->acc.lookup y=some c\/env.cells.lookup y=some c)/\(∀ y,((∃ c,acc.lookup y=some c)\/(y,NameKind.free)∈names)->∃ c,cl.lookup y=some c)
 | [],acc,_=>⟨acc,by rw [List.forIn_nil],λ_ _ h=>.inl h,λy h=>by
     rcases h with h | h
     . exact h
     . simp at h⟩
 | (n, k)::r,acc,h=>by
   have hr:∀ z∈r,z.2=.free->∃ c,env.cells.lookup z.1=some c:=λz hz=>h z (xx _ hz)
   by_cases hk:k=.free
   . subst hk
     obtain ⟨c,hc⟩:=h (n,.free) xp rfl;obtain ⟨cl,e,h1,h2⟩:=m9 r ((n,c)::acc) hr;refine ⟨cl,?_,λy d hd=>?_,λy hy=>?_⟩
     . rw [oF];have e1:cellOf env n=pure c:=by unfold cellOf;rw [hc]
       simp only [ot,wo,e1,pure_bind];exact e
     . rcases h1 y d hd with z | z
       . rw [xO] at z;cases hy:y==n with
         | true =>
           rw [hy] at z;have:y=n:=by simpa using hy
           subst this;cases z;exact .inr hc
         | false=>rw [hy] at z;exact .inl z
       . exact .inr z
     . refine h2 y ?_;rcases hy with ⟨d,hd⟩ | hy
       . cases q:y==n with
         | true=>exact .inl ⟨c,by rw [xO,q]⟩
         | false=>exact .inl ⟨d,by rw [xO,q];exact hd⟩
       . rcases zW.mp hy with z | z
         . cases z;exact .inl ⟨c,by rw [xO,ot]⟩
         . exact .inr z
   . obtain ⟨cl,e,h1,h2⟩:=m9 r acc hr;refine ⟨cl,?_,h1,λy hy=>h2 y ?_⟩
     . rw [oF];have:(k==NameKind.free)=false:=by simpa using hk
       simp only [this,xQ,x4,pure_bind];exact e
     . rcases hy with z | z
       . exact .inl z
       . rcases zW.mp z with q | q
         . cases q;exact absurd rfl hk
         . exact .inr q
theorem cF {env:Env}(h:∀ z∈scope.names,z.2=.free->∃ c,env.cells.lookup z.1=some c) :
   ∃ cl,closureFor scope env=pure cl/\(∀ y c,cl.lookup y=some c->env.cells.lookup y=some c)/\∀ y,(y,NameKind.free)∈scope.names->∃ c,cl.lookup y=some c:=by
 obtain ⟨cl,e,h1,h2⟩:=m9 (env:=env) scope.names [] h;refine ⟨cl,?_,λy c hc=>?_,λy hy=>h2 y (.inr hy)⟩;{unfold closureFor;exact (congrArg (λm:Sem (List (Str × Addr))=>m >>= λcs=>pure cs) e).trans (pure_bind _ _)}
 . rcases h1 y c hc with z | z
   . cases z
   . exact z
def compX (X:Cx)(scope:Scope)(own:List Str)(caps:List Nat)(cl:List (Str × Addr))(C:Addr)(s₃:Shared)(H₃:Hp)(fp:List Addr):Cx :=
 { X with env:=compEnvC scope cl C X.env,N:=own++caps.map λj=>X.N.getD j Str.empty,s₀:=s₃,H₀:=H₃,outer:=X.stack,stack:=X.stack,ex:=fp,fn:=λ_=>false,pn:=[],xe:=λ_ _=>False }
def capSt (n:Nat)(caps:List Nat)(σ:St):St:=List.replicate n none++caps.map λj=>σ.getD j none
def compOk (sc osc:Scope):Bool :=
 (sc.kind==.function)&&sc.names.all λz=>match z.2 with
   | .cell=>false
   | .local=>sc.names.lookup z.1==some .local
   | .free=>osc.names.lookup z.1==some .cell||osc.names.lookup z.1==some .free
   | _=>true
def capOk (X:Cx)(sc:Scope):List Nat->Prop
 | []=>True
 | j::r=>(∃ y,X.N[j]?=some y/\sc.names.lookup y=some .free/\(X.env.scope.names.lookup y=some .cell\/X.env.scope.names.lookup y=some .free))/\capOk X sc r
def gOwn (n:Nat)(g:TG):Prop:=∀ v σ H Q,g v σ H Q->g v σ H λσ' H'=>(σ'.length=σ.length/\σ'.drop n=σ.drop n)/\Q σ' H'
theorem xi:gOwn 1 (gName 0):=λv σ H Q h=>⟨⟨by simp,by cases σ<;>simp⟩,h⟩
def tNoTest:TT:=λ_ H Q=>Q true H
def tComp (n:Nat) (caps:List Nat) (wi:TI) (g:TG) (tt:TT) (te:TE):TE:=λσ H Q=>wi σ H λJ H1=>∀ D,H1 D=none->∃ W:Nat->Nat->Hp->Prop,(∃ m,W 0 m (upd H1 D (.lst [])))/\∀ i m H2,W i m H2 ->
 (J.stop i H2/\Q (.ref D) H2)\/(J.go i H2/\∀ x H3,J.yld i H2 x H3->g x (capSt n caps σ) H3 λσ4 H4=>tt σ4 H4 λb H5 =>
   if b=true then te σ4 H5 λy H6=>∃ xs,H6 D=some (.lst xs)/\xs.length<sizeLine/\∃ m',m'<m/\W (i+1) m' (upd H6 D (.lst (xs++[y]))) else ∃ m',m'<m/\W (i+1) m' H5)
def PTs (X:Cx) (ifs:List Expr) (t:TT):Prop :=
 ∀ (pins:List (Addr × Obj)) (s:Shared) (σ:St) (H:Hp) (Q:Bool->Hp->Prop),Inv X pins σ H s->t σ H Q ->
   wpAny (model X.prog X.w) X.A (forIn ifs true λc r=>if r=true then do let ok <- isTrue c X.env (eval c X.env);pure (ForInStep.yield ok) else pure (ForInStep.yield r)) (TP X pins σ Q) X.xe s
theorem wx:PTs X [] tNoTest:=λ_ _ _ H _ I h=>wpAny_tests_nil ⟨H,I,h⟩
theorem m8 {c:Expr}{t:TT}(h:PT X c t):PTs X [c] t:=λpins s σ H Q I q=>wpAny_tests_one (h pins s σ H Q I q)
theorem iF {env:Env}:∀ {names:List (Str × NameKind)} {x:Str} {k:NameKind},names.lookup x=some k ->
   (names.map λ(n,k)=>if (k==NameKind.free&&env.scope.kind==.function&&env.kindOf n==some .cell) then (n,NameKind.cell) else (n,k)).lookup x=some (if (k==NameKind.free&&env.scope.kind==.function&&env.kindOf x==some .cell) then NameKind.cell else k)
 | [],_,_,h=>by simp at h
 | (n,k')::r,x,k,h=>by
   have ih:=@iF env r x k;show List.lookup x ((if (k'==NameKind.free&&env.scope.kind==.function&&env.kindOf n==some .cell)=true then (n,NameKind.cell) else (n,k'))::_)=_;cases hx:x==n with
   | true =>
     simp only [xO,hx] at h;cases h;have:x=n:=by simpa using hx
     subst this;split<;>simp [xO]
   | false =>
     simp only [xO,hx] at h;split;{simp only [xO,hx];exact ih h};{simp only [xO,hx];exact ih h}
theorem m7 {env:Env}:∀ {names:List (Str × NameKind)} {x:Str} {k:NameKind},
   (names.map λ(n,k)=>if (k==NameKind.free&&env.scope.kind==.function&&env.kindOf n==some .cell) then (n,NameKind.cell) else (n,k)).lookup x=some k ->
   ∃ k',(x,k')∈names/\(k=k'\/(k'=.free/\k=.cell))
 | [],_,_,h=>by simp at h
 | (n, k')::r,x,k,h=>by
   have ih:=@m7 env r x k;rw [yz] at h;cases hc:(k'==NameKind.free&&env.scope.kind==.function&&env.kindOf n==some .cell) with
   | true =>
     simp only [hc,wo,xO] at h;cases hx:x==n with
     | true =>
       simp only [hx,o7] at h;have e:x=n:=by simpa using hx
       have:k'=.free:=by simp only [xP,xC] at hc;exact hc.1.1
       exact ⟨.free,by rw [e,<- this];exact xp,.inr ⟨rfl,h.symm⟩⟩
     | false =>
       simp only [hx] at h;obtain ⟨q,m,z⟩:=ih h;exact ⟨q,xx _ m,z⟩
   | false =>
     simp only [hc,xQ,x4,xO] at h;cases hx:x==n with
     | true =>
       simp only [hx,o7] at h;have e:x=n:=by simpa using hx
       exact ⟨k',by rw [e];exact xp,.inl h.symm⟩
     | false =>
       simp only [hx] at h;obtain ⟨q,m,z⟩:=ih h;exact ⟨q,xx _ m,z⟩
theorem qt {sc osc:Scope}(h:compOk sc osc=true):sc.kind=.function:=by unfold compOk at h;simp only [xP,xC] at h;exact h.1
theorem m6 {sc osc:Scope}(h:compOk sc osc=true):∀ z∈sc.names,(match z.2 with
   | .cell=>false
   | .local=>sc.names.lookup z.1==some .local
   | .free=>osc.names.lookup z.1==some .cell||osc.names.lookup z.1==some .free
   | _=>true)=true:=by
 unfold compOk at h;simp only [xP] at h;exact List.all_eq_true.mp h.2
theorem iE {sc osc:Scope}(h:compOk sc osc=true):∀ z∈sc.names,z.2≠.cell:=λz hz e=>by
 have:=m6 h z hz;rw [e] at this;cases this
theorem iD {sc osc:Scope}(h:compOk sc osc=true):∀ z∈sc.names,z.2=.local->sc.names.lookup z.1=some .local:=λz hz e=>by
 have:=m6 h z hz;rw [e] at this;simpa using this
theorem cok_free {sc osc:Scope}(h:compOk sc osc=true):∀ z∈sc.names,z.2=.free->osc.names.lookup z.1=some .cell\/osc.names.lookup z.1=some .free:=λz hz e=>by
 have:=m6 h z hz;rw [e] at this;simpa using this
theorem capOk.get {sc:Scope}:∀ {caps:List Nat} {j:Nat},capOk X sc caps->j∈caps->∃ y,X.N[j]?=some y/\sc.names.lookup y=some .free/\(X.env.scope.names.lookup y=some .cell\/X.env.scope.names.lookup y=some .free)
 | [],_,_,h=>by simp at h
 | i::r,j,h,hj=>by
   rcases zW.mp hj with e | e
   . subst e;exact h.1
   . exact h.2.get e
theorem iC {x:Str}{k:NameKind}:∀ {l:List (Str × NameKind)},l.lookup x=some k->(x,k)∈l
 | [],h=>by simp at h
 | (n,k')::r,h=>by
   rw [xO] at h;cases hx:x==n with
   | true =>
     simp only [hx,o7] at h;have e:x=n:=by simpa using hx
     rw [e,h];exact xp
   | false =>
     simp only [hx] at h;exact xx _ (iC h)
section
variable {H2:Hp}{s2:Shared}{own:List Str}
theorem iB {n:Nat}{i:Nat}(h:(capSt n caps σ)[i]?=some (some v)):n<=i/\∃ j,caps[i-n]?=some j/\σ[j]?=some (some v):=by
 unfold capSt at h;rw [List.getElem?_append] at h;split at h
 . rename_i hl
   rw [ug] at hl;rw [kP,if_pos hl] at h;cases h
 . rename_i hl
   rw [ug] at h hl;refine ⟨by lia,?_⟩;rw [yR] at h;cases q:caps[i-n]? with
   | none=>rw [q] at h;cases h
   | some j =>
     rw [q] at h;refine ⟨j,rfl,?_⟩;have h:σ.getD j none=some v:=Option.some.inj h;rw [yL] at h;cases z:σ[j]? with
     | none=>rw [z] at h;cases h
     | some o=>rw [z] at h;exact congrArg some h
theorem Inv.comp {n:Nat} {cl:List (Str × Addr)} {h4:Heap} {tk:Nat}
   (I2:Inv X pins σ H2 s2) (hok:compOk scope X.env.scope=true) (hcap:capOk X scope caps) (hown:own.length=n)
   (cl1:∀ y c,cl.lookup y=some c->X.env.cells.lookup y=some c) (cl2:∀ y,(y,NameKind.free)∈scope.names->∃ c,cl.lookup y=some c)
   (hfp:∀ b∈fp,FpOk X pins H2 b) (hobj:∀ b∈fp,b<s2.heap.objs.size) (hC:C=s2.heap.objs.size) (hn:h4.Ns C λ_=>none)
   (hsb:∀ b o,s2.heap.get? b=some o->h4.get? b=some o) :
   Inv (compX X scope own caps cl C s2 H2 fp) [] (capSt n caps σ) H2 { s2 with heap:=h4,toks:=tk }:=by
 have hkind:=qt hok;have ok':(compX X scope own caps cl C s2 H2 fp).Ok:=by
   refine ⟨I2.ok.mod,hkind,I2.ok.glob,I2.ok.blt,by rw [hC];exact zi _,λx y c h1 h2=>I2.ok.inj x y c (cl1 x c h1) (cl1 y c h2),λx hx=>?_,λx c h=>(by cases h),I2.ok.hd,I2.ok.frames,.inl rfl,λb hb=>⟨?_,λx c h=>(hfp b hb).2.2.2.2.1 x c (cl1 x c h)⟩,I2.bs,?_,λb o e hb=>?_,λb hb hf=>?_,I2.stack,I2.stkFree⟩
   . have:∃ k',(x,k')∈scope.names/\(k'=.cell\/k'=.free):=by
       rcases hx with hx | hx
       . obtain ⟨k',m,z⟩:=m7 (env:=X.env) (names:=scope.names) (x:=x) (k:=.cell) hx;rcases z with z | z
         . exact ⟨k',m,.inl z.symm⟩
         . exact ⟨k',m,.inr z.1⟩
       . obtain ⟨k',m,z⟩:=m7 (env:=X.env) (names:=scope.names) (x:=x) (k:=.free) hx;rcases z with z | z
         . exact ⟨k',m,.inr z.symm⟩
         . cases z.2
     obtain ⟨k',m,z | z⟩:=this;{subst z;exact absurd rfl (iE hok _ m)};{subst z;exact cl2 x m}
   . show b≠C;rw [hC];exact zE (hobj b hb)
   . exact zO I2.ok.bsz (zO I2.ok.above (xK I2.lt))
   . rcases (hfp b hb).2.2.2.1 with z | z
     . exact I2.ok.noex b o e z
     . exact absurd (yl (zU e) (zO I2.ok.bsz z)) (xM _)
   . rcases zW.mp (I2.stkSub b hf) with z | z
     . exact (hfp b hb).2.1 z
     . exact (hfp b hb).2.2.1 z
 have hCn:H2 C=none:=I2.hok.fresh (by rw [hC];exact zi _);refine ⟨ok',rfl,I2.bare,Un.kept hsb,⟨_,hn,λi x v e1 e2 e3=>?_⟩,λx c e=>?_,hCn,λx c e=>I2.freeC x c (cl1 x c e),λp hp=>(by cases hp),I2.hok.kept hsb,?_⟩
 . obtain ⟨hi,j,hj,hv⟩:=iB e2;have e1:(own++caps.map λj=>X.N.getD j Str.empty)[i]?=some x:=e1;rw [y6 (by rw [hown];exact hi),yR,hown,hj] at e1;have e1:X.N.getD j Str.empty=x:=Option.some.inj e1;obtain ⟨y,hy,hfree,hout⟩:=hcap.get (y4 hj);rw [yL,hy] at e1;have e1:y=x:=e1;subst e1;obtain ⟨m,hm,hl⟩:=I2.loc;obtain ⟨u,r,l⟩:=hl j y v hy hv (.inr hout);refine ⟨u,r,.inr ⟨?_,?_⟩⟩
   . have:=iF (env:=X.env) hfree;show (relabel scope X.env).names.lookup y=some .cell\/(relabel scope X.env).names.lookup y=some .free;unfold relabel;rw [this];split
     . exact .inl rfl
     . exact .inr rfl
   . obtain ⟨c,hc⟩:=cl2 y (iC hfree);refine ⟨c,hc,?_⟩;rcases l with ⟨k,_⟩ | ⟨_,c',hc',hcell⟩
     . have k:X.env.scope.names.lookup y=some .local:=k;rcases hout with z | z<;>(rw [k] at z;cases z)
     . rw [cl1 y c hc] at hc';cases hc';obtain ⟨o,ho,hd⟩:=hcell;exact ⟨o,hsb _ _ ho,hd⟩
 . obtain ⟨v,o,ho,hd⟩:=I2.cell x c (cl1 x c e);exact ⟨v,o,hsb _ _ ho,hd⟩
 . show (capSt n caps σ).length=(own++caps.map λj=>X.N.getD j Str.empty).length;unfold capSt;rw [zj,zj,ug,za,za,hown]
theorem iA {Xe:Addr->Shared->Hp->Value->Shared->Prop} {n:Nat} {iter elt:Expr} {ifs:List Expr} {pos:Pos} {it:Addr} {tn:Nat->Heap->Prop} {J:It} {cl:List (Str × Addr)} {RR:Value->Env->Result->Shared->Prop} {Q:VK}
   (hc:X.calm=true) (I2:Inv X pins σ H2 s2) (T:Turn X.prog X.w X.K tg J fp it tn) (st2:tn 0 s2.heap) (f2:∀ b∈fp,FpOk X pins H2 b)
   (hok:compOk scope X.env.scope=true) (hcap:capOk X scope caps) (hown:own.length=n) (hgo:gOwn n g)
   (cl1:∀ y c,cl.lookup y=some c->X.env.cells.lookup y=some c) (cl2:∀ y,(y,NameKind.free)∈scope.names->∃ c,cl.lookup y=some c)
   (hg:∀ C s₃ H₃,PG ((compX X scope own caps cl C s₃ H₃ fp).wish (Xe C s₃ H₃)) tg g) (ht:∀ C s₃ H₃,PTs ((compX X scope own caps cl C s₃ H₃ fp).wish (Xe C s₃ H₃)) ifs tt) (he:∀ C s₃ H₃,PE ((compX X scope own caps cl C s₃ H₃ fp).wish (Xe C s₃ H₃)) elt te)
   (h:∀ D,H2 D=none->∃ W:Nat->Nat->Hp->Prop,(∃ m,W 0 m (upd H2 D (.lst [])))/\∀ i m H2,W i m H2 ->
     (J.stop i H2/\Q (.ref D) H2)\/(J.go i H2/\∀ x H3,J.yld i H2 x H3->g x (capSt n caps σ) H3 λσ4 H4=>tt σ4 H4 λb H5 =>
       if b=true then te σ4 H5 λy H6=>∃ xs,H6 D=some (.lst xs)/\xs.length<sizeLine/\∃ m',m'<m/\W (i+1) m' (upd H6 D (.lst (xs++[y]))) else ∃ m',m'<m/\W (i+1) m' H5))
   (hRR:∀ D C s' H' m,s'.heap.Ns C m->Inv X pins σ H' s'->FpOk X pins H' C->Q (.ref D) H'->RR (.ref D) (compEnvC scope cl C X.env) (.ok .next) s')
   (hRX:∀ s₃,Inv X pins σ (upd H2 s2.heap.objs.size (.lst [])) s₃->(∀ b o,s2.heap.get? b=some o->s₃.heap.get? b=some o)->s₃.os=s2.os->∀ e s',Xe s₃.heap.objs.size s₃ (upd H2 s2.heap.objs.size (.lst [])) e s'->notedBy (model X.prog X.w) X.A (compEnvC scope cl s₃.heap.objs.size X.env) (λe z=>RR (.ref s2.heap.objs.size) (compEnvC scope cl s₃.heap.objs.size X.env) (.error e) z) e s') :
   wpAny (model X.prog X.w) X.A (newList []) (λacc s₃=>wpAny (model X.prog X.w) X.A (newFunctionEnv scope X.env.globals cl [] X.env.qual none .none (some X.env)) (λcenv s₄ =>
     codeAny (model X.prog X.w) X.A (.compStart (.ListComp elt [⟨tg,iter,ifs,0⟩] scope pos) 0 (.ref it) acc { cenv with scope:=relabel scope X.env }) (RR acc { cenv with scope:=relabel scope X.env }) s₄) E s₃) E s2:=by
 refine wpAny_newList (items:=[]) (wpAny_newFunctionEnv (iE hok) (by intro y hy;simp at hy) (λh₁ hns₁ hsb₁=>?_) (qt hok)) (by show 0<=sizeLine;decide);obtain ⟨W,⟨m0,w0⟩,turn⟩:=h s2.heap.objs.size I2.fresh;have I3:Inv X pins σ (upd H2 s2.heap.objs.size (.lst [])) { s2 with heap:=s2.heap.push { cls:=.type "list",data:=.seq ([]:List Value).toArray } }:=I2.lnew (t':=s2.toks) .nil (by show 0<=sizeLine;decide);generalize hs3:({ s2 with heap:=s2.heap.push { cls:=.type "list",data:=.seq ([]:List Value).toArray } }:Shared)=s₃ at *;have e3:s₃.heap.objs.size=s2.heap.objs.size+1:=by rw [<- hs3];exact vP _ _
 have k23:∀ b o,s2.heap.get? b=some o->s₃.heap.get? b=some o:=λb o e=>by rw [<- hs3];exact zT _ e
 have hold:∀ b o,s₃.heap.get? b=some o->h₁.get? b=some o:=λb o e=>(hsb₁.2 b (zE (zU e))).trans (zT _ e)
 have lt2:∀ b∈fp,b<s2.heap.objs.size:=λb hb=>by
   obtain ⟨o,e,_⟩:=T.obj _ _ st2 b hb;exact zU e
 have f3:∀ b∈fp,FpOk X pins (upd H2 s2.heap.objs.size (.lst [])) b:=λb hb=>by
   obtain ⟨z,r⟩:=f2 b hb;exact ⟨by rw [zo (zE (lt2 b hb))];exact z,r⟩
 have tn1:tn 0 h₁:=T.keep _ _ _ st2 λb hb o e=>hold b o (k23 b o e)
 have I4:=Inv.comp (own:=own) (caps:=caps) (n:=n) (fp:=fp) (cl:=cl) (h4:=h₁) (tk:=s₃.toks+([]:List (Str × Value)).length) I3 hok hcap hown cl1 cl2 f3 (λb hb=>by rw [e3];exact wR (lt2 b hb)) rfl (by simpa using hns₁) hold;have hXok:=I4.ok;have loop:codeAny (model X.prog X.w) X.A (.compLoop (.ListComp elt [⟨tg,iter,ifs,0⟩] scope pos) 0 (.ref it) (.ref s2.heap.objs.size) (compEnvC scope cl s₃.heap.objs.size X.env)) (RR (.ref s2.heap.objs.size) (compEnvC scope cl s₃.heap.objs.size X.env)) { s₃ with heap:=h₁,toks:=s₃.toks+([]:List (Str × Value)).length }:=by
   have I4:=I4.wish (Xe s₃.heap.objs.size s₃ (upd H2 s2.heap.objs.size (.lst [])));have hxe:=hRX s₃ I3 k23 (by rw [<- hs3]);generalize hY:Xe s₃.heap.objs.size s₃ (upd H2 s2.heap.objs.size (.lst []))=Ee at I4 hxe;generalize hX:(compX X scope own caps cl s₃.heap.objs.size s₃ (upd H2 s2.heap.objs.size (.lst [])) fp).wish Ee=X' at I4;have hXok:=I4.ok;have eP:X'.prog=X.prog:=by rw [<- hX];rfl
   have eW:X'.w=X.w:=by rw [<- hX];rfl
   have eK:X'.K=X.K:=by rw [<- hX];rfl
   have eA:X'.A=X.A:=by rw [<- hX];rfl
   have eC:X'.calm=true:=by rw [<- hX];exact hc
   have eE:X'.env=compEnvC scope cl s₃.heap.objs.size X.env:=by rw [<- hX];rfl
   have eL:X'.env.locals=s₃.heap.objs.size:=by rw [eE];rfl
   have eX:X'.xe=Ee:=by rw [<- hX]
   have ePn:X'.pn=[]:=by rw [<- hX];rfl
   have eEx:X'.ex=fp:=by rw [<- hX];rfl
   have eFs:X'.fs=frs X.stack:=by rw [<- hX];rfl
   have hg':=hg s₃.heap.objs.size s₃ (upd H2 s2.heap.objs.size (.lst []));have ht':=ht s₃.heap.objs.size s₃ (upd H2 s2.heap.objs.size (.lst []));have he':=he s₃.heap.objs.size s₃ (upd H2 s2.heap.objs.size (.lst []));have eS0:X'.s₀=s₃:=by rw [<- hX];rfl
   have eH0:X'.H₀=upd H2 s2.heap.objs.size (.lst []):=by rw [<- hX];rfl
   rw [hY,hX] at hg' ht' he';have fpOk:∀ {H':Hp} (b:Addr),b∈fp->H' b=none->FpOk X' [] H' b:=λb hb hn=>by
     refine ⟨hn,(hXok.exf b (eEx ▸ hb)).1,hXok.exfs b (eEx ▸ hb),.inl (eEx ▸ hb),(hXok.exf b (eEx ▸ hb)).2,λp hp=>?_⟩;rw [ePn] at hp;cases hp
   rw [<- eP,<- eW,<- eA,<- eE] at hxe;rw [<- eP,<- eW,<- eA,<- eE];refine cH (Ee:=Ee) (hx:=hxe) (λn' s'=>∃ i H',Inv X' [] (capSt n caps σ) H' s'/\tn i s'.heap/\(∀ b∈fp,H' b=none)/\W i n' H') ?_ m0 ⟨0,_,I4,tn1,λb hb=>(f3 b hb).1,w0⟩;rintro k s5 ⟨i,H5,I5,t5,fr5,w5⟩;have weaken:∀ {σ':St} {H':Hp} {s':Shared} {pl:List (Addr × Obj)},Inv X' pl σ' H' s'->σ'.length=(capSt n caps σ).length->σ'.drop n=(capSt n caps σ).drop n->Inv X' [] (capSt n caps σ) H' s':=λ{σ' H' s' pl} I' hl hd=>by
     have I'':Inv X' [] σ' H' s':=I'.pins_of λp hp=>by cases hp
     refine I''.weak hl.symm λj v e=>?_
     have hj:=(iB e).1;have q1:(σ'.drop n)[j-n]?=σ'[j]?:=by rw [tm];congr 1;lia
     have q2:((capSt n caps σ).drop n)[j-n]?=(capSt n caps σ)[j]?:=by rw [tm];congr 1;lia
     rw [<- q1,hd,q2];exact e
   rcases turn i k H5 w5 with ⟨stop,qn⟩ | ⟨go,step⟩
   . have z:=T.done X' eP eW eK eC i [] s5 (capSt n caps σ) H5 Ee I5 (λb hb=>fpOk b hb (fr5 b hb)) t5 stop;rw [<- eP,<- eW] at z;refine thn z λr s6 ⟨hr,I6⟩=>?_
     subst hr;obtain ⟨m,hm,_⟩:=I6.loc;have ub:Un (frs X.stack) fp (upd H2 s2.heap.objs.size (.lst [])) H5 s₃.heap s6.heap:=by have z:=I6.base;rw [eFs,eEx,eS0,eH0] at z;exact z
     have u23:Un (frs X.stack) fp H2 (upd H2 s2.heap.objs.size (.lst [])) s2.heap s₃.heap:=Un.laid k23 (zi _) I2.fresh;have os6:s6.os=s2.os:=by rw [I6.os,eS0,<- hs3]
     have hokk:HOk X.prog X.w H5 s6.heap:=by have z:=I6.hok;rw [eP,eW] at z;exact z
     have Iend:Inv X pins σ H5 s6:=I2.call' os6 (u23.trans ub) hokk I6.bare λb hb=>⟨(f2 b hb).2.2.2.1,(f2 b hb).2.1,(f2 b hb).2.2.2.2.1,(f2 b hb).2.2.2.2.2⟩
     have hCn:H5 s₃.heap.objs.size=none:=by have z:=I6.free;rw [eL] at z;exact z
     rw [eL] at hm;rw [eE];exact hRR _ _ s6 H5 m hm Iend (I3.fpOk (zi _) hCn) qn
   . have z:=T.item X' eP eW eK eC i [] s5 (capSt n caps σ) H5 Ee I5 (λb hb=>fpOk b hb (fr5 b hb)) t5 go;rw [<- eP,<- eW] at z;refine thn z λr s6 ⟨u,hr,h6⟩=>?_
     subst hr;refine thn h6 λ_ s7 hq=>?_
     obtain ⟨x,H7,I7,r7,y7,t7,fr7⟩:=hq;have I7':=I7.pinned (λb hb=>fpOk b hb (fr7 b hb)) (T.obj _ _ t7);have pinD:∀ {σ':St} {H':Hp} {s':Shared},Inv X' ([]++pinsAt fp s7.heap) σ' H' s'->tn (i+1) s'.heap/\∀ b∈fp,H' b=none:=λ{σ' H' s'} I'=>by
       have pin:∀ b∈fp,∀ o,s7.heap.get? b=some o->s'.heap.get? b=some o/\H' b=none:=λb hb o e=>by
         have z:=I'.pin (b,o) (yf _ (yf _ (nW hb e)));exact ⟨z.1,z.2.1⟩
       refine ⟨T.keep _ _ _ t7 λb hb o e=>(pin b hb o e).1,λb hb=>?_⟩;obtain ⟨o,e,_⟩:=T.obj _ _ t7 b hb;exact (pin b hb o e).2
     have xf:∀ {α:Type} {t:Sem α} {Q':α->Shared->Prop} {s':Shared},wpAny (model X'.prog X'.w) X'.A t Q' X'.xe s'->wpAny (model X'.prog X'.w) X'.A t Q' Ee s':=λz=>by rw [eX] at z;exact z
     refine thn (xf (hg' _ s7 (capSt n caps σ) H7 x u _ I7' r7 (hgo _ _ _ _ (step x H7 y7)))) λ_ s8 ⟨σ8,H8,I8,⟨l8,d8⟩,q8⟩=>?_
     refine thn (xf (ht' _ s8 σ8 H8 _ I8 q8)) λb s9 ⟨H9,I9,q9⟩=>?_
     cases b with
     | false =>
       rw [if_neg yw];obtain ⟨m',hm,w9⟩:=(show ∃ m',m'<k/\W (i+1) m' H9 by simpa using q9)
       obtain ⟨t9,fr9⟩:=pinD I9;exact ⟨m',hm,i+1,H9,weaken I9 l8 d8,t9,fr9,w9⟩
     | true =>
       rw [if_pos rfl];rw [if_pos rfl] at q9;refine thn (xf (he' _ s9 σ8 H9 _ I9 q9)) λv s10 hq=>?_
       obtain ⟨y,H10,I10,r10,xs,hD,hlen,m',hm,w10⟩:=hq;refine thn (xf (xY _ s10 σ8 H10 (.ref s2.heap.objs.size) [y] (.ref s2.heap.objs.size) [v] (λ_ H'=>H'=upd H10 s2.heap.objs.size (.lst (xs++[y]))) I10 rfl (.cons r10 .nil) ⟨_,xs,y,rfl,rfl,hD,hlen,rfl⟩)) λ_ s11 ⟨_,H11,I11,_,e11⟩=>?_
       subst e11;obtain ⟨t11,fr11⟩:=pinD I11;exact ⟨m',hm,i+1,_,weaken I11 l8 d8,t11,fr11,w10⟩
 exact codeAny_compStart_list loop (T.self _ 0 _ _ _ tn1 loop)
theorem Inv.closure (I:Inv X pins σ H2 s2)(hok:compOk scope X.env.scope=true):∃ cl,closureFor scope X.env=pure cl/\(∀ y c,cl.lookup y=some c->X.env.cells.lookup y=some c)/\∀ y,(y,NameKind.free)∈scope.names->∃ c,cl.lookup y=some c :=
 cF λz hz e=>I.ok.has z.1 (cok_free hok z hz e)
end
section
variable {iter elt:Expr}{ifs:List Expr}{pos:Pos}{wi:TI}{n:Nat}
theorem xF (own:List Str)(caps:List Nat)(hc:X.calm=true)(hi:PI X tg iter wi)(hg:∀ cl C s₃ H₃ fp,PG (compX X scope own caps cl C s₃ H₃ fp) tg g)(ht:∀ cl C s₃ H₃ fp,PTs (compX X scope own caps cl C s₃ H₃ fp) ifs tt)
   (he:∀ cl C s₃ H₃ fp,PE (compX X scope own caps cl C s₃ H₃ fp) elt te) (hcap:capOk X scope caps) (hgo:gOwn own.length g) (hok:compOk scope X.env.scope=true:=by rfl)
   (hs:∀ x,foldedSetIterable iter X.env x=pure x:=by intro _;rfl):PE X (.ListComp elt [⟨tg,iter,ifs,0⟩] scope pos) (tComp own.length caps wi g tt te):=by
 intro pins s σ H Q I h;obtain ⟨cl,hcl,cl1,cl2⟩:=I.closure hok;rw [eval_ListComp];refine wpAny_comprehension_free (use:=none) rfl hs hcl (qt hok) (iD hok) (thn (hi pins s σ H _ I h) λv s1 h1=>thn h1 λitv s2 h2=>?_);obtain ⟨it,fp,tn,J,H2,e,I2,T,st2,f2,h3⟩:=h2;subst e;refine iA (Xe:=λ_ _ _ _ _=>False) (RR:=λacc en=>compPost (model X.prog X.w) X.A X.xe none (EP X pins σ Q) acc en.locals) (own:=own) (caps:=caps) (n:=own.length) (Q:=Q) hc I2 T st2 f2 hok hcap rfl hgo cl1 cl2 (λC s₃ H₃=>hg cl C s₃ H₃ fp) (λC s₃ H₃=>ht cl C s₃ H₃ fp) (λC s₃ H₃=>he cl C s₃ H₃ fp) h3 ?_ (λ_ _ _ _ _ _ z=>z.elim);intro D C s' H' m hm I' hC q;refine ⟨m,hm,λh' hsb=>⟨.ref D,H',?_,rfl,q⟩⟩;exact I'.turned (it:=C) (t':=s'.toks) (λb o hb e=>(hsb.2 b hb).trans e) hC.1 hC.2.1 hC.2.2.2.1 hC.2.2.2.2.1 hC.2.2.2.2.2
theorem hZ {i:Nat}{x:Str}{spos:Pos}(own:List Str)(caps:List Nat)(hN:X.N.Nodup)(hx0:X.N[i]?=some x)(hx:Loc X.env.scope x)(hc:X.calm=true)(hi:PI X tg iter wi)(hg:∀ cl C s₃ H₃ fp,PG (compX X scope own caps cl C s₃ H₃ fp) tg g)(ht:∀ cl C s₃ H₃ fp,PTs (compX X scope own caps cl C s₃ H₃ fp) ifs tt)
   (he:∀ cl C s₃ H₃ fp,PE (compX X scope own caps cl C s₃ H₃ fp) elt te) (hcap:capOk X scope caps) (hgo:gOwn own.length g) (hok:compOk scope X.env.scope=true:=by rfl)
   (hs:∀ x,foldedSetIterable iter X.env x=pure x:=by intro _;rfl) (hsw:swapsWith (.ListComp elt [⟨tg,iter,ifs,0⟩] scope pos) (some (.Name x pos')) spos.line X.env=pure true:=by rfl)
   (hf:X.fn x=true\/X.env.scope.names.lookup x=some .local:=by first | exact .inl rfl | exact .inr rfl | assumption):PS X (.Assign [.Name x pos'] (.ListComp elt [⟨tg,iter,ifs,0⟩] scope pos) spos) (tAsg (tComp own.length caps wi g tt te) (gName i)):=by
 intro pins s σ H D I h;obtain ⟨cl,hcl,cl1,cl2⟩:=I.closure hok;rw [exec_Assign_Name_used _ _ _ _ hsw];refine zt (wpAny_standAt (zt ?_));show wpAny _ _ (do let _ <- comprehension (.ListComp elt [⟨tg,iter,ifs,0⟩] scope pos) scope X.env _ (newList []) false (eval iter X.env) (some (assign (.Name x pos') X.env))) _ _ s;refine zt (yY (wpAny_comprehension_free (use:=some (assign (.Name x pos') X.env)) (Q:=λ_ s'=>SP X pins D .next s') rfl hs hcl (qt hok) (iD hok)
   (thn (hi pins s σ H _ I h) λv s1 h1=>thn h1 λitv s2 h2=>?_)) (λ_ s' hq=>zc (zc hq)) λ_ _ e=>e)
 obtain ⟨it,fp,tn,J,H2,e,I2,T,st2,f2,h3⟩:=h2;subst e;refine iA (Xe:=λ_ _ _ _ _=>False) (RR:=λacc en=>compPost (model X.prog X.w) X.A X.xe (some (assign (.Name x pos') X.env)) (λ_ s'=>SP X pins D .next s') acc en.locals) (own:=own) (caps:=caps) (n:=own.length) (Q:=λx H1=>gName i x σ H1 D.nx) hc I2 T st2 f2 hok hcap rfl hgo cl1 cl2 (λC s₃ H₃=>hg cl C s₃ H₃ fp) (λC s₃ H₃=>ht cl C s₃ H₃ fp) (λC s₃ H₃=>he cl C s₃ H₃ fp) h3 ?_ (λ_ _ _ _ _ _ z=>z.elim);intro A' C s' H' m hm I' hC q;obtain ⟨o,es,ep,ho,hd,r⟩:=id hm;have I'':Inv X (pins++[(C,o)]) σ H' s':=I'.pins_of λp hp=>by
   rcases zR.mp hp with z | z
   . exact I'.pin p (yf _ z)
   . have e:p=(C,o):=by simpa using z
     subst e;exact ⟨ho,hC.1,hC.2.1,hC.2.2.1,λv e=>by rw [hd] at e;cases e⟩
 refine thn (yA hN hx0 hx hf _ s' σ H' (.ref A') (.ref A') _ I'' rfl q) λ_ s2' ⟨σ2,H3',I3,q3⟩=>?_
 have p3:=I3.pin (C,o) (yf _ (yf _ (by simp)));refine ⟨m,⟨o,es,ep,p3.1,hd,r⟩,λh' hsb=>⟨σ2,H3',?_,q3⟩⟩;exact (I3.unpinned (pl:=[(C,o)])).turned (it:=C) (t':=s2'.toks) (λb o hb e=>(hsb.2 b hb).trans e) p3.2.1 p3.2.2.1 hC.2.2.2.1 hC.2.2.2.2.1 hC.2.2.2.2.2
end
theorem vy:bootBuiltins "isinstance"=some (.builtin "isinstance"):=by decide +kernel
theorem cE:bootBuiltins "min"=some (.builtin "min"):=by decide +kernel
def vOf:V->Option Value
 | .ty n=>some (.type n)
 | .ref a=>some (.ref a)
 | _=>none
def rIsi (K:zh):List V->Hp->VK->Prop:=λxs H Q=>∃ x y c t b,xs=[x,y]/\vOf y=some c/\TyOf K H x t/\PySem.W.kitOne K t c=some b/\Q (.bl b) H
theorem call_isi:CallR X (.builtin "isinstance") (rIsi X.K):=by
 intro pins s σ H xs us Q I r h;obtain ⟨x,y,c,t,b,rfl,hy,ht,hk,q⟩:=h;obtain ⟨u,v,rfl,ru,rv⟩:=r.two;have ev:v=c:=by
   cases y with
   | ty n=>cases (show v=Value.type n from rv);exact Option.some.inj hy
   | ref a=>cases (show v=Value.ref a from rv);exact Option.some.inj hy
   | _=>cases hy
 subst ev;exact cq I ru ht hk λtk=>⟨.bl b,H,I.tok _,rfl,q⟩
theorem cD {a:Int}{k:Nat}(h:a.natAbs<2^k):Builtin.Int.intBits a<=k:=by
 unfold Builtin.Int.intBits;split;{exact zS _}
 . rename_i hz
   have h0:a.natAbs≠0:=by
     intro e;have:a=0:=by lia
     subst this;exact hz rfl
   have:=(Nat.log2_lt h0).mpr h;lia
def CShl (i j:Int):Prop:=0<=j/\j<=1000000/\i.natAbs<2^1000
theorem hV:OpR X (binaryOp .LShift) (rI CShl λi j=>.int (i*2^j.toNat)):=opI λi j _ _ _ _ _ hc q=>by
 have h1:=cD hc.2.2;have h2:=hc.2.1;exact lshift_int hc.1 (by lia) q
def rBitLen:V->List V->Hp->VK->Prop:=λx vs H Q=>∃ i,x=.int i/\vs=[]/\Q (.int (Builtin.Int.intBits i)) H
theorem cC:MtR X "int.bit_length" rBitLen:=by intro pins s σ H x vs v us Q I rx rv h;obtain ⟨i,rfl,rfl,q⟩:=h;obtain ⟨t,rfl⟩:=rx;cases rv.zero;exact call_int_bit_length ⟨.int _,H,I.tok _,⟨_,rfl⟩,q⟩
def LoopJ (J:It)(g:TG)(tb:TS)(D:Ends)(σ:St)(H:Hp):Prop:=∃ W:Nat->Nat->St->Hp->Prop,(∃ m,W 0 m σ H)/\∀ i m σ H,W i m σ H ->
 (J.stop i H/\D.nx σ H)\/(J.go i H/\∃ N:St->Hp->Prop,(∀ σ' H',N σ' H'->∃ m',m'<m/\W (i+1) m' σ' H')/\∀ x H',J.yld i H x H'->g x σ H' λσ2 H2=>tb { D with nx:=N,ct:=N,bk:=D.nx } σ2 H2)
theorem hU {wi:TI}{tb:TS}:tFor wi g tb D σ H=wi σ H λJ H1=>LoopJ J g tb D σ H1:=rfl
theorem loopR {lo:Int}{n:Nat}{tb:TS}(Pv:Nat->St->Hp->Prop)(h0:Pv 0 σ H)
   (hs:∀ i σ H,i<n->Pv i σ H->g (.int (lo+i)) σ H λσ2 H2=>tb { D with nx:=Pv (i+1),ct:=Pv (i+1),bk:=D.nx } σ2 H2) (hd:∀ σ H,Pv n σ H->D.nx σ H):LoopJ (Itr lo n) g tb D σ H:=c9 Pv h0 hs hd
theorem loopL {a:Addr}{tb:TS}(Pv:Nat->St->Hp->Prop)(h0:Pv 0 σ H)(hl:∀ i σ H,i<=xs.length->Pv i σ H->SqL K H a xs)
   (hs:∀ i x σ H,xs[i]?=some x->Pv i σ H->g x σ H λσ2 H2=>tb { D with nx:=Pv (i+1),ct:=Pv (i+1),bk:=D.nx } σ2 H2) (hd:∀ σ H,Pv xs.length σ H->D.nx σ H):LoopJ (Itl K a) g tb D σ H:=for_list Pv h0 hl hs hd
def CompJ (J:It) (n:Nat) (caps:List Nat) (g:TG) (tt:TT) (te:TE) (σ:St) (H1:Hp) (Q:VK):Prop:=∀ D,H1 D=none->∃ W:Nat->Nat->Hp->Prop,(∃ m,W 0 m (upd H1 D (.lst [])))/\∀ i m H2,W i m H2 ->
 (J.stop i H2/\Q (.ref D) H2)\/(J.go i H2/\∀ x H3,J.yld i H2 x H3->g x (capSt n caps σ) H3 λσ4 H4=>tt σ4 H4 λb H5 =>
   if b=true then te σ4 H5 λy H6=>∃ xs,H6 D=some (.lst xs)/\xs.length<sizeLine/\∃ m',m'<m/\W (i+1) m' (upd H6 D (.lst (xs++[y]))) else ∃ m',m'<m/\W (i+1) m' H5)
theorem hO {n:Nat}{wi:TI}{Q:VK}:tComp n caps wi g tt te σ H Q=wi σ H λJ H1=>CompJ J n caps g tt te σ H1 Q:=rfl
theorem compPure {J:It} {m n:Nat} {Q:VK} (x:Nat->V) (p:Nat->Bool) (f:Nat->V) (hn:n<=1000000)
   (hstop:∀ H2,Same H1 H2->J.stop n H2) (hgo:∀ i H2,i<n->Same H1 H2->J.go i H2) (hy:∀ i H2 v H3,i<n->Same H1 H2->J.yld i H2 v H3->v=x i/\H3=H2)
   (hg:∀ i H2 R,i<n->Same H1 H2->(∀ σ4,σ4=(capSt m caps σ).set 0 (some (x i))->R σ4 H2)->g (x i) (capSt m caps σ) H2 R)
   (ht:∀ i H2 R,i<n->Same H1 H2->R (p i) H2->tt ((capSt m caps σ).set 0 (some (x i))) H2 R)
   (he:∀ i H2 R,i<n->p i=true->Same H1 H2->R (f i) H2->te ((capSt m caps σ).set 0 (some (x i))) H2 R)
   (hq:∀ D,H1 D=none->Q (.ref D) (upd H1 D (.lst (((List.range n).filter p).map f)))):CompJ J m caps g tt te σ H1 Q:=by
 intro D hD;have same:∀ l,Same H1 (upd H1 D (.lst l)):=λl b o e=>by rw [zo (zC e hD)];exact e
 refine ⟨λi k H2=>k=n-i/\i<=n/\H2=upd H1 D (.lst (((List.range i).filter p).map f)),⟨n,rfl,zS _,rfl⟩,?_⟩;rintro i k H2 ⟨rfl,hi,rfl⟩;by_cases hlt:i<n
 . refine .inr ⟨hgo i _ hlt (same _),λv H3 y=>?_⟩;obtain ⟨rfl,rfl⟩:=hy i _ v H3 hlt (same _) y;refine hg i _ _ hlt (same _) λσ4 e4=>?_
   subst e4;refine ht i _ _ hlt (same _) ?_;have step:(List.range (i+1)).filter p=(List.range i).filter p++if p i=true then [i] else []:=by
     rw [oE,rj];congr 1
     cases hp:p i<;>simp [hp]
   cases hp:p i with
   | true =>
     rw [if_pos rfl];refine he i _ _ hlt hp (same _) ⟨_,zm,?_,n-(i+1),by lia,rfl,hlt,?_⟩;{rw [za];refine wV (rq _ _) ?_;rw [yc,vO];lia}
     . rw [upd_upd,step,hp,if_pos rfl,yX];rfl
   | false =>
     rw [if_neg yw];refine ⟨n-(i+1),by lia,rfl,hlt,?_⟩;rw [step,hp,if_neg yw,zH]
 . have e:i=n:=by lia
   subst e;exact .inl ⟨hstop _ (same _),hq D hD⟩
theorem compR {lo:Int}{m n:Nat}{Q:VK}(p:Nat->Bool)(f:Nat->V)(hn:n<=1000000)
   (ht:∀ i H2 R,i<n->Same H1 H2->R (p i) H2->tt ((capSt m caps σ).set 0 (some (.int (lo+i)))) H2 R)
   (he:∀ i H2 R,i<n->p i=true->Same H1 H2->R (f i) H2->te ((capSt m caps σ).set 0 (some (.int (lo+i)))) H2 R)
   (hq:∀ D,H1 D=none->Q (.ref D) (upd H1 D (.lst (((List.range n).filter p).map f)))):CompJ (Itr lo n) m caps (gName 0) tt te σ H1 Q :=
 compPure (λi=>.int (lo+i)) p f hn (λ_ _=>zi _) (λ_ _ h _=>h) (λ_ _ _ _ _ _ h=>⟨h.2,h.1⟩) (λ_ _ _ _ _ h=>h _ rfl) ht he hq
theorem hJ {α β:Type}(p:α->Bool)(f:α->β):∀ (xs:List α) (P:Nat->Bool) (F:Nat->β),(∀ i x,xs[i]?=some x->P i=p x/\F i=f x)->((List.range xs.length).filter P).map F=(xs.filter p).map f
 | [],_,_,_=>rfl
 | x::r,P,F,h=>by
   have e:List.range (x::r).length=0::(List.range r.length).map Nat.succ:=by rw [zZ,kJ]
   have ih:=hJ p f r (P ∘ Nat.succ) (F ∘ Nat.succ) λi y hy=>h (i+1) y (by simpa using hy)
   obtain ⟨h1,h2⟩:=h 0 x rfl;rw [e,w8,w8,h1,tW];split;{rw [yz,yz,h2,yO,ih]};{rw [yO,ih]}
theorem compL {a:Addr}{m:Nat}{Q:VK}(p:V->Bool)(f:V->V)(hS:SqL K H1 a xs)(hn:xs.length<=1000000)
   (ht:∀ x H2 R,x∈xs->Same H1 H2->R (p x) H2->tt ((capSt m caps σ).set 0 (some x)) H2 R)
   (he:∀ x H2 R,x∈xs->p x=true->Same H1 H2->R (f x) H2->te ((capSt m caps σ).set 0 (some x)) H2 R)
   (hq:∀ D,H1 D=none->Q (.ref D) (upd H1 D (.lst ((xs.filter p).map f)))):CompJ (Itl K a) m caps (gName 0) tt te σ H1 Q:=by
 have get:∀ i,i<xs.length->xs[i]?=some (xs.getD i .non):=λi hi=>by rw [yL,zV hi];rfl
 have mem:∀ i,i<xs.length->xs.getD i .non∈xs:=λi hi=>y4 (get i hi)
 refine compPure (λi=>xs.getD i .non) (λi=>p (xs.getD i .non)) (λi=>f (xs.getD i .non)) hn (λH2 s=>⟨xs,s.seq hS,zi _⟩) (λi H2 hi s=>⟨xs,_,s.seq hS,get i hi⟩)
   (λi H2 v H3 hi s y=>⟨?_,y.1⟩) (λi H2 R hi _ h=>h _ rfl) (λi H2 R hi s h=>ht _ H2 R (mem i hi) s h) (λi H2 R hi hp s h=>he _ H2 R (mem i hi) hp s h) (λD hD=>?_)
 . have:=y.2 xs (s.seq hS);rw [get i hi] at this;exact (Option.some.inj this).symm
 . have:=hJ p f xs (λi=>p (xs.getD i .non)) (λi=>f (xs.getD i .non)) λi x hx=>by
     have:xs.getD i .non=x:=by rw [yL,hx];rfl
     rw [this];exact ⟨rfl,rfl⟩
   rw [this];exact hq D hD
section
variable {Q:VK}{QT:Bool->Hp->Prop}{QA:List V->Hp->Prop}{ta tb tc:TE}{t u:TS}{tA tB':TT}{tl:TA}{r r':R2}
theorem hE {i j:Int}:scal (.int i) (.int j)=true:=rfl
theorem g8 {i j:Bool}:scal (.bl i) (.bl j)=true:=rfl
theorem gz {i j:Str}:scal (.str i) (.str j)=true:=rfl
theorem tyV_int {i:Int}:tyV K "int" (.int i) H:=rfl
theorem tyV_list {p:Addr}:tyV K "list" (.ref p) H↔∃ xs,SqL K H p xs:=by unfold tyV;simp
theorem rIsi_int {i:Int}:rIsi K [.int i,.ty "int"] H Q↔Q (.bl true) H :=
 ⟨λh=>by
   obtain ⟨x,y,c,t,b,e,hy,ht,hk,q⟩:=h;cases e;cases hy;cases ht;cases hk;exact q,λq=>⟨_,_,_,_,true,rfl,rfl,.int i,rfl,q⟩⟩
theorem cB {i:Int}:rIsi K [.int i,.ty "bool"] H Q↔Q (.bl false) H :=
 ⟨λh=>by
   obtain ⟨x,y,c,t,b,e,hy,ht,hk,q⟩:=h;cases e;cases hy;cases ht;cases hk;exact q,λq=>⟨_,_,_,_,false,rfl,rfl,.int i,rfl,q⟩⟩
theorem rIsi_blb {k:Bool}:rIsi K [.bl k,.ty "bool"] H Q↔Q (.bl true) H :=
 ⟨λh=>by
   obtain ⟨x,y,c,t,b,e,hy,ht,hk,q⟩:=h;cases e;cases hy;cases ht;cases hk;exact q,λq=>⟨_,_,_,_,true,rfl,rfl,.bl k,rfl,q⟩⟩
theorem rIsi_bli {k:Bool}:rIsi K [.bl k,.ty "int"] H Q↔Q (.bl true) H :=
 ⟨λh=>by
   obtain ⟨x,y,c,t,b,e,hy,ht,hk,q⟩:=h;cases e;cases hy;cases ht;cases hk;exact q,λq=>⟨_,_,_,_,true,rfl,rfl,.bl k,rfl,q⟩⟩
end
def FnAt (P:Program)(w:World)(K:zh)(mg:Str->Option Value)(base:Heap)(x:Str)(ps:List Str)(k:Nat)(sp:Sp):Prop :=
 ∃ f fd,FnOk P w K mg base CX0 k f fd ps sp/\mg x=some (.ref f)/\PySem.W.keepIn K (.ref f)=true/\Binds K fd ps []
def DefAt (K:zh)(mg:Str->Option Value)(x:Str)(st:Stmt)(ps:List Str):Prop:=∃ f fd,Fun K x x st f fd/\mg x=some (.ref f)/\Binds K fd ps []
theorem FnAt.of {x:Str}{k:Nat}(d:DefAt K mg x st ps)(S:FnScope N ps (defScope st))(len:∀ vs H Q E,sp vs H Q E->vs.length=ps.length)
   (hbody:∀ (f:Addr) (cdv:Value) (A:Around) (outer:List Env) (s:Shared) (H:Hp) (vs:List V) (Q:VK) (E:XK),Room k (A.deeper (envOfC x (defScope st) s.heap.objs.size f cdv))->sp vs H Q E ->
     ∃ t,PSs (cxOf CX0 P w K mg base N x (defScope st) f cdv A outer s H E).nox (defBody st) t/\t { nx:=λ_ H'=>Q .non H',rt:=Q } (start N vs) H):FnAt P w K mg base x ps (k+1) sp:=by
 obtain ⟨f,fd,F,m,b⟩:=d;exact ⟨f,fd,F.ok S len (hbody f),m,F.kp,b⟩
theorem defAt_mk {h:Heap}{x:Str}{f:Addr}{oc:Value}{od an:Option Addr}{kV doc pm cdv ct:Value}(X:K.In h)(G:h.Ns mainGlobals mg)(a:PySem.W.nsIn K mainGlobals x=some (some (.ref f)))
   (l:K.lookup f=some ⟨oc,od,.func (PySem.W.fnOf x x (defArgs st) (defBody st) (defScope st) .none kV doc pm an cdv ct),osl⟩) (c:PySem.W.codeIn K cdv x=true) (k:PySem.W.keepIn K (.ref f)=true)
   (hb:∀ (kV doc pm:Value) (an:Option Addr) (cdv ct:Value) (us:List Value),us.length=ps.length->bindArgs (PySem.W.fnOf x x (defArgs st) (defBody st) (defScope st) .none kV doc pm an cdv ct) ⟨us,[]⟩=pure (ps.zip us)):DefAt K mg x st ps :=
 ⟨f,_,vC l c k,vo X G a,(vC l c k).binds hb⟩
section
variable {x:Str}{k:Nat}{e:Expr}{t:TA}{p pos:Pos}
theorem ze (F:FnAt X.prog X.w X.K X.mg X.base x ps k sp)(ha:PA X (e::es) t)(hr:Room k X.A:=by ext k)(hg:Gl X x:=by rfl)
   (he:starEach (e::es) X.env=(false,eval e X.env)::starEach es X.env:=by rfl) (hdb:(x==("__debug__":Str))=false:=by decide) (hpl:(backTo pos (starEach es X.env)).any (·.1)=false:=by rfl):PE X (.Call (.Name x p) (e::es) [] pos) (tCall sp [] E0 t):=by
 obtain ⟨f,fd,G,m,kp,b⟩:=F;exact ip G hr hg m kp b .nil pass0 ha hdb he hpl
end
def rLen (K:zh):List V->Hp->VK->Prop:=λxs H Q=>∃ p ys,xs=[.ref p]/\(SqL K H p ys\/SqT K H p ys)/\Q (.int ys.length) H
def rListOf (K:zh):List V->Hp->VK->Prop:=λxs H Q=>∃ p ys,xs=[.ref p]/\(SqL K H p ys\/SqT K H p ys)/\∀ l,H l=none->Q (.ref l) (upd H l (.lst ys))
theorem xE (K:zh)(h:X.K=K:=by rfl):IxR X (rIxL K):=h ▸ ix_list
theorem yr (K:zh)(h:X.K=K:=by rfl):IxR X (rIxT K):=h ▸ ix_tup
theorem vx (K:zh)(h:X.K=K:=by rfl):CallR X (.builtin "isinstance") (rIsi K):=h ▸ call_isi
theorem xh (K:zh)(h:X.K=K:=by rfl):CallR X (.builtin "len") (rLen K):=by subst h;exact cW
theorem cA (K:zh)(h:X.K=K:=by rfl):CallR X (.type "list") (rListOf K):=by subst h;exact cV
theorem op_inK (K:zh)(h:X.K=K:=by rfl):OpR X (compareOp .In) (rIn K false):=h ▸ cX
section
variable {l o e:Expr}{tl to:TE}{t:TA}{name:Str}{cpos:Pos}{T id:String}{r:V->List V->Hp->VK->Prop}
theorem yH (K:zh)(hl:PE X l tl)(h:X.K=K:=by rfl):PI X tg l (iList K tl):=h ▸ pi_list hl
theorem yg (K:zh)(pa:PlainAttrs T)(slot:Slot T name id)(hty:typeOf (.builtin id)=pure (.type "method_descriptor"))(hm:MtR X id r)(ho:PE X o to)(ha:PA X (e::es) t)(hK:X.K=K:=by rfl)
   (hbase:attributeBase o name X.env (eval o X.env)=eval o X.env:=by rfl)
   (hfew:((backTo cpos (starEach (e::es) X.env)).all (λx=>!x.1)&&(backToKw cpos (keywordEach [] X.env)).all (λx=>x.1.isSome)
     && decide ((e::es).length+([]:List Keyword).length+(if ([]:List Keyword).isEmpty then 0 else 1)<30))=true:=by rfl)
   (hline:(apos.endLine==cpos.line)=true:=by rfl) (hs:starEach (e::es) X.env=(false,eval e X.env)::starEach es X.env:=by rfl) (hplain:(backTo cpos (starEach es X.env)).any (·.1)=false:=by rfl) :
   PE X (.Call (.Attribute o name apos) (e::es) [] cpos) (tBM K T r to t):=hK ▸ pe_bm pa slot hty hm ho ha hbase hfew hline hs hplain
theorem gy (K:zh)(pa:PlainAttrs T)(slot:Slot T name id)(hty:typeOf (.builtin id)=pure (.type "method_descriptor"))(hm:MtR X id r)(ho:PE X o to)(hK:X.K=K:=by rfl)
   (hbase:attributeBase o name X.env (eval o X.env)=eval o X.env:=by rfl) (hline:(apos.endLine==cpos.line)=true:=by rfl):PE X (.Call (.Attribute o name apos) [] [] cpos) (tBM0 K T r to):=hK ▸ pe_bm0 pa slot hty hm ho hbase hline
end
section
variable {rest:List Stmt}{t u:TS}
end
theorem rep0:List.replicate 0 (none:Option V)=[]:=rfl
theorem rep1:List.replicate 1 (none:Option V)=[none]:=rfl
theorem rep2:List.replicate 2 (none:Option V)=[none,none]:=rfl
theorem rep3:List.replicate 3 (none:Option V)=[none,none,none]:=rfl
theorem rep4:List.replicate 4 (none:Option V)=[none,none,none,none]:=rfl
theorem rep5:List.replicate 5 (none:Option V)=[none,none,none,none,none]:=rfl
theorem rep6:List.replicate 6 (none:Option V)=[none,none,none,none,none,none]:=rfl
theorem rep7:List.replicate 7 (none:Option V)=[none,none,none,none,none,none,none]:=rfl
theorem rep9:List.replicate 9 (none:Option V)=[none,none,none,none,none,none,none,none,none]:=rfl
mutual
inductive RdD (K:zh) (H:Hp):V->PyData->Prop
 | non:RdD K H .non .none
 | bl (b:Bool):RdD K H (.bl b) (.bool b)
 | int (i:Int):RdD K H (.int i) (.int i)
 | str (x:Str):RdD K H (.str x) (.str x)
 | lst {a:Addr} {xs:List V} {ds:List PyData} (h:SqL K H a xs) (r:RdDs K H xs ds):RdD K H (.ref a) (.list ds)
 | tup {a:Addr} {xs:List V} {ds:List PyData} (h:SqT K H a xs) (r:RdDs K H xs ds):RdD K H (.ref a) (.tuple ds)
inductive RdDs (K:zh) (H:Hp):List V->List PyData->Prop
 | nil:RdDs K H [] []
 | cons {x:V} {d:PyData} {xs:List V} {ds:List PyData} (h:RdD K H x d) (r:RdDs K H xs ds):RdDs K H (x::xs) (d::ds)
end
section
variable {s:Shared}
theorem Inv.rd (I:Inv X pins σ H s){x:V}{d:PyData}(h:RdD X.K H x d):∀ {u:Value},RelV x u->∃ as,Reads s.heap u d as:=by
 refine RdD.rec (motive_1:=λx d _=>∀ u:Value,RelV x u->∃ as,Reads s.heap u d as) (motive_2:=λxs ds _=>∀ us:List Value,Vals xs us->∃ as,ReadsAll s.heap us ds as) ?_ ?_ ?_ ?_ ?_ ?_ ?_ ?_ h _;{intro _ r;cases r;exact ⟨_,.none⟩};{intro b _ r;cases r;exact ⟨_,.bool b⟩};{intro i _ r;obtain ⟨t,rfl⟩:=r;exact ⟨_,.int i t⟩};{intro x _ r;obtain ⟨t,rfl⟩:=r;exact ⟨_,.str x t⟩};{intro _ _ _ h _ ih _ r;cases r;obtain ⟨its,rv,pl,_⟩:=I.list h;obtain ⟨as,q⟩:=ih _ rv;obtain ⟨o,ho,hc,n,hd⟩:=pl.isList;exact ⟨_,.list ho hc hd (by simpa using q)⟩};{intro _ _ _ h _ ih _ r;cases r;obtain ⟨its,rv,pl,_⟩:=I.tuple h;obtain ⟨as,q⟩:=ih _ rv;obtain ⟨o,ho,hc,n,hd⟩:=pl;exact ⟨_,.tuple ho hc hd (by simpa using q)⟩};{intro _ r;cases r;exact ⟨_,.nil⟩}
 . intro _ _ _ _ _ _ i1 i2 _ r;cases r with
   | cons r1 r2 =>
     obtain ⟨as,q⟩:=i1 _ r1;obtain ⟨bs,p⟩:=i2 _ r2;exact ⟨_,.cons q p⟩
end
def rEqD (K:zh):R2:=λx y H Q=>∃ d e,RdD K H x d/\RdD K H y e/\SeqAt.shaped d=true/\SeqAt.shaped e=true/\SeqAt.noMix d e=true/\Q (.bl (PySem.Spec.same d e)) H
def rNeD (K:zh):R2:=λx y H Q=>∃ d e,RdD K H x d/\RdD K H y e/\SeqAt.shaped d=true/\SeqAt.shaped e=true/\SeqAt.noMix d e=true/\Q (.bl (!PySem.Spec.same d e)) H
theorem tF (K:zh)(hu:X.A.units+64<cLine)(h:X.K=K:=by rfl):OpR X (compareOp .Eq) (rEqD K):=by subst h;intro pins s σ H x y v u Q I rx ry h;obtain ⟨d,e,h1,h2,s1,s2,nm,q⟩:=h;obtain ⟨as,r1⟩:=I.rd h1 rx;obtain ⟨bs,r2⟩:=I.rd h2 ry;exact eq_dataH_same r1 r2 s1 s2 hu nm ⟨.bl _,H,I,rfl,q⟩
theorem op_neD (K:zh)(hu:X.A.units+64<cLine)(h:X.K=K:=by rfl):OpR X (compareOp .NotEq) (rNeD K):=by subst h;intro pins s σ H x y v u Q I rx ry h;obtain ⟨d,e,h1,h2,s1,s2,nm,q⟩:=h;obtain ⟨as,r1⟩:=I.rd h1 rx;obtain ⟨bs,r2⟩:=I.rd h2 ry;exact ne_dataH_same r1 r2 s1 s2 hu nm ⟨.bl _,H,I,rfl,q⟩
theorem hu64 {k:Nat}(hr:Room k A):A.units+64<cLine:=wV (by lia) hr.un
section
variable {Q:VK}{a b:Addr}
end
section
variable {Q:VK}{a b:Addr}
end
section
variable {Q:VK}{p:Addr}
theorem my (h:H p=some (.tup xs))(q:Q (.bl true) H):rIsi K [.ref p,.ty "tuple"] H Q:=⟨_,_,_,_,true,rfl,rfl,.tup h,rfl,q⟩
theorem rIsi_lst (h:H p=some (.lst xs))(q:Q (.bl true) H):rIsi K [.ref p,.ty "list"] H Q:=⟨_,_,_,_,true,rfl,rfl,.lst h,rfl,q⟩
end
end L2
namespace BM
open PySem L2 PyProof.Rows
theorem b9 {p:Nat}{r:List Nat}(h:Up (p+1) r):Builtin.bitAnd ((wd (p::r):Nat):Int) (-((wd (p::r):Nat):Int))=((2^p:Nat):Int):=by
 have hw:0<wd (p::r):=wd_pos;have e:Builtin.bitAnd ((wd (p::r):Nat):Int) (-((wd (p::r):Nat):Int))=((wd (p::r):Nat):Int)-((((wd (p::r):Nat):Int).toNat &&& (Builtin.bitNot (-((wd (p::r):Nat):Int))).toNat:Nat):Int):=by unfold Builtin.bitAnd;rw [zK (xA _),yu (by lia)]
 have e2:(Builtin.bitNot (-((wd (p::r):Nat):Int))).toNat=wd (p::r)-1:=by unfold Builtin.bitNot;lia
 rw [e,e2,yp,iQ h];have:wd (p::r)=2^p+wd r:=rfl;rw [this,oC];lia
theorem b8 {ps:List Nat}{p:Nat}(h:Up 0 (ps++[p])):Builtin.Int.intBits ((wd (ps++[p]):Nat):Int)=p+1:=by
 have h0:0<wd (ps++[p]):=by
   rw [qy];have:0<2^p:=yB (by decide);show 0<wd ps+(2^p+0)
   lia
 unfold Builtin.Int.intBits;rw [if_neg (by rw [xC];lia),Int.natAbs_natCast,log2_wd h]
end BM
namespace L2
open PySem PySem.Spec PyProof.Rows
def Itf (x:Nat->V)(n:Nat):It:=⟨λi _=>i<n,λi H v H'=>H'=H/\v=x i,λi _=>i=n⟩
theorem gx {it:Addr}{n:Nat}{Pv:Nat->Value->Prop}{St:Nat->Heap->Prop}{x:Nat->V}{ty:String}
   (hty:["enumerate","zip","dict_itemiterator","dict_reverseitemiterator","odict_iterator","itertools.zip_longest","itertools.pairwise"].contains ty=false)
   (W:∀ A:Around,A.handled=none->Walks P w A it [it] [it] n Pv St) (ob:∀ i h,St i h->∃ o vs,h.get? it=some o/\o.cls=.type ty/\o.data=.fields vs)
   (self:∀ (A:Around) (i:Nat) (s:Shared) (Q:Value->Shared->Prop) (E:Value->Shared->Prop),St i s.heap->Q (.ref it) s->wpAny (model P w) A (pyIter (.ref it)) Q E s)
   (val:∀ i v,i<n->Pv i v->RelV (x i) v) (fr:∀ i h h',St i h->(∀ b∈[it],∀ o,h.get? b=some o->h'.get? b=some o)->St i h'):Turn P w K tg (Itf x n) [it] it St where
 mem:=by simp
 obj:=λi h st b hb=>by
   have e:b=it:=by simpa using hb
   subst e;obtain ⟨o,vs,e,c,d⟩:=ob i h st;exact ⟨o,e,λv z=>by rw [d] at z;cases z⟩
 keep:=fr
 item:=by
   intro X hP hw hK hc i pins s σ H E I hf st hg;subst hP hw hK;obtain ⟨f0,f1,f2,f3,f4,f5⟩:=hf it (by simp);refine (W X.A (I.ok.hd hc)).item i s _ _ hg st λv h' tk hv st' kk=>?_
   have I1:Inv X pins σ H { s with heap:=h',toks:=tk }:=I.turned (λb o hb e=>kk b o (by simpa using hb) e) f0 f1 f3 f4 f5;obtain ⟨o,vs,e,c,d⟩:=ob _ _ st';exact ⟨v,rfl,go_of (s:={ s with heap:=h',toks:=tk }) e c d hty ⟨x i,H,I1,val i v hg hv,⟨rfl,rfl⟩,st',λb hb=>(hf b hb).1⟩⟩
 done:=by intro X hP hw hK hc i pins s σ H E I hf st hg;subst hP hw hK;have hg:i=n:=hg;subst hg;obtain ⟨f0,f1,f2,f3,f4,f5⟩:=hf it (by simp);refine (W X.A (I.ok.hd hc)).done s _ _ st λh' tk kk=>⟨rfl,I.turned (λb o hb e=>kk b o (by simpa using hb) e) f0 f1 f3 f4 f5⟩
 self:=self
def sgn (z:Str)(i:Nat):V:=.str ⟨#[z.cps.getD i 0]⟩
def iStr (te:TE):TI:=λσ H R=>te σ H λv H1=>∃ z,v=.str z/\R (Itf (sgn z) z.cps.size) H1
theorem sgn_at {z:Str}{i:Nat}{v:Value}(h:SignAt z i v):RelV (sgn z i) v:=by
 obtain ⟨c,u,e,rfl⟩:=h;refine ⟨u,?_⟩;have:z.cps.getD i 0=c:=by rw [t6,e];rfl
 rw [this]
theorem pi_str {l:Expr}{tl:TE}(hl:PE X l tl):PI X tg l (iStr tl):=by
 intro pins s σ H R I h;refine thn (hl pins s σ H _ I h) λv s1 hq=>?_
 obtain ⟨y,H1,I1,r1,z,e,q⟩:=hq;subst e;obtain ⟨t,rfl⟩:=r1;have fin:∀ (ty:String),["enumerate","zip","dict_itemiterator","dict_reverseitemiterator","odict_iterator","itertools.zip_longest","itertools.pairwise"].contains ty=false ->
     (∀ (it:Addr) (A:Around),A.handled=none->Walks X.prog X.w A it [it] [it] z.cps.size (SignAt z) (λi h=>h.IsStrIter it ty z t i)) ->
     (∀ (it:Addr) (A:Around) (i:Nat) (s:Shared) (Q:Value->Shared->Prop) (E:Value->Shared->Prop),s.heap.IsStrIter it ty z t i->Q (.ref it) s->wpAny (model X.prog X.w) A (pyIter (.ref it)) Q E s) ->
     PIE X pins σ tg R (.ref s1.heap.objs.size) { s1 with heap:=s1.heap.push { cls:=.type ty,data:=.fields #[.str z t,.int 0 0] } }:=λty hty W self=>by
   refine ⟨s1.heap.objs.size,[s1.heap.objs.size],_,_,H1,rfl,I1.kept (t':=s1.toks) λb o e=>zT _ e,
     gx hty (W _) (λi h st=>let ⟨o,e,c,d⟩:=st;⟨o,_,e,c,d⟩) (self _) (λi v _ hv=>sgn_at hv) (λi h h' st k=>let ⟨o,ho,r⟩:=st;⟨o,k _ (by simp) o ho,r⟩),⟨_,yn _ rfl,rfl,rfl⟩,λb hb=>?_,q⟩
   have e:b=s1.heap.objs.size:=by simpa using hb
   subst e;exact I1.fpOk (zi _) (I1.hok.fresh (zi _))
 cases ha:z.cps.all (·<128);{exact wpAny_pyIter_wide ha (fin _ (by decide) (λit A hA=>Walks.strWide hA it z t) λit A i s Q E st h=>wpAny_pyIter_striter_wide st h)};{exact wpAny_pyIter_ascii ha (fin _ (by decide) (λit A hA=>Walks.strAscii hA it z t) λit A i s Q E st h=>wpAny_pyIter_striter_ascii st h)}
def rngN (a b c:Int):Nat:=(Builtin.Range.rangeSize a b c).toNat
def iRng3 (ta:TA):TI:=λσ H R=>ta σ H λvs H1=>∃ a b c:Int,vs=[.int a,.int b,.int c]/\c≠0/\c.natAbs<1000000/\Builtin.Range.small a b c=true/\R (Itf (λi=>.int (a+(i:Nat)*c)) (rngN a b c)) H1
theorem b7 (a b c:Int):0<=Builtin.Range.rangeSize a b c:=by
 unfold Builtin.Range.rangeSize;split
 . split
   . rename_i h1 h2
     have:=Int.ediv_nonneg (show 0<=b-a-1 by lia) (show 0<=c by lia);lia
   . exact Int.le_refl _
 . split
   . rename_i h1 h2
     have:=Int.ediv_nonneg (show 0<=a-b-1 by lia) (show 0<=-c by lia);lia
   . exact Int.le_refl _
theorem gu {a b c:Expr} {ta:TA} {p pos:Pos} (hg:Gl X "range") (hm:X.mg "range"=none) (ha:PA X [a,b,c] ta) (hs:starEach [a,b,c] X.env=[(false,eval a X.env),(false,eval b X.env),(false,eval c X.env)]:=by rfl) (hs2:starEach [b,c] X.env=[(false,eval b X.env),(false,eval c X.env)]:=by rfl) :
   PI X tg (.Call (.Name "range" p) [a,b,c] [] pos) (iRng3 ta):=by
 intro pins s σ H R I h;refine Call_ (va I hg hm boot_range (uN (thn (ha pos pins s σ H _ I h) λus s1 ⟨vs,H1,I1,r1,q1⟩=>?_) (by rw [hs,hs2]) (by rw [hs2];rfl)));obtain ⟨i,j,k,e,hk,hk2,hsm,q⟩:=q1;subst e;cases r1 with
 | cons r rr =>
   cases rr with
   | cons r' rr =>
     cases rr with
     | cons r'' rr =>
       cases rr;obtain ⟨t,rfl⟩:=r;obtain ⟨t',rfl⟩:=r';obtain ⟨t'',rfl⟩:=r'';refine call_range_3 hk ?_ (.inl (kj (by lia)));refine wpAny_pyIter_range (IsRange.new ..) hsm ?_;have I2:Inv X pins σ H1 { s1 with heap:=s1.heap.push { cls:=.type "range",data:=.fields #[.int i t,.int j t',.int k t''] } }:=I1.kept (t':=s1.toks) λb o e=>zT _ e
       have hn:((rngN i j k:Nat):Int)=Builtin.Range.rangeSize i j k:=by unfold rngN;exact Int.toNat_of_nonneg (b7 i j k)
       refine ⟨(s1.heap.push { cls:=.type "range",data:=.fields #[.int i t,.int j t',.int k t''] }).objs.size,[(s1.heap.push { cls:=.type "range",data:=.fields #[.int i t,.int j t',.int k t''] }).objs.size],_,_,H1,rfl,
         I2.kept (t':=s1.toks) λb o e=>zT _ e,gx (x:=λm=>.int (i+(m:Nat)*k)) (ty:="range_iterator") (by decide) (λA hA=>Walks.range hA _ i k (rngN i j k)) (λ_ h st=>⟨_,_,st,rfl,rfl⟩) (λA _ s Q E st h=>wpAny_pyIter_rangeiter st h) (λm v _ hv=>hv) (λ_ h h' st kk=>kk _ (by simp) _ st),?_,λb hb=>?_,q⟩
       . show IsRangeIter _ _ (i+((0:Nat):Int)*k) (((rngN i j k:Nat):Int)-((0:Nat):Int)) k;have e1:i+((0:Nat):Int)*k=i:=by simp
         have e2:((rngN i j k:Nat):Int)-((0:Nat):Int)=Builtin.Range.rangeSize i j k:=by rw [hn];lia
         rw [e1,e2];exact yn _ rfl
       . have e:b=(s1.heap.push { cls:=.type "range",data:=.fields #[.int i t,.int j t',.int k t''] }).objs.size:=by simpa using hb
         subst e;exact I2.fpOk (zi _) (I2.hok.fresh (zi _))
theorem loopF {x:Nat->V}{n:Nat}{tb:TS}(Pv:Nat->St->Hp->Prop)(h0:Pv 0 σ H)
   (hs:∀ i σ H,i<n->Pv i σ H->g (x i) σ H λσ2 H2=>tb { D with nx:=Pv (i+1),ct:=Pv (i+1),bk:=D.nx } σ2 H2) (hd:∀ σ H,Pv n σ H->D.nx σ H):LoopJ (Itf x n) g tb D σ H:=by
 refine ⟨λi m σ H=>m=n-i/\i<=n/\Pv i σ H,⟨n,rfl,zS _,h0⟩,?_⟩;rintro i m σ H ⟨rfl,hi,hp⟩;by_cases hlt:i<n;{refine .inr ⟨hlt,Pv (i+1),λσ' H' h=>⟨n-(i+1),by lia,rfl,hlt,h⟩,?_⟩;rintro v H' ⟨rfl,rfl⟩;exact hs i σ H' hlt hp}
 . have e:i=n:=by lia
   subst e;exact .inl ⟨rfl,hd σ H hp⟩
theorem compF {x:Nat->V}{m n:Nat}{Q:VK}(p:Nat->Bool)(f:Nat->V)(hn:n<=1000000)
   (ht:∀ i H2 R,i<n->Same H1 H2->R (p i) H2->tt ((capSt m caps σ).set 0 (some (x i))) H2 R)
   (he:∀ i H2 R,i<n->p i=true->Same H1 H2->R (f i) H2->te ((capSt m caps σ).set 0 (some (x i))) H2 R)
   (hq:∀ D,H1 D=none->Q (.ref D) (upd H1 D (.lst (((List.range n).filter p).map f)))):CompJ (Itf x n) m caps (gName 0) tt te σ H1 Q :=
 compPure x p f hn (λ_ _=>rfl) (λ_ _ h _=>h) (λ_ _ _ _ _ _ h=>⟨h.2,h.1⟩) (λ_ _ _ _ _ h=>h _ rfl) ht he hq
theorem gs:∀ {xs:List Str} {us:List Value},Vals (xs.map V.str) us->StrsAre us xs
 | [],_,.nil=>.nil
 | _::_,_,.cons ⟨_,e⟩ r=>by subst e;exact .cons _ _ (gs r)
def rJoin (K:zh):V->List V->Hp->VK->Prop:=λx vs H Q=>∃ z p ys,x=.str z/\vs=[.ref p]/\SqL K H p (ys.map V.str)/\(ys.map (·.length)).sum+ys.length*z.length<=16777216/\Q (.str (Txt.join z ys)) H
theorem tE (K:zh)(h:X.K=K:=by rfl):MtR X "str.join" (rJoin K):=by subst h;intro pins s σ H x vs v us Q I rx rv h;obtain ⟨z,p,ys,rfl,rfl,hp,hz,q⟩:=h;obtain ⟨t,rfl⟩:=rx;obtain ⟨u,rfl,ru⟩:=rv.one;cases ru;obtain ⟨its,r,pl,_⟩:=I.list hp;exact join_list pl.isList (by simpa using gs r) hz λt' k=>⟨.str _,H,I.tok _,⟨_,rfl⟩,q⟩
theorem tyV_str {z:Str}:tyV K "str" (.str z) H:=rfl
theorem int_mk {h:Heap}{x:Str}{n:Int}{t:Tok}(X:K.In h)(G:h.Ns mainGlobals mg)(a:PySem.W.nsIn K mainGlobals x=some (some (.int n t))):∃ t,mg x=some (.int n t):=⟨t,vo X G a⟩
def MethAt (P:Program)(w:World)(K:zh)(mg:Str->Option Value)(base:Heap)(C:Addr)(m:Str)(ps:List Str)(k:Nat)(sp:Sp):Prop :=
 Cls K C/\∃ f fd,Meth K C m f/\FnOk P w K mg base CX0 k f fd ps sp/\Binds K fd ps []
def MDefAt (K:zh)(C:Addr)(m qual:Str)(st:Stmt)(ps:List Str):Prop:=∃ f fd,Fun K m qual st f fd/\Meth K C m f/\Binds K fd ps []
def MakeAt (P:Program)(w:World)(K:zh)(mg:Str->Option Value)(base:Heap)(x:Str)(C:Addr)(ps:List Str)(k:Nat)(sp:Sp):Prop :=
 mg x=some (.ref C)/\∃ f fd,Mk K C f/\FnOk P w K mg base CX0 k f fd ps sp/\Binds K fd ps []
def MakerAt (K:zh)(C:Addr)(qual:Str)(st:Stmt)(ps:List Str):Prop:=∃ f fd,Fun K "__init__" qual st f fd/\Mk K C f/\Binds K fd ps []
theorem MethAt.of {m:Str}{k:Nat}(c:Cls K C)(d:MDefAt K C m qual st ps)(S:FnScope N ps (defScope st))(len:∀ vs H Q E,sp vs H Q E->vs.length=ps.length)
   (hbody:∀ (f:Addr) (cdv:Value) (A:Around) (outer:List Env) (s:Shared) (H:Hp) (vs:List V) (Q:VK) (E:XK),Room k (A.deeper (envOfC qual (defScope st) s.heap.objs.size f cdv))->sp vs H Q E ->
     ∃ t,PSs (cxOf CX0 P w K mg base N qual (defScope st) f cdv A outer s H E).nox (defBody st) t/\t { nx:=λ_ H'=>Q .non H',rt:=Q } (start N vs) H):MethAt P w K mg base C m ps (k+1) sp:=by
 obtain ⟨f,fd,F,m,b⟩:=d;exact ⟨c,f,fd,m,F.ok S len (hbody f),b⟩
theorem MakeAt.of {x:Str}{k:Nat}(hx:mg x=some (.ref C))(d:MakerAt K C qual st ps)(S:FnScope N ps (defScope st))(len:∀ vs H Q E,sp vs H Q E->vs.length=ps.length)
   (hbody:∀ (f:Addr) (cdv:Value) (A:Around) (outer:List Env) (s:Shared) (H:Hp) (vs:List V) (Q:VK) (E:XK),Room k (A.deeper (envOfC qual (defScope st) s.heap.objs.size f cdv))->sp vs H Q E ->
     ∃ t,PSs (cxOf CX0 P w K mg base N qual (defScope st) f cdv A outer s H E).nox (defBody st) t/\t { nx:=λ_ H'=>Q .non H',rt:=Q } (start N vs) H):MakeAt P w K mg base x C ps (k+1) sp:=by
 obtain ⟨f,fd,F,m,b⟩:=d;exact ⟨hx,f,fd,m,F.ok S len (hbody f),b⟩
theorem mdef_mk {m:Str}{f:Addr}{oc:Value}{od an:Option Addr}{kV doc pm cdv ct:Value}(a:PySem.W.findIn K (.ref C) m=some (some (.ref f)))
   (l:K.lookup f=some ⟨oc,od,.func (PySem.W.fnOf m qual (defArgs st) (defBody st) (defScope st) .none kV doc pm an cdv ct),osl⟩) (c:PySem.W.codeIn K cdv qual=true) (k:PySem.W.keepIn K (.ref f)=true) (fn:PySem.W.isFn K (.ref f)=true)
   (hb:∀ (kV doc pm:Value) (an:Option Addr) (cdv ct:Value) (us:List Value),us.length=ps.length->bindArgs (PySem.W.fnOf m qual (defArgs st) (defBody st) (defScope st) .none kV doc pm an cdv ct) ⟨us,[]⟩=pure (ps.zip us)):MDefAt K C m qual st ps :=
 ⟨f,_,vC l c k,⟨a,fn,k⟩,(vC l c k).binds hb⟩
theorem maker_mk {f:Addr}{oc:Value}{od an:Option Addr}{kV doc pm cdv ct:Value}(a:PySem.W.findIn K (.ref C) "__init__"=some (some (.ref f)))
   (l:K.lookup f=some ⟨oc,od,.func (PySem.W.fnOf "__init__" qual (defArgs st) (defBody st) (defScope st) .none kV doc pm an cdv ct),osl⟩) (c:PySem.W.codeIn K cdv qual=true) (k:PySem.W.keepIn K (.ref f)=true) (fn:PySem.W.isFn K (.ref f)=true)
   (mk:PySem.W.makesIn K C=true) (kC:PySem.W.keepIn K (.ref C)=true)
   (hb:∀ (kV doc pm:Value) (an:Option Addr) (cdv ct:Value) (us:List Value),us.length=ps.length->bindArgs (PySem.W.fnOf "__init__" qual (defArgs st) (defBody st) (defScope st) .none kV doc pm an cdv ct) ⟨us,[]⟩=pure (ps.zip us)):MakerAt K C qual st ps :=
 ⟨f,_,vC l c k,⟨mk,a,fn,kC⟩,(vC l c k).binds hb⟩
def tMeD (P:Program)(w:World)(K:zh)(mg:Str->Option Value)(base:Heap)(k0:Nat)(m:Str)(ta:TE)(t:TA):TE:=λσ H Q=>ta σ H λx H1=>∃ a C dx fs ps sp,x=.ref a/\H1 a=some (.ins C dx fs)/\fs.lookup m=none /\
 MethAt P w K mg base C m ps k0 sp/\t σ H1 λvs H2=>sp (x::vs) H2 Q E0
section
variable {k0:Nat}{x m:Str}{p pos:Pos}{e o:Expr}{ta:TE}{t:TA}
theorem yV (P:Program)(w:World)(K:zh)(mg:Str->Option Value)(base:Heap)(k0:Nat){pl:Sem Bool}(he:PE X o ta)(ha:PA X (e::es) t)(hr:Room k0 X.A:=by ext k)(hP:X.prog=P:=by rfl)(hw:X.w=w:=by rfl)(hK:X.K=K:=by rfl)(hmg:X.mg=mg:=by rfl)(hbs:X.base=base:=by rfl)
   (hst:starEach (e::es) X.env=(false,eval e X.env)::starEach es X.env:=by rfl) (hpl:(backTo pos (starEach es X.env)).any (·.1)=false:=by rfl)
   (ht:eval (.Call (.Attribute o m apos) (e::es) [] pos) X.env=(do
     let ov <- eval o X.env
     standAt apos.atName
     let (f,first) <- holding [ov] (getMethod ov m pl)
     callWith pos f first (backTo pos (starEach (e::es) X.env)) (backToKw pos (keywordEach [] X.env))):=by rfl) :
   PE X (.Call (.Attribute o m apos) (e::es) [] pos) (tMeD P w K mg base k0 m ta t):=by
 subst hP hw hK hmg hbs;intro pins s σ H Q I h;refine kh (pl:=pl) (thn (he pins s σ H _ I h) λu s1 hz=>?_) ht;obtain ⟨x,H1,I1,rx,a,C,dx,fs,ps,sp,ex,ea,l,⟨c,f,fd,me,F,b⟩,q⟩:=hz;subst ex;obtain rfl:u=Value.ref a:=rx;refine iq I1 ea c me l ?_;refine ux (first:=[.ref a]) (h₀:=X.base) I.ok.mod.kin me.kp (thn (ha pos pins s1 σ H1 _ I1 q) λus s2 ⟨vs,H2,I2,r,q2⟩=>⟨I2.kIn,?_⟩) hst hpl;exact rE (us:=.ref a::us) (vs:=.ref a::vs) (dvs:=[]) F hr b .nil pass0 I2 (.cons rfl r) (by rw [zH];exact q2)
theorem su {k:Nat}(F:MakeAt X.prog X.w X.K X.mg X.base x C ps k sp)(hr:Room (k+1) X.A)(hg:Gl X x)(ha:PA X (e::es) t)
   (hdb:(x==("__debug__":Str))=false:=by decide) (he:starEach (e::es) X.env=(false,eval e X.env)::starEach es X.env:=by rfl) (hpl:(backTo pos (starEach es X.env)).any (·.1)=false:=by rfl) :
   PE X (.Call (.Name x p) (e::es) [] pos) (tMake C sp [] E0 t):=by
 obtain ⟨hm,f,fd,M,F,b⟩:=F;exact pe_make M F hr hg hm b .nil pass0 ha hdb he hpl
theorem mx (K:zh){value:Expr}{f:Str}{tv:TE}(ha:PE X o ta)(hv:PE X value tv)(hs:swapsWith value (some (.Attribute o f pos')) pos.line X.env=pure false:=by rfl)(h:X.K=K:=by rfl):PS X (.Assign [.Attribute o f pos'] value pos) (sFld K ta tv f):=h ▸ ps_fld ha hv hs
theorem xX (K:zh){f:Str}(he:PE X e ta)(h:X.K=K:=by rfl)(hb:attributeBase e f X.env (eval e X.env)=eval e X.env:=by rfl):PE X (.Attribute e f pos) (tFld K ta f):=h ▸ pe_fld he hb
end
section
variable {k0:Nat}{m f:Str}{ta tv:TE}{t:TA}{Q:VK}{dvs:List V}{E:XK}
theorem gr (K:zh)(h:X.K=K:=by rfl):SlR X (rSlL K):=h ▸ sl_list
theorem vA (K:zh){pos:Pos}{k:Nat}{t:TGs}{n:Nat}(hc:X.calm=true)(h:PGs X es t)(hK:X.K=K:=by rfl)
   (hn:(assignEach es X.env).length=n:=by rfl) (hst:(assignEach es X.env).findIdx? (·.1)=none:=by rfl):PG X (.Tuple es k pos) (gTup K n t):=hK ▸ pg_tup hc h hn hst
end
def CompYes (n i:Nat)(D:Addr)(I:Nat->List V->Hp->Prop)(y:V)(H6:Hp):Prop:=∃ xs,H6 D=some (.lst xs)/\xs.length<sizeLine/\∃ m',m'<n-i/\m'=n-(i+1)/\∃ ys,I (i+1) ys (upd H6 D (.lst (xs++[y])))
def CompNo (n i:Nat)(I:Nat->List V->Hp->Prop)(H5:Hp):Prop:=∃ m',m'<n-i/\m'=n-(i+1)/\∃ ys,I (i+1) ys H5
theorem compYes {n i:Nat}{D:Addr}{I:Nat->List V->Hp->Prop}{y:V}{H6:Hp}{ys:List V}(hn:n<=1000000)(hi:i<n)(hl:ys.length<=i)(h:H6 D=some (.lst ys))(q:I (i+1) (ys++[y]) (upd H6 D (.lst (ys++[y])))):CompYes n i D I y H6 :=
 ⟨ys,h,by rw [vO];lia,n-(i+1),by lia,rfl,_,q⟩
theorem compG {J:It}{m n:Nat}{Q:VK}(I:Addr->Nat->List V->Hp->Prop)
   (h0:∀ D,H1 D=none->I D 0 [] (upd H1 D (.lst []))) (hl:∀ D i ys H2,I D i ys H2->i<=n)
   (hstop:∀ D ys H2,H1 D=none->I D n ys H2->J.stop n H2) (hgo:∀ D i ys H2,H1 D=none->i<n->I D i ys H2->J.go i H2)
   (turn:∀ D i ys H2 x H3,H1 D=none->i<n->I D i ys H2->J.yld i H2 x H3->g x (capSt m caps σ) H3 λσ4 H4=>tt σ4 H4 λb H5=>if b=true then te σ4 H5 λy H6=>CompYes n i D (I D) y H6 else CompNo n i (I D) H5)
   (hq:∀ D ys H2,H1 D=none->I D n ys H2->Q (.ref D) H2):CompJ J m caps g tt te σ H1 Q:=by
 intro D hD;refine ⟨λi k H2=>k=n-i/\∃ ys,I D i ys H2,⟨n,rfl,[],h0 D hD⟩,?_⟩;rintro i k H2 ⟨rfl,ys,hI⟩;have h1:=hl D i ys H2 hI;by_cases hlt:i<n;{exact .inr ⟨hgo D i ys H2 hD hlt hI,λx H3 y=>turn D i ys H2 x H3 hD hlt hI y⟩}
 . have e:i=n:=by lia
   subst e;exact .inl ⟨hstop D ys H2 hD hI,hq D ys H2 hD hI⟩
theorem Same.put {a:Addr}{o:HO}(s:Same H H')(h:H a=none):Same H (upd H' a o):=λb u e=>by rw [zo (zC e h)];exact s b u e
theorem Same.new {a:Addr}{o:HO}(h:H a=none):Same H (upd H a o):=(Same.refl H).put h
section
variable {s:Shared}
end
section
variable {e:Expr}{p p' pos:Pos}
end
def IsiTo (K:zh)(mg:Str->Option Value)(C:Addr)(x:Str)(b:Bool):Prop:=∀ S,mg x=some (.ref S)->PySem.W.kitOne K (.ref C) (.ref S)=some b
theorem isi_to {h:Heap}{x:Str}{S:Addr}{b:Bool}(X:K.In h)(G:h.Ns mainGlobals mg)(a:PySem.W.nsIn K mainGlobals x=some (some (.ref S)))(r:PySem.W.kitOne K (.ref C) (.ref S)=some b):IsiTo K mg C x b:=λT e=>by
 rw [vo X G a] at e;cases e;exact r
theorem all1 {α:Type}{p:List α->Prop}(h:∀ a,p [a]):∀ us:List α,us.length=1->p us
 | [a],_=>h a
theorem all2 {α:Type}{p:List α->Prop}(h:∀ a b,p [a,b]):∀ us:List α,us.length=2->p us
 | [a,b],_=>h a b
theorem all3 {α:Type}{p:List α->Prop}(h:∀ a b c,p [a,b,c]):∀ us:List α,us.length=3->p us
 | [a,b,c],_=>h a b c
theorem all4 {α:Type}{p:List α->Prop}(h:∀ a b c d,p [a,b,c,d]):∀ us:List α,us.length=4->p us
 | [a,b,c,d],_=>h a b c d
end L2
namespace BM
open PySem L2 PyProof.Rows
theorem and_side {m a b c d:Nat}(ha:a<2^m)(hc:c<2^m):(a+2^m*b) &&& (c+2^m*d)=(a &&& c)+2^m*(b &&& d):=by
 have hac:a &&& c<2^m:=wV Nat.and_le_left ha;apply oU
 intro i;rw [rX];rw [vI a,vI c,vI (a &&& c)];rw [wY _ ha,wY _ hc,wY _ hac];split;{rw [rX]};{rw [rX]}
def msk (k:Nat):Nat->Nat
 | 0=>0
 | n+1=>(2^k-1)+2^(2*k)*msk k n
def lay2 (k:Nat):Nat->Nat->Nat
 | 0,_=>0
 | n+1,w=>(w%2^k+w/2^k%2^k)+2^(2*k)*lay2 k n (w/2^(2*k))
def fs (k:Nat):Nat->Nat->Nat
 | 0,_=>0
 | n+1,w=>w%2^k+fs k n (w/2^k)
theorem gq (k:Nat):∀ (n w:Nat),w &&& msk k (n+1)=w%2^k+2^(2*k)*(w/2^(2*k) &&& msk k n):=by
 intro n w;have h2:2^k<=2^(2*k):=uf (by decide) (by lia);have hp:0<2^k:=yB (by decide);have e:w=w%2^(2*k)+2^(2*k)*(w/2^(2*k)):=(Nat.mod_add_div _ _).symm
 conv=>lhs;rw [e]
 show _ &&& ((2^k-1)+2^(2*k)*msk k n)=_;rw [and_side (xZ _ (yB (by decide))) (by lia),kY];congr 1
 exact Nat.mod_mod_of_dvd _ (rY 2 (by lia))
theorem swar (k:Nat):∀ (n w:Nat),(w &&& msk k n)+((w >>> k) &&& msk k n)=lay2 k n w
 | 0,w=>by show (w &&& 0)+((w >>> k) &&& 0)=0;rw [Nat.and_zero,Nat.and_zero]
 | n+1,w=>by
   rw [gq,gq,oi,tw,<- tR,vI k (2*k),tR,<- tw,<- oi (w/2^(2*k)) k];show _=(w%2^k+w/2^k%2^k)+2^(2*k)*lay2 k n (w/2^(2*k));rw [<- swar k n (w/2^(2*k)),Nat.mul_add];lia
theorem sr {k:Nat}(hk:0<k):∀ (n w:Nat),fs (2*k) n (lay2 k n w)=fs k (2*n) w
 | 0,_=>rfl
 | n+1,w=>by
   have hp:0<2^k:=yB (by decide);have h2:2^k*2<=2^(2*k):=by rw [<- yK];exact uf (by decide) (by lia)
   have a1:=xZ w hp;have a2:=xZ (w/2^k) hp;have hs:w%2^k+w/2^k%2^k<2^(2*k):=by lia
   show lay2 k (n+1) w%2^(2*k)+fs (2*k) n (lay2 k (n+1) w/2^(2*k))=w%2^k+(w/2^k%2^k+fs k (2*n) (w/2^k/2^k))
   have e:lay2 k (n+1) w=(w%2^k+w/2^k%2^k)+2^(2*k)*lay2 k n (w/2^(2*k)):=rfl;rw [e,r9,tY hs,Nat.add_mul_div_left _ _ (yB (by decide)),Nat.div_eq_of_lt hs,xk,sr hk n,tw,<- tR,<- Nat.two_mul];lia
theorem fs_mod (k : Nat):∀ (n w:Nat),w<2^(k*n)->w%(2^k-1)=fs k n w%(2^k-1)
 | 0, w, h => by have:w=0:=by simpa using h
                 subst this;rfl
 | n + 1,w,h=>by
   have hp:0<2^k:=yB (by decide);have hd:w/2^k<2^(k*n):=by rw [Nat.div_lt_iff_lt_mul hp,<- tR];exact h
   have ih:=fs_mod k n (w/2^k) hd;show _=(w%2^k+fs k n (w/2^k))%(2^k-1);rw [rN,<- ih,<- rN];have e:w=w%2^k+w/2^k+(2^k-1)*(w/2^k):=by
     have:=Nat.mod_add_div w (2^k);have:2^k*(w/2^k)=w/2^k+(2^k-1)*(w/2^k):=by
       generalize w/2^k=q;have z:2^k=1+(2^k-1):=by lia
       conv=>lhs;rw [z]
       rw [Nat.add_mul,Nat.one_mul]
     lia
   conv=>lhs;rw [e]
   rw [r9]
theorem gn {k:Nat}(hk:0<k):∀ (n w:Nat),lay2 k n w<2^(2*k*n)
 | 0,_=>by show 0<2^(2*k*0);exact yB (by decide)
 | n+1,w=>by
   have hp:0<2^k:=yB (by decide);have h2:2^k*2<=2^(2*k):=by rw [<- yK];exact uf (by decide) (by lia)
   have a1:=xZ w hp;have a2:=xZ (w/2^k) hp;have ih:=gn hk n (w/2^(2*k));have e:lay2 k (n+1) w=(w%2^k+w/2^k%2^k)+2^(2*k)*lay2 k n (w/2^(2*k)):=rfl;rw [e,ny,vI (2*k*n),tR];have:2^(2*k)*(lay2 k n (w/2^(2*k))+1)<=2^(2*k)*2^(2*k*n):=Nat.mul_le_mul_left _ ih;rw [ny] at this;lia
theorem fs_one:∀ (n w:Nat),fs 1 n w=((List.range n).filter w.testBit).length
 | 0,_=>rfl
 | n + 1,w=>by
   show w%2^1+fs 1 n (w/2^1)=_;rw [fs_one n,kJ,w8,tW];have hc:(List.range n).filter (w/2^1).testBit=(List.range n).filter (w.testBit ∘ Nat.succ):=rg λi _=>by
     show (w/2^1).testBit i=w.testBit (i+1);rw [Nat.testBit_succ,Nat.pow_one]
   rw [hc];have h0:w.testBit 0=decide (w%2=1):=Nat.testBit_zero w;rw [h0];rcases Nat.mod_two_eq_zero_or_one w with z | z
   . simp [z]
   . simp [z];lia
theorem fs_le:∀ (n w:Nat),fs 1 n w<=n
 | 0,_=>zi _
 | n+1,w=>by
   show w%2^1+fs 1 n (w/2^1)<=_;have:=fs_le n (w/2^1);have:=xZ w (y:=2^1) (by decide);lia
theorem fs_mod16 (w:Nat)(h:w<2^(2*8*16)):w%65535=fs 16 16 w%65535:=by
 have:=fs_mod 16 16 w h;have e:(2:Nat)^16-1=65535:=by decide
 rw [e] at this;exact this
theorem popc (w:Nat):lay2 8 16 (lay2 4 32 (lay2 2 64 (lay2 1 128 w)))%65535=((List.range 256).filter w.testBit).length:=by have h1:=sr (k:=1) (by decide) 128 w;have h2:=sr (k:=2) (by decide) 64 (lay2 1 128 w);have h3:=sr (k:=4) (by decide) 32 (lay2 2 64 (lay2 1 128 w));have h4:=sr (k:=8) (by decide) 16 (lay2 4 32 (lay2 2 64 (lay2 1 128 w)));have b:=gn (k:=8) (by decide) 16 (lay2 4 32 (lay2 2 64 (lay2 1 128 w)));have b1:=fs_le 256 w;generalize lay2 8 16 (lay2 4 32 (lay2 2 64 (lay2 1 128 w)))=z at h4 b ⊢;generalize lay2 4 32 (lay2 2 64 (lay2 1 128 w))=y at h3 h4;generalize lay2 2 64 (lay2 1 128 w)=x at h2 h3;generalize lay2 1 128 w=v at h1 h2;have e1:fs 16 16 z=fs 8 32 y:=h4;have e2:fs 8 32 y=fs 4 64 x:=h3;have e3:fs 4 64 x=fs 2 128 v:=h2;have e4:fs 2 128 v=fs 1 256 w:=h1;rw [fs_mod16 z b,e1,e2,e3,e4,<- fs_one];exact tY (by lia)
theorem msk1:msk 1 128=0x5555555555555555555555555555555555555555555555555555555555555555:=by decide +kernel
theorem msk2:msk 2 64=0x3333333333333333333333333333333333333333333333333333333333333333:=by decide +kernel
theorem msk4:msk 4 32=0x0F0F0F0F0F0F0F0F0F0F0F0F0F0F0F0F0F0F0F0F0F0F0F0F0F0F0F0F0F0F0F0F:=by decide +kernel
theorem msk8:msk 8 16=0x00FF00FF00FF00FF00FF00FF00FF00FF00FF00FF00FF00FF00FF00FF00FF00FF:=by decide +kernel
theorem len_pl {ps:List Nat}(h:Up 0 ps)(hn:∀ p∈ps,p<256):((List.range 256).filter (wd ps).testBit).length=ps.length:=by have:=pl_wd h hn;unfold pl at this;rw [this]
theorem swarI {k n w:Nat}{m d:Int}(hm:m=((msk k n:Nat):Int))(hd:d=((2^k:Nat):Int)):Builtin.bitAnd (w:Int) m+Builtin.bitAnd ((w:Int)/d) m=((lay2 k n w:Nat):Int):=by subst hm hd;rw [<- Int.natCast_ediv,bitAnd_pp (xA _) (xA _),bitAnd_pp (xA _) (xA _),yp,yp,yp,<- oC,<- swar k n w,oi]
theorem countI {ps:List Nat}(h:Up 0 ps)(hn:∀ p∈ps,p<256):((lay2 8 16 (lay2 4 32 (lay2 2 64 (lay2 1 128 (wd ps)))):Nat):Int)%65535=(ps.length:Int):=by have e:=popc (wd ps);rw [len_pl h hn] at e;rw [<- e,Int.natCast_emod];rfl
end BM
namespace L2
open PySem PySem.Spec PyProof.Rows
section
variable {s:Shared}
theorem Inv.turnedNew {ch:List Addr} {T:Addr} {o:HO} (I:Inv X pins σ H s) (hf:∀ b∈ch,FpOk X pins H b) (k:∀ b u,b∉ch->s.heap.get? b=some u->h'.get? b=some u) (hT:s.heap.objs.size<=T)
   (new:ObjOk X.prog X.w (upd H T o) h' T o):Inv X pins σ (upd H T o) { s with heap:=h',toks:=t' }:=by
 have nT:H T=none:=I.hok.fresh hT;have nch:∀ b u,H b=some u->b∉ch:=λb u e z=>by
   rw [(hf b z).1] at e;cases e
 have neT:∀ b u,s.heap.get? b=some u->b≠T:=λb u e z=>absurd (yl (zU e) (by rw [z];exact hT)) (xM _)
 have lch:X.env.locals∉ch:=λz=>(hf _ z).2.1 rfl
 refine I.step (g':=s.gens) (d':=s.drawn) (ch:=ch) (λb hb=>?_) (λb u _ _ hc e _=>k b u hc e) (λb u _ _ hc e _=>⟨u.slots,k b u hc e⟩) (λb u _ e n=>?_) (λb u hc e=>⟨u,k b u hc e⟩) (λb xs e=>?_) (λb u v e=>?_) (λb ps e=>⟨#[],?_⟩) (λm hm=>?_) (λb u e=>?_) I.bare;{obtain ⟨_,f1,_,f3,f4,f5⟩:=hf b hb;exact ⟨f3,f1,f4,f5⟩};{rw [zo (neT b u e)];exact n};{rw [zo (zC e nT)];exact e};{rw [zo (zC e nT)];exact e};{rw [zo (zC e nT),e];simp};{obtain ⟨u,es,ep,ho,r⟩:=hm;exact ⟨u,es,ep,k _ u lch ho,r⟩}
 . by_cases hb:b=T
   . subst hb;rw [zm] at e;cases e;exact new
   . rw [zo hb] at e;refine (I.hok b u e).stay (λc v hc q=>k c v ?_ q) (λc q=>?_) λc xs q=>?_
     . rcases hc with z | z
       . rw [z];exact nch b u e
       . exact nch c _ z
     . rw [zo (zC q nT)];exact q
     . rw [zo (zC q nT)];exact q
theorem Inv.turnedL {ch:List Addr}(I:Inv X pins σ H s)(hf:∀ b∈ch,FpOk X pins H b)(k:∀ b u,b∉ch->s.heap.get? b=some u->h'.get? b=some u):Inv X pins σ H { s with heap:=h',toks:=t' }:=by
 have nch:∀ b u,H b=some u->b∉ch:=λb u e z=>by
   rw [(hf b z).1] at e;cases e
 have lch:X.env.locals∉ch:=λz=>(hf _ z).2.1 rfl
 refine I.step (g':=s.gens) (d':=s.drawn) (ch:=ch) (λb hb=>?_) (λb u _ _ hc e _=>k b u hc e) (λb u _ _ hc e _=>⟨u.slots,k b u hc e⟩) (λ_ _ _ _ n=>n) (λb u hc e=>⟨u,k b u hc e⟩) (λ_ _ e=>e) (λ_ _ _ e=>e) (λb ps e=>⟨#[],by rw [e];simp⟩) (λm hm=>?_) (λb u e=>?_) I.bare;{obtain ⟨_,f1,_,f3,f4,f5⟩:=hf b hb;exact ⟨f3,f1,f4,f5⟩};{obtain ⟨u,es,ep,ho,r⟩:=hm;exact ⟨u,es,ep,k _ u lch ho,r⟩}
 . refine (I.hok b u e).stay (λc v hc q=>k c v ?_ q) (λ_ q=>q) λ_ _ q=>q
   rcases hc with z | z
   . rw [z];exact nch b u e
   . exact nch c _ z
end
section
variable {x:V}{Q:VK}
end
end L2
namespace ZT
open PySem PySem.Spec PyProof.Rows
section
variable {s:Shared}
end
section
variable {s:Shared}
end
theorem size_push {h:Heap}{o:Obj}:(h.push o).objs.size=h.objs.size+1:=vP ..
section
variable {s:Shared}
end
end ZT
namespace Srt
open PySem PyProof.Rows
def gallop':Bool->Keyed->Array Keyed->Nat->Nat->Nat->StateT SortSt Sem (Option Nat):=sortPriv% PySem.Builtin.gallop
def beyond' (left:Bool)(key:Keyed)(arr:Array Keyed)(base i:Nat):StateT SortSt Sem (Option Bool):=do
 let x <- elem' arr (base+i)
 if left then lt' x key else return (<- lt' key x).map (!·)
structure Cmp (M:Model)(A:Around)(E:Value->Shared->Prop)(s:Shared)(kd:SortKind)(S:Keyed->Prop)(L:Keyed->Keyed->Bool):Prop where
 lt:∀ (x y:Keyed) (st:SortSt) (Q:Option Bool->SortSt->Prop),S x->S y->kindOf st=kd->Q (some (L x y)) st->wpS M A E s (lt' x y) Q st
 asym:∀ x y,L x y=true->L y x=false
 neg:∀ x y z,S x->S y->S z->L x z=true->L x y=true\/L y z=true
section
variable {M:Model}{s:Shared}{kd:SortKind}{S:Keyed->Prop}{L:Keyed->Keyed->Bool}
def pb (L:Keyed->Keyed->Bool)(left:Bool)(key:Keyed)(arr:Array Keyed)(base i:Nat):Bool:=match arr[base+i]? with
 | some x=>if left then L x key else !L key x
 | none=>false
theorem ye {arr:Array Keyed}{i:Nat}{x:Keyed}{st:SortSt}{Q:Keyed->SortSt->Prop}(e:arr[i]?=some x)(h:Q x st):wpS M A E s (elem' arr i) Q st:=by rw [elem'_eq,e];exact zg h
theorem bz (C:Cmp M A E s kd S L){left:Bool}{key:Keyed}{arr:Array Keyed}{base i:Nat}{st:SortSt}{Q:Option Bool->SortSt->Prop}(hk:kindOf st=kd)(sk:S key)(sa:∀ x∈arr.toList,S x)(hi:base+i<arr.size)
   (h:Q (some (pb L left key arr base i)) st):wpS M A E s (beyond' left key arr base i) Q st:=by
 have e:arr[base+i]?=some (arr[base+i]'hi):=zD arr (base+i) hi;have sx:S (arr[base+i]'hi):=sa _ (by simp);unfold pb at h;rw [e] at h;unfold beyond';refine zk (ye e ?_);cases left with
 | true=>exact C.lt _ _ _ _ sx sk hk h
 | false =>
   simp only [xQ,x4] at h ⊢;exact zk (C.lt _ _ _ _ sk sx hk (zg h))
theorem uU  (C:Cmp M A E s kd S L) {left:Bool} {key:Keyed} {arr:Array Keyed} {base n hint:Nat} {st:SortSt} {Q:Option Nat->SortSt->Prop} (hk:kindOf st=kd) (sk:S key) (sa:∀ x∈arr.toList,S x) (hn:base+n<=arr.size) (hh:hint<n)
   (mono:∀ i j,i<=j->j<n->pb L left key arr base j=true->pb L left key arr base i=true)
   (h:∀ k,k<=n->(∀ i,i<k->pb L left key arr base i=true)->(∀ i,k<=i->i<n->pb L left key arr base i=false)->Q (some k) st):wpS M A E s (gallop' left key arr base n hint) Q st:=by
 unfold gallop'
 k_delta "gallop"
 dsimp only;generalize hp:pb L left key arr base=p at mono h;have monoF:∀ i j,i<=j->j<n->p i=false->p j=false:=λi j hij hj hi=>by
   cases e:p j with
   | false=>rfl
   | true=>rw [mono i j hij hj e] at hi;cases hi
 have ask:∀ {i:Nat} {Q':Option Bool->SortSt->Prop},i<n->Q' (some (p i)) st->wpS M A E s (beyond' left key arr base i) Q' st:=λhi q =>
   bz C hk sk sa (by lia) (by rw [hp];exact q)
 refine zk (ask hh ?_);dsimp only;cases e0:p hint with
 | true =>
   rw [if_pos rfl];refine zk (xy (yM (I:=λx c st'=>st=st'/\c.1=none/\c.2.1<c.2.2/\hint+c.2.1<n/\x+1<=c.2.2/\p (hint+c.2.1)=true)
     (Q:=λc st'=>st=st'/\c.1=none/\c.2.1<c.2.2/\hint+c.2.1<n/\p (hint+c.2.1)=true/\(c.2.2≥n-hint\/p (hint+c.2.2)=false)) ?step ?fin ?init) ?post)
   case init=>exact ⟨rfl,rfl,Nat.one_pos,hh,zi _,e0⟩
   case fin =>
     rintro ⟨c1,c2,c3⟩ st' ⟨rfl,e1,g1,g2,g3,g4⟩;refine ⟨rfl,e1,g1,g2,g4,.inl ?_⟩;dsimp only at *;lia
   case step =>
     rintro x ⟨c1,c2,c3⟩ st' _ hx ⟨rfl,e1,g1,g2,g3,g4⟩;dsimp only at *;subst e1;by_cases hlt:c3≥n-hint;{rw [if_pos hlt];exact zg ⟨rfl,rfl,g1,g2,g4,.inl hlt⟩}
     . rw [if_neg hlt]
       refine zk (ask (by lia) ?_);dsimp only;cases e:p (hint+c3) with
       | true =>
         rw [if_neg (by decide)];refine zg ⟨rfl,rfl,?_,?_,?_,e⟩;{show c3<2*c3+1;lia};{show hint+c3<n;lia}
         . show x+1+1<=2*c3+1;lia
       | false =>
         rw [if_pos (by decide)];exact zg ⟨rfl,rfl,g1,g2,g4,.inr e⟩
   case post =>
     rintro ⟨c1,c2,c3⟩ st' ⟨rfl,e1,g1,g2,g4,g5⟩;dsimp only at *;subst e1;dsimp only;have h1:hint+c2+1<=hint+min c3 (n-hint):=by lia
     have h2:hint+min c3 (n-hint)<=n:=by lia
     have h3:∀ i,i<hint+c2+1->p i=true:=λi hi=>mono i (hint+c2) (by lia) g2 g4
     have h4:∀ i,hint+min c3 (n-hint)<=i->i<n->p i=false:=by
       intro i hi hin;rcases g5 with z | z
       . lia
       . by_cases hc:c3≥n-hint
         . lia
         . exact monoF _ i (by lia) hin z
     clear g1 g2 g4 g5;refine zk (xy (yM (I:=λx c st'=>st=st'/\c.1=none/\c.2.1<=c.2.2/\c.2.2<=n/\(c.2.2-c.2.1<=n-x)/\(∀ i,i<c.2.1->p i=true)/\(∀ i,c.2.2<=i->i<n->p i=false))
       (Q:=λc st'=>st=st'/\c.1=none/\c.2.2<=n/\(∀ i,i<c.2.2->p i=true)/\(∀ i,c.2.2<=i->i<n->p i=false)) ?step2 ?fin2 ?init2) ?post2)
     case init2=>exact ⟨rfl,rfl,h1,h2,zO (Nat.sub_le _ _) h2,h3,h4⟩
     case fin2 =>
       rintro ⟨c1,c2,c3⟩ st' ⟨rfl,e1,g1,g2,g3,g4,g5⟩;dsimp only at *;have:c2=c3:=by lia
       subst this;exact ⟨rfl,e1,g2,g4,g5⟩
     case post2 =>
       rintro ⟨c1,c2,c3⟩ st' ⟨rfl,e1,g2,g4,g5⟩;dsimp only at *;subst e1;exact zg (h _ g2 g4 g5)
     case step2 =>
       rintro x ⟨c1,c2,c3⟩ st' _ hx ⟨rfl,e1,g1,g2,g3,g4,g5⟩;dsimp only at *;subst e1;by_cases hlt:c2≥c3
       . rw [if_pos hlt];have:c2=c3:=by lia
         subst this;exact zg ⟨rfl,rfl,g2,g4,g5⟩
       . rw [if_neg hlt]
         refine zk (ask (by lia) ?_);dsimp only;cases e:p (c2+(c3-c2)/2) with
         | true =>
           rw [if_pos rfl];refine zg ⟨rfl,rfl,?_,g2,?_,λi hi=>?_,g5⟩;{show c2+(c3-c2)/2+1<=c3;lia}
           . show c3-(c2+(c3-c2)/2+1)<=n-(x+1)
             lia
           . have hi:i<c2+(c3-c2)/2+1:=hi;exact mono i _ (by lia) (by lia) e
         | false =>
           rw [if_neg (by decide)];refine zg ⟨rfl,rfl,?_,?_,?_,g4,λi hi hin=>monoF _ i hi hin e⟩;{show c2<=c2+(c3-c2)/2;lia};{show c2+(c3-c2)/2<=n;lia}
           . show c2+(c3-c2)/2-c2<=n-(x+1)
             lia
 | false =>
   rw [if_neg (by decide)];refine zk (xy (yM (I:=λx c st'=>st=st'/\c.1=none/\c.2.1<c.2.2/\c.2.1<=hint/\x+1<=c.2.2/\p (hint-c.2.1)=false)
     (Q:=λc st'=>st=st'/\c.1=none/\c.2.1<c.2.2/\c.2.1<=hint/\p (hint-c.2.1)=false/\(c.2.2≥hint+1\/p (hint-c.2.2)=true)) ?step ?fin ?init) ?post)
   case init=>exact ⟨rfl,rfl,Nat.one_pos,zS _,zi _,e0⟩
   case fin =>
     rintro ⟨c1,c2,c3⟩ st' ⟨rfl,e1,g1,g2,g3,g4⟩;refine ⟨rfl,e1,g1,g2,g4,.inl ?_⟩;dsimp only at *;lia
   case step =>
     rintro x ⟨c1,c2,c3⟩ st' _ hx ⟨rfl,e1,g1,g2,g3,g4⟩;dsimp only at *;subst e1;by_cases hlt:c3≥hint+1;{rw [if_pos hlt];exact zg ⟨rfl,rfl,g1,g2,g4,.inl hlt⟩}
     . rw [if_neg hlt]
       refine zk (ask (by lia) ?_);dsimp only;cases e:p (hint-c3) with
       | true =>
         rw [if_pos rfl];exact zg ⟨rfl,rfl,g1,g2,g4,.inr e⟩
       | false =>
         rw [if_neg (by decide)];refine zg ⟨rfl,rfl,?_,?_,?_,e⟩;{show c3<2*c3+1;lia};{show c3<=hint;lia};{show x+1+1<=2*c3+1;lia}
   case post =>
     rintro ⟨c1,c2,c3⟩ st' ⟨rfl,e1,g1,g2,g4,g5⟩;dsimp only at *;subst e1;dsimp only;have h1:hint+1-min c3 (hint+1)<=hint-c2:=by lia
     have h2:hint-c2<=n:=by lia
     have h3:∀ i,i<hint+1-min c3 (hint+1)->p i=true:=by
       intro i hi;rcases g5 with z | z
       . lia
       . by_cases hc:c3≥hint+1
         . lia
         . exact mono i (hint-c3) (by lia) (by lia) z
     have h4:∀ i,hint-c2<=i->i<n->p i=false:=λi hi hin=>monoF _ i hi hin g4
     clear g1 g2 g4 g5;refine zk (xy (yM (I:=λx c st'=>st=st'/\c.1=none/\c.2.1<=c.2.2/\c.2.2<=n/\(c.2.2-c.2.1<=n-x)/\(∀ i,i<c.2.1->p i=true)/\(∀ i,c.2.2<=i->i<n->p i=false))
       (Q:=λc st'=>st=st'/\c.1=none/\c.2.2<=n/\(∀ i,i<c.2.2->p i=true)/\(∀ i,c.2.2<=i->i<n->p i=false)) ?step2 ?fin2 ?init2) ?post2)
     case init2=>exact ⟨rfl,rfl,h1,h2,zO (Nat.sub_le _ _) h2,h3,h4⟩
     case fin2 =>
       rintro ⟨c1,c2,c3⟩ st' ⟨rfl,e1,g1,g2,g3,g4,g5⟩;dsimp only at *;have:c2=c3:=by lia
       subst this;exact ⟨rfl,e1,g2,g4,g5⟩
     case post2 =>
       rintro ⟨c1,c2,c3⟩ st' ⟨rfl,e1,g2,g4,g5⟩;dsimp only at *;subst e1;exact zg (h _ g2 g4 g5)
     case step2 =>
       rintro x ⟨c1,c2,c3⟩ st' _ hx ⟨rfl,e1,g1,g2,g3,g4,g5⟩;dsimp only at *;subst e1;by_cases hlt:c2≥c3
       . rw [if_pos hlt];have:c2=c3:=by lia
         subst this;exact zg ⟨rfl,rfl,g2,g4,g5⟩
       . rw [if_neg hlt]
         refine zk (ask (by lia) ?_);dsimp only;cases e:p (c2+(c3-c2)/2) with
         | true =>
           rw [if_pos rfl];refine zg ⟨rfl,rfl,?_,g2,?_,λi hi=>?_,g5⟩;{show c2+(c3-c2)/2+1<=c3;lia}
           . show c3-(c2+(c3-c2)/2+1)<=n-(x+1)
             lia
           . have hi:i<c2+(c3-c2)/2+1:=hi;exact mono i _ (by lia) (by lia) e
         | false =>
           rw [if_neg (by decide)];refine zg ⟨rfl,rfl,?_,?_,?_,g4,λi hi hin=>monoF _ i hi hin e⟩;{show c2<=c2+(c3-c2)/2;lia};{show c2+(c3-c2)/2<=n;lia}
           . show c2+(c3-c2)/2-c2<=n-(x+1)
             lia
end
structure Ord (S:Keyed->Prop)(L:Keyed->Keyed->Bool):Prop where
 asym:∀ x y,L x y=true->L y x=false
 neg:∀ x y z,S x->S y->S z->L x z=true->L x y=true\/L y z=true
abbrev Rise (L:Keyed->Keyed->Bool)(l:List Keyed):Prop:=l.Pairwise λx y=>L y x=false
section
variable {S:Keyed->Prop}{L:Keyed->Keyed->Bool}
theorem Ord.step (O:Ord S L){x y z:Keyed}(sx:S x)(sy:S y)(sz:S z)(h1:L z y=false)(h2:L y x=false):L z x=false:=by
 cases e:L z x with
 | false=>rfl
 | true =>
   rcases O.neg z y x sz sy sx e with q | q
   . rw [q] at h1;cases h1
   . rw [q] at h2;cases h2
structure MI (L:Keyed->Keyed->Bool)(al bl ol:List Keyed)(ia ib:Nat):Prop where
 perm:ol.Perm (al.take ia++bl.take ib)
 rise:Rise L ol
 lea:∀ x∈ol,∀ y∈al.drop ia,L y x=false
 leb:∀ x∈ol,∀ y∈bl.drop ib,L y x=false
 ha:ia<=al.length
 hb:ib<=bl.length
theorem MI.len {al bl ol:List Keyed}{ia ib:Nat}(h:MI L al bl ol ia ib):ol.length=ia+ib:=by rw [h.perm.length_eq,zj,y3,y3];have:=h.ha;have:=h.hb;lia
theorem gm {α:Type}(l:List α)(i k:Nat):l.take (i+k)=l.take i++(l.drop i).take k:=by rw [List.take_add]
theorem gj {α:Type}{l:List α}{i k:Nat}{y:α}(h:y∈l.drop (i+k)):y∈l.drop i:=by rw [<- uZ] at h;exact wW h
theorem gh {l:List Keyed}(h:Rise L l)(i k:Nat):∀ x∈(l.drop i).take k,∀ y∈l.drop (i+k),L y x=false:=by intro x hx y hy;have h2:Rise L (l.drop i):=h.sublist (xn _ _);rw [<- yq k (l.drop i)] at h2;rw [<- uZ] at hy;exact (zF.mp h2).2.2 x hx y hy
theorem MI.takeB {al bl ol:List Keyed}{ia ib:Nat}(h:MI L al bl ol ia ib)(rb:Rise L bl)(k:Nat)(hk:ib+k<=bl.length)(c:∀ y∈(bl.drop ib).take k,∀ z∈al.drop ia,L z y=false):MI L al bl (ol++(bl.drop ib).take k) ia (ib+k) where
 perm:=by rw [gm,<- zY];exact h.perm.append_right _
 rise:=zF.mpr ⟨h.rise,(rb.sublist (xn _ _)).sublist (xa _ _),λx hx y hy=>h.leb x hx y (xR hy)⟩
 lea:=λx hx y hy=>by
   rcases zR.mp hx with z | z
   . exact h.lea x z y hy
   . exact c x z y hy
 leb:=λx hx y hy=>by
   rcases zR.mp hx with z | z
   . exact h.leb x z y (gj hy)
   . exact gh rb ib k x z y hy
 ha:=h.ha
 hb:=hk
theorem MI.takeA {al bl ol:List Keyed}{ia ib:Nat}(h:MI L al bl ol ia ib)(ra:Rise L al)(k:Nat)(hk:ia+k<=al.length)(c:∀ y∈(al.drop ia).take k,∀ z∈bl.drop ib,L z y=false):MI L al bl (ol++(al.drop ia).take k) (ia+k) ib where
 perm:=by rw [gm];refine (h.perm.append_right _).trans ?_;rw [zY,zY];exact x5 _ vj
 rise:=zF.mpr ⟨h.rise,(ra.sublist (xn _ _)).sublist (xa _ _),λx hx y hy=>h.lea x hx y (xR hy)⟩
 lea:=λx hx y hy=>by
   rcases zR.mp hx with z | z
   . exact h.lea x z y (gj hy)
   . exact gh ra ia k x z y hy
 leb:=λx hx y hy=>by
   rcases zR.mp hx with z | z
   . exact h.leb x z y hy
   . exact c x z y hy
 ha:=hk
 hb:=h.hb
abbrev Mrg (L:Keyed->Keyed->Bool)(al bl ol:List Keyed):Prop:=ol.Perm (al++bl)/\Rise L ol
theorem MI.doneA {al bl ol:List Keyed}{ia:Nat}(h:MI L al bl ol ia bl.length)(ra:Rise L al):Mrg L al bl (ol++al.drop ia):=by
 constructor;{refine (h.perm.append_right _).trans ?_;rw [yP (zi _),zY];refine (x5 _ vj).trans ?_;rw [<- zY,yq]};{exact zF.mpr ⟨h.rise,ra.sublist (xn _ _),h.lea⟩}
theorem MI.doneB {al bl ol:List Keyed}{ib:Nat}(h:MI L al bl ol al.length ib)(rb:Rise L bl):Mrg L al bl (ol++bl.drop ib):=by
 constructor;{refine (h.perm.append_right _).trans ?_;rw [yP (zi al.length),zY,yq]};{exact zF.mpr ⟨h.rise,rb.sublist (xn _ _),h.leb⟩}
theorem MI.lastA {al bl ol:List Keyed}{ia ib:Nat}(h:MI L al bl ol ia ib)(ra:Rise L al)(rb:Rise L bl)(c:∀ y∈bl.drop ib,∀ z∈al.drop ia,L z y=false):Mrg L al bl (ol++bl.drop ib++al.drop ia):=by
 constructor
 . refine ((h.perm.append_right _).append_right _).trans ?_;have e:al.take ia++bl.take ib++bl.drop ib++al.drop ia=al.take ia++(bl++al.drop ia):=by
     rw [zY (al.take ia),yq,zY]
   rw [e];refine (x5 _ vj).trans ?_;rw [<- zY,yq]
 . refine zF.mpr ⟨zF.mpr ⟨h.rise,rb.sublist (xn _ _),h.leb⟩,ra.sublist (xn _ _),λx hx y hy=>?_⟩;rcases zR.mp hx with z | z
   . exact h.lea x z y hy
   . exact c x z y hy
end
def mergeLo':Array Keyed->Array Keyed->StateT SortSt Sem (Array Keyed):=sortPriv% PySem.Builtin.mergeLo
def setMinGallop':Nat->StateT SortSt Sem Unit:=sortPriv% PySem.Builtin.setMinGallop
theorem bx (g:Nat):setMinGallop' g=modify λs=>SortSt.mk' (kindOf s) (arrOf s) (pendingOf s) g (failedOf s):=rfl
structure Sm (st st':SortSt):Prop where
 kind:kindOf st'=kindOf st
 arr:arrOf st'=arrOf st
 pend:pendingOf st'=pendingOf st
 failed:failedOf st'=failedOf st
section
variable {M:Model}{s:Shared}{kd:SortKind}{S:Keyed->Prop}{L:Keyed->Keyed->Bool}
theorem Cmp.ord (C:Cmp M A E s kd S L):Ord S L:=⟨C.asym,C.neg⟩
theorem u6 {a:Array Keyed}{i:Nat}(h:i<a.size):a.toList.drop i=a[i]::a.toList.drop (i+1):=by rw [wG (by simpa using h)];simp
theorem yy {a:Array Keyed}{i:Nat}(h:i<a.size):a[i]∈a.toList:=by simp
theorem qr {a:Array Keyed}{i:Nat}(ra:Rise L a.toList)(h:i<a.size):∀ z∈a.toList.drop (i+1),L z a[i]=false:=by intro z hz;have h2:Rise L (a.toList.drop i):=ra.sublist (xn _ _);rw [u6 h] at h2;exact (rh.mp h2).1 z hz
theorem qp (O:Ord S L){a:Array Keyed}{i:Nat}(sa:∀ x∈a.toList,S x)(ra:Rise L a.toList)(h:i<a.size){y:Keyed}(sy:S y)(c:L a[i] y=false):∀ z∈a.toList.drop i,L z y=false:=by
 intro z hz;rw [u6 h] at hz;rcases zW.mp hz with e | e
 . rw [e];exact c
 . exact O.step sy (sa _ (yy h)) (sa _ (wW e)) (qr ra h z e) c
variable {a b out:Array Keyed}{ia ib k:Nat}
theorem MI.pushB (O:Ord S L)(m:MI L a.toList b.toList out.toList ia ib)(sa:∀ x∈a.toList,S x)(sb:∀ x∈b.toList,S x)(ra:Rise L a.toList)(rb:Rise L b.toList)(hia:ia<a.size)(hib:ib<b.size)(c:L a[ia] b[ib]=false) :
   MI L a.toList b.toList (out.push b[ib]).toList ia (ib+1):=by
 have e:(b.toList.drop ib).take 1=[b[ib]]:=by rw [u6 hib];rfl
 have:=m.takeB rb 1 (by simp;lia) (by
   rw [e];intro y hy z hz;have hy:y=b[ib]:=by simpa using hy
   subst hy;exact qp O sa ra hia (sb _ (yy hib)) c z hz)
 rw [e] at this;rw [tZ];exact this
theorem MI.pushA (O:Ord S L)(m:MI L a.toList b.toList out.toList ia ib)(sa:∀ x∈a.toList,S x)(sb:∀ x∈b.toList,S x)(ra:Rise L a.toList)(rb:Rise L b.toList)(hia:ia<a.size)(hib:ib<b.size)(c:L b[ib] a[ia]=false) :
   MI L a.toList b.toList (out.push a[ia]).toList (ia+1) ib:=by
 have e:(a.toList.drop ia).take 1=[a[ia]]:=by rw [u6 hia];rfl
 have:=m.takeA ra 1 (by simp;lia) (by
   rw [e];intro y hy z hz;have hy:y=a[ia]:=by simpa using hy
   subst hy;exact qp O sb rb hib (sa _ (yy hia)) c z hz)
 rw [e] at this;rw [tZ];exact this
theorem mw (a:Array Keyed)(i k:Nat):(a.extract i (i+k)).toList=(a.toList.drop i).take k:=by simp [oh]
theorem uT (a:Array Keyed)(i:Nat):(a.extract i a.size).toList=a.toList.drop i:=by simp only [oR,oh];exact yP (by simp)
theorem qo {a:Array Keyed}{i k:Nat}{x:Keyed}(h:x∈(a.toList.drop i).take k):∃ j,j<k/\∃ q:i+j<a.size,x=a[i+j]:=by
 obtain ⟨j,hj,e⟩:=xq.mp h;rw [y3,xv] at hj;have:i+j<a.size:=by simp at hj;lia
 refine ⟨j,by lia,this,?_⟩;rw [<- e];simp
theorem MI.extA (O:Ord S L)(m:MI L a.toList b.toList out.toList ia ib)(sa:∀ x∈a.toList,S x)(sb:∀ x∈b.toList,S x)(ra:Rise L a.toList)(rb:Rise L b.toList)(hib:ib<b.size)(hk:ia+k<=a.size)(c:∀ i,i<k->pb L false b[ib] a ia i=true) :
   MI L a.toList b.toList (out++a.extract ia (ia+k)).toList (ia+k) ib:=by
 rw [xb,mw];refine m.takeA ra k (by simpa using hk) λy hy z hz=>?_
 obtain ⟨j,hj,q,rfl⟩:=qo hy;have:=c j hj;unfold pb at this;rw [zD a (ia+j) q] at this;simp only [xQ,x4,oY] at this;exact qp O sb rb hib (sa _ (yy q)) this z hz
theorem MI.extB (O:Ord S L)(m:MI L a.toList b.toList out.toList ia ib)(sa:∀ x∈a.toList,S x)(sb:∀ x∈b.toList,S x)(ra:Rise L a.toList)(rb:Rise L b.toList)(hia:ia<a.size)(hk:ib+k<=b.size)(c:∀ i,i<k->pb L true a[ia] b ib i=true) :
   MI L a.toList b.toList (out++b.extract ib (ib+k)).toList ia (ib+k):=by
 rw [xb,mw];refine m.takeB rb k (by simpa using hk) λy hy z hz=>?_
 obtain ⟨j,hj,q,rfl⟩:=qo hy;have:=c j hj;unfold pb at this;rw [zD b (ib+j) q] at this;simp only [wo] at this;exact qp O sa ra hia (sb _ (yy q)) (O.asym _ _ this) z hz
theorem MI.finA (m:MI L a.toList b.toList out.toList ia ib)(ra:Rise L a.toList)(e:ib=b.size):Mrg L a.toList b.toList (out++a.extract ia a.size++b.extract ib b.size).toList:=by
 have e1:ib=b.toList.length:=by simpa using e
 subst e1;rw [xb,xb,uT,uT,wX (zi _),zH];exact m.doneA ra
theorem MI.finB (m:MI L a.toList b.toList out.toList ia ib)(rb:Rise L b.toList)(e:ia=a.size):Mrg L a.toList b.toList (out++a.extract ia a.size++b.extract ib b.size).toList:=by
 have e1:ia=a.toList.length:=by simpa using e
 subst e1;rw [xb,xb,uT,uT,wX (zi a.toList.length),zH];exact m.doneB rb
theorem MI.finL (m:MI L a.toList b.toList out.toList ia ib)(ra:Rise L a.toList)(rb:Rise L b.toList)(e:ia+1=a.size)(hl:∀ z∈a.toList.drop (a.size-1),∀ y∈b.toList,L z y=false) :
   Mrg L a.toList b.toList (out++b.extract ib b.size++a.extract ia a.size).toList:=by
 rw [xb,xb,uT,uT];refine m.lastA ra rb λy hy z hz=>hl z (by rw [<- e];exact hz) y (wW hy)
structure MS (L:Keyed->Keyed->Bool)(st:SortSt)(a b out:Array Keyed)(ia ib:Nat)(st':SortSt):Prop where
 sm:Sm st st'
 mi:MI L a.toList b.toList out.toList ia ib
 ha:ia+1<a.size
 hb:ib<b.size
theorem MI.size {a b out:Array Keyed}{ia ib:Nat}(m:MI L a.toList b.toList out.toList ia ib):out.size=ia+ib:=by have:=m.len;simpa using this
theorem Sm.refl (st:SortSt):Sm st st:=⟨rfl,rfl,rfl,rfl⟩
theorem Sm.gal {st st':SortSt}(h:Sm st st')(g:Nat):Sm st (SortSt.mk' (kindOf st') (arrOf st') (pendingOf st') g (failedOf st')):=⟨h.kind,h.arr,h.pend,h.failed⟩
theorem qm {g:Nat}{st:SortSt}{Q:Unit->SortSt->Prop}(h:Q () (SortSt.mk' (kindOf st) (arrOf st) (pendingOf st) g (failedOf st))):wpS M A E s (setMinGallop' g) Q st:=by rw [bx];exact wa h
theorem gg (O:Ord S L){a:Array Keyed}{ia n:Nat}{key:Keyed}(sa:∀ x∈a.toList,S x)(ra:Rise L a.toList)(sk:S key)(hn:ia+n<=a.size):∀ i j,i<=j->j<n->pb L false key a ia j=true->pb L false key a ia i=true:=by
 intro i j hij hj h;unfold pb at *;rw [zD a (ia+j) (by lia)] at h;rw [zD a (ia+i) (by lia)];simp only [xQ,x4,oY] at h ⊢;rcases xI i j with q | q
 . have:=qr ra (i:=ia+i) (by lia) (a[ia+j]'(by lia)) (xq.mpr ⟨j-i-1,by simp;lia,by simp;congr 1;lia⟩);exact O.step (sa _ (yy _)) (sa _ (yy _)) sk h this
 . have:i=j:=by lia
   subst this;exact h
theorem gf (O:Ord S L){a:Array Keyed}{ia n:Nat}{key:Keyed}(sa:∀ x∈a.toList,S x)(ra:Rise L a.toList)(sk:S key)(hn:ia+n<=a.size):∀ i j,i<=j->j<n->pb L true key a ia j=true->pb L true key a ia i=true:=by
 intro i j hij hj h;unfold pb at *;rw [zD a (ia+j) (by lia)] at h;rw [zD a (ia+i) (by lia)];simp only [wo] at h ⊢;rcases xI i j with q | q
 . have:=qr ra (i:=ia+i) (by lia) (a[ia+j]'(by lia)) (xq.mpr ⟨j-i-1,by simp;lia,by simp;congr 1;lia⟩);rcases O.neg _ _ _ (sa _ (yy _)) (sa _ (yy (i:=ia+i) (by lia))) sk h with z | z
   . rw [this] at z;cases z
   . exact z
 . have:i=j:=by lia
   subst this;exact h
theorem pb_f {a:Array Keyed}{ia i:Nat}{key:Keyed}(q:ia+i<a.size):pb L false key a ia i=!L key a[ia+i]:=by unfold pb;rw [zD a (ia+i) q];rfl
theorem pb_t {a:Array Keyed}{ia i:Nat}{key:Keyed}(q:ia+i<a.size):pb L true key a ia i=L a[ia+i] key:=by unfold pb;rw [zD a (ia+i) q];rfl
theorem gc {α β γ:Type}{X:StateT SortSt Sem α}{Q:α->SortSt->Prop}{st:SortSt}(v:β->γ->StateT SortSt Sem α)(hv:∀ q x,wpS M A E s (v q x) Q st)(h:(∀ q x,wpS M A E s (v q x) Q st)->wpS M A E s X Q st):wpS M A E s X Q st:=h hv
theorem qk {α β γ δ:Type}{X:StateT SortSt Sem α}{Q:α->SortSt->Prop}{st:SortSt}(v:β->γ->δ->StateT SortSt Sem α)(P:γ->δ->Prop)(hv:∀ q x y,P x y->wpS M A E s (v q x y) Q st)(h:(∀ q x y,P x y->wpS M A E s (v q x y) Q st)->wpS M A E s X Q st):wpS M A E s X Q st:=h hv
theorem bw (C:Cmp M A E s kd S L) {a b:Array Keyed} {st:SortSt} {Q:Array Keyed->SortSt->Prop} (hk:kindOf st=kd) (sa:∀ x∈a.toList,S x) (sb:∀ x∈b.toList,S x) (ra:Rise L a.toList) (rb:Rise L b.toList) (na:0<a.size) (nb:0<b.size)
   (h0:∀ z∈a.toList,L z b[0]=false) (hl:∀ z∈a.toList.drop (a.size-1),∀ y∈b.toList,L z y=false)
   (h:∀ o st',Sm st st'->Mrg L a.toList b.toList o.toList->Q o st'):wpS M A E s (mergeLo' a b) Q st:=by
 have O:=C.ord;unfold mergeLo'
 k_delta "mergeLo"
 refine zk (vn (wZ ⟨rfl,?_⟩));refine zk (ye (zD b 0 nb) ?_);dsimp -zeta only;have nil:MI L a.toList b.toList (#[]:Array Keyed).toList 0 0:=⟨by simp,.nil,λ_ z=>by simp at z,λ_ z=>by simp at z,zS _,zS _⟩
 have ini:MI L a.toList b.toList (#[b[0]]:Array Keyed).toList 0 1:=nil.pushB O sa sb ra rb na nb (h0 _ (yy na));by_cases e1:(1==b.size)=true;{rw [if_pos e1];exact zg (h _ _ (Sm.refl _) (ini.finA ra (by simpa using e1)))}
 rw [if_neg e1];by_cases e2:(0+1==a.size)=true;{rw [if_pos e2];exact zg (h _ _ (Sm.refl _) (ini.finL ra rb (by simpa using e2) hl))}
 rw [if_neg e2];have e1':1<b.size:=by
   have:1≠b.size:=by simpa using e1
   lia
 have e2':1<a.size:=by
   have:1≠a.size:=by simpa using e2
   lia
 refine zk (xB ?_);refine zk (xy (yM (I:=λx c st'=>c.1=none/\MS L st a b c.2.1 c.2.2.1 c.2.2.2.1 st'/\x+1<=c.2.1.size) (Q:=λc st'=>∃ o,c.1=some o/\Sm st st'/\Mrg L a.toList b.toList o.toList) ?step ?fin ?init) ?post)
 case init=>exact ⟨rfl,⟨Sm.refl _,ini,e2',e1'⟩,by simp⟩
 case fin =>
   rintro ⟨c1,out,ia,ib,g⟩ st' ⟨_,ms,hs⟩;dsimp only at *;have:=ms.mi.size;have:=ms.ha;have:=ms.hb;lia
 case post =>
   rintro ⟨c1,out,ia,ib,g⟩ st' ⟨o,rfl,sm,m⟩;exact zg (h _ _ sm m)
 case step =>
   rintro x ⟨c1,out,ia,ib,g⟩ st' _ hx ⟨rfl,ms,hs⟩;dsimp -zeta only at *;refine zk (xy (yM (I:=λ_ c st'=>c.1=none/\MS L st a b c.2.1 c.2.2.1 c.2.2.2.1 st'/\x+1<=c.2.1.size)
     (Q:=λc st'=>(∃ o,c.1=some o/\Sm st st'/\Mrg L a.toList b.toList o.toList)\/(c.1=none/\MS L st a b c.2.1 c.2.2.1 c.2.2.2.1 st'/\x+1<=c.2.1.size)) ?step1 (λ_ _ z=>.inr z) ?init1) ?post1)
   case init1=>exact ⟨rfl,ms,hs⟩
   case step1 =>
     rintro y ⟨c1,out,ia,ib,ac,bc⟩ st' _ hy ⟨rfl,ms,hs⟩;dsimp only at *;have hib:=ms.hb;have hia:ia<a.size:=by have:=ms.ha;lia
     refine zk (ye (zD b ib hib) ?_);refine zk (ye (zD a ia hia) ?_);refine zk (C.lt _ _ _ _ (sb _ (yy hib)) (sa _ (yy hia)) (ms.sm.kind.trans hk) ?_);dsimp only;cases e:L b[ib] a[ia] with
     | true =>
       rw [if_pos rfl];refine zk (ye (zD b ib hib) ?_);have m2:=ms.mi.pushB O sa sb ra rb hia hib (C.asym _ _ e);by_cases z:(ib+1==b.size)=true;{rw [if_pos z];exact zg (.inl ⟨_,rfl,ms.sm,m2.finA ra (by simpa using z)⟩)}
       . rw [if_neg z];have z':ib+1<b.size:=by
           have:ib+1≠b.size:=by simpa using z
           lia
         split;{exact zg (.inr ⟨rfl,⟨ms.sm,m2,ms.ha,z'⟩,by simp;lia⟩)}
         . exact zg ⟨rfl,⟨ms.sm,m2,ms.ha,z'⟩,by simp;lia⟩
     | false =>
       rw [if_neg (by decide)];refine zk (ye (zD a ia hia) ?_);have m2:=ms.mi.pushA O sa sb ra rb hia hib e;by_cases z:(ia+1+1==a.size)=true;{rw [if_pos z];exact zg (.inl ⟨_,rfl,ms.sm,m2.finL ra rb (by simpa using z) hl⟩)}
       . rw [if_neg z];have z':ia+1+1<a.size:=by
           have:ia+1+1≠a.size:=by simpa using z
           have:=ms.ha;lia
         split;{exact zg (.inr ⟨rfl,⟨ms.sm,m2,z',hib⟩,by simp;lia⟩)};{exact zg ⟨rfl,⟨ms.sm,m2,z',hib⟩,by simp;lia⟩}
   case post1 =>
     rintro ⟨c1,out,ia,ib,ac,bc⟩ st' (⟨o,rfl,sm,m⟩ | ⟨rfl,ms,hs⟩);{exact zg ⟨o,rfl,sm,m⟩}
     . dsimp -zeta only at *
       refine zk (vn (wZ ⟨rfl,?_⟩));refine zk (xy (yM (I:=λy c st'=>c.1=none/\MS L st a b c.2.1 c.2.2.1 c.2.2.2.1 st'/\x+1+y<=c.2.1.size)
         (Q:=λc st'=>(∃ o,c.1=some o/\Sm st st'/\Mrg L a.toList b.toList o.toList)\/(c.1=none/\MS L st a b c.2.1 c.2.2.1 c.2.2.2.1 st'/\x+2<=c.2.1.size)) ?step2 ?fin2 ?init2) ?post2)
       case init2=>exact ⟨rfl,ms,hs⟩
       case fin2 =>
         rintro ⟨c1,out,ia,ib,g,ac,bc⟩ st' ⟨e,ms,hs⟩;refine .inr ⟨e,ms,?_⟩;dsimp only at *;lia
       case post2 =>
         rintro ⟨c1,out,ia,ib,g,ac,bc⟩ st' (⟨o,rfl,sm,m⟩ | ⟨rfl,ms,hs⟩);{exact zg ⟨o,rfl,sm,m⟩};{dsimp only at *;exact zk (qm (zg ⟨rfl,⟨ms.sm.gal _,ms.mi,ms.ha,ms.hb⟩,by dsimp only;lia⟩))}
       case step2 =>
         rintro y ⟨c1,out,ia,ib,g,ac,bc⟩ st' _ hy ⟨e3,ms,hs⟩;dsimp -zeta only at e3 ms hs ⊢;subst e3;have hib:=ms.hb;have hia:=ms.ha
         extract_lets +onlyGivenNames -underBinder s1 n1 s2 n2 s3 n3 s4 n4 s5 n5 n6 jp
         refine gc jp (λ_ g=>?_) λhj=>by clear_value jp;split<;>exact hj _ _
         dsimp -zeta only [s1,s2,s3,s4,s5,n1,n2,n3,n4,n5,n6,jp];clear jp s1 s2 s3 s4 s5 n1 n2 n3 n4 n5 n6;refine zk (qm ?_);refine zk (ye (zD b ib hib) ?_);refine zk (uU C (ms.sm.kind.trans hk) (sb _ (yy hib)) sa (by lia) (by lia) (gg O sa ra (sb _ (yy hib)) (by lia)) λk1 hk1 ht1 hf1=>?_);dsimp -zeta only
         extract_lets +onlyGivenNames -underBinder ac jp
         refine qk jp (λout ia=>∃ h:ia+1<a.size,MI L a.toList b.toList out.toList ia ib/\L (a[ia]'(by lia)) b[ib]=false/\x+1+y<=out.size) ?_ ?_
         . rintro _ out ia ⟨ha,m1,nx,hs⟩;dsimp -zeta only [jp];clear jp;refine zk (ye (zD b ib hib) ?_);have m2:=m1.pushB O sa sb ra rb (by lia) hib nx
           extract_lets +onlyGivenNames -underBinder ou n1
           by_cases z3:(ib+1==b.size)=true;{rw [if_pos z3];exact zg (.inl ⟨_,rfl,ms.sm.gal _,m2.finA ra (by simpa using z3)⟩)}
           rw [if_neg z3];have z3':ib+1<b.size:=by
             have:ib+1≠b.size:=by simpa using z3
             lia
           refine zk (ye (zD a ia (by lia)) ?_);refine zk (uU C (ms.sm.kind.trans hk) (sa _ (yy (by lia))) sb (by lia) (by lia) (gf O sb rb (sa _ (yy (by lia))) (by lia)) λk2 hk2 ht2 hf2=>?_);dsimp -zeta only
           extract_lets +onlyGivenNames -underBinder bc jp
           refine qk jp (λou ib=>∃ h:ib<b.size,MI L a.toList b.toList ou.toList ia ib/\L b[ib] (a[ia]'(by lia))=false/\x+2+y<=ou.size) ?_ ?_
           . rintro _ ou ib ⟨hb,m3,nx2,hs⟩;dsimp -zeta only [jp];clear jp;refine zk (ye (zD a ia (by lia)) ?_);have m4:=m3.pushA O sa sb ra rb (by lia) hb nx2;dsimp only;by_cases z5:(ia+1+1==a.size)=true
             . rw [if_pos z5];exact zg (.inl ⟨_,rfl,ms.sm.gal _,m4.finL ra rb (by simpa using z5) hl⟩)
             rw [if_neg z5];have z5':ia+1+1<a.size:=by
               have:ia+1+1≠a.size:=by simpa using z5
               lia
             split;{exact zg (.inr ⟨rfl,⟨ms.sm.gal _,m4,z5',hb⟩,by simp;lia⟩)};{exact zg ⟨rfl,⟨ms.sm.gal _,m4,z5',hb⟩,by simp;lia⟩}
           clear_value jp
           intro hj;by_cases kz:k2 > 0
           . rw [if_pos kz];have m3:=m2.extB (k:=k2) O sa sb ra rb (by lia) (by lia) ht2;dsimp only;by_cases z4:(ib+1+k2==b.size)=true
             . rw [if_pos z4];exact zg (.inl ⟨_,rfl,ms.sm.gal _,m3.finA ra (by simpa using z4)⟩)
             rw [if_neg z4];have:ib+1+k2≠b.size:=by simpa using z4
             have nx2:=hf2 k2 (zi _) (by lia);rw [pb_t (by lia)] at nx2;exact hj _ _ _ ⟨by lia,m3,nx2,by simp [ou];lia⟩
           . rw [if_neg kz];have nx2:=hf2 0 (by lia) (by lia);rw [pb_t (by lia)] at nx2;exact hj _ _ _ ⟨by lia,m2,nx2,by simp [ou];lia⟩
         clear_value jp
         intro hj;by_cases kz:k1 > 0
         . rw [if_pos kz];have m1:=ms.mi.extA (k:=k1) O sa sb ra rb hib (by lia) ht1;dsimp only;by_cases z1:(ia+k1+1==a.size)=true
           . rw [if_pos z1];exact zg (.inl ⟨_,rfl,ms.sm.gal _,m1.finL ra rb (by simpa using z1) hl⟩)
           rw [if_neg z1];by_cases z2:(ia+k1==a.size)=true;{rw [if_pos z2];exact zg (.inl ⟨_,rfl,ms.sm.gal _,m1.finB rb (by simpa using z2)⟩)}
           rw [if_neg z2];have:ia+k1+1≠a.size:=by simpa using z1
           have:ia+k1≠a.size:=by simpa using z2
           have nx:=hf1 k1 (zi _) (by lia);rw [pb_f (by lia)] at nx;exact hj _ _ _ ⟨by lia,m1,C.asym _ _ (by simpa using nx),by simp;lia⟩
         . rw [if_neg kz];have nx:=hf1 0 (by lia) (by lia);rw [pb_f (by lia)] at nx;exact hj _ _ _ ⟨hia,ms.mi,C.asym _ _ (by simpa using nx),hs⟩
end
section
variable {S:Keyed->Prop}{L:Keyed->Keyed->Bool}
structure MH (L:Keyed->Keyed->Bool)(al bl ol:List Keyed)(na nb:Nat):Prop where
 perm:ol.Perm (al.drop na++bl.drop nb)
 rise:Rise L ol
 lea:∀ x∈ol,∀ y∈al.take na,L x y=false
 leb:∀ x∈ol,∀ y∈bl.take nb,L x y=false
 ha:na<=al.length
 hb:nb<=bl.length
theorem MH.len {al bl ol:List Keyed}{na nb:Nat}(h:MH L al bl ol na nb):ol.length+na+nb=al.length+bl.length:=by rw [h.perm.length_eq,zj,xv,xv];have:=h.ha;have:=h.hb;lia
theorem gZ {α:Type}{l:List α}{i n:Nat}{y:α}(hi:i<=n)(h:y∈l.take i):y∈l.take n:=by
 have:l.take i=(l.take n).take i:=by rw [List.take_take,rW hi]
 rw [this] at h;exact xR h
theorem gY {α:Type}(l:List α){i n:Nat}(h:i<=n):l.drop i=(l.take n).drop i++l.drop n:=by
 rw [rS];have:l.drop n=(l.drop i).drop (n-i):=by rw [uZ];congr 1;lia
 rw [this,yq]
theorem gX {l:List Keyed}(h:Rise L l){i n:Nat}(hi:i<=n):∀ x∈(l.take n).drop i,∀ y∈l.take i,L x y=false:=by intro x hx y hy;have h2:Rise L (l.take n):=h.sublist (xa _ _);rw [<- yq i (l.take n)] at h2;rw [show l.take i=(l.take n).take i by rw [List.take_take,rW hi]] at hy;exact (zF.mp h2).2.2 y hy x hx
theorem MH.takeA {al bl ol:List Keyed}{na nb:Nat}(h:MH L al bl ol na nb)(ra:Rise L al)(i:Nat)(hi:i<=na)(c:∀ y∈(al.take na).drop i,∀ z∈bl.take nb,L y z=false):MH L al bl ((al.take na).drop i++ol) i nb where
 perm:=by rw [gY al hi,zY];exact x5 _ h.perm
 rise:=zF.mpr ⟨(ra.sublist (xa _ _)).sublist (xn _ _),h.rise,λx hx y hy=>h.lea y hy x (wW hx)⟩
 lea:=λx hx y hy=>by
   rcases zR.mp hx with z | z
   . exact gX ra hi x z y hy
   . exact h.lea x z y (gZ hi hy)
 leb:=λx hx y hy=>by
   rcases zR.mp hx with z | z
   . exact c x z y hy
   . exact h.leb x z y hy
 ha:=zO hi h.ha
 hb:=h.hb
theorem MH.takeB {al bl ol:List Keyed}{na nb:Nat}(h:MH L al bl ol na nb)(rb:Rise L bl)(i:Nat)(hi:i<=nb)(c:∀ y∈(bl.take nb).drop i,∀ z∈al.take na,L y z=false):MH L al bl ((bl.take nb).drop i++ol) na i where
 perm:=by rw [gY bl hi];refine (x5 _ h.perm).trans ?_;rw [<- zY,<- zY];exact List.Perm.append_right _ vj
 rise:=zF.mpr ⟨(rb.sublist (xa _ _)).sublist (xn _ _),h.rise,λx hx y hy=>h.leb y hy x (wW hx)⟩
 lea:=λx hx y hy=>by
   rcases zR.mp hx with z | z
   . exact c x z y hy
   . exact h.lea x z y hy
 leb:=λx hx y hy=>by
   rcases zR.mp hx with z | z
   . exact gX rb hi x z y hy
   . exact h.leb x z y (gZ hi hy)
 ha:=h.ha
 hb:=zO hi h.hb
theorem MH.doneB {al bl ol:List Keyed}{nb:Nat}(h:MH L al bl ol 0 nb)(rb:Rise L bl):Mrg L al bl (bl.take nb++ol):=by
 constructor;{refine (x5 _ h.perm).trans ?_;rw [ve];refine (x5 _ vj).trans ?_;rw [<- zY,yq];exact vj};{exact zF.mpr ⟨rb.sublist (xa _ _),h.rise,λx hx y hy=>h.leb y hy x hx⟩}
theorem MH.doneA {al bl ol:List Keyed}{na:Nat}(h:MH L al bl ol na 0)(ra:Rise L al):Mrg L al bl (al.take na++ol):=by
 constructor;{refine (x5 _ h.perm).trans ?_;rw [ve,<- zY,yq]};{exact zF.mpr ⟨ra.sublist (xa _ _),h.rise,λx hx y hy=>h.lea y hy x hx⟩}
theorem MH.firstB {al bl ol:List Keyed}{na nb:Nat}(h:MH L al bl ol na nb)(ra:Rise L al)(rb:Rise L bl)(c:∀ y∈bl.take nb,∀ z∈al.take na,L z y=false):Mrg L al bl (bl.take nb++al.take na++ol):=by
 constructor
 . refine (x5 _ h.perm).trans ?_;have e:bl.take nb++al.take na++(al.drop na++bl.drop nb)=bl.take nb++(al++bl.drop nb):=by
     rw [zY,<- zY (al.take na),yq]
   rw [e];refine (x5 _ vj).trans ?_;rw [<- zY,yq];exact vj
 . refine zF.mpr ⟨zF.mpr ⟨rb.sublist (xa _ _),ra.sublist (xa _ _),c⟩,h.rise,λx hx y hy=>?_⟩;rcases zR.mp hx with z | z
   . exact h.leb y hy x z
   . exact h.lea y hy x z
variable {a b out:Array Keyed}{na nb k:Nat}
theorem gW {a:Array Keyed}{i:Nat}(h:i<a.size):(a.toList.take (i+1)).drop i=[a[i]]:=by rw [rS,u6 h,show i+1-i=1 by lia];rfl
theorem bu {a:Array Keyed}{n:Nat}{x:Keyed}(h:x∈a.toList.take n):∃ j,j<n/\∃ q:j<a.size,x=a[j]:=by have:=qo (a:=a) (i:=0) (k:=n) (x:=x) (by simpa using h);obtain ⟨j,hj,q,e⟩:=this;exact ⟨j,hj,by lia,by simpa using e⟩
theorem get_le {a:Array Keyed}(ra:Rise L a.toList)(O:Ord S L){i j:Nat}(hij:i<=j)(hj:j<a.size)(ir:L a[j] a[j]=false):L a[j] (a[i]'(by lia))=false:=by
 rcases xI i j with q | q
 . exact qr ra (i:=i) (by lia) a[j] (xq.mpr ⟨j-i-1,by simp;lia,by simp;congr 1;lia⟩)
 . have:i=j:=by lia
   subst this;exact ir
theorem Ord.irr (O:Ord S L)(x:Keyed):L x x=false:=by
 cases e:L x x with
 | false=>rfl
 | true=>rw [O.asym x x e] at e;cases e
theorem qj (O:Ord S L)(sa:∀ x∈a.toList,S x)(ra:Rise L a.toList){n:Nat}(hn:n<a.size){y:Keyed}(sy:S y)(c:L y a[n]=false):∀ z∈a.toList.take (n+1),L y z=false:=by intro z hz;obtain ⟨j,hj,q,rfl⟩:=bu hz;exact O.step (sa _ (yy q)) (sa _ (yy hn)) sy c (get_le ra O (by lia) hn (O.irr _))
theorem gU (out:Array Keyed)(x:Keyed):(out.push x).reverse.toList=x::out.reverse.toList:=by simp
theorem gT (out p:Array Keyed):(out++p.reverse).reverse.toList=p.toList++out.reverse.toList:=by simp
theorem MH.pushA (O:Ord S L)(m:MH L a.toList b.toList out.reverse.toList (na+1) (nb+1))(sa:∀ x∈a.toList,S x)(sb:∀ x∈b.toList,S x)(ra:Rise L a.toList)(rb:Rise L b.toList)(hna:na<a.size)(hnb:nb<b.size)(c:L a[na] b[nb]=false) :
   MH L a.toList b.toList (out.push a[na]).reverse.toList na (nb+1):=by
 have e:=gW hna;have:=m.takeA ra na (wA _) (by
   rw [e];intro y hy z hz;have hy:y=a[na]:=by simpa using hy
   subst hy;exact qj O sb rb hnb (sa _ (yy hna)) c z hz)
 rw [e] at this;rw [gU];exact this
theorem MH.pushB (O:Ord S L)(m:MH L a.toList b.toList out.reverse.toList (na+1) (nb+1))(sa:∀ x∈a.toList,S x)(sb:∀ x∈b.toList,S x)(ra:Rise L a.toList)(rb:Rise L b.toList)(hna:na<a.size)(hnb:nb<b.size)(c:L b[nb] a[na]=false) :
   MH L a.toList b.toList (out.push b[nb]).reverse.toList (na+1) nb:=by
 have e:=gW hnb;have:=m.takeB rb nb (wA _) (by
   rw [e];intro y hy z hz;have hy:y=b[nb]:=by simpa using hy
   subst hy;exact qj O sa ra hna (sb _ (yy hnb)) c z hz)
 rw [e] at this;rw [gU];exact this
theorem qi (a:Array Keyed){i n:Nat}(h:i<=n):(a.extract i n).toList=(a.toList.take n).drop i:=by simp only [oR,oh,rS]
theorem gS {a:Array Keyed}{i n:Nat}{x:Keyed}(h:x∈(a.toList.take n).drop i):∃ j,i<=j/\j<n/\∃ q:j<a.size,x=a[j]:=by rw [rS] at h;obtain ⟨j,hj,q,e⟩:=qo h;exact ⟨i+j,by lia,by lia,q,e⟩
theorem MH.extA (O:Ord S L)(m:MH L a.toList b.toList out.reverse.toList na (nb+1))(sa:∀ x∈a.toList,S x)(sb:∀ x∈b.toList,S x)(ra:Rise L a.toList)(rb:Rise L b.toList)(hnb:nb<b.size)(hk:k<=na)(c:∀ i,k<=i->i<na->pb L false b[nb] a 0 i=false) :
   MH L a.toList b.toList (out++(a.extract k na).reverse).reverse.toList k (nb+1):=by
 rw [gT,qi a hk];refine m.takeA ra k hk λy hy z hz=>?_
 obtain ⟨j,hj,hj2,q,rfl⟩:=gS hy;have:=c j hj hj2;rw [pb_f (by lia)] at this;have this:L b[nb] a[j]=true:=by simpa using this
 exact qj O sb rb hnb (sa _ (yy q)) (O.asym _ _ this) z hz
theorem MH.extB (O:Ord S L)(m:MH L a.toList b.toList out.reverse.toList (na+1) nb)(sa:∀ x∈a.toList,S x)(sb:∀ x∈b.toList,S x)(ra:Rise L a.toList)(rb:Rise L b.toList)(hna:na<a.size)(hk:k<=nb)(c:∀ i,k<=i->i<nb->pb L true a[na] b 0 i=false) :
   MH L a.toList b.toList (out++(b.extract k nb).reverse).reverse.toList (na+1) k:=by
 rw [gT,qi b hk];refine m.takeB rb k hk λy hy z hz=>?_
 obtain ⟨j,hj,hj2,q,rfl⟩:=gS hy;have:=c j hj hj2;rw [pb_t (by lia)] at this;have this:L b[j] a[na]=false:=by simpa using this
 exact qj O sa ra hna (sb _ (yy q)) this z hz
theorem ext0 (a:Array Keyed)(n:Nat):(a.extract 0 n).toList=a.toList.take n:=by rw [qi a (zS n),ve]
theorem MH.fin0 (m:MH L a.toList b.toList out.reverse.toList na nb)(rb:Rise L b.toList)(e:na=0):Mrg L a.toList b.toList (a.extract 0 na++b.extract 0 nb++out.reverse).toList:=by subst e;rw [xb,xb,ext0,ext0,oA,yb];exact m.doneB rb
theorem MH.fin0b (m:MH L a.toList b.toList out.reverse.toList na nb)(ra:Rise L a.toList)(e:nb=0):Mrg L a.toList b.toList (a.extract 0 na++b.extract 0 nb++out.reverse).toList:=by subst e;rw [xb,xb,ext0,ext0,oA,zH];exact m.doneA ra
theorem MH.fin1 (m:MH L a.toList b.toList out.reverse.toList na nb)(ra:Rise L a.toList)(rb:Rise L b.toList)(e:nb=1)(h0:∀ z∈a.toList,∀ y∈b.toList.take 1,L z y=false):Mrg L a.toList b.toList (b.extract 0 nb++a.extract 0 na++out.reverse).toList:=by subst e;rw [xb,xb,ext0,ext0];exact m.firstB ra rb λy hy z hz=>h0 z (xR hz) y hy
theorem MH.size (m:MH L a.toList b.toList out.reverse.toList na nb):out.size+na+nb=a.size+b.size:=by have:=m.len;simpa using this
end
def mergeHi':Array Keyed->Array Keyed->StateT SortSt Sem (Array Keyed):=sortPriv% PySem.Builtin.mergeHi
section
variable {M:Model}{s:Shared}{kd:SortKind}{S:Keyed->Prop}{L:Keyed->Keyed->Bool}
structure MHS (L:Keyed->Keyed->Bool)(st:SortSt)(a b out:Array Keyed)(na nb:Nat)(st':SortSt):Prop where
 sm:Sm st st'
 mi:MH L a.toList b.toList out.reverse.toList na nb
 ha:0<na
 hb:1<nb
theorem pb0_f {a:Array Keyed}{i:Nat}{key:Keyed}(q:i<a.size):pb L false key a 0 i=!L key a[i]:=by unfold pb;rw [xk,zD a i q];rfl
theorem pb0_t {a:Array Keyed}{i:Nat}{key:Keyed}(q:i<a.size):pb L true key a 0 i=L a[i] key:=by unfold pb;rw [xk,zD a i q];rfl
variable {a b out:Array Keyed}{na nb k:Nat}
theorem MH.hA (m:MH L a.toList b.toList out.reverse.toList na nb):na<=a.size:=by simpa using m.ha
theorem MH.hB (m:MH L a.toList b.toList out.reverse.toList na nb):nb<=b.size:=by simpa using m.hb
theorem MH.putA (O:Ord S L)(m:MH L a.toList b.toList out.reverse.toList na nb)(sa:∀ x∈a.toList,S x)(sb:∀ x∈b.toList,S x)(ra:Rise L a.toList)(rb:Rise L b.toList)(hna:0<na)(hnb:0<nb)(qa:na-1<a.size)(qb:nb-1<b.size)(c:L a[na-1] b[nb-1]=false) :
   MH L a.toList b.toList (out.push a[na-1]).reverse.toList (na-1) nb:=by
 obtain ⟨i,rfl⟩:∃ i,na=i+1:=⟨na-1,by lia⟩
 obtain ⟨j,rfl⟩:∃ j,nb=j+1:=⟨nb-1,by lia⟩
 exact m.pushA O sa sb ra rb qa qb c
theorem MH.putB (O:Ord S L)(m:MH L a.toList b.toList out.reverse.toList na nb)(sa:∀ x∈a.toList,S x)(sb:∀ x∈b.toList,S x)(ra:Rise L a.toList)(rb:Rise L b.toList)(hna:0<na)(hnb:0<nb)(qa:na-1<a.size)(qb:nb-1<b.size)(c:L b[nb-1] a[na-1]=false) :
   MH L a.toList b.toList (out.push b[nb-1]).reverse.toList na (nb-1):=by
 obtain ⟨i,rfl⟩:∃ i,na=i+1:=⟨na-1,by lia⟩
 obtain ⟨j,rfl⟩:∃ j,nb=j+1:=⟨nb-1,by lia⟩
 exact m.pushB O sa sb ra rb qa qb c
theorem MH.putAs (O:Ord S L)(m:MH L a.toList b.toList out.reverse.toList na nb)(sa:∀ x∈a.toList,S x)(sb:∀ x∈b.toList,S x)(ra:Rise L a.toList)(rb:Rise L b.toList)(hnb:0<nb)(qb:nb-1<b.size)(hk:k<=na)(c:∀ i,k<=i->i<na->pb L false b[nb-1] a 0 i=false) :
   MH L a.toList b.toList (out++(a.extract k na).reverse).reverse.toList k nb:=by
 obtain ⟨j,rfl⟩:∃ j,nb=j+1:=⟨nb-1,by lia⟩
 exact m.extA O sa sb ra rb qb hk c
theorem MH.putBs (O:Ord S L)(m:MH L a.toList b.toList out.reverse.toList na nb)(sa:∀ x∈a.toList,S x)(sb:∀ x∈b.toList,S x)(ra:Rise L a.toList)(rb:Rise L b.toList)(hna:0<na)(qa:na-1<a.size)(hk:k<=nb)(c:∀ i,k<=i->i<nb->pb L true a[na-1] b 0 i=false) :
   MH L a.toList b.toList (out++(b.extract k nb).reverse).reverse.toList na k:=by
 obtain ⟨j,rfl⟩:∃ j,na=j+1:=⟨na-1,by lia⟩
 exact m.extB O sa sb ra rb qa hk c
theorem br (C:Cmp M A E s kd S L) {a b:Array Keyed} {st:SortSt} {Q:Array Keyed->SortSt->Prop} (hk:kindOf st=kd) (sa:∀ x∈a.toList,S x) (sb:∀ x∈b.toList,S x) (ra:Rise L a.toList) (rb:Rise L b.toList) (na:0<a.size) (nb:0<b.size)
   (h0:∀ z∈a.toList,∀ y∈b.toList.take 1,L z y=false) (hl:∀ y∈b.toList,L (a[a.size-1]'(by lia)) y=false)
   (h:∀ o st',Sm st st'->Mrg L a.toList b.toList o.toList->Q o st'):wpS M A E s (mergeHi' a b) Q st:=by
 have O:=C.ord;unfold mergeHi'
 k_delta "mergeHi"
 refine zk (vn (wZ ⟨rfl,?_⟩));refine zk (ye (zD a (a.size-1) (by lia)) ?_);dsimp -zeta only;have nil:MH L a.toList b.toList (#[]:Array Keyed).reverse.toList a.size b.size:=⟨by simp,.nil,λ_ z=>by simp at z,λ_ z=>by simp at z,by simp,by simp⟩
 have ini:MH L a.toList b.toList (#[a[a.size-1]'(by lia)]:Array Keyed).reverse.toList (a.size-1) b.size:=nil.putA O sa sb ra rb na nb (by lia) (by lia) (hl _ (yy (by lia)));by_cases e1:(a.size-1==0)=true;{rw [if_pos e1];exact zg (h _ _ (Sm.refl _) (ini.fin0 rb (by simpa using e1)))}
 rw [if_neg e1];by_cases e2:(b.size==1)=true;{rw [if_pos e2];exact zg (h _ _ (Sm.refl _) (ini.fin1 ra rb (by simpa using e2) h0))}
 rw [if_neg e2];have e1':0<a.size-1:=by
   have:a.size-1≠0:=by simpa using e1
   lia
 have e2':1<b.size:=by
   have:b.size≠1:=by simpa using e2
   lia
 refine zk (xB ?_)
 skip
 refine zk (xy (yM (I:=λx c st'=>c.1=none/\MHS L st a b c.2.2.2.1 c.2.1 c.2.2.1 st'/\x+1<=c.2.2.2.1.size) (Q:=λc st'=>∃ o,c.1=some o/\Sm st st'/\Mrg L a.toList b.toList o.toList) ?step ?fin ?init) ?post)
 case init=>exact ⟨rfl,⟨Sm.refl _,ini,e1',e2'⟩,by simp⟩
 case fin =>
   rintro ⟨c1,na,nb,out,g⟩ st' ⟨_,ms,hs⟩;dsimp only at *;have:=ms.mi.size;have:=ms.ha;have:=ms.hb;lia
 case post =>
   rintro ⟨c1,na,nb,out,g⟩ st' ⟨o,rfl,sm,m⟩;exact zg (h _ _ sm m)
 case step =>
   rintro x ⟨c1,na,nb,out,g⟩ st' _ hx ⟨rfl,ms,hs⟩;dsimp -zeta only at *;refine zk (xy (yM (I:=λ_ c st'=>c.1=none/\MHS L st a b c.2.2.2.1 c.2.1 c.2.2.1 st'/\x+1<=c.2.2.2.1.size)
     (Q:=λc st'=>(∃ o,c.1=some o/\Sm st st'/\Mrg L a.toList b.toList o.toList)\/(c.1=none/\MHS L st a b c.2.2.2.1 c.2.1 c.2.2.1 st'/\x+1<=c.2.2.2.1.size)) ?step1 (λ_ _ z=>.inr z) ?init1) ?post1)
   case init1=>exact ⟨rfl,ms,hs⟩
   case step1 =>
     rintro y ⟨c1,na,nb,out,ac,bc⟩ st' _ hy ⟨rfl,ms,hs⟩;dsimp only at *;have hA:=ms.mi.hA;have hB:=ms.mi.hB;have ha:=ms.ha;have hb:=ms.hb;refine zk (ye (zD b (nb-1) (by lia)) ?_);refine zk (ye (zD a (na-1) (by lia)) ?_);refine zk (C.lt _ _ _ _ (sb _ (yy (by lia))) (sa _ (yy (by lia))) (ms.sm.kind.trans hk) ?_);dsimp only;cases e:L (b[nb-1]'(by lia)) (a[na-1]'(by lia)) with
     | true =>
       rw [if_pos rfl];refine zk (ye (zD a (na-1) (by lia)) ?_);have m2:=ms.mi.putA O sa sb ra rb (by lia) (by lia) (by lia) (by lia) (C.asym _ _ e);by_cases z:(na-1==0)=true;{rw [if_pos z];exact zg (.inl ⟨_,rfl,ms.sm,m2.fin0 rb (by simpa using z)⟩)}
       . rw [if_neg z];have z':0<na-1:=by
           have:na-1≠0:=by simpa using z
           lia
         split;{exact zg (.inr ⟨rfl,⟨ms.sm,m2,z',hb⟩,by simp;lia⟩)}
         . exact zg ⟨rfl,⟨ms.sm,m2,z',hb⟩,by simp;lia⟩
     | false =>
       rw [if_neg (by decide)];refine zk (ye (zD b (nb-1) (by lia)) ?_);have m2:=ms.mi.putB O sa sb ra rb (by lia) (by lia) (by lia) (by lia) e;by_cases z:(nb-1==1)=true;{rw [if_pos z];exact zg (.inl ⟨_,rfl,ms.sm,m2.fin1 ra rb (by simpa using z) h0⟩)}
       . rw [if_neg z];have z':1<nb-1:=by
           have:nb-1≠1:=by simpa using z
           lia
         split;{exact zg (.inr ⟨rfl,⟨ms.sm,m2,ha,z'⟩,by simp;lia⟩)};{exact zg ⟨rfl,⟨ms.sm,m2,ha,z'⟩,by simp;lia⟩}
   case post1 =>
     rintro ⟨c1,na,nb,out,ac,bc⟩ st' (⟨o,rfl,sm,m⟩ | ⟨rfl,ms,hs⟩);{exact zg ⟨o,rfl,sm,m⟩}
     . iterate 10 skip
       dsimp (config:={ zeta:=false }) only at *;refine zk (vn (wZ ⟨rfl,?_⟩))
       skip
       refine zk (xy (yM (I:=λy c st'=>c.1=none/\MHS L st a b c.2.2.2.1 c.2.1 c.2.2.1 st'/\x+1+y<=c.2.2.2.1.size)
         (Q:=λc st'=>(∃ o,c.1=some o/\Sm st st'/\Mrg L a.toList b.toList o.toList)\/(c.1=none/\MHS L st a b c.2.2.2.1 c.2.1 c.2.2.1 st'/\x+2<=c.2.2.2.1.size)) ?step2 ?fin2 ?init2) ?post2)
       case init2=>exact ⟨rfl,ms,hs⟩
       case fin2 =>
         rintro ⟨c1,na,nb,out,g,ac,bc⟩ st' ⟨e,ms,hs⟩;refine .inr ⟨e,ms,?_⟩;dsimp only at *;lia
       case post2 =>
         rintro ⟨c1,na,nb,out,g,ac,bc⟩ st' (⟨o,rfl,sm,m⟩ | ⟨rfl,ms,hs⟩);{exact zg ⟨o,rfl,sm,m⟩};{dsimp only at *;exact zk (qm (zg ⟨rfl,⟨ms.sm.gal _,ms.mi,ms.ha,ms.hb⟩,by dsimp only;lia⟩))}
       case step2 =>
         rintro y ⟨c1,na,nb,out,g,ac,bc⟩ st' _ hy ⟨e3,ms,hs⟩;dsimp -zeta only at e3 ms hs ⊢;subst e3;have hA:=ms.mi.hA;have hB:=ms.mi.hB;have ha:=ms.ha;have hb:=ms.hb;have mz:=ms.mi.size
         extract_lets +onlyGivenNames -underBinder s1 n1 s2 n2 s3 n3 s4 n4 s5 n5 n6 jp
         refine gc jp (λ_ g=>?_) λhj=>by clear_value jp;split<;>exact hj _ _
         dsimp -zeta only [s1,s2,s3,s4,s5,n1,n2,n3,n4,n5,n6,jp];clear jp s1 s2 s3 s4 s5 n1 n2 n3 n4 n5 n6;refine zk (qm ?_);refine zk (ye (zD b (nb-1) (by lia)) ?_);refine zk (uU C (ms.sm.kind.trans hk) (sb _ (yy (by lia))) sa (by lia) (by lia) (gg O sa ra (sb _ (yy (by lia))) (by lia)) λk1 hk1 ht1 hf1=>?_);dsimp -zeta only
         extract_lets +onlyGivenNames -underBinder k ac jp
         refine qk jp (λna out=>∃ _:0<na/\na<=a.size,MH L a.toList b.toList out.reverse.toList na nb/\L (b[nb-1]'(by lia)) (a[na-1]'(by lia))=false/\x+1+y<=out.size) ?_ ?_
         . rintro _ na out ⟨_,m1,nx,hs⟩;dsimp -zeta only [jp];clear jp;refine zk (ye (zD b (nb-1) (by lia)) ?_);have m2:=m1.putB O sa sb ra rb (by lia) (by lia) (by lia) (by lia) nx
           extract_lets +onlyGivenNames -underBinder ou
           by_cases z3:(nb-1==1)=true;{rw [if_pos z3];exact zg (.inl ⟨_,rfl,ms.sm.gal _,m2.fin1 ra rb (by simpa using z3) h0⟩)}
           rw [if_neg z3];have z3':1<nb-1:=by
             have:nb-1≠1:=by simpa using z3
             lia
           refine zk (ye (zD a (na-1) (by lia)) ?_);refine zk (uU C (ms.sm.kind.trans hk) (sa _ (yy (by lia))) sb (by lia) (by lia) (gf O sb rb (sa _ (yy (by lia))) (by lia)) λk2 hk2 ht2 hf2=>?_);dsimp -zeta only
           extract_lets +onlyGivenNames -underBinder k bc jp
           refine qk jp (λnb ou=>∃ _:1<nb/\nb<=b.size,MH L a.toList b.toList ou.reverse.toList na nb/\L (a[na-1]'(by lia)) (b[nb-1]'(by lia))=false/\x+2+y<=ou.size) ?_ ?_
           . rintro _ nb ou ⟨⟨h1,_⟩,m3,nx2,hs⟩;dsimp -zeta only [jp];clear jp;refine zk (ye (zD a (na-1) (by lia)) ?_);have m4:=m3.putA O sa sb ra rb (by lia) (by lia) (by lia) (by lia) nx2;dsimp only;by_cases z5:(na-1==0)=true
             . rw [if_pos z5];exact zg (.inl ⟨_,rfl,ms.sm.gal _,m4.fin0 rb (by simpa using z5)⟩)
             rw [if_neg z5];have z5':0<na-1:=by
               have:na-1≠0:=by simpa using z5
               lia
             split;{exact zg (.inr ⟨rfl,⟨ms.sm.gal _,m4,z5',h1⟩,by simp;lia⟩)};{exact zg ⟨rfl,⟨ms.sm.gal _,m4,z5',h1⟩,by simp;lia⟩}
           clear_value jp
           intro hj;have nx2:∀ n,(hn:0<n)->n<=k2->(hb:n<=b.size)->L (a[na-1]'(by lia)) (b[n-1]'(by lia))=false:=λn hn hk hb=>by
             have:=ht2 (n-1) (by lia);rw [pb0_t (by lia)] at this;exact C.asym _ _ this
           by_cases kz:k > 0
           . rw [if_pos kz];have m3:=m2.putBs (k:=k2) O sa sb ra rb (by lia) (by lia) hk2 hf2;dsimp only;by_cases z4:(k2==1)=true
             . rw [if_pos z4];exact zg (.inl ⟨_,rfl,ms.sm.gal _,m3.fin1 ra rb (by simpa using z4) h0⟩)
             rw [if_neg z4];by_cases z6:(k2==0)=true;{rw [if_pos z6];exact zg (.inl ⟨_,rfl,ms.sm.gal _,m3.fin0b ra (by simpa using z6)⟩)}
             rw [if_neg z6];have:k2≠1:=by simpa using z4
             have:k2≠0:=by simpa using z6
             exact hj _ _ _ ⟨⟨by lia,by lia⟩,m3,nx2 _ (by lia) (by lia) (by lia),by simp [ou];lia⟩
           . rw [if_neg kz];exact hj _ _ _ ⟨⟨by lia,by lia⟩,m2,nx2 _ (by lia) (by lia) (by lia),by simp [ou];lia⟩
         clear_value jp
         intro hj;have nx:∀ n,(hn:0<n)->n<=k1->(hb:n<=a.size)->L (b[nb-1]'(by lia)) (a[n-1]'(by lia))=false:=λn hn hk hb=>by
           have:=ht1 (n-1) (by lia);rw [pb0_f (by lia)] at this;simpa using this
         by_cases kz:k > 0
         . rw [if_pos kz];have m1:=ms.mi.putAs (k:=k1) O sa sb ra rb (by lia) (by lia) hk1 hf1;dsimp only;by_cases z1:(k1==0)=true
           . rw [if_pos z1];exact zg (.inl ⟨_,rfl,ms.sm.gal _,m1.fin0 rb (by simpa using z1)⟩)
           rw [if_neg z1];have:k1≠0:=by simpa using z1
           exact hj _ _ _ ⟨⟨by lia,by lia⟩,m1,nx _ (by lia) (by lia) (by lia),by simp;lia⟩
         . rw [if_neg kz];exact hj _ _ _ ⟨⟨by lia,by lia⟩,ms.mi,nx _ (by lia) (by lia) (by lia),hs⟩
end
section
variable {S:Keyed->Prop}{L:Keyed->Keyed->Bool}
theorem so {arr:Array Keyed}{pre A rest:List Keyed}(e:arr.toList=pre++(A++rest)){i:Nat}(hi:i<A.length):arr[pre.length+i]?=some A[i]:=by rw [<- yS,e,y6 (by lia),show pre.length+i-pre.length=i by lia,xS hi];exact zV hi
theorem seg_f {arr:Array Keyed}{pre A rest:List Keyed}(e:arr.toList=pre++(A++rest)){key:Keyed}{i:Nat}(hi:i<A.length):pb L false key arr pre.length i=!L key A[i]:=by unfold pb;rw [so e hi];rfl
theorem seg_t {arr:Array Keyed}{pre A rest:List Keyed}(e:arr.toList=pre++(A++rest)){key:Keyed}{i:Nat}(hi:i<A.length):pb L true key arr pre.length i=L A[i] key:=by unfold pb;rw [so e hi];rfl
theorem u5 {A:List Keyed}(r:Rise L A){i j:Nat}(hij:i<j)(hj:j<A.length):L A[j] (A[i]'(by lia))=false:=oa.mp r i j (by lia) hj hij
theorem bq (O:Ord S L){arr:Array Keyed}{pre A rest:List Keyed}(e:arr.toList=pre++(A++rest))(r:Rise L A)(sA:∀ x∈A,S x){key:Keyed}(sk:S key) :
   ∀ i j,i<=j->j<A.length->pb L false key arr pre.length j=true->pb L false key arr pre.length i=true:=by
 intro i j hij hj h;rw [seg_f e hj] at h;rw [seg_f e (by lia)];rcases xI i j with q | q
 . have h:L key A[j]=false:=by simpa using h
   have:=O.step (sA _ (y9 (by lia))) (sA _ (y9 hj)) sk h (u5 r q hj);simpa using this
 . have:i=j:=by lia
   subst this;exact h
theorem bj (O:Ord S L){arr:Array Keyed}{pre A rest:List Keyed}(e:arr.toList=pre++(A++rest))(r:Rise L A)(sA:∀ x∈A,S x){key:Keyed}(sk:S key) :
   ∀ i j,i<=j->j<A.length->pb L true key arr pre.length j=true->pb L true key arr pre.length i=true:=by
 intro i j hij hj h;rw [seg_t e hj] at h;rw [seg_t e (by lia)];rcases xI i j with q | q
 . rcases O.neg _ (A[i]'(by lia)) _ (sA _ (y9 hj)) (sA _ (y9 (by lia))) sk h with z | z
   . rw [u5 r q hj] at z;cases z
   . exact z
 . have:i=j:=by lia
   subst this;exact h
theorem mv {A:List Keyed}{k:Nat}{x:Keyed}(h:x∈A.take k):∃ i,i<k/\∃ q:i<A.length,x=A[i]:=by obtain ⟨j,hj,e⟩:=xq.mp h;rw [y3] at hj;exact ⟨j,by lia,by lia,by rw [<- e];simp⟩
theorem mq {A:List Keyed}{k:Nat}{x:Keyed}(h:x∈A.drop k):∃ i,k<=i/\∃ q:i<A.length,x=A[i]:=by obtain ⟨j,hj,e⟩:=xq.mp h;rw [xv] at hj;exact ⟨k+j,by lia,by lia,by rw [<- e];simp⟩
theorem gR:∀ (l:List Keyed) (n:Nat) (sa:Nat) (arr:Array Keyed),sa+n+l.length<=arr.size ->
   ((l.zipIdx n).foldl (λ(a:Array Keyed) (q:Keyed × Nat)=>a.setIfInBounds (sa+q.2) q.1) arr).toList=arr.toList.take (sa+n)++l++arr.toList.drop (sa+n+l.length)
 | [],n,sa,arr,h=>by simp
 | x :: l,n,sa,arr,h=>by
   rw [List.zipIdx_cons,wk];have h':sa+(n+1)+l.length<=(arr.setIfInBounds (sa+n) x).size:=by rw [oZ];simp only [zZ] at h;lia
   rw [gR l (n+1) sa _ h'];have hlt:sa+n<arr.toList.length:=by simp only [zZ] at h;simp;lia
   rw [oj,List.take_set,List.drop_set];rw [if_pos (by lia)];have e1:(arr.toList.take (sa+(n+1))).set (sa+n) x=arr.toList.take (sa+n)++[x]:=by
     rw [show sa+(n+1)=sa+n+1 by lia,yC,zV hlt];have hl:(arr.toList.take (sa+n)).length=sa+n:=by rw [y3];lia
     rw [oW _ _ (by lia),hl,wg];rfl
   rw [e1];simp only [zZ,zY,vi,yb];rw [show sa+(n+1)+l.length=sa+n+(l.length+1) by lia]
theorem mj (O:Ord S L) {A B M:List Keyed} {k n:Nat} {b0 al:Keyed} (rA:Rise L A) (rB:Rise L B) (sA:∀ x∈A,S x) (sB:∀ x∈B,S x) (sb0:S b0) (sal:S al) (hb0:∀ y∈B,L y b0=false) (hal:∀ x∈A,L al x=false)
   (f1:∀ x∈A.take k,L b0 x=false) (f2:∀ y∈B.drop n,L y al=false) (pM:M.Perm (A.drop k++B.take n)) (rM:Rise L M):Rise L (A.take k++M++B.drop n)/\(A.take k++M++B.drop n).Perm (A++B):=by
 have bp:∀ x∈A.take k,∀ y∈B,L y x=false:=λx hx y hy=>O.step (sA _ (xR hx)) sb0 (sB _ hy) (hb0 y hy) (f1 x hx)
 have qa:∀ x∈A,∀ y∈B.drop n,L y x=false:=λx hx y hy=>O.step (sA _ hx) sal (sB _ (wW hy)) (f2 y hy) (hal x hx)
 constructor
 . refine zF.mpr ⟨zF.mpr ⟨rA.sublist (xa _ _),rM,λx hx y hy=>?_⟩,rB.sublist (xn _ _),λx hx y hy=>?_⟩
   . rcases zR.mp (pM.mem_iff.mp hy) with z | z
     . have r:=rA;rw [<- yq k A] at r;exact (zF.mp r).2.2 x hx y z
     . exact bp x hx y (xR z)
   . rcases zR.mp hx with w | w
     . exact qa x (xR w) y hy
     . rcases zR.mp (pM.mem_iff.mp w) with z | z
       . exact qa x (wW z) y hy
       . have r:=rB;rw [<- yq n B] at r;exact (zF.mp r).2.2 x z y hy
 . refine ((x5 _ pM).append_right _).trans ?_;rw [<- zY,yq,zY,yq]
end
structure Two (L:Keyed->Keyed->Bool)(st:SortSt)(i:Nat)(pre A B post:List Keyed):Prop where
 arr:(arrOf st).toList=pre++(A++(B++post))
 pa:∃ pw,(pendingOf st)[i]?=some (pre.length,A.length,pw)
 pb:∃ pw,(pendingOf st)[i+1]?=some (pre.length+A.length,B.length,pw)
 rA:Rise L A
 rB:Rise L B
 nA:0<A.length
 nB:0<B.length
section
variable {M:Model}{Ar:Around}{s:Shared}{kd:SortKind}{S:Keyed->Prop}{L:Keyed->Keyed->Bool}
theorem wpS_set {σ:Type}{x:σ}{Q:PUnit->σ->Prop}{st:σ}(h:Q ⟨⟩ x):wpS M Ar E s (set x:StateT σ Sem PUnit) Q st:=by unfold wpS;rw [StateT.run_set];exact zc ⟨rfl,h⟩
theorem bh (C:Cmp M Ar E s kd S L){st:SortSt}{i:Nat}{pre A B post:List Keyed}{Q:Bool->SortSt->Prop}(hk:kindOf st=kd)(hf:failedOf st=none)(sS:∀ x∈(arrOf st).toList,S x)(T:Two L st i pre A B post)
   (h:∀ (st':SortSt) (R:List Keyed) (pw:Nat),kindOf st'=kd->failedOf st'=none->(arrOf st').toList=pre++(R++post)->Rise L R->R.Perm (A++B) ->
     pendingOf st'=((pendingOf st).setIfInBounds i (pre.length,A.length+B.length,pw)).eraseIdxIfInBounds (i+1)->Q true st'):wpS M Ar E s (mergeAt' i) Q st:=by
 have O:=C.ord;obtain ⟨earr,⟨pw,epa⟩,⟨pw2,epb⟩,rA,rB,nA,nB⟩:=T;have sA:∀ x∈A,S x:=λx hx=>sS x (by rw [earr];simp [hx])
 have sB:∀ x∈B,S x:=λx hx=>sS x (by rw [earr];simp [hx])
 have earr2:(arrOf st).toList=(pre++A)++(B++post):=by rw [earr,zY]
 have hsz:(arrOf st).size=pre.length+A.length+B.length+post.length:=by rw [<- zI,earr];simp only [zj];lia
 have ga:=λ{j:Nat} (hj:j<A.length)=>so earr hj
 have gb:∀ {j:Nat} (hj:j<B.length),(arrOf st)[pre.length+A.length+j]?=some B[j]:=λ{j} hj=>by
   have:=so earr2 hj;rw [zj] at this;exact this
 have ht:=λ{key:Keyed} {j:Nat} (hj:j<B.length)=>seg_t (L:=L) (key:=key) earr2 hj
 have mt:=λ{key:Keyed} (sk:S key)=>bj O earr2 rB sB sk
 rw [zj] at ht mt;have aux:∀ {P:Prop},P->P:=λx=>x
 unfold mergeAt'
 k_delta "mergeAt"
 refine zk (xB ?_);dsimp only;rw [epa,epb];dsimp only;refine zk (wpS_set ?_);refine zk (ye (gb (j:=0) nB) ?_);refine zk (uU (arr:=arrOf st) C (by exact hk) (sB _ (y9 nB)) sS (by lia) nA (bq O earr rA sA (sB _ (y9 nB))) λk hk1 t1 f1=>?_);dsimp only;have hb0:∀ y∈B,L y B[0]=false:=λy hy=>by
   obtain ⟨j,hj,rfl⟩:=xq.mp hy;rcases Nat.eq_zero_or_pos j with z | z
   . subst z;exact O.irr _
   . exact u5 rB z hj
 have hal:∀ x∈A,L A[A.length-1] x=false:=λx hx=>by
   obtain ⟨j,hj,rfl⟩:=xq.mp hx;rcases xI j (A.length-1) with z | z
   . exact u5 rA z (by lia)
   . have:j=A.length-1:=by lia
     subst this;exact O.irr _
 have F1:∀ x∈A.take k,L B[0] x=false:=λx hx=>by
   obtain ⟨j,hj,q,rfl⟩:=mv hx;have:=t1 j hj;rw [seg_f earr q] at this;simpa using this
 have F1':∀ x∈A.drop k,L B[0] x=true:=λx hx=>by
   obtain ⟨j,hj,q,rfl⟩:=mq hx;have:=f1 j hj q;rw [seg_f earr q] at this;simpa using this
 by_cases z1:(A.length-k==0)=true
 . rw [if_pos z1];have ek:A.length<=k:=by
     have:A.length-k=0:=by simpa using z1
     lia
   have:=mj (M:=[]) (n:=0) O rA rB sA sB (sB _ (y9 nB)) (sA A[A.length-1] (y9 (by lia))) hb0 hal F1 (λy hy=>?_) (by rw [wX ek];simp) .nil;{refine zg (h _ (A.take k++[]++B.drop 0) pw hk hf ?_ this.1 this.2 rfl);rw [yP ek];simp only [zH,ve,zY];exact earr};{exact O.step (sA _ (y9 (by lia))) (sB _ (y9 nB)) (sB _ hy) (hb0 y hy) (F1 _ (by rw [yP ek];exact y9 (by lia)))}
 rw [if_neg z1];have z1':k<A.length:=by
   have:A.length-k≠0:=by simpa using z1
   lia
 have el:(arrOf st)[pre.length+k+(A.length-k)-1]?=some A[A.length-1]:=by rw [show pre.length+k+(A.length-k)-1=pre.length+(A.length-1) by lia];exact ga (by lia)
 refine zk (ye el ?_);refine zk (uU (arr:=arrOf st) C (by exact hk) (sA _ (y9 (by lia))) sS (by lia) (by lia) (mt (sA _ (y9 (by lia)))) λn hn t2 f2=>?_);dsimp only;have F2:∀ y∈B.drop n,L y A[A.length-1]=false:=λy hy=>by
   obtain ⟨j,hj,q,rfl⟩:=mq hy;have:=f2 j hj q;rw [ht q] at this;exact this
 have F2':∀ y∈B.take n,L y A[A.length-1]=true:=λy hy=>by
   obtain ⟨j,hj,q,rfl⟩:=mv hy;have:=t2 j hj;rw [ht q] at this;exact this
 by_cases z2:(n==0)=true
 . rw [if_pos z2];have en:n=0:=by simpa using z2
   subst en;have:=mj (M:=A.drop k) (n:=0) O rA rB sA sB (sB _ (y9 nB)) (sA A[A.length-1] (y9 (by lia))) hb0 hal F1 F2 (by simp) (rA.sublist (xn _ _));refine zg (h _ (A.take k++A.drop k++B.drop 0) pw hk hf ?_ this.1 this.2 rfl);rw [yq,ve,zY];exact earr
 rw [if_neg z2];have z2':0<n:=by
   have:n≠0:=by simpa using z2
   lia
 have ex:((arrOf st).extract (pre.length+k) (pre.length+A.length)).toList=A.drop k:=by rw [qi _ (by lia),earr];rw [show pre++(A++(B++post))=(pre++A)++(B++post) by rw [zY]];rw [sE (by simp),yP (by simp),<- uZ];simp
 have ey:((arrOf st).extract (pre.length+A.length) (pre.length+A.length+n)).toList=B.take n:=by rw [mw,earr2];rw [show pre.length+A.length=(pre++A).length by simp,rQ,sE hn]
 generalize (arrOf st).extract (pre.length+k) (pre.length+A.length)=x at ex ⊢;generalize (arrOf st).extract (pre.length+A.length) (pre.length+A.length+n)=y at ey ⊢;have xs:x.size=A.length-k:=by rw [<- zI,ex,xv]
 have ys:y.size=n:=by rw [<- zI,ey,y3];lia
 have y0:∀ (q:0<y.size),y[0]=B[0]:=λq=>by
   have:y.toList[0]?=(B.take n)[0]?:=by rw [ey]
   rw [kR z2',zV nB,yS,zD y 0 q] at this;exact Option.some.inj this
 have xl:∀ (q:x.size-1<x.size),x[x.size-1]=A[A.length-1]:=λq=>by
   have e2:(A.drop k)[x.size-1]?=some A[A.length-1]:=by rw [tm,xs,show k+(A.length-k-1)=A.length-1 by lia];exact zV (by lia)
   have:x.toList[x.size-1]?=some A[A.length-1]:=by rw [ex];exact e2
   rw [yS,zD x (x.size-1) q] at this;exact Option.some.inj this
 have fin:∀ (o:Array Keyed) (st':SortSt),Sm (setPending st (((pendingOf st).setIfInBounds i (pre.length,A.length+B.length,pw)).eraseIdxIfInBounds (i+1))) st'->Mrg L x.toList y.toList o.toList ->
     wpS M Ar E s (do
       modify λs=>setArr s (o.toList.zipIdx.foldl (λ(a:Array Keyed) (q:Keyed × Nat)=>a.setIfInBounds (pre.length+k+q.2) q.1) (arrOf s))
       return (failedOf (<- get)).isNone) Q st':=by
   intro o st' sm ⟨mp,mr⟩;rw [ex,ey] at mp;have:=mj O rA rB sA sB (sB _ (y9 nB)) (sA A[A.length-1] (y9 (by lia))) hb0 hal F1 F2 mp mr;have ol:o.toList.length=A.length-k+n:=by rw [mp.length_eq,zj,xv,y3];lia
   refine zk (wa ?_);refine zk (xB (zg ?_));have ef:failedOf st'=none:=sm.failed.trans hf;show Q (failedOf st').isNone _;rw [ef];refine h _ _ pw (sm.kind.trans hk) ef ?_ this.1 this.2 sm.pend;show (o.toList.zipIdx.foldl _ (arrOf st')).toList=_;have ea:arrOf st'=arrOf st:=sm.arr;rw [ea];refine (gR o.toList 0 (pre.length+k) (arrOf st) (by lia)).trans ?_;rw [xJ,earr,ol];have t3:(pre++(A++(B++post))).take (pre.length+k)=pre++A.take k:=by rw [List.take_append,yP (by lia),show pre.length+k-pre.length=k by lia,sE (by lia)]
   have t4:(pre++(A++(B++post))).drop (pre.length+k+(A.length-k+n))=B.drop n++post:=by rw [show pre.length+k+(A.length-k+n)=pre.length+(A.length+n) by lia,<- uZ,rQ,<- uZ,rQ,sC hn]
   rw [t3,t4];simp only [zY]
 have sx:∀ z∈x.toList,S z:=λz hz=>sA z (by rw [ex] at hz;exact wW hz)
 have sy:∀ z∈y.toList,S z:=λz hz=>sB z (by rw [ey] at hz;exact xR hz)
 have rx:Rise L x.toList:=by rw [ex];exact rA.sublist (xn _ _)
 have ry:Rise L y.toList:=by rw [ey];exact rB.sublist (xa _ _)
 have hx0:∀ z∈x.toList,L z B[0]=false:=λz hz=>C.asym _ _ (F1' z (by rw [<- ex];exact hz))
 have hyl:∀ z∈y.toList,L A[A.length-1] z=false:=λz hz=>C.asym _ _ (F2' z (by rw [<- ey];exact hz))
 by_cases z3:A.length-k<=n
 . rw [if_pos z3];refine zk (bw C (by exact hk) sx sy rx ry (by lia) (by lia) (λz hz=>by rw [y0 (by lia)];exact hx0 z hz) (λz hz w hw=>?_) fin);rw [u6 (by lia),show x.size-1+1=x.toList.length by simp;lia,wX (zi _)] at hz;have hz:z=x[x.size-1]:=by simpa using hz
   rw [hz,xl (by lia)];exact hyl w hw
 . rw [if_neg z3];refine zk (br C (by exact hk) sx sy rx ry (by lia) (by lia) (λz hz w hw=>?_) (λw hw=>by rw [xl (by lia)];exact hyl w hw) fin);have e1:y.toList.take 1=[y[0]'(by lia)]:=by
     have:=u6 (a:=y) (i:=0) (by lia);rw [ve] at this;rw [this];rfl
   rw [e1] at hw;have hw:w=y[0]'(by lia):=by simpa using hw
   rw [hw,y0 (by lia)];exact hx0 z hz
end
theorem swap_adj {xs:Array Keyed} {u v:List Keyed} {x y:Keyed} (e:xs.toList=u++(y::x::v)):(xs.swapIfInBounds (u.length+1) u.length).toList=u++(x::y::v):=by
 have sz:xs.size=u.length+(v.length+2):=by rw [<- zI,e];simp
 apply oM
 intro t;rw [yS,getElem?_swapIB (by lia) (by lia)];have g:∀ i,xs[i]?=(u++(y::x::v))[i]?:=λi=>by rw [<- yS,e]
 rw [g,g,g];by_cases h1:u.length=t;{subst h1;rw [if_pos rfl,y6 (by lia),y6 (by lia),wg,show u.length+1-u.length=1 by lia];rfl}
 . rw [if_neg h1]
   by_cases h2:u.length+1=t;{subst h2;rw [if_pos rfl,y6 (by lia),y6 (by lia),wg,show u.length+1-u.length=1 by lia];rfl}
   . rw [if_neg h2];rcases xI t u.length with q | q
     . rw [xS q,xS q]
     . rw [y6 q,y6 q];obtain ⟨w,hw⟩:∃ w,t-u.length=w+2:=⟨t-u.length-2,by lia⟩
       rw [hw];rfl
theorem gQ {arr:Array Keyed}{pre A rest:List Keyed}{x:Keyed}(e:arr.toList=pre++(A++(x::rest))):∀ d,d<=A.length->(bubble arr (pre.length+A.length) d).toList=pre++(A.take (A.length-d)++(x::(A.drop (A.length-d)++rest)))
 | 0,_=>by
   rw [uY,yP (zi _),wX (zi _),yb];exact e
 | d + 1,h=>by
   have ih:=gQ e d (by lia);rw [bubble_succ];obtain ⟨m,hm⟩:∃ m,A.length-d=m+1:=⟨A.length-d-1,by lia⟩
   have hm2:A.length-(d+1)=m:=by lia
   have hmA:m<A.length:=by lia
   rw [hm] at ih;rw [hm2];have e1:A.take (m+1)=A.take m++[A[m]]:=by rw [yC,zV hmA];rfl
   have e2:A.drop m=A[m]::A.drop (m+1):=wG hmA;have ih2:(bubble arr (pre.length+A.length) d).toList=(pre++A.take m)++(A[m]::x::(A.drop (m+1)++rest)):=by rw [ih,e1];simp only [zY,vi,yb]
   have:=swap_adj ih2;rw [show (pre++A.take m).length=pre.length+m by rw [zj,y3];lia] at this;rw [show pre.length+A.length-d=pre.length+m+1 by lia,show pre.length+m+1-1=pre.length+m by lia,this,e2];simp only [zY,vi,yb]
theorem bg {arr:Array Keyed}{u w v:List Keyed}(e:arr.toList=u++(w++v)):(mirror arr u.length (u.length+w.length) ((u.length+w.length-u.length)/2)).toList=u++(w.reverse++v):=by
 have sz:arr.size=u.length+(w.length+v.length):=by rw [<- zI,e];simp
 apply oM
 intro t;rw [yS,getElem?_mirror_all (by lia)];have g:∀ i,arr[i]?=(u++(w++v))[i]?:=λi=>by rw [<- yS,e]
 rw [g,g];by_cases h1:u.length<=t/\t<u.length+w.length
 . rw [if_pos h1,y6 (by lia),y6 h1.1,xS (by lia),xS (by rw [xc];lia),oV (by lia)];congr 1
   lia
 . rw [if_neg h1];rcases xI t u.length with q | q
   . rw [xS q,xS q]
   . rw [y6 q,y6 q,y6 (by lia),y6 (by rw [xc];lia),xc]
structure Sa (st st':SortSt):Prop where
 kind:kindOf st'=kindOf st
 pend:pendingOf st'=pendingOf st
 failed:failedOf st'=failedOf st
section
variable {M:Model}{Ar:Around}{s:Shared}{kd:SortKind}{S:Keyed->Prop}{L:Keyed->Keyed->Bool}
theorem sj (C:Cmp M Ar E s kd S L){st:SortSt}{i j:Nat}{x y:Keyed}{Q:Option Bool->SortSt->Prop}(hk:kindOf st=kd)(ei:(arrOf st)[i]?=some x)(ej:(arrOf st)[j]?=some y)(sx:S x)(sy:S y)(h:Q (some (L x y)) st):wpS M Ar E s (ltAt' i j) Q st:=by rw [ltAt'_eq];refine zk (xB ?_);dsimp only;exact zk (ye ei (zk (ye ej (C.lt _ _ _ _ sx sy hk h))))
theorem bf (C:Cmp M Ar E s kd S L) {st:SortSt} {pre A U post:List Keyed} {Q:Bool->SortSt->Prop} (hk:kindOf st=kd) (sS:∀ x∈A++U,S x) (e:(arrOf st).toList=pre++(A++(U++post))) (rA:Rise L A) (nA:0<A.length)
   (h:∀ (st':SortSt) (R:List Keyed),Sa st st'->(arrOf st').toList=pre++(R++post)->Rise L R->R.Perm (A++U)->Q true st'):wpS M Ar E s (binarySort' pre.length (A.length+U.length) A.length) Q st:=by
 have O:=C.ord;rw [binarySort'_eq];rw [show max A.length 1=A.length by lia];refine zk (xy (yM (I:=λk c st'=>c.1=none/\Sa st st'/\A.length<=k/\k<=A.length+U.length/\∃ R,R.length=k/\(arrOf st').toList=pre++(R++(U.drop (k-A.length)++post))/\Rise L R/\R.Perm (A++U.take (k-A.length)))
   (Q:=λc st'=>c.1=none/\Sa st st'/\∃ R,(arrOf st').toList=pre++(R++post)/\Rise L R/\R.Perm (A++U)) ?step ?fin ?init) ?post)
 case init=>exact ⟨rfl,⟨rfl,rfl,rfl⟩,zi _,by lia,A,rfl,by rw [wg,ve];exact e,rA,by rw [wg];simp⟩
 case fin =>
   rintro c st' ⟨e1,sm,h1,h2,R,hl,ea,rR,pR⟩;refine ⟨e1,sm,R,?_,rR,?_⟩;{rw [ea,wX (by lia),yb]};{rw [yP (by lia)] at pR;exact pR}
 case post =>
   rintro ⟨c1,c2⟩ st' ⟨e1,sm,R,ea,rR,pR⟩;dsimp only at e1;subst e1;exact zg (h st' R sm ea rR pR)
 case step =>
   rintro k ⟨c1,_⟩ st' _ hkn ⟨e1,sm,h1,h2,R,hl,ea,rR,pR⟩;dsimp only at e1 ⊢;subst e1;have hu:k-A.length<U.length:=by lia
   have ed:U.drop (k-A.length)=U[k-A.length]::U.drop (k-A.length+1):=wG hu;generalize hx:U[k-A.length]=x at ed;have sx:S x:=sS x (by rw [<- hx];exact yf _ (y9 hu));have sR:∀ z∈R,S z:=λz hz=>sS z (by
     rcases zR.mp (pR.mem_iff.mp hz) with q | q
     . exact yF _ q
     . exact yf _ (xR q))
   rw [ed] at ea;have ek:(arrOf st')[pre.length+k]?=some x:=by rw [<- yS,ea,y6 (by lia),show pre.length+k-pre.length=k by lia,y6 (by lia),hl,wg];rfl
   have kk:kindOf st'=kd:=sm.kind.trans hk;refine zk (xy (yM (I:=λy c st2=>st'=st2/\c.1=none/\c.2.1<=c.2.2/\c.2.2<=k/\c.2.2-c.2.1<=k-y/\(∀ z∈R.take c.2.1,L x z=false)/\(∀ z∈R.drop c.2.2,L x z=true))
     (Q:=λc st2=>st'=st2/\c.1=none/\c.2.1<=k/\(∀ z∈R.take c.2.1,L x z=false)/\(∀ z∈R.drop c.2.1,L x z=true)) ?step2 ?fin2 ?init2) ?post2)
   case init2=>exact ⟨rfl,rfl,zS _,zi _,by dsimp only;lia,λz hz=>by simp at hz,λz hz=>by rw [wX (by dsimp only;lia)] at hz;simp at hz⟩
   case fin2 =>
     rintro ⟨c1,l,r⟩ st2 ⟨rfl,e1,g1,g2,g3,g4,g5⟩;dsimp only at *;have:l=r:=by lia
     subst this;exact ⟨rfl,e1,g2,g4,g5⟩
   case step2 =>
     rintro y ⟨c1,l,r⟩ st2 _ hy ⟨rfl,e1,g1,g2,g3,g4,g5⟩;dsimp only at *;subst e1;by_cases hlt:l≥r
     . rw [if_pos hlt];have:l=r:=by lia
       subst this;exact zg ⟨rfl,rfl,g2,g4,g5⟩
     . rw [if_neg hlt]
       have hm:(l+r)/2<R.length:=by lia
       refine zk (sj C kk ek (so ea hm) sx (sR _ (y9 hm)) ?_);dsimp only;cases el:L x R[(l+r)/2] with
       | true =>
         rw [if_pos rfl];refine zg ⟨rfl,rfl,by dsimp only;lia,by dsimp only;lia,by dsimp only;lia,g4,λz hz=>?_⟩;obtain ⟨j,hj,q,rfl⟩:=mq hz;dsimp only at hj;rcases xI ((l+r)/2) j with w | w
         . rcases O.neg x R[j] R[(l+r)/2] sx (sR _ (y9 q)) (sR _ (y9 hm)) el with v | v
           . exact v
           . rw [u5 rR w q] at v;cases v
         . have:j=(l+r)/2:=by lia
           subst this;exact el
       | false =>
         rw [if_neg (by decide)];refine zg ⟨rfl,rfl,by dsimp only;lia,g2,by dsimp only;lia,λz hz=>?_,g5⟩;obtain ⟨j,hj,q,rfl⟩:=mv hz;dsimp only at hj;rcases xI j ((l+r)/2) with w | w
         . exact O.step (sR _ (y9 q)) (sR _ (y9 hm)) sx el (u5 rR w hm)
         . have:j=(l+r)/2:=by lia
           subst this;exact el
   case post2 =>
     rintro ⟨c1,l,r⟩ st2 ⟨rfl,e1,g2,g4,g5⟩;dsimp only at *;subst e1;rw [moveDown'_eq];refine zk (wa (zg ⟨rfl,⟨sm.kind,sm.pend,sm.failed⟩,by lia,by lia,R.take l++(x::R.drop l),?_,?_,?_,?_⟩));{simp only [zj,y3,zZ,xv];lia};{show (bubble (arrOf st') (pre.length+k) (pre.length+k-(pre.length+l))).toList=_;have:=gQ ea (k-l) (by lia);rw [hl,show k-(k-l)=l by lia] at this;rw [show pre.length+k-(pre.length+l)=k-l by lia,this,show k+1-A.length=k-A.length+1 by lia];simp only [zY,vi];rfl}
     . refine zF.mpr ⟨rR.sublist (xa _ _),rh.mpr ⟨λz hz=>O.asym _ _ (g5 z hz),rR.sublist (xn _ _)⟩,λz hz w hw=>?_⟩;rcases zW.mp hw with q | q
       . rw [q];exact g4 z hz
       . have r2:=rR;rw [<- yq l R] at r2;exact (zF.mp r2).2.2 z hz w q
     . rw [show k+1-A.length=k-A.length+1 by lia,yC,zV hu,hx,<- zY];refine (List.perm_middle (l₁:=R.take l) (l₂:=R.drop l)).trans ?_;rw [yq];refine (List.Perm.cons x pR).trans ?_;exact (kU x _).symm
end
abbrev Fall (L:Keyed->Keyed->Bool)(l:List Keyed):Prop:=l.Pairwise λx y=>L x y=false
structure CR (st st':SortSt)(pre all D T:List Keyed):Prop where
 sa:Sa st st'
 arr:(arrOf st').toList=pre++(D++T)
 perm:(D++T).Perm all
section
variable {M:Model}{Ar:Around}{s:Shared}{kd:SortKind}{S:Keyed->Prop}{L:Keyed->Keyed->Bool}
theorem Sa.arr {st st':SortSt}(h:Sa st st')(a:Array Keyed):Sa st (setArr st' a):=⟨h.kind,h.pend,h.failed⟩
theorem CR.get {st st':SortSt}{pre all D T:List Keyed}(h:CR st st' pre all D T){i:Nat}(hi:i<(D++T).length):(arrOf st')[pre.length+i]?=some (D++T)[i]:=by rw [<- yS,h.arr,y6 (by lia),show pre.length+i-pre.length=i by lia];exact zV hi
theorem CR.ends {st st':SortSt}{pre all D T:List Keyed}{x y:Keyed}(h:CR st st' pre all (D++[y]) (x::T)){n:Nat}(hn:n=D.length+1):(arrOf st')[pre.length+n]?=some x/\(arrOf st')[pre.length+n-1]?=some y:=by
 subst hn;constructor;{rw [<- yS,h.arr,y6 (by lia),show pre.length+(D.length+1)-pre.length=D.length+1 by lia,y6 (by simp)];simp};{rw [<- yS,h.arr,y6 (by lia),show pre.length+(D.length+1)-1-pre.length=D.length by lia,xS (by simp),y6 (by lia)];simp}
theorem gP {D:List Keyed}(h:0<D.length):∃ D0 y,D=D0++[y]:=⟨D.dropLast,D.getLast (by intro e;rw [e] at h;simp at h),(kX _).symm⟩
theorem bb (O:Ord S L){D0:List Keyed}{x y:Keyed}(sD:∀ z∈D0++[y],S z)(sx:S x)(r:Rise L (D0++[y]))(c:L x y=false):Rise L (D0++[y]++[x]):=by
 refine zF.mpr ⟨r,by simp,λz hz w hw=>?_⟩;have hw:w=x:=by simpa using hw
 subst hw;rcases zR.mp hz with q | q
 . exact O.step (sD z hz) (sD y (by simp)) sx c ((zF.mp r).2.2 z q y (by simp))
 . have q:z=y:=by simpa using q
   rw [q];exact c
theorem bZ (O:Ord S L){D0:List Keyed}{x y:Keyed}(sD:∀ z∈D0++[y],S z)(sx:S x)(r:Fall L (D0++[y]))(c:L y x=false):Fall L (D0++[y]++[x]):=by
 refine zF.mpr ⟨r,by simp,λz hz w hw=>?_⟩;have hw:w=x:=by simpa using hw
 subst hw;rcases zR.mp hz with q | q
 . exact O.step sx (sD y (by simp)) (sD z hz) ((zF.mp r).2.2 z q y (by simp)) c
 . have q:z=y:=by simpa using q
   rw [q];exact c
theorem qh {D:List Keyed}(h:Fall L D):Rise L D.reverse:=List.pairwise_reverse.mpr h
theorem CR.next {st st':SortSt}{pre all D T:List Keyed}{x:Keyed}(h:CR st st' pre all D (x::T)):CR st st' pre all (D++[x]) T:=⟨h.sa,by rw [h.arr];simp,by have:=h.perm;simpa using this⟩
theorem CR.turn {st st':SortSt}{pre all D1 W T:List Keyed}(h:CR st st' pre all (D1++W) T):CR st (setArr st' (mirror (arrOf st') (pre.length+D1.length) (pre.length+D1.length+W.length) ((pre.length+D1.length+W.length-(pre.length+D1.length))/2))) pre all (D1++W.reverse) T:=by
 refine ⟨h.sa.arr _,?_,?_⟩
 . have e:(arrOf st').toList=(pre++D1)++(W++T):=by rw [h.arr];simp
   have:=bg e;rw [zj] at this;show (mirror _ _ _ _).toList=_;rw [this];simp
 . refine List.Perm.trans ?_ h.perm;exact (x5 _ (List.reverse_perm W)).append_right _
theorem sh (C:Cmp M Ar E s kd S L) {st st0:SortSt} {pre all D T:List Keyed} {n nrem:Nat} {f:Nat->Option (Option Nat) × Nat->StateT SortSt Sem (ForInStep (Option (Option Nat) × Nat))} {Q:Option (Option Nat) × Nat->SortSt->Prop} (hk:kindOf st=kd) (sS:∀ x∈all,S x)
   (h:CR st st0 pre all D T) (r:Rise L D) (hn:D.length=n) (nD:0<n) (hnr:n+T.length=nrem)
   (hf:∀ x c,f x c=(do
     let __x <- ltAt' (pre.length+c.2) (pre.length+c.2-1)
     match __x with
     | some smaller=>if smaller=true then pure (ForInStep.done (none,c.2)) else pure (ForInStep.yield (none,c.2+1))
     | _=>pure (ForInStep.done (some none,c.2))))
   (h2:∀ st' D' T' m,CR st st' pre all D' T'->Rise L D'->D'.length=m->n<=m->m+T'.length=nrem->(m=nrem\/∃ D0 y x T0,D'=D0++[y]/\T'=x::T0/\L x y=true)->Q (none,m) st') :
   wpS M Ar E s (forIn [n:nrem] ((none,n):Option (Option Nat) × Nat) f) Q st0:=by
 have O:=C.ord;refine yM (I:=λx c st'=>c.1=none/\c.2=x/\x<=nrem/\n<=x/\∃ D' T',CR st st' pre all D' T'/\Rise L D'/\D'.length=x/\x+T'.length=nrem) ?step ?fin ?init
 case init=>exact ⟨rfl,rfl,by lia,zi _,D,T,h,r,hn,hnr⟩
 case fin =>
   rintro ⟨c1,c2⟩ st' ⟨e1,e2,h3,h4,D',T',cr,r',hl,hT⟩;dsimp only at e1 e2;subst e1;rw [e2];exact h2 st' D' T' _ cr r' hl (by lia) (by lia) (.inl (by lia))
 case step =>
   rintro x ⟨c1,c2⟩ st' hx1 hx2 ⟨e1,e2,h3,h4,D',T',cr,r',hl,hT⟩;dsimp only at e1 e2;subst e1 e2;obtain ⟨D0,y,rfl⟩:=gP (D:=D') (by lia);cases T' with
   | nil=>simp at hT;lia
   | cons z T0 =>
     have hl':c2=D0.length+1:=by rw [<- hl];simp
     obtain ⟨g1,g2⟩:=cr.ends hl';have sall:∀ w∈D0++[y]++z::T0,S w:=λw hw=>sS w (cr.perm.mem_iff.mp hw)
     have sz:S z:=sall z (by simp);have sy:S y:=sall y (by simp);rw [hf];refine zk (sj C (cr.sa.kind.trans hk) g1 g2 sz sy ?_);dsimp only;cases e:L z y with
     | true =>
       rw [if_pos rfl];exact zg (h2 st' _ _ _ cr r' hl (by lia) hT (.inr ⟨D0,y,z,T0,rfl,rfl,e⟩))
     | false =>
       rw [if_neg (by decide)];refine zg ⟨rfl,rfl,by lia,by lia,D0++[y]++[z],T0,cr.next,bb O (λw hw=>sall w (yF _ hw)) sz r' e,?_,?_⟩;{simp only [zj,zZ,xN] at hl ⊢;lia};{simp only [zZ] at hT;lia}
structure Dn (L:Keyed->Keyed->Bool)(D:List Keyed)(neq:Nat):Prop where
 fall:Fall L D
 lt:neq<D.length
 same:∀ x∈D.drop (D.length-(neq+1)),∀ y∈D.drop (D.length-(neq+1)),L x y=false
theorem Dn.turn {D:List Keyed}{neq:Nat}(h:Dn L D neq):Fall L (D.take (D.length-(neq+1))++(D.drop (D.length-(neq+1))).reverse):=by have f:=h.fall;rw [<- yq (D.length-(neq+1)) D] at f;obtain ⟨f1,f2,f3⟩:=zF.mp f;refine zF.mpr ⟨f1,?_,λx hx y hy=>f3 x hx y (vK.mp hy)⟩;refine k9 (R:=λ_ _=>True) (λ{x y} hx hy _=>h.same x (vK.mp hx) y (vK.mp hy)) ?_;exact kO λ_ _=>trivial
theorem vV {i j:Nat}{st:SortSt}{Q:Unit->SortSt->Prop}(h:Q () (setArr st (mirror (arrOf st) i j ((j-i)/2)))):wpS M Ar E s (reverseSlice' i j) Q st:=by rw [reverseSlice'_eq];exact wa h
theorem CR.turnEnd {st st':SortSt}{pre all D T:List Keyed}{neq n:Nat}(h:CR st st' pre all D T)(d:Dn L D neq)(hn:D.length=n) :
   CR st (setArr st' (mirror (arrOf st') (pre.length+n-(neq+1)) (pre.length+n) ((pre.length+n-(pre.length+n-(neq+1)))/2))) pre all (D.take (n-(neq+1))++(D.drop (n-(neq+1))).reverse) T:=by
 subst hn;have hl:=d.lt;have h':CR st st' pre all (D.take (D.length-(neq+1))++D.drop (D.length-(neq+1))) T:=by rw [yq];exact h
 have:=h'.turn;rw [y3,xv,rW (by lia),show pre.length+(D.length-(neq+1))+(D.length-(D.length-(neq+1)))=pre.length+D.length by lia,show pre.length+(D.length-(neq+1))=pre.length+D.length-(neq+1) by lia] at this;exact this
theorem mh {D:List Keyed}{x:Keyed}{k:Nat}(h:k<=D.length):(D++[x]).drop ((D++[x]).length-(k+1))=D.drop (D.length-k)++[x]:=by rw [zj,oX,show D.length+1-(k+1)=D.length-k by lia,sC (by lia)]
theorem gO (C:Cmp M Ar E s kd S L) {st st0:SortSt} {pre all D T:List Keyed} {n nrem:Nat} {f:Nat->Option (Option Nat) × Nat × Nat->StateT SortSt Sem (ForInStep (Option (Option Nat) × Nat × Nat))} {Q:Option (Option Nat) × Nat × Nat->SortSt->Prop} (hk:kindOf st=kd) (sS:∀ x∈all,S x)
   (h:CR st st0 pre all D T) (r:Dn L D 0) (hn:D.length=n) (hnr:n+T.length=nrem)
   (hf : ∀ x c,f x c=(do
     let __x <- ltAt' (pre.length+c.2.1) (pre.length+c.2.1-1)
     match __x with
     | some smaller =>
       if smaller=true then
         if c.2.2 > 0 then do
           reverseSlice' (pre.length+c.2.1-(c.2.2+1)) (pre.length+c.2.1)
           pure (ForInStep.yield (none,c.2.1+1,0))
         else pure (ForInStep.yield (none,c.2.1+1,0))
       else do
         let __x <- ltAt' (pre.length+c.2.1-1) (pre.length+c.2.1)
         match __x with
         | some larger=>if larger=true then pure (ForInStep.done (none,c.2.1,c.2.2)) else pure (ForInStep.yield (none,c.2.1+1,c.2.2+1))
         | _=>pure (ForInStep.done (some none,c.2.1,c.2.2))
     | _=>pure (ForInStep.done (some none,c.2.1,c.2.2))))
   (h2:∀ st' D' T' m neq,CR st st' pre all D' T'->Dn L D' neq->D'.length=m->m+T'.length=nrem->Q (none,m,neq) st') :
   wpS M Ar E s (forIn [n:nrem] ((none,n,0):Option (Option Nat) × Nat × Nat) f) Q st0:=by
 have O:=C.ord;refine yM (I:=λx c st'=>c.1=none/\c.2.1=x/\x<=nrem/\∃ D' T',CR st st' pre all D' T'/\Dn L D' c.2.2/\D'.length=x/\x+T'.length=nrem) ?step ?fin ?init
 case init=>exact ⟨rfl,rfl,by lia,D,T,h,r,hn,hnr⟩
 case fin =>
   rintro ⟨c1,c2,c3⟩ st' ⟨e1,e2,h3,D',T',cr,r',hl,hT⟩;dsimp only at e1 e2 r';subst e1;exact h2 st' D' T' _ _ cr r' (hl.trans e2.symm) (by lia)
 case step =>
   rintro x ⟨c1,c2,c3⟩ st' hx1 hx2 ⟨e1,e2,h3,D',T',cr,dn,hl,hT⟩;dsimp only at e1 e2 dn;subst e1 e2;obtain ⟨D0,y,eD⟩:=gP (D:=D') (by have:=dn.lt;lia);cases T' with
   | nil=>simp at hT;lia
   | cons z T0 =>
     have hl':c2=D0.length+1:=by rw [<- hl,eD];simp
     have cr':=cr;rw [eD] at cr';obtain ⟨g1,g2⟩:=cr'.ends hl';have sall:∀ w∈D'++z::T0,S w:=λw hw=>sS w (cr.perm.mem_iff.mp hw)
     have sz:S z:=sall z (by simp);have sy:S y:=sall y (by rw [eD];simp);have hle:=dn.lt;simp only [zZ] at hT;rw [hf];refine zk (sj C (cr.sa.kind.trans hk) g1 g2 sz sy ?_);dsimp only;cases e:L z y with
     | true =>
       rw [if_pos rfl];have zl:∀ w∈D',L w z=false:=by
         intro w hw;have f:=dn.fall;rw [eD] at f hw;rcases zR.mp hw with q | q
         . exact O.step sz sy (sall w (by rw [eD];exact yF _ (yF _ q))) ((zF.mp f).2.2 w q y (by simp)) (O.asym _ _ e)
         . have q:w=y:=by simpa using q
           rw [q];exact O.asym _ _ e
       have mk:∀ D2:List Keyed,Fall L D2->(∀ w∈D2,L w z=false)->Dn L (D2++[z]) 0:=by
         intro D2 f2 z2;refine ⟨zF.mpr ⟨f2,by simp,λw hw v hv=>?_⟩,by simp,λu hu v hv=>?_⟩
         . have hv:v=z:=by simpa using hv
           rw [hv];exact z2 w hw
         . rw [mh (zS _),uY,wX (zi _),yb] at hu hv;have hu:u=z:=by simpa using hu
           have hv:v=z:=by simpa using hv
           rw [hu,hv];exact O.irr z
       by_cases hq:c3 > 0
       . rw [if_pos hq];have ct:=cr.turnEnd dn hl;refine zk (vV (zg ⟨rfl,rfl,by lia,_,T0,ct.next,mk _ (by have:=dn.turn;rw [hl] at this;exact this) (λw hw=>zl w ?_),?_,by lia⟩))
         . rcases zR.mp hw with q | q
           . exact xR q
           . exact wW (vK.mp q)
         . simp only [zj,y3,xc,xv,zZ,xN];lia
       . rw [if_neg hq];refine zg ⟨rfl,rfl,by lia,D'++[z],T0,cr.next,mk _ dn.fall zl,?_,by lia⟩;simp only [zj,zZ,xN];lia
     | false =>
       rw [if_neg (by decide)];refine zk (sj C (cr.sa.kind.trans hk) g2 g1 sy sz ?_);dsimp only;cases e':L y z with
       | true =>
         rw [if_pos rfl];exact zg (h2 st' _ _ _ _ cr dn hl (by simp only [zZ];lia))
       | false =>
         rw [if_neg (by decide)];have yin:y∈D'.drop (D'.length-(c3+1)):=by rw [eD,zj,oX,sC (by lia)];simp
         refine zg ⟨rfl,rfl,by lia,D'++[z],T0,cr.next,⟨?_,by simp;lia,λu hu v hv=>?_⟩,?_,by lia⟩;{have f:=dn.fall;rw [eD] at f ⊢;exact bZ O (λw hw=>sall w (by rw [eD];exact yF _ hw)) sz f e'}
         . dsimp only at hu hv;rw [mh (by lia)] at hu hv;have sD:∀ w∈D'.drop (D'.length-(c3+1)),S w:=λw hw=>sall w (yF _ (wW hw))
           rcases zR.mp hu with q | q
           . rcases zR.mp hv with p | p
             . exact dn.same u q v p
             . have p:v=z:=by simpa using p
               rw [p];exact O.step sz sy (sD u q) (dn.same u q y yin) e'
           . have q:u=z:=by simpa using q
             rw [q];rcases zR.mp hv with p | p
             . exact O.step (sD v p) sy sz e (dn.same y yin v p)
             . have p:v=z:=by simpa using p
               rw [p];exact O.irr z
         . simp only [zj,zZ,xN];lia
theorem bY (C:Cmp M Ar E s kd S L) {st:SortSt} {pre all:List Keyed} {Q:Option Nat->SortSt->Prop} (hk:kindOf st=kd) (sS:∀ x∈all,S x) (e:(arrOf st).toList=pre++all) (ne:0<all.length)
   (h:∀ st' R T,Sa st st'->(arrOf st').toList=pre++(R++T)->Rise L R->(R++T).Perm all->0<R.length->Q (some R.length) st'):wpS M Ar E s (countRun' pre.length all.length) Q st:=by
 have O:=C.ord;rw [countRun'_eq];obtain ⟨x0,T0,rfl⟩:∃ x T,all=x::T:=by
   cases all with
   | nil=>simp at ne
   | cons x T=>exact ⟨x,T,rfl⟩
 have c0:CR st st pre (x0::T0) [x0] T0:=⟨⟨rfl,rfl,rfl⟩,e,List.Perm.refl _⟩
 dsimp only;refine zk (sh C hk sS c0 (by simp) rfl (by decide) (by simp;lia) (λx c=>rfl) λst1 D T m c1 r1 l1 m1 t1 w1=>?_);dsimp only;by_cases z1:(m==(x0::T0).length)=true;{rw [if_pos z1,<- l1];exact zg (h st1 D T c1.sa c1.arr r1 c1.perm (by lia))}
 rw [if_neg z1];have z1':m≠(x0::T0).length:=by simpa using z1
 obtain ⟨D0,y,x,T1,eD,eT,hxy⟩:=w1.resolve_left z1';subst eD eT;have sall:∀ w∈D0++[y]++x::T1,S w:=λw hw=>sS w (c1.perm.mem_iff.mp hw)
 have sx:S x:=sall x (by simp);have sD:∀ w∈D0++[y],S w:=λw hw=>sall w (yF _ hw)
 have mk:∀ D2:List Keyed,Fall L D2->(∀ w∈D2,L w x=false)->Dn L (D2++[x]) 0:=by
   intro D2 f2 z2;refine ⟨zF.mpr ⟨f2,by simp,λw hw v hv=>?_⟩,by simp,λu hu v hv=>?_⟩
   . have hv:v=x:=by simpa using hv
     rw [hv];exact z2 w hw
   . rw [mh (zS _),uY,wX (zi _),yb] at hu hv;have hu:u=x:=by simpa using hu
     have hv:v=x:=by simpa using hv
     rw [hu,hv];exact O.irr x
 simp only [zZ] at t1;by_cases z2:m > 1
 . rw [if_pos z2]
   have hD0:0<D0.length:=by simp only [zj,zZ,xN] at l1;lia
   have e0:(arrOf st1)[pre.length]?=some (D0[0]'hD0):=by have:=c1.get (i:=0) (by simp;lia);rw [xJ] at this;rw [this,r8 (by simp),r8 hD0]
   have e1:(arrOf st1)[pre.length+m-1]?=some y:=by
     have hl':m=D0.length+1:=by rw [<- l1];simp
     exact (c1.ends hl').2
   have s0:S (D0[0]'hD0):=sD _ (yF _ (y9 hD0));refine zk (sj C (c1.sa.kind.trans hk) e0 e1 s0 (sD y (by simp)) ?_);dsimp only;cases er:L (D0[0]'hD0) y with
   | true =>
     rw [if_pos rfl,<- l1];exact zg (h st1 _ _ c1.sa c1.arr r1 c1.perm (by lia))
   | false =>
     rw [if_neg (by decide)];have up0:∀ w∈D0++[y],L w (D0[0]'hD0)=false:=by
       intro w hw;obtain ⟨j,hj,rfl⟩:=xq.mp hw;rcases Nat.eq_zero_or_pos j with q | q
       . subst q;rw [r8 hD0];exact O.irr _
       . have:=u5 r1 q hj;rw [r8 (i:=0) hD0] at this;exact this
     have upy:∀ w∈D0++[y],L y w=false:=by
       intro w hw;rcases zR.mp hw with q | q
       . exact (zF.mp r1).2.2 w q y (by simp)
       . have q:w=y:=by simpa using q
         rw [q];exact O.irr y
     have sy:S y:=sD y (by simp);have toy:∀ w∈D0++[y],L w y=false:=λw hw=>O.step sy s0 (sD w hw) (up0 w hw) er
     have eqv:∀ w∈D0++[y],∀ v∈D0++[y],L w v=false:=λw hw v hv=>O.step (sD v hv) sy (sD w hw) (toy w hw) (upy v hv)
     have xl:∀ w∈D0++[y],L w x=false:=λw hw=>by
       rcases O.neg x w y sx (sD w hw) sy hxy with q | q
       . exact O.asym _ _ q
       . rw [toy w hw] at q;cases q
     have cd0:=CR.turn (D1:=[]) (by simpa using c1);rw [xN,xJ,l1] at cd0;have cd:=cd0.next;have dd:=mk ([]++(D0++[y]).reverse) (by
       rw [yb];refine k9 (R:=λ_ _=>True) (λ{u v} hu hv _=>eqv u (vK.mp hu) v (vK.mp hv)) ?_;exact kO λ_ _=>trivial) (λw hw=>xl w (by rw [yb] at hw;exact vK.mp hw))
     have ld:([]++(D0++[y]).reverse++[x]).length=m+1:=by rw [<- l1];simp
     have hTd:m+1+T1.length=(x0::T0).length:=by simp only [zZ] at t1 ⊢;lia
     refine zk (vV ?_);refine zk (vn (wZ ⟨rfl,?_⟩));refine zk (gO C hk sS cd dd ld hTd (λx c=>rfl) λst3 D3 T3 m3 neq c3 d3 l3 hT3=>?_);dsimp only;have p3:=d3.lt;by_cases hq:neq > 0
     . rw [if_pos hq];have ct:=c3.turnEnd d3 l3;have ft:=d3.turn;rw [l3] at ft;have lt3:(List.take (m3-(neq+1)) D3++(List.drop (m3-(neq+1)) D3).reverse).length=m3:=by
         simp only [zj,y3,xc,xv];lia
       refine zk (vV ?_);have ct2:=CR.turn (D1:=[]) (by simpa using ct);rw [xN,xJ,lt3] at ct2;refine zk (vV ?_);refine zk (sh C hk sS ct2 (by rw [yb];exact qh ft) (by simp only [yb,xc];exact lt3) (by lia) hT3 (λx c=>rfl) λst5 D5 T5 m5 c5 r5 l5 n5 t5 w5=>?_);dsimp only;rw [<- l5];exact zg (h st5 D5 T5 c5.sa c5.arr r5 c5.perm (by lia))
     . rw [if_neg hq];have ct:=c3;have ft:=d3.fall;have lt3:=l3;have ct2:=CR.turn (D1:=[]) (by simpa using ct);rw [xN,xJ,lt3] at ct2;refine zk (vV ?_);refine zk (sh C hk sS ct2 (by rw [yb];exact qh ft) (by simp only [yb,xc];exact lt3) (by lia) hT3 (λx c=>rfl) λst5 D5 T5 m5 c5 r5 l5 n5 t5 w5=>?_);dsimp only;rw [<- l5];exact zg (h st5 D5 T5 c5.sa c5.arr r5 c5.perm (by lia))
 . rw [if_neg z2]
   have hD0:D0=[]:=by simp only [zj,zZ,xN] at l1;exact uk.mp (by lia)
   subst hD0;have cd:=c1.next;have dd:=mk ([]++[y]) (by simp) (λw hw=>by
     have hw:w=y:=by simpa using hw
     rw [hw];exact O.asym _ _ hxy)
   have ld:([]++[y]++[x]).length=m+1:=by rw [<- l1];simp
   have hTd:m+1+T1.length=(x0::T0).length:=by simp only [zZ] at t1 ⊢;lia
   refine zk (vn (wZ ⟨rfl,?_⟩));refine zk (gO C hk sS cd dd ld hTd (λx c=>rfl) λst3 D3 T3 m3 neq c3 d3 l3 hT3=>?_);dsimp only;have p3:=d3.lt;by_cases hq:neq > 0
   . rw [if_pos hq];have ct:=c3.turnEnd d3 l3;have ft:=d3.turn;rw [l3] at ft;have lt3:(List.take (m3-(neq+1)) D3++(List.drop (m3-(neq+1)) D3).reverse).length=m3:=by
       simp only [zj,y3,xc,xv];lia
     refine zk (vV ?_);have ct2:=CR.turn (D1:=[]) (by simpa using ct);rw [xN,xJ,lt3] at ct2;refine zk (vV ?_);refine zk (sh C hk sS ct2 (by rw [yb];exact qh ft) (by simp only [yb,xc];exact lt3) (by lia) hT3 (λx c=>rfl) λst5 D5 T5 m5 c5 r5 l5 n5 t5 w5=>?_);dsimp only;rw [<- l5];exact zg (h st5 D5 T5 c5.sa c5.arr r5 c5.perm (by lia))
   . rw [if_neg hq];have ct:=c3;have ft:=d3.fall;have lt3:=l3;have ct2:=CR.turn (D1:=[]) (by simpa using ct);rw [xN,xJ,lt3] at ct2;refine zk (vV ?_);refine zk (sh C hk sS ct2 (by rw [yb];exact qh ft) (by simp only [yb,xc];exact lt3) (by lia) hT3 (λx c=>rfl) λst5 D5 T5 m5 c5 r5 l5 n5 t5 w5=>?_);dsimp only;rw [<- l5];exact zg (h st5 D5 T5 c5.sa c5.arr r5 c5.perm (by lia))
end
def Pd (L:Keyed->Keyed->Bool):Nat->List (Nat × Nat × Nat)->List (List Keyed)->Prop
 | _,[],[]=>True
 | off,p::ps,R::rs=>p.1=off/\p.2.1=R.length/\0<R.length/\Rise L R/\Pd L (off+R.length) ps rs
 | _,_,_=>False
section
variable {S:Keyed->Prop}{L:Keyed->Keyed->Bool}
theorem Pd.len:∀ {off:Nat} {ps:List (Nat × Nat × Nat)} {rs:List (List Keyed)},Pd L off ps rs->ps.length=rs.length
 | _,[],[],_=>rfl
 | _,_::_,_::_,h=>by simp [Pd.len h.2.2.2.2]
 | _,[],_::_,h=>h.elim
 | _,_::_,[],h=>h.elim
theorem Pd.append:∀ {off:Nat} {ps qs:List (Nat × Nat × Nat)} {rs ts:List (List Keyed)},Pd L off ps rs->Pd L (off+rs.flatten.length) qs ts->Pd L off (ps++qs) (rs++ts)
 | _,[],_,[],_,_,h=>by simpa using h
 | _,_::_,_,_::_,_,h,h2=>⟨h.1,h.2.1,h.2.2.1,h.2.2.2.1,Pd.append h.2.2.2.2 (by simpa [wC] using h2)⟩
 | _,[],_,_::_,_,h,_=>h.elim
 | _,_::_,_,[],_,h,_=>h.elim
theorem Pd.split:∀ {off:Nat} {ps:List (Nat × Nat × Nat)} (rs:List (List Keyed)) {ts:List (List Keyed)},Pd L off ps (rs++ts)->∃ p1 p2,ps=p1++p2/\Pd L off p1 rs/\Pd L (off+rs.flatten.length) p2 ts
 | _,ps,[],_,h=>⟨[],ps,rfl,trivial,by simpa using h⟩
 | _,p::ps,R::rs,_,h=>by
   obtain ⟨p1,p2,e,h1,h2⟩:=Pd.split rs h.2.2.2.2;exact ⟨p::p1,p2,by rw [e];rfl,⟨h.1,h.2.1,h.2.2.1,h.2.2.2.1,h1⟩,by simpa [wC] using h2⟩
 | _,[],_::_,_,h=>h.elim
theorem Pd.pos:∀ {off:Nat} {ps:List (Nat × Nat × Nat)} {rs:List (List Keyed)},Pd L off ps rs->rs.length<=rs.flatten.length
 | _,[],[],_=>by simp
 | _,_::_,R::rs,h=>by
   have:=Pd.pos h.2.2.2.2;have:=h.2.2.1;simp only [yE,zj,zZ];lia
 | _,[],_::_,h=>h.elim
 | _,_::_,[],h=>h.elim
structure SI (L:Keyed->Keyed->Bool)(kd:SortKind)(all:List Keyed)(st:SortSt)(runs:List (List Keyed))(T:List Keyed):Prop where
 arr:(arrOf st).toList=runs.flatten++T
 perm:(runs.flatten++T).Perm all
 pend:Pd L 0 (pendingOf st).toList runs
 kind:kindOf st=kd
 failed:failedOf st=none
theorem split_at {α:Type}{l:List α}{i:Nat}(h:i+1<l.length):∃ l1 a b l2,l=l1++(a::b::l2)/\l1.length=i:=by refine ⟨l.take i,l[i],l[i+1],l.drop (i+2),?_,by rw [y3];lia⟩;rw [<- wG (by lia),<- wG (by lia),yq]
end
section
variable {M:Model}{Ar:Around}{s:Shared}{kd:SortKind}{S:Keyed->Prop}{L:Keyed->Keyed->Bool}
theorem md (C:Cmp M Ar E s kd S L){all:List Keyed}{st:SortSt}{runs:List (List Keyed)}{T:List Keyed}{i:Nat}{Q:Bool->SortSt->Prop}(sS:∀ x∈all,S x)(h:SI L kd all st runs T)(hi:i+1<runs.length)
   (q:∀ st' runs',SI L kd all st' runs' T->runs'.length+1=runs.length->runs'.flatten.length=runs.flatten.length->Q true st'):wpS M Ar E s (mergeAt' i) Q st:=by
 obtain ⟨r1,A,B,r2,er,hl⟩:=split_at hi;subst er;obtain ⟨p1,p2,ep,d1,d2⟩:=Pd.split r1 h.pend;have lp:=d1.len;obtain ⟨a,b,p3,rfl⟩:∃ a b p3,p2=a::b::p3:=by
   have:=d2.len
   match p2,this with
   | a::b::p3,_=>exact ⟨a,b,p3,rfl⟩
   | [],e=>simp at e
   | [_],e=>simp at e
 obtain ⟨a1,a2,a3,a4,b1,b2,b3,b4,d3⟩:=d2;rw [xk] at a1 b1 d3;obtain ⟨as_,an,apw⟩:=a;obtain ⟨bs_,bn,bpw⟩:=b;dsimp only at a1 a2 b1 b2;subst a1 a2 b1 b2;have hpa:(pendingOf st)[i]?=some (r1.flatten.length,A.length,apw):=by rw [<- yS,ep,y6 (by lia),show i-p1.length=0 by lia];rfl
 have hpb:(pendingOf st)[i+1]?=some (r1.flatten.length+A.length,B.length,bpw):=by rw [<- yS,ep,y6 (by lia),show i+1-p1.length=1 by lia];rfl
 have earr:(arrOf st).toList=r1.flatten++(A++(B++(r2.flatten++T))):=by rw [h.arr];simp
 refine bh C h.kind h.failed (λx hx=>sS x (h.perm.mem_iff.mp (by rw [<- h.arr];exact hx))) ⟨earr,⟨_,hpa⟩,⟨_,hpb⟩,a4,b4,a3,b3⟩ λst' R pw k' f' ar' rR pR pe'=>?_
 refine q st' (r1++(R::r2)) ⟨?_,?_,?_,k',f'⟩ ?_ ?_;{rw [ar'];simp};{refine List.Perm.trans ?_ h.perm;simp only [xw,yE,zY];refine x5 _ ?_;rw [<- zY A];exact pR.append_right _}
 . rw [pe'];have lR:R.length=A.length+B.length:=by rw [pR.length_eq,zj]
   have ee:(((pendingOf st).setIfInBounds i (r1.flatten.length,A.length+B.length,pw)).eraseIdxIfInBounds (i+1)).toList=p1++((r1.flatten.length,A.length+B.length,pw)::p3):=by
     have sz:(pendingOf st).size=p1.length+(p3.length+2):=by rw [<- zI,ep];simp
     rw [Array.eraseIdxIfInBounds,dif_pos (by rw [oZ];lia)];have hp1:p1.length=i:=lp.trans hl;rw [Array.toList_eraseIdx,oj,ep,oW _ _ (by lia),show i-p1.length=0 by lia,dM,List.eraseIdx_append_of_length_le (by lia),show i+1-p1.length=1 by lia];rfl
   rw [ee];refine Pd.append d1 ?_;rw [xk];exact ⟨rfl,lR.symm,by show 0<R.length;lia,rR,by rw [lR,<- wC];exact d3⟩
 . simp only [zj,zZ];lia
 . simp only [xw,yE,zj,pR.length_eq];lia
theorem bX (p:Prop)[Decidable p](a:Nat):(if p then a-1 else a)<=a:=by split<;>lia
theorem SI.setLast {all:List Keyed} {st:SortSt} {runs:List (List Keyed)} {T:List Keyed} (h:SI L kd all st runs T) (pw:Nat):SI L kd all (setPending st ((pendingOf st).modify ((pendingOf st).size-1) λ(s1,len,_)=>(s1,len,pw))) runs T:=by
 refine ⟨h.arr,h.perm,?_,h.kind,h.failed⟩;show Pd L 0 ((pendingOf st).modify _ _).toList runs;rw [Array.toList_modify];generalize (pendingOf st).size-1=j;have:∀ (ps:List (Nat × Nat × Nat)) (rs:List (List Keyed)) (off j:Nat),Pd L off ps rs->Pd L off (ps.modify j λ(s1,len,_)=>(s1,len,pw)) rs:=by
   intro ps;induction ps with
   | nil=>intro rs off j h;simpa using h
   | cons p ps ih =>
     intro rs off j h;cases rs with
     | nil=>exact h.elim
     | cons R rs =>
       obtain ⟨p0,p1,p2⟩:=p;cases j with
       | zero=>exact h
       | succ j=>exact ⟨h.1,h.2.1,h.2.2.1,h.2.2.2.1,ih rs _ j h.2.2.2.2⟩
 exact this _ _ _ _ h.pend
theorem SI.push {all:List Keyed}{st st':SortSt}{runs:List (List Keyed)}{R T:List Keyed}(pe:Pd L 0 (pendingOf st').toList runs)(k:kindOf st'=kd)(f:failedOf st'=none)(ar:(arrOf st').toList=runs.flatten++(R++T))(pm:(runs.flatten++(R++T)).Perm all)(rR:Rise L R)(nR:0<R.length){lo n:Nat}
   (hlo:lo=runs.flatten.length) (hn:n=R.length):SI L kd all (setPending st' ((pendingOf st').push (lo,n,0))) (runs++[R]) T:=by
 subst hlo hn;refine ⟨?_,?_,?_,k,f⟩;{show (arrOf st').toList=_;rw [ar];simp}
 . have e:(runs++[R]).flatten++T=runs.flatten++(R++T):=by simp
   rw [e];exact pm
 . show Pd L 0 ((pendingOf st').push _).toList _;rw [tZ];exact Pd.append pe ⟨by simp,rfl,nR,rR,trivial⟩
theorem bW (C:Cmp M Ar E s kd S L) {all:List Keyed} {st:SortSt} {Q:Unit->SortSt->Prop} (sS:∀ x∈all,S x) (k:kindOf st=kd) (f:failedOf st=none) (pe:pendingOf st=#[]) (ar:(arrOf st).toList=all)
   (h:∀ st',failedOf st'=none->(arrOf st').toList.Perm all->Rise L (arrOf st').toList->Q () st'):wpS M Ar E s sortRuns' Q st:=by
 have h0:SI L kd all st [] all:=⟨by simpa using ar,by simp,by rw [pe];trivial,k,f⟩
 have sz:(arrOf st).size=all.length:=by rw [<- zI,ar]
 rw [sortRuns'_eq];refine zk (xB ?_);dsimp only;rw [sz];generalize minRun' all.length all.length 0=mr;refine zk (xy (yM (I:=λx c st'=>c.1=none/\x<=c.2/\∃ runs T,SI L kd all st' runs T/\runs.flatten.length=c.2)
   (Q:=λc st'=>c.1=none/\∃ runs,SI L kd all st' runs []) ?step ?fin ?init) ?post)
 case init=>exact ⟨rfl,zS _,[],all,h0,rfl⟩
 case fin =>
   rintro ⟨c1,lo⟩ st' ⟨e1,hx,runs,T,si,hl⟩;refine ⟨e1,runs,?_⟩;dsimp only at hx hl;have:=si.perm.length_eq;rw [zj] at this;have hT:T=[]:=uk.mp (by lia);subst hT;exact si
 case post =>
   rintro ⟨c1,lo⟩ st' ⟨e1,runs,si⟩;dsimp only at e1 ⊢;subst e1;dsimp only;refine zk (xy (yM (I:=λx c st'=>c.1=none/\∃ runs,SI L kd all st' runs []/\(runs.length+x<=all.length\/runs.length<=1)) (Q:=λc st'=>c.1=none/\∃ runs,SI L kd all st' runs []/\runs.length<=1) ?step5 ?fin5 ?init5) ?post5)
   case init5 =>
     refine ⟨rfl,runs,si,.inl ?_⟩;have h1:=si.pend.pos;have h2:=si.perm.length_eq;rw [zH] at h2;lia
   case fin5 =>
     rintro ⟨c1,u⟩ st' ⟨e1,runs,si,hr⟩;refine ⟨e1,runs,si,?_⟩;lia
   case post5 =>
     rintro ⟨c1,u⟩ st' ⟨e1,runs,si,hr⟩;dsimp only at e1;subst e1;have e2:=si.arr;rw [zH] at e2;refine zg (h st' si.failed ?_ ?_);{have:=si.perm;rw [zH] at this;rw [e2];exact this}
     . rw [e2];have pd:=si.pend
       match runs,hr,pd with
       | [],_,_=>simp
       | [R],_,pd =>
         match hq:(pendingOf st').toList,pd with
         | p::ps,pd=>simpa using pd.2.2.2.1
         | [],pd=>exact pd.elim
   case step5 =>
     rintro x ⟨c1,u⟩ st' _ hx ⟨e1,runs,si,hr⟩;dsimp only at e1;subst e1;have pl:(pendingOf st').size=runs.length:=by rw [<- zI];exact si.pend.len
     refine zk (xB ?_);by_cases z:(pendingOf st').size<=1;{rw [if_pos z];exact zg ⟨rfl,runs,si,by lia⟩};{rw [if_neg z];refine zk (md C sS si (wV (Nat.add_le_add_right (bX _ _) 1) (by lia)) λst4 runs4 si4 hl4 _=>?_);simp only [ua,xQ,x4];exact zg ⟨rfl,runs4,si4,by lia⟩}
 case step =>
   rintro x ⟨c1,lo⟩ st' _ hx ⟨e1,hxl,runs,T,si,hl⟩;dsimp only at e1 hxl hl ⊢;subst e1;by_cases z:lo≥all.length;{rw [if_pos z];refine zg ⟨rfl,runs,?_⟩;have:=si.perm.length_eq;rw [zj] at this;have hT:T=[]:=uk.mp (by lia);subst hT;exact si}
   . rw [if_neg z]
     have lT:all.length-lo=T.length:=by have:=si.perm.length_eq;rw [zj] at this;lia
     rw [lT];have nT:0<T.length:=by lia
     have sT:∀ x∈T,S x:=λx hx=>sS x (si.perm.mem_iff.mp (yf _ hx))
     have cnt:=λ{Q:Option Nat->SortSt->Prop}=>bY (Q:=Q) (M:=M) (Ar:=Ar) (E:=E) (s:=s) C (st:=st') (pre:=runs.flatten) (all:=T) si.kind sT si.arr nT
     rw [hl] at cnt;refine zk (cnt λst1 R1 T1 sa1 ar1 rR1 pR1 nR1=>?_);dsimp only;have pm1:(runs.flatten++(R1++T1)).Perm all:=(x5 _ pR1).trans si.perm;have l1:R1.length+T1.length=T.length:=by rw [<- zj];exact pR1.length_eq
     by_cases z2:R1.length<mr
     . rw [if_pos z2]
       refine zk (vn (wZ ⟨rfl,?_⟩));have hk:min T.length mr=R1.length+(T1.take (min T.length mr-R1.length)).length:=by rw [y3];lia
       have bs:=λ{Q:Bool->SortSt->Prop}=>bf (Q:=Q) (M:=M) (Ar:=Ar) (E:=E) (s:=s) C (st:=st1) (pre:=runs.flatten) (A:=R1) (U:=T1.take (min T.length mr-R1.length)) (post:=T1.drop (min T.length mr-R1.length)) (sa1.kind.trans si.kind)
         (λx hx=>sT x (pR1.mem_iff.mp (by
           rcases zR.mp hx with q | q
           . exact yF _ q
           . exact yf _ (xR q)))) (by rw [yq];exact ar1) rR1 nR1
       rw [hl,<- hk] at bs;refine zk (bs λst2 R sa2 ar2 rR pR=>?_);simp only [ua,xQ,x4];have hn:min T.length mr=R.length:=by rw [pR.length_eq,zj];exact hk
       have nR:0<R.length:=by lia
       generalize hT2:T1.drop (min T.length mr-R1.length)=T2 at *;have si2:SI L kd all st2 runs (R++T2):=by refine ⟨ar2,?_,by rw [sa2.pend,sa1.pend];exact si.pend,sa2.kind.trans (sa1.kind.trans si.kind),sa2.failed.trans (sa1.failed.trans si.failed)⟩;refine List.Perm.trans (x5 _ ?_) pm1;refine (pR.append_right _).trans ?_;rw [zY,<- hT2,yq]
       generalize hnn:min T.length mr=nn at *;refine zk (xB ?_);cases eb:(pendingOf st2).back? with
       | none =>
         dsimp only;refine zk (wa (zg ⟨rfl,by dsimp only;lia,_,T2,SI.push (st:=st2) si2.pend si2.kind si2.failed si2.arr si2.perm rR nR hl.symm hn,?_⟩));simp only [xw,yE,rZ,zH,zj];lia
       | some p =>
         obtain ⟨s1,n1,w1⟩:=p;dsimp only;refine zk (xy (yM (I:=λ_ c st3=>c.1=none/\∃ runs3,SI L kd all st3 runs3 (R++T2)/\runs3.flatten.length=lo) (Q:=λc st3=>c.1=none/\∃ runs3,SI L kd all st3 runs3 (R++T2)/\runs3.flatten.length=lo) ?stepm (λ_ _ z=>z) ?initm) ?postm)
         case initm=>exact ⟨rfl,runs,si2,hl⟩
         case stepm =>
           rintro y ⟨c1,u⟩ st3 _ _ ⟨e3,runs3,si3,hl3⟩;dsimp only at e3;subst e3;refine zk (xB ?_);have pl:(pendingOf st3).size=runs3.length:=by rw [<- zI];exact si3.pend.len
           split
           next older he =>
             split;{exact zg ⟨rfl,runs3,si3,hl3⟩}
             . have h1:(pendingOf st3).size > 1:=by
                 by_cases hz:(pendingOf st3).size > 1;{exact hz};{rw [if_neg hz] at he;cases he}
               refine zk (md C sS si3 (by lia) λst4 runs4 si4 _ hf4=>?_);simp only [ua,xQ,x4];exact zg ⟨rfl,runs4,si4,hf4.trans hl3⟩
           next=>exact zg ⟨rfl,runs3,si3,hl3⟩
         case postm =>
           rintro ⟨c1,u⟩ st3 ⟨e3,runs3,si3,hl3⟩;dsimp only at e3;subst e3;dsimp only;refine zk (wa ?_);have si4:=si3.setLast (power' all.length (2*s1+n1) (2*s1+n1+n1+nn) all.length);refine zk (wa (zg ⟨rfl,by dsimp only;lia,_,T2,SI.push (st:=st3) si4.pend si4.kind si4.failed si4.arr si4.perm rR nR hl3.symm hn,?_⟩));simp only [xw,yE,rZ,zH,zj];lia
     . rw [if_neg z2]
       have si2:SI L kd all st1 runs (R1++T1):=⟨ar1,pm1,by rw [sa1.pend];exact si.pend,sa1.kind.trans si.kind,sa1.failed.trans si.failed⟩
       have rR:=rR1;have nR:=nR1;obtain ⟨nn,hn⟩:∃ nn,nn=R1.length:=⟨_,rfl⟩
       rw [<- hn];refine zk (xB ?_);cases eb:(pendingOf st1).back? with
       | none =>
         dsimp only;refine zk (wa (zg ⟨rfl,by dsimp only;lia,_,T1,SI.push (st:=st1) si2.pend si2.kind si2.failed si2.arr si2.perm rR nR hl.symm hn,?_⟩));simp only [xw,yE,rZ,zH,zj];lia
       | some p =>
         obtain ⟨s1,n1,w1⟩:=p;dsimp only;refine zk (xy (yM (I:=λ_ c st3=>c.1=none/\∃ runs3,SI L kd all st3 runs3 (R1++T1)/\runs3.flatten.length=lo) (Q:=λc st3=>c.1=none/\∃ runs3,SI L kd all st3 runs3 (R1++T1)/\runs3.flatten.length=lo) ?stepm (λ_ _ z=>z) ?initm) ?postm)
         case initm=>exact ⟨rfl,runs,si2,hl⟩
         case stepm =>
           rintro y ⟨c1,u⟩ st3 _ _ ⟨e3,runs3,si3,hl3⟩;dsimp only at e3;subst e3;refine zk (xB ?_);have pl:(pendingOf st3).size=runs3.length:=by rw [<- zI];exact si3.pend.len
           split
           next older he =>
             split;{exact zg ⟨rfl,runs3,si3,hl3⟩}
             . have h1:(pendingOf st3).size > 1:=by
                 by_cases hz:(pendingOf st3).size > 1;{exact hz};{rw [if_neg hz] at he;cases he}
               refine zk (md C sS si3 (by lia) λst4 runs4 si4 _ hf4=>?_);simp only [ua,xQ,x4];exact zg ⟨rfl,runs4,si4,hf4.trans hl3⟩
           next=>exact zg ⟨rfl,runs3,si3,hl3⟩
         case postm =>
           rintro ⟨c1,u⟩ st3 ⟨e3,runs3,si3,hl3⟩;dsimp only at e3;subst e3;dsimp only;refine zk (wa ?_);have si4:=si3.setLast (power' all.length (2*s1+n1) (2*s1+n1+n1+nn) all.length);refine zk (wa (zg ⟨rfl,by dsimp only;lia,_,T1,SI.push (st:=st3) si4.pend si4.kind si4.failed si4.arr si4.perm rR nR hl3.symm hn,?_⟩));simp only [xw,yE,rZ,zH,zj];lia
end
end Srt
namespace L2
open PySem PySem.Spec PyProof.Rows
abbrev bmVal:List Value:=[.type "ValueError",.type "Exception",.type "BaseException",.type "object"]
def excO (e C:Addr):HO:=.ext λh=>∃ t,h.get? e=some { cls:=.ref C,data:=.fields #[.ref t,.none,.none,.none,.bool false,.none] }
structure XCls (K:zh)(C:Addr):Prop where
 q:PySem.W.excIn K C bmVal "ValueError.__new__"=true
 kp:PySem.W.keepIn K (.ref C)=true
section
variable {h:Heap}
theorem XCls.obj (c:XCls K C) (X:K.In h):∃ (nm qn:Str) (N:Addr) (bs bm:List Value) (hd:Bool) (sn:List Str) (sub:List Value) (ab:Bool) (col:Option Bool) (dd:Option Addr) (k0 k1 k2 k3 k5:Option Value) (mN:Str->Option Value),
   h.get? C=some (excClassObj nm qn C N bs bm hd sn sub ab col dd k0 k1 k2 k3 k5 "ValueError.__new__")/\h.Ns N mN/\mN "__init__"=none/\OwnTail h bmVal bm:=by
 have q:=c.q;unfold PySem.W.excIn at q;split at q
 next dd cd sl ho =>
   split at q
   next C' bm k0 k1 k2 k3 n k5 hm hs =>
     simp only [xP,xC,oY] at q;obtain ⟨⟨⟨⟨⟨e1,e2⟩,hdel⟩,ht⟩,hok⟩,hni⟩:=q;subst e1 e2;obtain ⟨nm,bs,mro,ns,qn,hd,sn,sub,ab,col,del⟩:=cd;dsimp only at hm hdel hok hni;subst hm hdel;have hsl:sl=#[k0,k1,k2,k3,some (.builtin "ValueError.__new__"),k5]:=by obtain ⟨l⟩:=sl;simp only at hs;rw [hs]
     subst hsl;exact ⟨nm,qn,ns,bs,bm,hd,sn,sub,ab,col,dd,k0,k1,k2,k3,k5,_,X _ _ ho,.of_isNs (PySem.W.isNs_of_in X hok),PySem.W.nsMap_none_of_in X hok hni,PySem.W.tail_of_in X ht⟩
   next=>cases q
 next=>cases q
end
section
variable {h:Heap}{a:Addr}{o:HO}
end
end L2
namespace Srt
open PySem PyProof.Rows
abbrev SInt (p:Keyed):Prop:=∃ n t,p.1=.int n t
abbrev LInt (x y:Keyed):Bool:=decide (numOf x.1<numOf y.1)
section
variable {Ar:Around}{s:Shared}
theorem cmp_int:Cmp (model prog w) Ar E s oneType' SInt LInt where
 lt:=λx y st Q hx hy hk h=>by
   obtain ⟨x1,x2⟩:=x;obtain ⟨y1,y2⟩:=y;obtain ⟨n,t,ex⟩:=hx;obtain ⟨m,u,ey⟩:=hy;dsimp only at ex ey;subst ex ey;rw [lt'_eq];refine zk (xB ?_);rw [hk,keyLt'_oneType];exact zk (vn (uC (oneLt_int ⟨rfl,zg h⟩)))
 asym:=λx y h=>by
   have h:numOf x.1<numOf y.1:=by simpa using h
   simp;lia
 neg:=λx y z _ _ _ h=>by
   have h:numOf x.1<numOf z.1:=by simpa using h
   simp;lia
theorem bV {a:Addr} {vs:List Value} {ns:List Int} {n:Nat} {P:Fin->Shared->Prop} (ho:s.heap.get? a=some (seqObj "list" vs.toArray n)) (hI:IntsAre vs ns) (hz:vs.length<=sizeLine)
   (h:∀ (out:Array Value) (ns':List Int),IntsAre out.toList ns'->ns'.Perm ns->ns'.Pairwise (·<=·)->P (.done (.ret .none)) { s with heap:=sortedHeap s.heap a vs out }) :
   wpAny (model prog w) Ar (Builtin.«list.sort» ⟨[.ref a],[]⟩) P E s:=by
 rw [list_sort_plain];have la:a<s.heap.objs.size:=zU ho;refine zt (listItems_at ho rfl (zt (listUpdate_at ho rfl ?_ (hsz:=by simpa using hz))));obtain ⟨e1,h1⟩:∃ e1,(s.heap.update a (Obj.mapSeq λ_=>#[])).get? a=some (seqObj "list" #[] e1):=⟨_,get?_update_seq ho (λ_=>#[])⟩
 refine zt (seqEpoch_at h1 rfl (zt (wpAny_newTuple ?_ (by simpa using hz))));refine zt (wpAny_newList (wI ?_));have h6:(((s.heap.update a (Obj.mapSeq λ_=>#[])).push (seqObj "tuple" vs.toArray 0)).push (seqObj "list" #[] 0)).get? a=some (seqObj "list" #[] e1) :=
   zT _ (zT _ h1)
 show wpAny (model prog w) Ar _ P E { s with heap:=((s.heap.update a (Obj.mapSeq λ_=>#[])).push (seqObj "tuple" vs.toArray 0)).push (seqObj "list" #[] 0) };dsimp only;have pz:(pairsOf vs).size=vs.length:=pairsOf_size vs;have done:∀ st':SortSt,(arrOf st').toList.Perm (pairsOf vs).toList->Rise LInt (arrOf st').toList->P (.done (.ret .none)) { s with heap:=sortedHeap s.heap a vs ((arrOf st').map (·.2)) }:=by
   intro st' hp hs;have hp':(arrOf st').Perm (pairsOf vs):=Array.perm_iff_toList_perm.mpr hp;obtain ⟨ns',g1,g2,g3⟩:=sorted_out hI hp' (λi j hij hj=>by
     have hj':j<(arrOf st').size:=by rw [hp'.size_eq];exact hj
     rw [K_eq (by lia),K_eq hj'];rcases xI i j with q | q
     . have:=oa.mp hs i j (by simp;lia) (by simpa using hj') q;simp at this;exact this
     . have:i=j:=by lia
       subst this;exact Int.le_refl _)
   exact h _ ns' g1 g2 g3
 by_cases h2:vs.toArray.size<2
 . rw [if_pos h2,if_pos h2];refine zt (zc ?_);rw [StateT.run_pure];refine zt (zc ?_);dsimp only;refine zt (seqEpoch_at h6 rfl (zt (listUpdate_at h6 rfl ?_ (hsz2:=?_))))
   . simp only [oz,xQ,x4];refine zc (done (SortSt.mk' general' (pairsOf vs) #[] 7 none) (List.Perm.refl _) ?_);show Rise LInt (pairsOf vs).toList;have hl:(pairsOf vs).toList.length<2:=by rw [zI,pz];simpa using h2
     match (pairsOf vs).toList,hl with
     | [],_=>simp
     | [_],_=>simp
     | _::_::_,hl=>simp at hl;lia
   . rw [rP];exact zO (tU pz) (oK hz)
 . rw [if_neg h2,if_neg h2];obtain ⟨v1,v2,rest,ev⟩:∃ v1 v2 rest,vs=v1::v2::rest:=by
     match vs,h2 with
     | [],h2=>simp at h2
     | [_],h2=>simp at h2
     | v1::v2::rest,_=>exact ⟨v1,v2,rest,rfl⟩
   have kk:keyKind' vs.toArray=pure oneType':=by subst ev;exact keyKind_ints hI
   rw [kk];refine zt (zc ?_);refine zt (yY (bW (all:=(pairsOf vs).toList) (st:=SortSt.mk' oneType' (pairsOf vs) #[] 7 none) (Q:=λ_ st'=>(arrOf st').toList.Perm (pairsOf vs).toList/\failedOf st'=none/\Rise LInt (arrOf st').toList)
     cmp_int hI.intKeys rfl rfl rfl rfl λst' f1 p1 r1=>⟨p1,f1,r1⟩) ?_ λ_ _ e=>e)
   rintro ⟨⟨⟩,st'⟩ s' ⟨rfl,hp,hf,hr⟩;dsimp only;refine zt (seqEpoch_at h6 rfl (zt (listUpdate_at h6 rfl ?_ (hsz2:=?_))));{rw [hf];simp only [oz,xQ,x4];exact zc (done st' hp hr)};{rw [rP,<- zI,hp.length_eq,zI];exact zO (tU pz) (oK hz)}
end
end Srt
namespace L2
open PySem PySem.Spec PyProof.Rows
theorem bU:bootBuiltins "sorted"=some (.builtin "sorted"):=by decide +kernel
end L2
namespace SG
open PySem PySem.Spec PyProof.Rows
def Ris (xs:Array Nat):Prop:=∀ i j (hj:j<xs.size) (h:i<j),xs[i]<xs[j]
theorem Ris.le {xs:Array Nat}(r:Ris xs){i j:Nat}(hj:j<xs.size)(h:i<=j):xs[i]<=xs[j]:=by
 rcases xI i j with q | q
 . exact xK (r i j hj q)
 . have:i=j:=oB h q;subst this;exact zi _
theorem go_ok {xs:Array Nat} (r:Ris xs) (j:Nat):∀ (n lo hi:Nat),hi-lo<=n->lo<=hi->hi<=xs.size->(∀ i (h:i<xs.size),i<lo->xs[i]<j)->(∀ i (h:i<xs.size),hi<=i->j<=xs[i]) ->
   (∀ i (h:i<xs.size),i<SetTable.below.go xs j n lo hi->xs[i]<j)/\(∀ i (h:i<xs.size),SetTable.below.go xs j n lo hi<=i->j<=xs[i])/\SetTable.below.go xs j n lo hi<=xs.size
 | 0,lo,hi,hn,h1,h2,a,b=>by
   have e:lo=hi:=by lia
   subst e;unfold SetTable.below.go;exact ⟨a,b,h2⟩
 | n + 1,lo,hi,hn,h1,h2,a,b=>by
   unfold SetTable.below.go;by_cases q:lo<hi
   . rw [if_pos q];have hm:(lo+hi)/2<xs.size:=by lia
     have eg:xs.getD ((lo+hi)/2) j=xs[(lo+hi)/2]:=by simp [Array.getD,hm]
     dsimp only;rw [eg];by_cases c:xs[(lo+hi)/2]<j;{rw [if_pos c];refine go_ok r j n ((lo+hi)/2+1) hi (by lia) (by lia) h2 (λi h hi'=>?_) b;exact wV (r.le hm (by lia)) c};{rw [if_neg c];refine go_ok r j n lo ((lo+hi)/2) (by lia) (by lia) (by lia) a (λi h hi'=>?_);exact zO (oJ c) (r.le h hi')}
   . rw [if_neg q];have e:lo=hi:=by lia
     subst e;exact ⟨a,b,h2⟩
theorem gN {xs:Array Nat}(r:Ris xs)(j:Nat):(∀ i (h:i<xs.size),i<SetTable.below xs j->xs[i]<j)/\(∀ i (h:i<xs.size),SetTable.below xs j<=i->j<=xs[i])/\SetTable.below xs j<=xs.size:=by unfold SetTable.below;exact go_ok r j xs.size 0 xs.size (by lia) (by lia) (zi _) (λi h z=>absurd z (uc _)) (λi h z=>absurd h (by lia))
theorem ris_iff {xs:Array Nat}:Ris xs↔xs.toList.Pairwise (·<·):=by
 rw [oa];constructor;{intro r i j hi hj h;have:=r i j (by simpa using hj) h;simpa using this};{intro r i j hj h;have:=r i j (by simp;lia) (by simpa using hj) h;simpa using this}
theorem ris_put {xs:Array Nat}(r:Ris xs){j:Nat}(n:xs[SetTable.below xs j]?≠some j):Ris (SetTable.insertAt xs (SetTable.below xs j) j):=by
 obtain ⟨a,b,c⟩:=gN r j;have b':∀ i (h:i<xs.size),SetTable.below xs j<=i->j<xs[i]:=by
   intro i h q;have h1:=b i h q;rcases xI j xs[i] with z | z
   . exact z
   . exfalso
     have e:xs[i]=j:=oB z h1;have hp:SetTable.below xs j<xs.size:=by lia
     have e2:xs[SetTable.below xs j]=j:=oB (by have:=r.le h q;lia) (b _ hp (zi _));apply n
     rw [wF hp,e2]
 generalize SetTable.below xs j=p at a b' c;rw [ris_iff] at r ⊢;unfold SetTable.insertAt;have e:((xs.extract 0 p).push j++xs.extract p xs.size).toList=xs.toList.take p++j::xs.toList.drop p:=by simp [oR,List.extract];exact yP (by rw [xv,zI];exact zi _)
 rw [e,zF];refine ⟨r.sublist (xa _ _),?_,?_⟩
 . rw [rh];refine ⟨λy hy=>?_,r.sublist (xn _ _)⟩;obtain ⟨i,hi,rfl⟩:=xq.mp hy;rw [List.getElem_drop];have hl:p+i<xs.size:=by rw [xv,zI] at hi;lia
   have:=b' (p+i) hl (by lia);simpa using this
 . intro y hy z hz;have hy1:y<j:=by
     obtain ⟨i,hi,rfl⟩:=xq.mp hy;rw [List.getElem_take];have hl:i<p:=by rw [y3] at hi;lia
     have:=a i (by rw [y3,zI] at hi;lia) hl;simpa using this
   rcases zW.mp hz with rfl | hz
   . exact hy1
   . obtain ⟨i,hi,rfl⟩:=xq.mp hz;rw [List.getElem_drop];have hl:p+i<xs.size:=by rw [xv,zI] at hi;lia
     have:=b' (p+i) hl (by lia);have:j<xs.toList[p+i]'(by simpa using hl):=by simpa using this
     lia
theorem ma {t:SetTable} {f:Nat->Int} {h:Int}:∀ (n:Nat) (p:SetTable.Probe) (j:Nat) (d:Option Nat),(∀ x,p.dummy=some x->t.slot x=.dummy)->SetTable.probe.go t f h n p=some (.empty j d)->(t.slot j=.empty)/\∀ x,d=some x->t.slot x=.dummy
 | 0,p,j,d,hd,e=>by unfold SetTable.probe.go at e;cases e
 | n + 1,p,j,d,hd,e=>by
   unfold SetTable.probe.go at e;have adv:∀ q:SetTable.Probe,(t.advance q).dummy=q.dummy:=by intro q;unfold SetTable.advance;split<;>rfl
   split at e
   . rename_i hs
     cases e;exact ⟨hs,hd⟩
   . rename_i hs
     refine ma n _ j d (λx hx=>?_) e;rw [adv] at hx;cases hx;exact hs
   . split at e
     . cases e
     . refine ma n _ j d (λx hx=>?_) e;rw [adv] at hx;exact hd x hx
theorem gM {t:SetTable}{j:Nat}(h:t.slot j=.empty\/t.slot j=.dummy):t.place[SetTable.below t.place j]?≠some j:=by intro e;unfold SetTable.slot at h;simp only [e,ot,wo] at h;rcases h with h | h<;>cases h
theorem free_not {t:SetTable}{h:Int}{j:Nat}{b:Bool}(e:t.freeSlot h=some (j,b)):t.place[SetTable.below t.place j]?≠some j:=by
 unfold SetTable.freeSlot at e;split at e
 . rename_i j0 d hp
   unfold SetTable.probe at hp;obtain ⟨h1,h2⟩:=ma _ _ _ _ (λx hx=>by cases hx) hp;cases e;cases d with
   | none=>exact gM (.inl h1)
   | some x=>exact gM (.inr (h2 x rfl))
 . cases e
structure Good (bt:Bool)(t:SetTable):Prop where
 led:t.led=!bt
 ris:t.plain=true->Ris t.place
theorem Good.fresh (bt:Bool):Good bt (.fresh 0 0 (!bt)):=⟨rfl,λ_ i j hj=>absurd hj (uc _)⟩
theorem Good.standIn {bt:Bool}{t:SetTable}(g:Good bt t)(n:Nat):Good bt (t.standIn n):=⟨g.led,λh=>by cases h⟩
theorem Good.layNew {bt:Bool}{t:SetTable}(g:Good bt t)(es:Array (Int × Value))(h:Int)(x:Value):Good bt (layNew t es h x).2.1:=by
 unfold PySem.layNew;split
 . rename_i j b e
   show Good bt ((t.put j).1.orStandIn _);have gp:Good bt (t.put j).1:=⟨g.led,λhp=>ris_put (g.ris hp) (free_not e)⟩
   unfold SetTable.orStandIn;split;{exact gp};{exact gp.standIn _}
 . exact g.standIn _
theorem Good.relayAll {bt:Bool}{t:SetTable}(g:Good bt t)(es:Array (Int × Value))(n:Nat):Good bt (relayAll t es n).2.1:=by
 unfold PySem.relayAll;split
 . rename_i t' ord e
   have gt:Good bt t':=by unfold SetTable.relaid SetTable.laid at e;simp only [Option.bind_eq_bind,Option.bind_eq_some_iff,Option.pure_def] at e;obtain ⟨ow,_,e⟩:=e;cases e;refine ⟨g.led,λ_=>?_⟩;rw [ris_iff];show (List.map _ _).Pairwise _;rw [List.pairwise_map];refine List.Pairwise.filterMap (R:=(·<·)) _ (λa a' haa b hb c hc=>?_) kI;simp only [Option.map_eq_some_iff] at hb hc;obtain ⟨_,_,rfl⟩:=hb;obtain ⟨_,_,rfl⟩:=hc;exact haa
   dsimp only;split;{exact gt};{exact g.standIn _}
 . exact g.standIn _
def iv:Value->Int
 | .int k _=>k
 | _=>0
def bt (w:World):Bool:=w.params.followText "set-order"
def ST (prog:Program)(w:World)(h:Heap)(a:Addr)(ks:List Int):Prop :=
 ∃ o es ep t,h.get? a=some o/\o.ExactSet/\o.data=.set es ep t/\ElemsOf (intKind prog w) es.toList/\es.size<scanBound/\t.fits es.size=true/\Good (bt w) t/\(es.toList.map λe=>iv e.2)=ks/\ks.Nodup
section
variable {s:Shared}
theorem ST.but {h:Heap}{a d:Addr}{ks:List Int}(x:ST prog w h a ks)(k:∀ o,h.get? a=some o->h'.get? a=some o):ST prog w h' a ks:=let ⟨o,es,ep,t,e,r⟩:=x;⟨o,es,ep,t,k o e,r⟩
theorem gL {k:Int}{e:Int × Value}{es:List (Int × Value)}(el:ElemsOf (intKind prog w) es)(he:e∈es):(intKind prog w).is k e.2=true↔iv e.2=k:=by
 obtain ⟨⟨k',h1,_⟩,_⟩:=el e he;obtain ⟨t,e2⟩:=sJ h1;rw [e2];constructor;{intro h;exact (intKind prog w).inj _ _ _ (intKind_is prog w k' t) h};{intro h;have h:k'=k:=h;subst h;exact intKind_is prog w k' t}
theorem mZ {h:Heap}{a:Addr}{o:Obj}{es:Array (Int × Value)}{t:SetTable}(ho:h.get? a=some o)(hd:o.data=.set es ep t)(es':Array (Int × Value))(t':SetTable) :
   (h.update a (Obj.putSet es' t')).get? a=some { o with data:=.set es' (ep+1) t' }:=by
 have q:=uJ (Obj.putSet es' t') ho (by rw [putSet_of es' t' hd];rfl);rw [putSet_of es' t' hd] at q;exact q
theorem gK {es es':Array (Int × Value)}(p:es'.toList.Perm es.toList):es'.size=es.size:=by rw [<- zI,p.length_eq,zI]
theorem gJ {g:Bool->Sem Unit}(hg:∀ (b:Bool) (s1:Shared) (Q':Unit->Shared->Prop),Q' () s1->wpAny (model prog w) A (g b) Q' E s1){a:Addr}{o:Obj}{es:Array (Int × Value)}{t:SetTable}(ho:s.heap.get? a=some o)(hx:o.ExactSet)(hd:o.data=.set es ep t)
   {es1:Array (Int × Value)} {t2:SetTable} {wd:Bool} {R:Option Bool->Shared->Prop} (el:ElemsOf (intKind prog w) es1.toList) (hb:es1.size<scanBound) (hf:t2.fits es1.size=true) (gd:Good (bt w) t2) (nd:(es1.toList.map λe=>iv e.2).Nodup)
   (q:∀ h' ks',Heap.SameBut a s.heap h'->ST prog w h' a ks'->ks'.Perm (es1.toList.map λe=>iv e.2)->R (some true) { s with heap:=h' }) :
   wpAny (model prog w) A (do storeSet a es1 t2;if (!wd&&t2.tooFull)=true then (do g (relayAll t2 es1 (SetTable.grown es1.size)).2.2;storeSet a (relayAll t2 es1 (SetTable.grown es1.size)).1 (relayAll t2 es1 (SetTable.grown es1.size)).2.1;pure (some true)) else pure (some true)) R E s:=by
 refine zt (oy ho hd ?_ (uE hb));have ho1:=mZ ho hd es1 t2;have sb:=o3 s.heap a (Obj.putSet es1 t2);split
 . have pp:=relayAll_perm t2 es1 (SetTable.grown es1.size);have pf:=relayAll_fits t2 es1 (SetTable.grown es1.size);have pg:=gd.relayAll es1 (SetTable.grown es1.size);generalize relayAll t2 es1 (SetTable.grown es1.size)=Z at pp pf pg ⊢;obtain ⟨es2,t3,gv⟩:=Z;have pp:es2.toList.Perm es1.toList:=pp;have hb2:es2.size<scanBound:=by rw [gK pp];exact hb
   refine zt (hg _ _ _ (zt (oy ho1 rfl ?_ (uE hb2))));refine zc (q _ _ (sb.trans (o3 _ a _)) ⟨_,es2,_,t3,mZ ho1 rfl es2 t3,hx,rfl,el.perm pp,hb2,pf,pg,rfl,?_⟩ (pp.map _));exact (pp.map λe=>iv e.2).nodup_iff.mpr nd
 . exact zc (q _ _ sb ⟨_,es1,_,t2,ho1,hx,rfl,el,hb,hf,gd,rfl,nd⟩ (.refl _))
theorem add_int {a:Addr} {ks:List Int} {k:Int} {tk:Tok} {Q:Bool->Shared->Prop} (hS:ST prog w s.heap a ks) (room:ks.length+1<scanBound)
   (q:∀ b h' ks',Heap.SameBut a s.heap h'->ST prog w h' a ks'->(∀ y,y∈ks'↔y∈ks\/y=k)->ks'.length<=ks.length+1->Q b { s with heap:=h' }):wpAny (model prog w) A (setAddHashed a (.int k tk) ((intKind prog w).hash k)) Q E s:=by
 obtain ⟨o,es,ep,t,ho,hx,hd,el,hb,hf,gd,rfl,nd⟩:=hS;have hk:=intKind_is prog w k tk;have lz:(es.toList.map λe=>iv e.2).length=es.size:=by rw [za,zI]
 unfold setAddHashed;unfold setAddHashedIn;refine wI (zt (vq ho hd hf ?_));dsimp only;rw [byScan_of (x:=Value.int k tk) rfl hb el,if_pos rfl];unfold setAddByScan;refine zt (zt (wZ (zt (wpAny_setScan_of hk ho hd hf el ?_))));cases hr:List.findIdx? (λe=>(intKind prog w).is k e.2) es.toList with
 | some j =>
   dsimp only;obtain ⟨hj,pj,_⟩:=List.findIdx?_eq_some_iff_getElem.mp hr;have hm:k∈es.toList.map λe=>iv e.2:=zJ.mpr ⟨_,y9 hj,(gL el (y9 hj)).mp pj⟩
   refine zc (zc ?_);have:=q false s.heap _ (Heap.SameBut.refl a s.heap) ⟨o,es,ep,t,ho,hx,hd,el,hb,hf,gd,rfl,nd⟩ (λy=>⟨.inl,λz=>z.elim id λe=>e ▸ hm⟩) (wA _);exact this
 | none =>
   dsimp only;have hm:k∉es.toList.map λe=>iv e.2:=by intro z;obtain ⟨e,he,e1⟩:=zJ.mp z;have:=List.findIdx?_eq_none_iff.mp hr e he;rw [(gL el he).mpr e1] at this;cases this
   have gw:∀ (b:Bool) (s1:Shared) (Q':Unit->Shared->Prop),Q' () s1->wpAny (model prog w) A (match b with | true=>rule "set.scan.the-table-gave-way" | false=>pure ()) Q' E s1:=λb s1 Q' z=>by
     cases b;{exact zc z};{exact wZ z}
   have lp:=layNew_perm t es ((intKind prog w).hash k) (.int k tk);have lf:=layNew_fits t es ((intKind prog w).hash k) (.int k tk);have lg:=gd.layNew es ((intKind prog w).hash k) (.int k tk);generalize layNew t es ((intKind prog w).hash k) (.int k tk)=Z at lp lf lg ⊢;obtain ⟨es1,t1,wd,gv⟩:=Z;have lf:t1.fits es1.size=true:=lf;have lg:Good (bt w) t1:=lg;have lp:es1.toList.Perm (es.toList++[((intKind prog w).hash k,.int k tk)]):=by
     have:=lp
     rwa [tZ] at this
   have el1:ElemsOf (intKind prog w) es1.toList:=(el.push hk rfl).perm lp;have l1:es1.size=es.size+1:=by have:=lp.length_eq;rw [zj,zI,zI] at this;exact this
   have hb1:es1.size<scanBound:=by rw [l1];rw [lz] at room;exact room
   have pm:(es1.toList.map λe=>iv e.2).Perm ((es.toList.map λe=>iv e.2)++[k]):=by
     have:=lp.map λe=>iv e.2
     rwa [yX] at this
   have nd1:(es1.toList.map λe=>iv e.2).Nodup:=by rw [pm.nodup_iff,List.nodup_append];exact ⟨nd,(by simp),λx hx y hy e=>hm (by rw [zA.mp hy] at e;rw [<- e];exact hx)⟩
   have fin:∀ h' ks',Heap.SameBut a s.heap h'->ST prog w h' a ks'->ks'.Perm (es1.toList.map λe=>iv e.2)->Q true { s with heap:=h' }:=λh' ks' sb st p=>by
     refine q true h' ks' sb st (λy=>?_) ?_;{rw [p.mem_iff,pm.mem_iff,zR,zA]};{rw [p.length_eq,za,zI,l1,lz];exact zi _}
   dsimp only;refine zt (gw _ _ _ ?_);split
   . refine zt ?_;rw [hashByValue_scannable 8 (x:=Value.int k tk) rfl];refine zc (gJ (λb s1 Q' z=>gw b s1 Q' z) ho hx hd el1 hb1 ?_ ?_ nd1 λh' ks' sb st p=>zc (fin h' ks' sb st p))
     . exact lf
     . exact lg
   . refine zt (zc (gJ (λb s1 Q' z=>gw b s1 Q' z) ho hx hd el1 hb1 ?_ ?_ nd1 λh' ks' sb st p=>zc (fin h' ks' sb st p)))
     . exact lf
     . exact lg
theorem upd_loop {R:Result->Shared->Prop} {I:Addr} {wr:List Addr} {n:Nat} {P:Nat->Value->Prop} {St:Nat->Heap->Prop} (W:Walks prog w A.in1 I fp wr n P St) (S:Addr) (hS:S∉fp) (val:Nat->Int) (hv:∀ i v,P i v->∃ t,v=.int (val i) t) (hb:n+1<scanBound) :
   ∀ (d i:Nat) (s:Shared) (ks:List Int),n-i=d->i<=n->St i s.heap->ST prog w s.heap S ks->(∀ y,y∈ks↔∃ j,j<i/\y=val j)->ks.length<=i ->
   (∀ h' tk ks',(∀ b o,b≠S->b∉wr->s.heap.get? b=some o->h'.get? b=some o)->ST prog w h' S ks'->(∀ y,y∈ks'↔∃ j,j<n/\y=val j)->R (.ok (.ret .none)) { s with heap:=h',toks:=tk }) ->
   codeAny (model prog w) A (Code.builtin "set.update.loop" ⟨[.ref S,.ref I],[]⟩) R s:=by
 have hSw:S∉wr:=λz=>hS (W.sub _ z)
 intro d;induction d with
 | zero =>
   intro i s ks hd hi st hk hm hl q;have e:i=n:=by lia
   subst e;refine uo F.entry_set_update_loop ?_;rw [uG o8 _];refine zt (m:=pyNext (.ref I)) (W.done s _ _ st λh' tk k=>?_);exact zc (q h' tk ks (λb o _ n2 e=>k b o n2 e) (hk.but (d:=S) λo e=>k S o hSw e) hm)
 | succ d ih =>
   intro i s ks hd hi st hk hm hl q;refine uo F.entry_set_update_loop ?_;rw [uG o8 _];refine zt (m:=pyNext (.ref I)) (W.item i s _ _ (by lia) st λv h1 tk pv st1 k1=>?_);obtain ⟨t,rfl⟩:=hv i v pv;have hk1:ST prog w h1 S ks:=hk.but (d:=S) λo e=>k1 S o hSw e
   refine zt (m:=holding [Value.int (val i) t] (setAdd S (.int (val i) t))) (wI ?_);unfold setAdd;refine wI (zt ((intKind prog w).pyHash (k:=val i) (intKind_is _ _ _ _) ?_));refine add_int (s:={ s with heap:=h1,toks:=tk+1 }) hk1 (by lia) λb h2 ks2 sb st2 m2 l2=>?_
   refine zc ⟨uB o8 _,ih (i+1) _ ks2 (by lia) (by lia) (W.frame _ h1 h2 st1 λc hc o e=>?_) st2 (λy=>?_) (by lia) λh3 tk3 ks3 k3 st3 m3=>?_⟩;{rw [sb.2 c (λz=>hS (z ▸ hc))];exact e}
   . rw [m2,hm]
     constructor
     . rintro (⟨j,hj,e⟩ | e)
       . exact ⟨j,by lia,e⟩
       . exact ⟨i,by lia,e⟩
     . rintro ⟨j,hj,e⟩;by_cases c:j<i
       . exact .inl ⟨j,c,e⟩
       . have:j=i:=by lia
         subst this;exact .inr e
   . refine q h3 tk3 ks3 (λc o n1 n2 e=>k3 c o n1 n2 ?_) st3 m3;show h2.get? c=some o;rw [sb.2 c n1];exact k1 c o n2 e
theorem new_set (a:Value)(q:Q (.ref s.heap.objs.size) { s with heap:=s.heap.push { cls:=.type "set",dict:=none,data:=.set #[] 0 (.fresh 0 0 (!bt w)) } }) :
   codeAny (model prog w) A (.call (.builtin "set.__new__") ⟨[.type "set",a],[]⟩) (wants Q E) s:=by
 refine codeAny_of_tree ?_;refine zt (m:=checkBuiltinCall "set.__new__" ⟨[.type "set",a],[]⟩) (wpAny_of_eq (PySem.F.newCall_set_1 a) (zc ⟨uB kf _,uo PySem.F.entry_set_new ?_⟩));rw [uG kf _];unfold Builtin.«set.__new__»;unfold Builtin.Frozenset.newClass;have hsub:=sub_set_self;obtain ⟨hp,ge,dr,tk,os⟩:=s;dsimp only
 wp_walk
 refine oq (zc ?_);simp only [newObj];exact zt (wpAny_alloc (zc (zc q)))
def emptyObj (w:World):Obj:={ cls:=.type "set",dict:=none,data:=.set #[] 0 (.fresh 0 0 (!bt w)) }
theorem st_empty {h:Heap}{a:Addr}(e:h.get? a=some (emptyObj w)):ST prog w h a [] :=
 ⟨_,#[],0,.fresh 0 0 (!bt w),e,⟨rfl,rfl,rfl⟩,rfl,(λx hx=>nomatch hx),(by decide),rfl,Good.fresh _,rfl,List.nodup_nil⟩
set_option maxHeartbeats 3200000 in
theorem call_set {l:Addr} {its:Array Value} {ns:List Int} (hh:A.handled=none) (hl:s.heap.IsList l its) (hi:IntsAre its.toList ns) (hb:its.size+1<scanBound)
   (q:∀ (h':Heap) (tk:Nat) (ks:List Int),ST prog w h' s.heap.objs.size ks->(∀ y,y∈ks↔y∈ns)->(∀ b o,b<s.heap.objs.size->s.heap.get? b=some o->h'.get? b=some o)->Q (.ref s.heap.objs.size) { s with heap:=h',toks:=tk }) :
   wpAny (model prog w) A (call (.type "set") [.ref l]) Q E s:=by
 have ln:its.size=ns.length:=by rw [<- zI];exact IntsAre.length hi
 obtain ⟨c,tl,hmro⟩:=PySem.F.called_set.mro;have hmade:=PySem.F.called_set.made;have hsub:=PySem.F.called_set.sub;refine uA (codeAny_of_tree ?_);refine zc ⟨Code.quiet_builtin _ (by decide +kernel),uo F.entry_type_call ?_⟩;rw [Around.under_plain (weight_type_call_type "set" [.ref l] []) rfl];have h1:=PySem.F.called_set.notType;have h2:=PySem.F.called_set.canCreate;have hct:=PySem.F.typeCall_set_1 (.ref l)
 repeat (any_goals (first | assumption | wp_step))
 refine wH (new_set (.ref l) (E:=E) (Q:=λobj s1=>obj=.ref s.heap.objs.size/\s1={ s with heap:=s.heap.push (emptyObj w) }) ⟨rfl,rfl⟩) λr s1 hr=>?_
 cases r with
 | error e=>exact hr
 | ok fl =>
   cases fl with
   | ret obj =>
     obtain ⟨rfl,rfl⟩:=hr;have hS:(s.heap.push (emptyObj w)).get? s.heap.objs.size=some (emptyObj w):=yn _ rfl;have hT:Shared.TypeIs { s with heap:=s.heap.push (emptyObj w) } (.ref s.heap.objs.size) "set":=⟨_,hS,rfl⟩
     have hli:=PySem.F.called_set.init.lookup;have hbi:=PySem.F.called_set.init.bind (.ref s.heap.objs.size)
     repeat (any_goals (first | assumption | wp_step))
     refine wH (codeAny_call_builtin (R:=wants (λr s2=>r=.none/\∃ h' tk ks,s2={ s with heap:=h',toks:=tk }/\ST prog w h' s.heap.objs.size ks/\(∀ y,y∈ks↔y∈ns)/\∀ b o,b<s.heap.objs.size->s.heap.get? b=some o->h'.get? b=some o) E) PySem.F.called_set.init.plain PySem.F.entry_set_init (check_set_init_1 hT ?_)) λr2 s2 hr2=>?_
     . obtain ⟨ol,hol,hcl,nl,hdl⟩:=hl;obtain ⟨ocls,odict,odata,oslots⟩:=ol;simp only at hcl hdl;subst hcl;subst hdl;have hol1:(s.heap.push (emptyObj w)).get? l=some { cls:=.type "list",dict:=odict,data:=.seq its nl,slots:=oslots }:=zT _ hol;have g1:=PySem.F.sub_list_set;have g2:=PySem.F.sub_list_frozenset;have g3:(Value.type "list"==Value.type "dict")=false:=by decide
       have hl1:(s.heap.push (emptyObj w)).IsList l its:=⟨_,hol1,rfl,nl,rfl⟩
       unfold Builtin.«set.__init__»;unfold noKeywords;unfold Builtin.Frozenset.updateFrom;generalize hPI:pyIter=PI
       wp_walk
       subst hPI;refine wpAny_pyIter_list hl1 (zt (wpAny_runValue ?_));have lt:l<s.heap.objs.size:=zU hol;have hh3:A.in1.in1.in1.handled=none:=by simp [hh]
       have sz:(s.heap.push (emptyObj w)).objs.size=s.heap.objs.size+1:=vP ..;have neI:l≠(s.heap.push (emptyObj w)).objs.size:=by rw [sz];exact zE (wR lt)
       have neS:s.heap.objs.size∉[(s.heap.push (emptyObj w)).objs.size,l]:=by
         rw [sz];intro z;rcases zW.mp z with z | z
         . exact zE (wQ _) z
         . exact wB lt (zA.mp z)
       refine upd_loop (Walks.list hh3 _ l neI its) s.heap.objs.size neS (λi=>ns.getD i 0) (λi v hv=>IntsAre.int_at hi i v (by rw [yS];exact hv)) hb its.size 0 _ [] rfl (zS _) ⟨⟨_,yn _ rfl,rfl,rfl⟩,hl1.push _⟩ (st_empty (zT _ hS)) (λy=>⟨λz=>(nomatch z),λ⟨j,hj,_⟩=>absurd hj (uc _)⟩) (zi _) λh' tk ks k st m=>?_
       refine zc (zc ⟨rfl,h',tk,ks,rfl,st,λy=>?_,λb o lb e=>?_⟩)
       . rw [m,ln];constructor
         . rintro ⟨j,hj,rfl⟩;show ns.getD j 0∈ns;rw [yL,zV hj];exact y9 hj
         . intro hy;obtain ⟨j,hj,rfl⟩:=xq.mp hy;refine ⟨j,hj,?_⟩;show _=ns.getD j 0;rw [yL,zV hj];rfl
       . refine k b o (zE lb) (λz=>?_) (zT _ (zT _ e));have:=zA.mp z;rw [sz] at this;exact zE (wR lb) this
     . cases r2 with
       | error e=>exact hr2
       | ok f2 =>
         cases f2 with
         | ret r =>
           obtain ⟨rfl,h',tk,ks,rfl,st,m,k⟩:=hr2
           repeat (any_goals (first | assumption | wp_step))
           exact q _ _ _ st m k
         | _=>exact hr2.elim
   | _=>exact hr.elim
end
theorem slot_it_next:Slot "set_iterator" "__next__" "set_iterator.__next__" :=
 .of (owner:="set_iterator") (n:="__next__") (by rw [typeLookup_type,builtinLookup_eq_fast];kernel_rfl) (by decide +kernel) (by decide +kernel) (by decide +kernel) (by first | exact .inl (by decide +kernel) | exact .inr (by decide +kernel)) (by rw [isSubtype_type];kernel_rfl)
theorem gI:Slot "set_iterator" "__iter__" "set_iterator.__iter__" :=
 .of (owner:="set_iterator") (n:="__iter__") (by rw [typeLookup_type,builtinLookup_eq_fast];kernel_rfl) (by decide +kernel) (by decide +kernel) (by decide +kernel) (by first | exact .inl (by decide +kernel) | exact .inr (by decide +kernel)) (by rw [isSubtype_type];kernel_rfl)
theorem qg:entryFor table "set_iterator.__next__"=some Builtin.«set_iterator.__next__»:=entryFor_of_tree (by kernel_rfl)
theorem qf (a:Value):argsOk "set_iterator.__next__" ⟨[a],[]⟩:=by unfold argsOk;kernel_rfl
theorem bT (a:Value):argsOk "set_iterator.__iter__" ⟨[a],[]⟩:=by unfold argsOk;kernel_rfl
theorem bS:entryFor table "set_iterator.__iter__"=some Builtin.«dict_keyiterator.__iter__»:=entryFor_alias (id':="dict_keyiterator.__iter__") (by kernel_rfl) (by first | rfl | decide +kernel | (unfold String.splitOn;simp +decide [String.splitOnAux])) (by decide +kernel) (by kernel_rfl)
theorem bR:entryFor table "set.__iter__"=some Builtin.«frozenset.__iter__»:=entryFor_alias (id':="frozenset.__iter__") (by kernel_rfl) rfl (by decide +kernel) (by kernel_rfl)
theorem mY {α:Type}:∀ (l:List α) {i:Nat} (h:i<l.length),(l[i]::l.eraseIdx i).Perm l
 | [],_,h=>absurd h (uc _)
 | x::l,0,_=>.refl _
 | x::l,i+1,h=>by
   have:=mY l (i:=i) (by simpa using h);exact (List.Perm.swap _ _ _).trans (this.cons x)
theorem gH {α:Type}(next:Nat->Nat):∀ (n k:Nat) (l:List α) (out:Array α),l.length=n->(pickOrder.go next n k l out).toList.Perm (out.toList++l)
 | 0,k,l,out,h=>by
   have e:l=[]:=uk.mp h;subst e;unfold pickOrder.go;rw [zH]
 | n+1,k,l,out,h=>by
   unfold pickOrder.go;have hl:next k%l.length<l.length:=xZ _ (by lia);rw [zV hl];dsimp only;refine (gH next n (k+1) _ _ (by rw [List.length_eraseIdx];rw [if_pos hl];lia)).trans ?_;rw [tZ,zY];refine x5 _ ?_;exact mY l hl
theorem gG {α:Type}(next:Nat->Nat)(xs:Array α):(pickOrder next xs).toList.Perm xs.toList:=by unfold pickOrder;have:=gH next xs.size 0 xs.toList #[] (zI ..);simpa using this
def itObj (f:Value)(i:Int)(c:Value)(n ep:Nat):Obj:={ cls:=.type "set_iterator",dict:=none,data:=.fields #[f,rawInt i,c,rawInt n,rawInt ep],slots:=#[] }
section
variable {s:Shared}{a:Addr}{o:Obj}{es:Array (Int × Value)}{t:SetTable}
theorem qd {Q:Bool->Shared->Prop}(q:Q (bt w) s):wpAny (model prog w) A setsByText Q E s:=by unfold setsByText;exact zt (oq (zc q))
theorem gF {sl gi:Nat}{Q:Option (Value × Nat)->Shared->Prop}(hb:bt w=true)(ho:s.heap.get? a=some o)(hd:o.data=.set es ep t)(hf:t.fits es.size=true)(q:Q (((pickOrder (w.params.setOrder a ep) es)[gi]?).map λe=>(e.2,sl)) s):wpAny (model prog w) A (setNext a sl gi ep) Q E s:=by unfold setNext;refine zt (vq ho hd hf ?_);dsimp only;refine zt (qd ?_);rw [hb,if_pos rfl,if_neg (by simp)];unfold setWalk;refine zt (zt (vq ho hd hf ?_));dsimp only;refine zt (qd ?_);rw [hb,if_pos rfl];exact zt (oq (zc (zc q)))
theorem gE {sl gi:Nat}{Q:Option (Value × Nat)->Shared->Prop}(hb:bt w=false)(hl:t.led=true)(hp:(!t.plain&&decide (es.size > 1))=false)(ho:s.heap.get? a=some o)(hd:o.data=.set es ep t)(hf:t.fits es.size=true)
   (q:Q (match es[SetTable.below t.place sl]?,t.place[SetTable.below t.place sl]? with | some (_,x),some j=>some (x,j+1) | _,_=>none) s):wpAny (model prog w) A (setNext a sl gi ep) Q E s:=by
 unfold setNext;refine zt (vq ho hd hf ?_);dsimp only;refine zt (qd ?_);rw [hb,if_neg (by decide)];show wpAny _ _ (if (!t.plain&&decide (es.size > 1))=true then _ else _) _ _ _;rw [hp,if_neg (by decide)];refine zt (m:=if (!t.led&&!es.isEmpty)=true then unsupported "set:maker-not-led" else pure ()) ?_;rw [hl,if_neg (by simp)];exact zc (zc q)
end
section
variable {s:Shared}{a I:Addr}{o:Obj}{es:Array (Int × Value)}{t:SetTable}
theorem sf {f c:Value}{i:Int}{n:Nat}(hI:s.heap.get? I=some (itObj f i c n ep)):s.TypeIs (.ref I) "set_iterator":=⟨_,hI,rfl⟩
theorem gD {h0:Heap}{R:Fin->Shared->Prop}{Q:Option Value->Shared->Prop}(hh:A.handled=none)(ex:Heap.ExtBut I h0 s.heap)(q:∀ g,Heap.ExtBut I h0 g->Q none { s with heap:=g }) :
   wpAny (model prog w) A.in1 (newExc (.type "StopIteration") [] >>= λe=>raiseNew e) R (λe s'=>wpAny (model prog w) A (do if <- isInstance e (.type "StopIteration") then pure none else throw e) Q E s') s:=by
 refine zt ?_;simp only [newExc,newTuple];refine zt (uD (zt (m:=firstArgMember _ _) (wpAny_of_eq (a:=Value.none) (by first | rfl | (simp only [firstArgMember];rfl)) (uD ?_ (by size_fits)))) (by size_fits));simp only [raiseNew];refine zt (wpAny_handled ?_);rw [show A.in1.handled=none from hh];refine zt (zc (wpAny_throw ?_));exact zt (wpAny_isInstance (T:="StopIteration") (b:=true) ⟨_,yn _ rfl,rfl⟩ isSubtype_stop (zc (q _ ((ex.push _).push _))))
theorem gC {sl i n nx:Nat}{x:Value}{Q:Option Value->Shared->Prop}(hI:s.heap.get? I=some (itObj (rawInt sl) i (.ref a) n ep))(ho:s.heap.get? a=some o)(hd:o.data=.set es ep t)(hf:t.fits es.size=true)(sz:es.size=n)
   (hs:∀ {A:Around} {E:Value->Shared->Prop} {Q:Option (Value × Nat)->Shared->Prop},Q (some (x,nx)) s->wpAny (model prog w) A (setNext a sl i ep) Q E s)
   (q:∀ g,g.get? I=some (itObj (rawInt nx) (i+1:Nat) (.ref a) n ep)->Heap.SameBut I s.heap g->Q (some x) { s with heap:=g }):wpAny (model prog w) A (pyNext (.ref I)) Q E s:=by
 have hT:=sf hI;unfold pyNext;refine zt (uC (sN (name:=Str.ofString "__next__") hT slot_it_next (vR slot_it_next hT qg ?_ (qf _))));unfold Builtin.«set_iterator.__next__»;refine zt (m:=slotArgs "__next__" 0 ⟨[.ref I],[]⟩) (zc (zt (sG hI rfl ?_)));dsimp only [rawInt];refine zt (uF ho hd hf ?_);rw [if_neg (by rw [sz];simp)];simp only [yp];refine zt (hs ?_);dsimp only;refine zt (uw hI (by show 0<5;decide) λg1 e1 s1=>?_);refine zt (uw e1 (by show 1<5;decide) λg2 e2 s2=>?_);exact zc ⟨x,rfl,zc (q g2 e2 (s1.trans s2))⟩
theorem it_end {sl i n:Nat}{Q:Option Value->Shared->Prop}(hh:A.handled=none)(hI:s.heap.get? I=some (itObj (rawInt sl) i (.ref a) n ep))(ho:s.heap.get? a=some o)(hd:o.data=.set es ep t)(hf:t.fits es.size=true)(sz:es.size=n)
   (hs:∀ {A:Around} {E:Value->Shared->Prop} {Q:Option (Value × Nat)->Shared->Prop},Q none s->wpAny (model prog w) A (setNext a sl i ep) Q E s)
   (q:∀ g,Heap.ExtBut I s.heap g->Q none { s with heap:=g }):wpAny (model prog w) A (pyNext (.ref I)) Q E s:=by
 have hT:=sf hI;unfold pyNext;refine zt (uC (sN (name:=Str.ofString "__next__") hT slot_it_next (vR slot_it_next hT qg ?_ (qf _))));unfold Builtin.«set_iterator.__next__»;refine zt (m:=slotArgs "__next__" 0 ⟨[.ref I],[]⟩) (zc (zt (sG hI rfl ?_)));dsimp only [rawInt];refine zt (uF ho hd hf ?_);rw [if_neg (by rw [sz];simp)];simp only [yp];refine zt (hs ?_);dsimp only;refine zt (uw hI (by show 2<5;decide) λg1 e1 s1=>?_);exact gD (s:={ s with heap:=g1 }) (h0:=s.heap) hh s1.extBut q
theorem dr_item {T:Addr}{pls:Array Value}{i n pl:Nat}{h0:Int}{x:Value}{Q:Option Value->Shared->Prop}(hI:s.heap.get? I=some (itObj (.ref T) i (.ref a) n ep))(hT0:IsTup s.heap T pls)(hp:pls[i]?=some (rawInt pl))(hx:es[pl]?=some (h0,x))(ho:s.heap.get? a=some o)(hd:o.data=.set es ep t)(hf:t.fits es.size=true)(sz:es.size=n)
   (q:∀ g,g.get? I=some (itObj (.ref T) (i+1:Nat) (.ref a) n ep)->Heap.SameBut I s.heap g->Q (some x) { s with heap:=g }):wpAny (model prog w) A (pyNext (.ref I)) Q E s:=by
 have hT:=sf hI;obtain ⟨oT,eT,_,nT,dT⟩:=hT0;unfold pyNext;refine zt (uC (sN (name:=Str.ofString "__next__") hT slot_it_next (vR slot_it_next hT qg ?_ (qf _))));unfold Builtin.«set_iterator.__next__»;refine zt (m:=slotArgs "__next__" 0 ⟨[.ref I],[]⟩) (zc (zt (sG hI rfl ?_)));dsimp only [rawInt];refine zt (uF ho hd hf ?_);rw [if_neg (by rw [sz];simp)];refine zt (wpAny_seqItems eT dT ?_);simp only [yp,hp,rawInt];unfold setNextDrawn;refine zt (zt (vq ho hd hf ?_));dsimp only;rw [if_neg (by simp),hx];refine zc (zt (uw hI (by show 1<5;decide) λg2 e2 s2=>?_));exact zc ⟨x,rfl,zc (q g2 e2 s2)⟩
theorem dr_end {T:Addr}{pls:Array Value}{i n:Nat}{Q:Option Value->Shared->Prop}(hh:A.handled=none)(hI:s.heap.get? I=some (itObj (.ref T) i (.ref a) n ep))(hT0:IsTup s.heap T pls)(hp:pls[i]?=none)(ho:s.heap.get? a=some o)(hd:o.data=.set es ep t)(hf:t.fits es.size=true)(sz:es.size=n)
   (q:∀ g,Heap.ExtBut I s.heap g->Q none { s with heap:=g }):wpAny (model prog w) A (pyNext (.ref I)) Q E s:=by
 have hT:=sf hI;obtain ⟨oT,eT,_,nT,dT⟩:=hT0;unfold pyNext;refine zt (uC (sN (name:=Str.ofString "__next__") hT slot_it_next (vR slot_it_next hT qg ?_ (qf _))));unfold Builtin.«set_iterator.__next__»;refine zt (m:=slotArgs "__next__" 0 ⟨[.ref I],[]⟩) (zc (zt (sG hI rfl ?_)));dsimp only [rawInt];refine zt (uF ho hd hf ?_);rw [if_neg (by rw [sz];simp)];refine zt (wpAny_seqItems eT dT ?_);simp only [yp,hp];refine zt (uw hI (by show 0<5;decide) λg1 e1 s1=>?_);refine zt (uw e1 (by show 2<5;decide) λg2 e2 s2=>?_);exact gD (s:={ s with heap:=g2 }) (h0:=s.heap) hh (s1.trans s2).extBut q
theorem mX {f c:Value}{i:Int}{n:Nat}(hI:s.heap.get? I=some (itObj f i c n ep))(q:Q (.ref I) s):wpAny (model prog w) A (pyIter (.ref I)) Q E s:=by have hT:=sf hI;refine wpAny_pyIter_slot hT gI (vR gI hT bS ?_ (bT _));exact zc ⟨_,rfl,"set_iterator",_,hT,slot_it_next.lookup,q⟩
theorem gB {α:Type}:∀ (n:Nat) (l:List α) (s:Shared) (Q:List α->Shared->Prop),l.length=n->(∀ l' d,l'.Perm l->Q l' { s with drawn:=d })->wpAny (model prog w) A (drawOrder n l) Q E s
 | 0,l,s,Q,h,q=>by
   have e:l=[]:=uk.mp h;subst e;unfold drawOrder;exact zc (q [] s.drawn (.refl _))
 | n+1,[],s,Q,h,q=>by cases h
 | n+1,x::l,s,Q,h,q=>by
   unfold drawOrder;refine zt (?_:wpAny (model prog w) A (choose .order (x::l).length) _ E s);intro Γ p hΓ;refine ⟨by simp,?_⟩;have hl:=xZ ((model prog w).w.draws .order (s.drawn.get .order)) (show 0<(x::l).length by simp);generalize (model prog w).w.draws .order (s.drawn.get .order)%(x::l).length=i at hl ⊢;show wpAny _ _ _ _ _ _;rw [zV hl];dsimp only;refine zt (gB n ((x::l).eraseIdx i) _ _ (by rw [List.length_eraseIdx,if_pos hl];simp at h ⊢;lia) λl' d pl=>?_);exact zc (q _ d ((pl.cons _).trans (mY _ hl)))
end
structure Wk (prog:Program)(w:World)(h0 h2:Heap)(a:Addr)(ks:List Int)(I:Addr):Prop where
 ex:∃ (fp wr:List Addr) (vs:List Value) (ks':List Int) (St:Nat->Heap->Prop),(∀ A:Around,A.handled=none->Walks prog w A I fp wr vs.length (λi v=>vs[i]?=some v) St)/\St 0 h2/\(∀ b∈fp,b<h2.objs.size)/\I∈fp/\(∀ b∈wr,h0.get? b=none)/\IntsAre vs ks'/\ks'.Perm ks/\(∀ b∈fp,b=a\/h0.get? b=none)
 old:∀ b o,h0.get? b=some o->h2.get? b=some o
section
variable {s:Shared}{a I:Addr}{o:Obj}{es:Array (Int × Value)}{t:SetTable}
theorem gA {l:List (Int × Value)}(el:ElemsOf (intKind prog w) l):IntsAre (l.map (·.2)) (l.map λe=>iv e.2):=by
 induction l with
 | nil=>exact .nil
 | cons e l ih =>
   obtain ⟨⟨k,hk,_⟩,_⟩:=el e (.head _);obtain ⟨t,e2⟩:=sJ hk;have:=ih el.tail;rw [yz,yz,e2];constructor;exact this
theorem bQ (hb:bt w=true) (hf:t.fits es.size=true) (hd:o.data=.set es ep t) (ne:a≠I):∀ A:Around,A.handled=none->Walks prog w A I [I,a] [I] ((pickOrder (w.params.setOrder a ep) es).toList.map (·.2)).length (λi v=>((pickOrder (w.params.setOrder a ep) es).toList.map (·.2))[i]?=some v) (λi h=>h.get? I=some (itObj (rawInt (0:Nat)) (i:Nat) (.ref a) es.size ep)/\h.get? a=some o):=λA hh =>
 { sub := λb hb=>zW.mpr (.inl (zA.mp hb))
   frame:=λi h h' st k=>⟨k I (by simp) _ st.1,k a (by simp) _ st.2⟩
   item:=λi s Q E hi st q=>by
     have hi':i<(pickOrder (w.params.setOrder a ep) es).size:=by simpa using hi
     refine gC (x:=((pickOrder (w.params.setOrder a ep) es)[i]).2) (nx:=0) st.1 st.2 hd hf rfl (λz=>gF hb st.2 hd hf ?_) λg e1 e2=>q _ g s.toks ?_ ⟨e1,e2.extBut _ _ ne st.2⟩ λb u hb e=>e2.extBut _ _ (λz=>hb (zA.mpr z)) e;{rw [wF hi'];exact z};{rw [yR,yS,wF hi'];rfl}
   done:=λs Q E st q=>by
     refine it_end hh st.1 st.2 hd hf rfl (λz=>gF hb st.2 hd hf ?_) λg e2=>q g s.toks λb u hb e=>e2 _ _ (λz=>hb (zA.mpr z)) e
     rw [kH (by simp)];exact z
   self:=λi s Q E st q=>mX st.1 q }
theorem bP (hb:bt w=false) (hl:t.led=true) (hp:(!t.plain&&decide (es.size > 1))=false) (hr:Ris t.place) (hf:t.fits es.size=true) (hd:o.data=.set es ep t) (ne:a≠I):∀ A:Around,A.handled=none->Walks prog w A I [I,a] [I] (es.toList.map (·.2)).length (λi v=>(es.toList.map (·.2))[i]?=some v)
   (λi h=>(∃ sl:Nat,h.get? I=some (itObj (rawInt sl) (i:Nat) (.ref a) es.size ep)/\(∀ j (q:j<t.place.size),j<i->t.place[j]<sl)/\(∀ j (q:j<t.place.size),i<=j->sl<=t.place[j]))/\h.get? a=some o):=λA hh=>by
 have sp:t.place.size=es.size:=by unfold SetTable.fits at hf;simp at hf;exact hf.1
 have at_:∀ (i sl:Nat),i<=t.place.size->(∀ j (q:j<t.place.size),j<i->t.place[j]<sl)->(∀ j (q:j<t.place.size),i<=j->sl<=t.place[j])->SetTable.below t.place sl=i:=by
   intro i sl hi c1 c2;obtain ⟨b1,b2,b3⟩:=gN hr sl;rcases Nat.lt_trichotomy (SetTable.below t.place sl) i with q | q | q
   . have hq:SetTable.below t.place sl<t.place.size:=by lia
     have z1:=c1 _ hq q;have z2:=b2 _ hq (zi _);lia
   . exact q
   . have hq:i<t.place.size:=by lia
     have z1:=b1 _ hq q;have z2:=c2 _ hq (zi _);lia
 exact
 { sub := λb hb=>zW.mpr (.inl (zA.mp hb))
   frame:=λi h h' st k=>⟨let ⟨sl,e,c⟩:=st.1;⟨sl,k I (by simp) _ e,c⟩,k a (by simp) _ st.2⟩
   item:=λi s Q E hi st q=>by
     obtain ⟨⟨sl,e0,c1,c2⟩,ea⟩:=st;have hi':i<es.size:=by simpa using hi
     have hi2:i<t.place.size:=by lia
     have bl:=at_ i sl (by lia) c1 c2;refine gC (x:=(es[i]).2) (nx:=t.place[i]+1) e0 ea hd hf rfl (λz=>gE hb hl hp ea hd hf ?_) λg e1 e2=>q _ g s.toks ?_ ⟨⟨_,e1,λj hj lt=>?_,λj hj le=>?_⟩,e2.extBut _ _ ne ea⟩ λb u hb e=>e2.extBut _ _ (λz=>hb (zA.mpr z)) e;{rw [bl,wF hi',wF hi2];exact z};{rw [yR,yS,wF hi'];rfl};{have:=hr.le hi2 (show j<=i by lia);lia};{have:=hr i j hj (by lia);lia}
   done:=λs Q E st q=>by
     obtain ⟨⟨sl,e0,c1,c2⟩,ea⟩:=st;have en:(es.toList.map (·.2)).length=es.size:=by simp
     rw [en] at e0 c1 c2;have bl:=at_ es.size sl (by lia) c1 c2;refine it_end hh e0 ea hd hf rfl (λz=>gE hb hl hp ea hd hf ?_) λg e2=>q g s.toks λb u hb e=>e2 _ _ (λz=>hb (zA.mpr z)) e
     rw [bl,kH (zi _)];exact z
   self:=λi s Q E st q=>let ⟨sl,e,_⟩:=st.1;mX e q }
theorem bO {T:Addr} {ls:List Nat} (hls:∀ j∈ls,j<es.size) (hf:t.fits es.size=true) (hd:o.data=.set es ep t) (ne:a≠I) (neT:T≠I):∀ A:Around,A.handled=none->Walks prog w A I [I,T,a] [I] (ls.map λj=>(es.getD j (0,.none)).2).length (λi v=>(ls.map λj=>(es.getD j (0,.none)).2)[i]?=some v)
   (λi h=>h.get? I=some (itObj (.ref T) (i:Nat) (.ref a) es.size ep)/\IsTup h T (ls.map λ(j:Nat)=>rawInt j).toArray/\h.get? a=some o):=λA hh =>
 { sub := λb hb=>zW.mpr (.inl (zA.mp hb))
   frame:=λi h h' st k=>⟨k I (by simp) _ st.1,let ⟨u,e,c⟩:=st.2.1;⟨u,k T (by simp) _ e,c⟩,k a (by simp) _ st.2.2⟩
   item:=λi s Q E hi st q=>by
     obtain ⟨e0,eT,ea⟩:=st;have hi':i<ls.length:=by simpa using hi
     have hj:=hls ls[i] (y9 hi');refine dr_item (pl:=ls[i]) (h0:=(es[ls[i]]).1) (x:=(es[ls[i]]).2) e0 eT ?_ ?_ ea hd hf rfl λg e1 e2=>q _ g s.toks ?_ ⟨e1,IsTup.extBut eT e2.extBut neT,e2.extBut _ _ ne ea⟩ λb u hb e=>e2.extBut _ _ (λz=>hb (zA.mpr z)) e;{simp [hi']};{rw [wF hj]};{rw [yR,zV hi'];simp [Array.getD,hj]}
   done:=λs Q E st q=>by
     obtain ⟨e0,eT,ea⟩:=st;refine dr_end hh e0 eT ?_ ea hd hf rfl λg e2=>q g s.toks λb u hb e=>e2 _ _ (λz=>hb (zA.mpr z)) e
     simp
   self:=λi s Q E st q=>mX st.1 q }
theorem f9 (el:ElemsOf (intKind prog w) es.toList):∀ {ls:List Nat},(∀ j∈ls,j<es.size)->IntsAre (ls.map λj=>(es.getD j (0,.none)).2) (ls.map λj=>iv (es.getD j (0,.none)).2)
 | [],_=>.nil
 | j::ls,h=>by
   have hj:=h j (.head _);have eg:es.getD j (0,.none)=es[j]:=by simp [Array.getD,hj]
   obtain ⟨⟨k,hk,_⟩,_⟩:=el es[j] (by simp);obtain ⟨t,e2⟩:=sJ hk;have:=f9 el (ls:=ls) λj hj=>h j (.tail _ hj)
   rw [yz,yz,eg,e2];constructor;exact this
theorem bN (es:Array (Int × Value)):((List.range es.size).map λj=>iv (es.getD j (0,.none)).2)=es.toList.map λe=>iv e.2:=by
 refine wO (by simp) λi h1 h2=>?_
 have hi:i<es.size:=by simpa using h1
 simp [Array.getD,hi]
theorem iter_set {ks:List Int} (hS:ST prog w s.heap a ks) (q:∀ I h2 d,Wk prog w s.heap h2 a ks I->Q (.ref I) { s with heap:=h2,drawn:=d }):wpAny (model prog w) A (pyIter (.ref a)) Q E s:=by
 obtain ⟨o,es,ep,t,ho,hx,hd,el,hb,hf,gd,rfl,nd⟩:=hS;have hT:s.TypeIs (.ref a) "set":=⟨_,ho,hx.1⟩
 have la:a<s.heap.objs.size:=zU ho;have fr:s.heap.get? s.heap.objs.size=none:=by
   cases e:s.heap.get? s.heap.objs.size with
   | none=>rfl
   | some u=>exact absurd (zU e) (xM _)
 refine wpAny_pyIter_slot hT ke (vR ke hT bR ?_ (PySem.F.args_set_iter_1 _));unfold Builtin.«frozenset.__iter__»;refine zt (m:=Builtin.Frozenset.slot0 "__iter__" ⟨[.ref a],[]⟩) (zc ?_);refine zt (m:=Builtin.Frozenset.sizeOf a) (zt (uF ho hd hf (zc ?_)));refine zt (m:=setDrawn a) ?_;unfold setDrawn;refine zt (vq ho hd hf (zt (qd (zc ?_))));show wpAny _ _ (if (!bt w&&(!t.plain&&decide (es.size > 1)))=true then _ else _) _ _ _;have mk:∀ (f:Value) (s1:Shared),s1.heap.get? a=some o->(∀ h2,h2=s1.heap.push (itObj f (0:Nat) (.ref a) es.size ep)->Q (.ref s1.heap.objs.size) { s1 with heap:=h2 })->wpAny (model prog w) A.in1 (do let e <- setEpoch a;let z <- newFields "set_iterator" [f,rawInt 0,Value.ref a,rawInt es.size,rawInt e];ret z) (λfin s'=>∃ v,fin=Fin.done (Flow.ret v)/\∃ T' r,s'.TypeIs v T'/\typeLookup (Value.type T') (Str.ofString "__next__")=pure (some r)/\Q v s') E s1:=by intro f s1 e1 q1;refine zt (wpAny_setEpoch_of e1 hd hf (zt (m:=newFields _ _) (uD (zc ⟨_,rfl,"set_iterator",_,⟨_,yn _ rfl,rfl⟩,slot_it_next.lookup,?_⟩))));exact q1 _ rfl
 cases hbt:bt w with
 | true =>
   rw [ua,Bool.false_and,if_neg (by decide)];refine zt (zc (mk _ s ho λh2 e2=>q _ h2 s.drawn ⟨⟨_,_,_,_,_,bQ hbt hf hd (zE la),⟨?_,?_⟩,?_,.head _,λb hb=>?_,gA (el.perm (gG _ es)),(gG _ es).map _,λb hb=>?_⟩,λb u e=>?_⟩));{rw [e2];exact yn _ rfl};{rw [e2];exact zT _ ho}
   . intro b hb;rw [e2,ZT.size_push];rcases zW.mp hb with z | z
     . rw [z];exact wQ _
     . rw [zA.mp z];exact wR la
   . rw [zA.mp hb];exact fr
   . rcases zW.mp hb with z | z
     . rw [z];exact .inr fr
     . exact .inl (zA.mp z)
   . rw [e2];exact zT _ e
 | false =>
   have ld:t.led=true:=by rw [gd.led,hbt];rfl
   rw [kE,Bool.true_and];cases hp:(!t.plain&&decide (es.size > 1)) with
   | false =>
     rw [if_neg (by decide)];have hr:Ris t.place:=by
       cases pl:t.plain with
       | true=>exact gd.ris pl
       | false =>
         rw [pl] at hp;have sp:t.place.size=es.size:=by unfold SetTable.fits at hf;simp at hf;exact hf.1
         simp at hp;intro i j hj hij;lia
     refine zt (zc (mk _ s ho λh2 e2=>q _ h2 s.drawn ⟨⟨_,_,_,_,_,bP hbt ld hp hr hf hd (zE la),⟨⟨0,?_,λj _ z=>absurd z (uc _),λj _ _=>zS _⟩,?_⟩,?_,.head _,λb hb=>?_,gA el,.refl _,λb hb=>?_⟩,λb u e=>?_⟩));{rw [e2];exact yn _ rfl};{rw [e2];exact zT _ ho}
     . intro b hb;rw [e2,ZT.size_push];rcases zW.mp hb with z | z
       . rw [z];exact wQ _
       . rw [zA.mp z];exact wR la
     . rw [zA.mp hb];exact fr
     . rcases zW.mp hb with z | z
       . rw [z];exact .inr fr
       . exact .inl (zA.mp z)
     . rw [e2];exact zT _ e
   | true =>
     rw [if_pos rfl];refine zt (gB es.size (List.range es.size) s _ yc λls d pl=>?_);have hls:∀ j∈ls,j<es.size:=λj hj=>rT.mp (pl.mem_iff.mp hj)
     refine zt (m:=newTuple _) (uD ?_ ?_)
     . have e0:(s.heap.push { cls:=.type "tuple",data:=.seq (ls.map λ(i:Nat)=>rawInt i).toArray }).get? a=some o:=zT _ ho;have sz1:(s.heap.push { cls:=.type "tuple",data:=.seq (ls.map λ(i:Nat)=>rawInt i).toArray }).objs.size=s.heap.objs.size+1:=vP ..;have l1:a≠(s.heap.push { cls:=.type "tuple",data:=.seq (ls.map λ(i:Nat)=>rawInt i).toArray }).objs.size:=by rw [sz1];exact zE (wR la)
       have l2:s.heap.objs.size≠(s.heap.push { cls:=.type "tuple",data:=.seq (ls.map λ(i:Nat)=>rawInt i).toArray }).objs.size:=by rw [sz1];exact zE (wQ _)
       refine mk _ _ e0 λh2 e2=>q _ h2 d ⟨⟨_,_,_,_,_,bO (a:=a) (T:=s.heap.objs.size) hls hf hd l1 l2,⟨?_,?_,?_⟩,?_,.head _,λb hb=>?_,f9 el hls,?_,λb hb=>?_⟩,λb u e=>?_⟩;{rw [e2];exact yn _ rfl};{rw [e2];exact ⟨_,zT _ (yn _ rfl),rfl,_,rfl⟩};{rw [e2];exact zT _ e0}
       . intro b hb;rw [e2,ZT.size_push];show b<(s.heap.push _).objs.size+1;rw [sz1];simp only [zW,wm,wq] at hb;rcases hb with z | z | z
         . rw [z];show (s.heap.push _).objs.size<_;rw [sz1];exact wQ _
         . rw [z];exact wR (wQ _)
         . rw [z];exact wR (wR la)
       . rw [zA.mp hb];show s.heap.get? (s.heap.push _).objs.size=none;rw [sz1];cases e:s.heap.get? (s.heap.objs.size+1) with
         | none=>rfl
         | some u=>exact absurd (zU e) (rL.mpr (wA _))
       . have:=pl.map λj=>iv (es.getD j (0,.none)).2
         rw [bN] at this;exact this
       . simp only [zW,wm,wq] at hb;rcases hb with z | z | z
         . rw [z];refine .inr ?_;show s.heap.get? (s.heap.push _).objs.size=none;rw [sz1];cases e:s.heap.get? (s.heap.objs.size+1) with
           | none=>rfl
           | some u=>exact absurd (zU e) (rL.mpr (wA _))
         . rw [z];exact .inr fr
         . exact .inl z
       . rw [e2];exact zT _ (zT _ e)
     . show (ls.map λ(i:Nat)=>rawInt i).toArray.size<=sizeLine;rw [yv,za,pl.length_eq,yc];exact uE hb
end
section
variable {s:Shared}{a:Addr}
theorem bM {vs:List Value}{acc:Array Value}(h:ItemsOf (λi v=>vs[i]?=some v) acc vs.length):acc.toList=vs:=by
 refine wO (by rw [zI,h.1]) λi h1 h2=>?_
 have:=h.2 i acc[i] (by rw [wF (by simpa using h1)]);have this:vs[i]?=some acc[i]:=this;rw [zV h2] at this;rw [Array.getElem_toList];exact (Option.some.inj this).symm
theorem hint_set {Q:Bool->Shared->Prop}(tS:s.TypeIs (.ref a) "set")(q:Q false s):wpAny (model prog w) A (Builtin.List.listLengthHint (.ref a)) Q E s:=by
 unfold Builtin.List.listLengthHint;refine zt (wpAny_specialOf tS PySem.F.slot_set_len.lookup ?_);generalize hid:("set.__len__":String)=nm
 wp_delta
 rw [show splitId nm=some ("set","__len__") from by subst hid;decide +kernel];subst hid;refine zt (wpAny_isInstance (T:="set") (b:=true) tS sub_set_self (om (λz=>absurd z (by decide)) λ_=>om (λ_=>?_) λz=>absurd (by decide +kernel) z));exact zt (wpAny_typeOf tS (zc q))
theorem bK {ks:List Int} {Q:List Value->Shared->Prop} (hh:A.handled=none) (hS:ST prog w s.heap a ks) (hz:ks.length<=sizeLine)
   (q:∀ h' tk d vs ks',(∀ b o,s.heap.get? b=some o->h'.get? b=some o)->s.heap.objs.size<h'.objs.size->IntsAre vs ks'->ks'.Perm ks->Q vs { s with heap:=h',drawn:=d,toks:=tk }):wpAny (model prog w) A (collect (.ref a)) Q E s:=by
 have la:a<s.heap.objs.size:=by obtain ⟨o,_,_,_,e,_⟩:=hS;exact zU e
 have tS:s.TypeIs (.ref a) "set":=by obtain ⟨o,_,_,_,e,x,_⟩:=hS;exact ⟨o,e,x.1⟩
 unfold collect;refine zt (wpAny_runValue (uo PySem.F.entry_proto_collect ?_));rw [uG PySem.F.plain_proto_collect _];refine zt (m:=newList []) (uD ?_);refine zc ⟨uB ku _,uo PySem.F.entry_list_iadd ?_⟩;rw [uG ku _];have e1:∀ b o,s.heap.get? b=some o->(s.heap.push { cls:=.type "list",data:=.seq ([]:List Value).toArray }).get? b=some o:=λb o e=>zT _ e
 have n1:(s.heap.push { cls:=.type "list",data:=.seq ([]:List Value).toArray }).get? s.heap.objs.size=some { cls:=.type "list",data:=.seq #[] }:=yn _ rfl;have S1:ST prog w (s.heap.push { cls:=.type "list",data:=.seq ([]:List Value).toArray }) a ks:=hS.but (d:=a) λo e=>e1 _ _ e
 have z1:(s.heap.push { cls:=.type "list",data:=.seq ([]:List Value).toArray }).objs.size=s.heap.objs.size+1:=vP ..;show wpAny _ A.in1 (Builtin.List.listExtendWith (.ref s.heap.objs.size) (.ref a) (.ref s.heap.objs.size)) _ _ _;generalize hG:(s.heap.push { cls:=.type "list",data:=.seq ([]:List Value).toArray })=g1 at e1 n1 S1 z1;have tS1:Shared.TypeIs { s with heap:=g1 } (.ref a) "set":=by obtain ⟨o,e,c⟩:=tS;exact ⟨o,e1 _ _ e,c⟩
 unfold Builtin.List.listExtendWith;refine zt (wpAny_typeOf tS1 ?_);have h1:Builtin.List.listSameRef (.ref s.heap.objs.size) (.ref a)=false:=by show (s.heap.objs.size==a)=false;exact uy.mpr (wB la)
 rw [if_neg (by rw [h1];decide)];refine zt (iter_set (s:={ s with heap:=g1 }) S1 λI g2 d W=>?_);have tS2:Shared.TypeIs { s with heap:=g2,drawn:=d } (.ref a) "set":=by obtain ⟨o,e,c⟩:=tS1;exact ⟨o,W.old _ _ e,c⟩
 refine zt (wI (hint_set tS2 ?_));obtain ⟨⟨fp,wr,vs,ks',St,Wf,st,lf,hI,hw,hi,pm,fn⟩,old⟩:=W;have Wa:=Wf A.in1 hh;have nS:s.heap.objs.size∉fp:=λz=>by
   rcases fn _ z with y | y
   . exact wB la y
   . rw [show (Shared.heap { s with heap:=g1 }).get? s.heap.objs.size=_ from n1] at y;cases y
 have n2:=old _ _ n1;have lv:vs.length<=sizeLine:=by rw [IntsAre.length hi,pm.length_eq];exact hz
 have fin:∀ (g:Heap) (c:Nat) (R:Result->Shared->Prop),St 0 g->(∀ b o,b≠s.heap.objs.size->g2.get? b=some o->g.get? b=some o)->g.get? s.heap.objs.size=some { cls:=.type "list",data:=.seq #[] c }->(∀ s',wpAny (model prog w) A (load s.heap.objs.size >>= λo=>match o.data with | .seq xs _=>pure xs.toList | _=>unsupported "internal:collect") Q E s'->R (.ok (.ret (.ref s.heap.objs.size))) s') ->
     codeAny (model prog w) A (Code.builtin "list.extend.loop" ⟨[.ref s.heap.objs.size,.ref I,.ref s.heap.objs.size],[]⟩) R { s with heap:=g,drawn:=d }:=by
   intro g c R st0 k0 g0 hR;refine codeAny_extend_loopS Wa.toS lv s.heap.objs.size nS (.ref s.heap.objs.size) vs.length 0 _ #[] c rfl (zS _) st0 g0 (ItemsOf.nil _) λs' acc' c' hm hS' hacc=>?_
   have eh:∀ b o,s.heap.get? b=some o->s'.heap.get? b=some o:=λb o e=>by
     refine hm.heap b o (λz=>?_) (k0 b o (zE (zU e)) (old _ _ (e1 _ _ e)));rcases zW.mp z with z | z
     . exact zE (zU e) z
     . have:=hw b z;rw [show (Shared.heap { s with heap:=g1 }).get? b=some o from e1 _ _ e] at this;cases this
   obtain ⟨h',ge,dr,tk,os⟩:=s';have e1:ge=s.gens:=hm.gens;have e2:dr=d:=hm.drawn;have e3:os=s.os:=hm.os;subst e1 e2 e3;refine hR _ (zt (wpAny_load hS' (zc ?_)));rw [bM hacc];exact q h' tk dr vs ks' eh (zU hS') hi pm
 refine om (λ_=>?_) (λ_=>zc ⟨uB lA _,fin g2 _ _ st (λb o _ e=>e) n2 λs' z=>z⟩);refine zt (wZ (zt ?_));refine zt (m:=updateSeq s.heap.objs.size (·.push .none)) (wpAny_updateSeq n2 rfl ?_);have n3:=uJ (Obj.mapSeq (·.push Value.none)) n2 rfl;refine wpAny_updateSeq (hz:=by seq_fits) n3 rfl ?_;have n4:=uJ (Obj.mapSeq (·.pop)) n3 rfl;have oth:∀ b o,b≠s.heap.objs.size->g2.get? b=some o->((g2.update s.heap.objs.size (Obj.mapSeq (·.push Value.none))).update s.heap.objs.size (Obj.mapSeq (·.pop))).get? b=some o:=λb o ne e=>(uL _ _ (Ne.symm ne)).trans ((uL _ _ (Ne.symm ne)).trans e)
 exact zc ⟨uB lA _,fin _ _ _ (Wa.frame 0 _ _ st λb hb o e=>oth b o (λz=>nS (z ▸ hb)) e) oth n4 λs' z=>z⟩
end
end SG
namespace SG
open PySem PySem.Spec PyProof.Rows Srt
section
variable {Ar:Around}{s:Shared}{a:Addr}
theorem sorted_set {ks:List Int}(hh:Ar.handled=none)(hS:ST prog w s.heap a ks)(hz:ks.length<=sizeLine)
   (q:∀ (h':Heap) (tk:Nat) (d:Drawn) (l:Addr) (out:Array Value) (ns:List Int) (e:Nat),(∀ b o,s.heap.get? b=some o->h'.get? b=some o)->s.heap.objs.size<=l->h'.get? l=some (seqObj "list" out e)->IntsAre out.toList ns->ns.Perm ks->ns.Pairwise (·<=·)->Q (.ref l) { s with heap:=h',drawn:=d,toks:=tk }) :
   wpAny (model prog w) Ar (call (.builtin "sorted") [.ref a]) Q E s:=by
 refine Calls.call_function_entry kind_sorted plain_sorted entry_sorted (args_sorted1 _) ?_;unfold Builtin.«sorted»;refine zt (m:=checkCount "sorted" 1 1 _) (zc (zt (bK (show Ar.in1.handled=none from hh) hS hz λh1 tk d vs ks' old lt hi pm=>?_)));have lv:vs.length<=sizeLine:=by rw [IntsAre.length hi,pm.length_eq];exact hz
 refine zt (wpAny_newList ?_ (by simpa using lv));have oL:(h1.push (seqObj "list" vs.toArray 0)).get? h1.objs.size=some (seqObj "list" vs.toArray 0):=yn _ rfl;have la:s.heap.objs.size<=h1.objs.size:=xK lt;show wpAny _ _ _ _ _ { s with heap:=h1.push (seqObj "list" vs.toArray 0),drawn:=d,toks:=tk };refine zt (wI (vR slot_list_sort ⟨_,oL,rfl⟩ entry_list_sort (bV oL hi lv λout ns' g1 g2 g3=>⟨_,rfl,?_⟩) (args_list_sort _)));obtain ⟨e,he⟩:=sortedHeap_at (out:=out) oL;refine zc ⟨_,rfl,q _ tk d h1.objs.size out ns' e (λb o e=>?_) la he g1 (g2.trans pm) g3⟩;have e2:=old b o e;have lb:b<h1.objs.size:=zU e2;rw [sortedHeap_old (zE lb) (by rw [size_push'];exact wR lb)];exact zT _ e2
end
end SG
namespace L2
open PySem PySem.Spec PyProof.Rows
theorem boot_set:bootBuiltins "set"=some (.type "set"):=by decide +kernel
def tSortSet (K:zh)(te:TE):TE:=λσ H Q=>te σ H λx H1=>∃ (l:Addr) (ns:List Int),x=.ref l/\SqL K H1 l (ns.map V.int)/\ns.length<=4000/\∀ (p:Addr) (ks:List Int),H1 p=none->ks.Pairwise (·<·)->(∀ y,y∈ks↔y∈ns)->Q (.ref p) (upd H1 p (.lst (ks.map V.int)))
section
variable {s:Shared}
theorem Inv.redrawn (I:Inv X pins σ H s)(d:Drawn):Inv X pins σ H { s with drawn:=d }:=by exact ⟨I.ok,I.os,I.bare,I.base,I.loc,I.cell,I.free,I.freeC,I.pin,I.hok,I.len⟩
end
section
variable {e:Expr}{p p' pos:Pos}
theorem fw (K:zh)(hc:X.calm=true)(hgl:Gl X "sorted")(hml:X.mg "sorted"=none)(hgr:Gl X "set")(hmr:X.mg "set"=none)(he:PE X e te)(hK:X.K=K:=by rfl)
   (hs1:starEach [.Call (.Name "set" p') [e] [] pos'] X.env=[(false,eval (.Call (.Name "set" p') [e] [] pos') X.env)]:=by rfl) (hs2:starEach [e] X.env=[(false,eval e X.env)]:=by rfl) :
   PE X (.Call (.Name "sorted" p) [.Call (.Name "set" p') [e] [] pos'] [] pos) (tSortSet K te):=by
 subst hK;intro pins s σ H Q I h;refine wJ (va I hgl hml bU (lC ?_ hs1 rfl));rw [hs1];show wpAny _ _ (spliced ((false,eval (.Call (.Name "set" p') [e] [] pos') X.env)::backTo pos [])) _ _ s;refine vt ?_;refine wJ (va I hgr hmr boot_set (uN ?_ hs2 rfl));rw [hs2];show wpAny _ _ (spliced ((false,eval e X.env)::backTo pos' [])) _ _ s;refine vt (thn (he pins s σ H _ I h) λu s1 hq=>?_);obtain ⟨x,H1,I1,r1,l,ns,ex,hq,hn,q⟩:=hq;subst ex;cases r1;obtain ⟨its,rv,pl,hz⟩:=I1.list hq;have hi:=cj rv;have li:its.length=ns.length:=by rw [<- rv.length,za]
 refine uu (SG.call_set (its:=its.toArray) (ns:=ns) (I.ok.hd hc) pl.isList (by simpa using hi) (by rw [yv,li];unfold scanBound;lia) λh2 tk ks st mem old=>?_);have old':∀ b o,s1.heap.get? b=some o->h2.get? b=some o:=λb o z=>old b o (zU z) z
 have I2:Inv X pins σ H1 { s1 with heap:=h2,toks:=tk }:=I1.kept old';have lk:ks.length<=sizeLine:=by obtain ⟨o,es,ep,t,_,_,_,_,hb,_,_,rfl,_⟩:=st;rw [za,zI];exact uE hb
 have nd:ks.Nodup:=by obtain ⟨_,_,_,_,_,_,_,_,_,_,_,_,z⟩:=st;exact z
 refine uu (SG.sorted_set (s:={ s1 with heap:=h2,toks:=tk }) (I.ok.hd hc) st lk λh3 tk3 d l3 out ns3 e3 old3 le3 at3 hi3 pm3 so3=>?_);have lo:(ns3.map V.int).length<=sizeLine:=by rw [za,pm3.length_eq];exact lk
 have I3:Inv X pins σ (upd H1 l3 (.lst (ns3.map V.int))) { s1 with heap:=h3,toks:=tk3 }:=I2.laid (t':=tk3) (o:=.lst (ns3.map V.int)) old3 le3 ⟨lo,out.toList,e3,nK hi3,by rw [Array.toArray_toList];exact at3⟩;refine ⟨.ref l3,_,I3.redrawn d,rfl,q l3 ns3 (I2.hok.fresh le3) ?_ λy=>(pm3.mem_iff).trans (mem y)⟩;have nd3:ns3.Nodup:=pm3.nodup_iff.mpr nd;exact List.Pairwise.imp₂ (λa b h1 h2=>by lia) so3 nd3
end
def cxLam (P:Program)(w:World)(K:zh)(mg:Str->Option Value)(base:Heap)(N:List Str)(qual:Str)(scope:Scope)(f:Addr)(cd:Value)(cl:List (Str × Addr))(A:Around)(outer:List Env)(s:Shared)(H:Hp):Cx where
 prog:=P
 w:=w
 K:=K
 mg:=mg
 base:=base
 A:=A.deeper (PySem.W.envX qual scope s.heap.objs.size f cd cl)
 N:=N
 s₀:=s
 H₀:=H
 env:=PySem.W.envX qual scope s.heap.objs.size f cd cl
 outer:=outer
 stack:=PySem.W.envX qual scope s.heap.objs.size f cd cl::outer
 ex:=[]
 calm:=true
 fn:=λ_=>false
 pn:=[]
 xe:=λ_ _=>False
structure LamScope (p:Str)(caps:List Str)(sc:Scope):Prop where
 kind:sc.kind=.function
 co:sc.isCoroutine=false
 gen:sc.isGenerator=false
 nd:(p::caps).Nodup
 par:sc.names.lookup p=some .local
 cap:∀ x∈caps,sc.names.lookup x=some .free
 has:∀ x,sc.names.lookup x=some .free->x∈caps
 nocell:∀ x∈sc.names,x.2≠.cell
theorem LamScope.nolook {p:Str}{caps:List Str}{sc:Scope}(S:LamScope p caps sc)(x:Str):sc.names.lookup x≠some .cell:=λh=>S.nocell _ (vv h) rfl
structure LamCells (h:Heap)(caps:List Str)(cl:List (Str × Addr))(cvs:List V):Prop where
 at_:∀ (i:Nat) (x:Str),caps[i]?=some x->∃ (c:Addr) (u:Value) (v:V),cl.lookup x=some c/\h.IsCell c (some u)/\cvs[i]?=some v/\RelV v u
 inj:∀ x y c,cl.lookup x=some c->cl.lookup y=some c->x=y
 all:∀ x c,cl.lookup x=some c->∃ v,h.IsCell c v
 len:cvs.length=caps.length
abbrev Fz (o:Obj):HO:=.frz o (.own 0)
def CodeO (oc:Obj)(qual:Str):Prop:=∃ (vs:Array Value) (t:Tok),oc.data=.fields vs/\vs[1]?=some (.str qual t)
section
variable {k:Nat}{f c':Addr}{oc:Obj}{name p:Str}{caps:List Str}{params:Arguments}{body:Expr}{cl:List (Str × Addr)}{pm ctv:Value}{cvs:List V}{tb:TE}
theorem fn_lam (hcd:CodeO oc qual) (S:LamScope p caps scope) (C:LamCells base caps cl cvs)
   (hbody:∀ (A:Around) (outer:List Env) (s:Shared) (H:Hp),Room k (A.deeper (PySem.W.envX qual scope s.heap.objs.size f (.ref c') cl))->PE (cxLam P w K mg base (p::caps) qual scope f (.ref c') cl A outer s H) body tb) :
   FnOk P w K mg base CX0 (k+1) f (PySem.W.kla_fn name qual params body scope cl pm (.ref c') ctv) [p] (λvs H Q _=>∃ x,vs=[x]/\H f=some (Fz (PySem.W.kla_obj name qual params body scope cl pm c' ctv))/\H c'=some (Fz oc)/\tb (some x::cvs.map some) H Q):=by
 refine ⟨λvs H Q E h=>by obtain ⟨x,rfl,_⟩:=h;rfl,λA outer s H args us vs Q E hr e0 hb r hsp=>?_⟩;obtain ⟨x,rfl,hf,hc,ht⟩:=hsp;obtain ⟨u,rfl,ru⟩:=r.one;have lim:s.heap.NoLimit:=e0.mod.nolimit.keeps λb o e=>(e0.bs b o e).1
 have hfo:s.heap.get? f=some (PySem.W.kla_obj name qual params body scope cl pm c' ctv):=(e0.hok f _ hf).1;have hcr:s.heap.CodeRec (.ref c') qual:=by obtain ⟨vs,t,e1,e2⟩:=hcd;exact ⟨c',oc,vs,t,rfl,(e0.hok c' _ hc).1,e1,e2⟩
 refine PySem.W.kla_callFunE hr.depth hfo rfl S.co S.gen rfl hcr (hb _ _ _ _ ?_);refine wpAny_newFunctionEnv S.nocell (λy hy=>?_) (λh1 hns hsb=>⟨lim.fresh _ hsb,?_⟩) S.kind
 . have:y=(p,u):=by simpa using hy
   rw [this];exact S.par
 have hk:∀ b o,s.heap.get? b=some o->h1.get? b=some o:=λb o e=>hsb.extBut b o (zE (zU e)) (zT _ e)
 have kc:∀ {c:Addr} {v:Option Value},base.IsCell c v->h1.IsCell c v/\H c=none:=λ{c v} z=>by
   obtain ⟨o,e,d⟩:=z;exact ⟨⟨o,hk _ _ (e0.bs _ _ e).1,d⟩,(e0.bs _ _ e).2⟩
 have I:Inv (cxLam P w K mg base (p::caps) qual scope f (.ref c') cl A outer s H) [] (some x::cvs.map some) H { s with heap:=h1,toks:=s.toks+1 }:=by
   refine ⟨⟨e0.mod,S.kind,rfl,rfl,zi _,C.inj,λy hy=>?_,(λy c h=>nomatch h),λ_=>hr.hd,Around.frames_deeper e0.frames,.inr ⟨rfl,rfl⟩,λb z=>absurd (show b∈([]:List Addr) from z) (by simp),e0.bs,e0.bsz,λb _ _ z=>absurd (show b∈([]:List Addr) from z) (by simp),λb z=>absurd (show b∈([]:List Addr) from z) (by simp),e0.funs,e0.frf⟩,
     rfl,e0.bare,Un.kept hk,⟨_,hns,λi y v h1 h2 h3=>?_⟩,λy c h=>?_,e0.hok.fresh (zi _),λy c h=>?_,λq hq=>absurd (show q∈([]:List (Addr × Obj)) from hq) (by simp),e0.hok.kept hk,?_⟩
   . have hy:scope.names.lookup y=some .cell\/scope.names.lookup y=some .free:=hy;rcases hy with hy | hy
     . exact absurd hy (S.nolook y)
     . obtain ⟨i,hi,e⟩:=xq.mp (S.has y hy);obtain ⟨c,_,_,h,_⟩:=C.at_ i y (by rw [zV hi,e]);exact ⟨c,h⟩
   . cases i with
     | zero =>
       cases (show p=y from Option.some.inj h1);cases (show x=v from Option.some.inj (Option.some.inj h2));exact ⟨u,ru,.inl ⟨S.par,by simp⟩⟩
     | succ i =>
       have h1:caps[i]?=some y:=h1;obtain ⟨c,u2,v2,e1,e2,e3,e4⟩:=C.at_ i y h1;have h2:(cvs.map some)[i]?=some (some v):=h2;rw [yR,e3] at h2;cases (show v2=v from Option.some.inj (Option.some.inj h2));exact ⟨u2,e4,.inr ⟨.inr (S.cap y (y4 h1)),c,e1,(kc e2).1⟩⟩
   . obtain ⟨v,e⟩:=C.all y c h;exact ⟨v,(kc e).1⟩
   . obtain ⟨v,e⟩:=C.all y c h;exact (kc e).2
   . show (some x::cvs.map some).length=(p::caps).length;rw [zZ,zZ,za,C.len]
 refine PySem.W.kla_codeExpr (yY (hbody A outer s H (hr.deeper _) [] _ _ H Q I ht) (λv s' hs=>?_) λe s' hs=>hs.elim);obtain ⟨v,H',J,rv,q⟩:=hs;exact ⟨v,H',J.os,J.bare,J.base,J.hok,rv,q⟩
end
def LamAt (P:Program)(w:World)(K:zh)(mg:Str->Option Value)(base:Heap)(k:Nat)(f:Addr)(ps:List Str)(sp:Sp):Prop :=
 ∃ fd:FuncData,FnOk P w K mg base CX0 k f fd ps sp/\Binds K fd ps []
def tCallV (P:Program)(w:World)(K:zh)(mg:Str->Option Value)(base:Heap)(k:Nat)(i:Nat)(t:TA):TE:=λσ H Q=>∃ (f:Addr) (o:Obj) (fd:FuncData) (ps:List Str) (sp:Sp),
 σ[i]?=some (some (.ref f))/\H f=some (Fz o)/\o.data=.func fd/\LamAt P w K mg base k f ps sp/\t σ H λvs H1=>H1 f=some (Fz o)/\sp vs H1 Q E0
section
variable {x:Str}{k:Nat}{e:Expr}{t:TA}{p pos:Pos}
theorem pe_callV (i:Nat)(hr:Room k X.A)(ha:PA X (e::es) t)(hN:X.N[i]?=some x:=by rfl)(hv:Vis X.env.scope x:=by first | exact Or.inl rfl | exact Or.inr (Or.inl rfl) | exact Or.inr (Or.inr rfl))(hd:(x==("__debug__":Str))=false:=by decide)(hcd:(x==("__classdict__":Str))=false:=by decide)
   (he:starEach (e::es) X.env=(false,eval e X.env)::starEach es X.env:=by rfl) (hpl:(backTo pos (starEach es X.env)).any (·.1)=false:=by rfl):PE X (.Call (.Name x p) (e::es) [] pos) (tCallV X.prog X.w X.K X.mg X.base k i t):=by
 intro pins s σ H Q I h;obtain ⟨f,o,fd,ps,sp,hs,hf,ho,⟨fd2,F,B⟩,h⟩:=h;have pn:PE X (.Name x p) (tVar i):=pv i hN hv hd hcd;refine wJ (thn (pn pins s σ H (λv H1=>v=.ref f/\H1=H) I ?_) λu s1 ⟨v,H1,I1,r1,e1,e2⟩=>?_);{show onV σ[i]? _;rw [hs];exact ⟨rfl,rfl⟩}
 subst e1 e2;cases r1;have fa:∀ {s2:Shared} {H2:Hp},Inv X pins σ H2 s2->H2 f=some (Fz o)->PySem.W.FnAt f s2.heap:=λ{s2 H2} J z=>by
   obtain ⟨oc,od,dat,sl⟩:=o;have ho:dat=.func fd:=ho;subst ho;exact ⟨oc,od,fd,sl,(J.hok f _ z).1⟩
 refine PySem.W.callWith_F (fa I1 hf) (thn (ha pos pins s1 σ H1 _ I1 h) λus s2 ⟨vs,H2,I2,r,hf2,q⟩=>⟨fa I2 hf2,?_⟩) he hpl;have q':sp (vs++[]) H2 Q E0:=by rw [zH];exact q
 exact rE F hr B .nil pass0 I2 r q'
end
section
variable {s:Shared}
theorem Inv.grown {Pt c f:Addr} {ts more:Array Value} {oc fo:Obj} (I:Inv X pins σ H s) (hP:H Pt=some (.tbl ts)) (k:∀ b u,b≠Pt->s.heap.get? b=some u->h'.get? b=some u) (hP':h'.get? Pt=some { cls:=.none,data:=.fields (ts++more) })
   (hc:(s.heap.objs.size<=c\/H c=some (Fz oc))/\h'.get? c=some oc) (hf:s.heap.objs.size<=f) (hf':h'.get? f=some fo) (nc:c≠f) (ncP:c≠Pt):Inv X pins σ (upd (upd (upd H Pt (.tbl (ts++more))) c (Fz oc)) f (Fz fo)) { s with heap:=h',toks:=t' }:=by
 have lP:Pt<s.heap.objs.size:=zU (show s.heap.get? Pt=some _ from I.hok Pt _ hP);have nfP:f≠Pt:=wB (yl lP hf);have neF:∀ b u,s.heap.get? b=some u->b≠f:=λb u e z=>absurd (yl (zU e) (by rw [z];exact hf)) (xM _)
 have nF:H f=none:=I.hok.fresh hf;have same:∀ b o,H b=some o->b≠Pt->b≠c->upd (upd (upd H Pt (.tbl (ts++more))) c (Fz oc)) f (Fz fo) b=some o:=λb o e n1 n2=>by
   rw [zo (zC e nF),zo n2,zo n1];exact e
 have keepAll:∀ b o,H b=some o->(∀ ps,o≠.tbl ps)->upd (upd (upd H Pt (.tbl (ts++more))) c (Fz oc)) f (Fz fo) b=some o:=λb o e n=>by
   have n1:b≠Pt:=λz=>by rw [z,hP] at e;cases e;exact n _ rfl
   by_cases n2:b=c
   . rcases hc.1 with z | z
     . have:=I.hok.fresh z;rw [<- n2,e] at this;cases this
     . rw [<- n2,e] at z;cases z;rw [zo (zC e nF),n2,zm]
   . exact same b o e n1 n2
 refine I.step (g':=s.gens) (d':=s.drawn) (ch:=[]) (λ_ z=>nomatch z) (λb u _ _ _ e n=>k b u (λz=>by rw [z,hP] at n;cases n) e) (λb u _ _ _ e n=>⟨u.slots,k b u (λz=>by rw [z,hP] at n;cases n) e⟩) (λb u _ e n=>?_) (λb u _ e=>?_) (λb xs e=>keepAll b _ e λps z=>by cases z) (λb u v e=>keepAll b _ e λps z=>by cases z) (λb ps e=>?_) (λm hm=>?_) (λb u e=>?_) I.bare
 . rw [zo (neF b u e),zo,zo]
   . exact n
   . exact λz=>by rw [z,hP] at n;cases n
   . intro z;rcases hc.1 with y | y
     . rw [z] at e;exact absurd (yl (zU e) y) (xM _)
     . rw [z,y] at n;cases n
 . by_cases z:b=Pt
   . rw [z];exact ⟨_,hP'⟩
   . exact ⟨u,k b u z e⟩
 . by_cases z:b=Pt
   . rw [z,hP] at e;cases e;exact ⟨more,by rw [z,zo (Ne.symm nfP),zo (Ne.symm ncP),zm]⟩
   . refine ⟨#[],?_⟩;have n2:b≠c:=λy=>by
       rcases hc.1 with q | q
       . have:=I.hok.fresh q;rw [<- y,e] at this;cases this
       . rw [<- y,e] at q;cases q
     rw [same b _ e z n2];simp
 . obtain ⟨u,es,ep,ho,r⟩:=hm;exact ⟨u,es,ep,k _ u (λz=>by have:=I.free;rw [z,hP] at this;cases this) ho,r⟩
 . by_cases q1:b=f
   . rw [q1,zm] at e;cases e;rw [q1];exact ⟨hf',⟨fo,hf'⟩⟩
   . rw [zo q1] at e
     by_cases q2:b=c;{rw [q2,zm] at e;cases e;rw [q2];exact ⟨hc.2,⟨oc,hc.2⟩⟩}
     . rw [zo q2] at e;by_cases q3:b=Pt
       . rw [q3,zm] at e;cases e;rw [q3];exact hP'
       . rw [zo q3] at e;refine (I.hok b u e).stay (λc' v hc' q=>k c' v ?_ q) (λc' q=>keepAll c' _ q λps z=>by cases z) λc' xs q=>keepAll c' _ q λps z=>by cases z
         rcases hc' with z | z
         . rw [z];exact q3
         . intro y;rw [y,hP] at z;cases z
end
def Tb (H:Hp)(Pt:Addr)(qual:Str)(lp:Pos):Prop:=H Pt=some (.tbl #[])\/∃ (c:Addr) (oc:Obj),H Pt=some (.tbl #[rawInt lp.line,rawInt lp.col,.ref c])/\H c=some (Fz oc)/\CodeO oc qual/\c≠Pt
theorem Tb.same {Pt:Addr}{lp:Pos}(h:Tb H Pt qual lp)(s:Same H H'):Tb H' Pt qual lp:=by
 rcases h with h | ⟨c,oc,h1,h2,h3⟩
 . exact .inl (s _ _ h)
 . exact .inr ⟨c,oc,s _ _ h1,s _ _ h2,h3⟩
def SameT (Pt:Addr)(H H':Hp):Prop:=∀ b o,b≠Pt->H b=some o->H' b=some o
structure LamIn (X:Cx)(pn:Str)(caps:List Str)(ixs:List Nat)(scope:Scope)(clos:List (Str × Addr))(c Pt:Addr):Prop where
 sc:LamScope pn caps scope
 code:X.env.code=.ref c
 hd:PySem.W.CodeHd X.base c Pt
 cl:closureFor scope X.env=pure clos
 sub:∀ y a,clos.lookup y=some a->X.env.cells.lookup y=some a
 ix:∀ (i:Nat) (y:Str),caps[i]?=some y->∃ (j:Nat) (a:Addr),ixs[i]?=some j/\X.N[j]?=some y/\X.env.scope.names.lookup y=some .cell/\clos.lookup y=some a
 len:ixs.length=caps.length
 fn:∀ x,X.fn x=true
 blt:X.base.BuiltinsAt X.mg Pt
 ng:mainGlobals≠Pt
def valAt (σ:St)(j:Nat):V:=((σ[j]?).getD none).getD .non
structure Ready (P:Program)(w:World)(K:zh)(mg:Str->Option Value)(base:Heap)(k:Nat)(pn:Str)(tb:TE)(cvs:List V)(H0 H:Hp)(f:Addr):Prop where
 ex:∃ (o:Obj) (fd:FuncData) (c:Addr) (oc:Obj),H f=some (Fz o)/\o.data=.func fd/\H c=some (Fz oc)/\H0 f=none /\
   LamAt P w K mg base k f [pn] (λvs H Q _=>∃ x,vs=[x]/\H f=some (Fz o)/\H c=some (Fz oc)/\tb (some x::cvs.map some) H Q)
def tCallLam (P:Program)(w:World)(K:zh)(mg:Str->Option Value)(k:Nat)(pn:Str)(ixs:List Nat)(Pt:Addr)(qual:Str)(lp:Pos)(spg:Heap->Sp)(te tb:TE):TE:=λσ H Q=>te σ H λv H1 =>
 (∀ j∈ixs,∃ u,σ[j]?=some (some u))/\Tb H1 Pt qual lp/\∀ base' f H2,SameT Pt H1 H2->Tb H2 Pt qual lp->Ready P w K mg base' k pn tb (ixs.map (valAt σ)) H1 H2 f->spg base' [v,.ref f] H2 Q E0
section
variable {s:Shared}
open Classical in
noncomputable def withCells (h base:Heap) (clos:List (Str × Addr)):Heap:=hidT h (λb=>if (∃ o,base.get? b=some o)\/∃ y,clos.lookup y=some b then none else some (.tbl #[]))
theorem mW {h:Heap}{b:Addr}{o:Obj}(e:h.get? b=some o)(a:(∃ o,base.get? b=some o)\/∃ y,clos.lookup y=some b):(withCells h base clos).get? b=some o :=
 kB e (by rw [if_pos a])
theorem fu {h:Heap}{b:Addr}{o:Obj}(e:(withCells h base clos).get? b=some o):h.get? b=some o/\((∃ o,base.get? b=some o)\/∃ y,clos.lookup y=some b):=by obtain ⟨e1,e2⟩:=kA e;refine ⟨e1,Classical.byContradiction λn=>?_⟩;rw [if_neg n] at e2;cases e2
theorem Inv.env1 {pn:Str} {caps:List Str} {ixs:List Nat} {c Pt:Addr} (L:LamIn X pn caps ixs scope clos c Pt) (I:Inv X pins σ H s):Env0 X.prog X.w X.K X.mg (withCells s.heap X.base clos) X.A X.stack s H:=by
 have e0:=I.env0;have up:∀ b o,X.base.get? b=some o->(withCells s.heap X.base clos).get? b=some o:=λb o e=>mW (e0.bs b o e).1 (.inl ⟨o,e⟩)
 refine ⟨e0.frames,?_,λb o e=>?_,tU (kD _ _),?_,e0.frf,e0.hok,e0.bare⟩;{obtain ⟨m1,m2,⟨mb,m3,m4⟩,m5⟩:=e0.mod;exact ⟨m1.keeps up,m2.keeps up,⟨mb,m3.keeps up,m4⟩,m5.keeps up⟩}
 . obtain ⟨e1,e2⟩:=fu e;rcases e2 with ⟨o',e2⟩ | ⟨y,e2⟩
   . obtain ⟨a1,a2⟩:=e0.bs b o' e2;exact ⟨e1,a2⟩
   . exact ⟨e1,I.freeC y b (L.sub y b e2)⟩
 . have cab:∀ y b,clos.lookup y=some b->X.s₀.heap.objs.size<=b:=λy b e=>I.ok.cab y b (L.fn y) (L.sub y b e)
   have key:∀ l:List Env,(∀ e∈l,∀ Lf,e.frame=some Lf->(X.base.get? Lf=none->(withCells s.heap X.base clos).get? Lf=none))->s.heap.FunFrames X.base l->s.heap.FunFrames (withCells s.heap X.base clos) l:=by
     intro l;induction l with
     | nil=>exact λ_ _=>trivial
     | cons env rest ih =>
       intro h1 h2;obtain ⟨a1,⟨Lf,o,a2,a3,a4,a5⟩,a6⟩:=h2;exact ⟨a1,⟨Lf,o,a2,h1 env (.head _) Lf a2 a3,a4,a5⟩,ih (λe he=>h1 e (.tail _ he)) a6⟩
   refine key X.stack (λe he Lf hL hb=>?_) e0.funs;cases q:(withCells s.heap X.base clos).get? Lf with
   | none=>rfl
   | some o =>
     exfalso
     obtain ⟨q1,q2⟩:=fu q;rcases q2 with ⟨o',q2⟩ | ⟨y,q2⟩
     . rw [q2] at hb;cases hb
     . obtain ⟨v,oc,z1,z2⟩:=I.cell y Lf (L.sub y Lf q2)
       have out:e∈X.outer->False:=λho=>by
         have lt:∀ l:List Env,e∈l->X.s₀.heap.FunFrames X.base l->Lf<X.s₀.heap.objs.size:=by
           intro l;induction l with
           | nil=>intro z;cases z
           | cons env rest ih =>
             intro z h2;obtain ⟨_,⟨L2,o2,a2,_,a4,_⟩,a6⟩:=h2;rcases zW.mp z with z | z
             . rw [<- z,hL] at a2;cases a2;exact zU a4
             . exact ih z a6
         exact absurd (lt X.outer ho I.ok.funs) (rL.mpr (cab y Lf q2))
       rcases I.ok.stk with z | ⟨z,zf⟩
       . exact out (by rw [<- z];exact he)
       . rw [z] at he;rcases zW.mp he with he | he
         . rw [he,zf] at hL;cases hL;obtain ⟨m,⟨u,es,epn,hu,du,_⟩,_⟩:=I.loc;rw [hu] at z1;cases z1;rw [du] at z2;cases z2
         . exact out he
end
section
variable {pn g a1 a2:Str}{caps:List Str}{ixs:List Nat}{params:Arguments}{c Pt:Addr}{body e1:Expr}{lp p pos:Pos}{tb:TE}{k kg:Nat}{spg:Heap->Sp}
theorem cells_of {s:Shared}(L:LamIn X pn caps ixs scope clos c Pt)(I:Inv X pins σ H s)(hv:∀ j∈ixs,∃ u,σ[j]?=some (some u)):LamCells (withCells s.heap X.base clos) caps clos (ixs.map (valAt σ)):=by
 refine ⟨λi y hy=>?_,λx y b h1 h2=>I.ok.inj x y b (L.sub _ _ h1) (L.sub _ _ h2),λy b h=>?_,by rw [za];exact L.len⟩
 . obtain ⟨j,a,h1,h2,h3,h4⟩:=L.ix i y hy;obtain ⟨v,hv⟩:=hv j (y4 h1);obtain ⟨m,hn,hl⟩:=I.loc;obtain ⟨u,ru,hlk⟩:=hl j y v h2 hv (.inr (.inl h3));rcases hlk with ⟨q,_⟩ | ⟨_,b,hb,hc⟩
   . rw [show X.env.kindOf y=_ from h3] at q;cases q
   . have:b=a:=Option.some.inj (hb.symm.trans (L.sub y a h4));subst this;obtain ⟨o,ho,hd⟩:=hc;refine ⟨b,u,v,h4,⟨o,mW ho (.inr ⟨y,h4⟩),hd⟩,?_,ru⟩;rw [yR,h1];show some (valAt σ j)=some v;unfold valAt;rw [hv];rfl
 . obtain ⟨v,o,ho,hd⟩:=I.cell y b (L.sub _ _ h);exact ⟨v,o,mW ho (.inr ⟨y,h⟩),hd⟩
end
section
variable {pn g:Str}{caps:List Str}{ixs:List Nat}{params:Arguments}{c Pt:Addr}{body e1:Expr}{lp p pos:Pos}{tb:TE}{k kg:Nat}{spg:Heap->Sp}
theorem make_lam {s:Shared}(L:LamIn X pn caps ixs scope clos c Pt)(hdef:defaultsOf params X.env=([],[]))(I:Inv X pins σ H s)(ht:Tb H Pt (X.env.qual++"<lambda>") lp)
   (q:∀ f c' oc pm ctv h' tk H2,H2 f=some (Fz (PySem.W.kla_obj "<lambda>" (X.env.qual++"<lambda>") params body scope clos pm c' ctv))->H2 c'=some (Fz oc)->CodeO oc (X.env.qual++"<lambda>")->H f=none->SameT Pt H H2->Tb H2 Pt (X.env.qual++"<lambda>") lp->Inv X pins σ H2 { s with heap:=h',toks:=tk }->Q (.ref f) { s with heap:=h',toks:=tk }) :
   wpAny (model X.prog X.w) X.A (eval (.Lambda params body scope lp) X.env) Q X.xe s:=by
 have hg:s.heap.Ns mainGlobals X.mg:=I.mod.glob.keeps I.bk;have C:PySem.W.CodeHd s.heap c Pt:=L.hd.keeps I.bk;have hB:s.heap.BuiltinsAt X.mg Pt:=by obtain ⟨bm,o,b1,b2,b3,b4,b5,r⟩:=L.blt;exact ⟨bm,o,b1,b2,b3,b4,I.bk _ _ b5,r⟩
 refine PySem.W.kla_eval hdef ?_;have lt:∀ {ts:Array Value},H Pt=some (.tbl ts)->Pt<s.heap.objs.size:=λh=>zU (show s.heap.get? Pt=some _ from I.hok Pt _ h)
 rcases ht with h0 | ⟨c0,oc,h0,hc0,hco,ncP⟩
 . refine PySem.W.kla_makeFunction L.cl I.ok.glob hg L.code C (I.hok Pt _ h0) trivial rfl L.ng hB λc' ctv h' tk hx hge hlt hrec htb=>?_
   obtain ⟨c2,oc,vs,t,e1,e2,e3,e4⟩:=hrec;cases e1;have ncP:c'≠Pt:=wB (yl (lt h0) hge);have lf:s.heap.objs.size<=h'.objs.size:=xK (wV hge hlt);have nf:h'.objs.size≠Pt:=wB (yl (lt h0) lf);have J:=I.grown (t':=tk) (more:=#[rawInt lp.line,rawInt lp.col,.ref c']) (h':=h'.push (PySem.W.kla_obj "<lambda>" (X.env.qual++"<lambda>") params body scope clos ((X.mg "__name__").getD .none) c' ctv)) h0 (λb u ne e=>zT _ (hx b u ne e)) (zT _ htb) ⟨.inl hge,zT _ e2⟩ lf (yn _ rfl) (zE hlt) ncP;have hfn:H h'.objs.size=none:=I.hok.fresh lf;have hcn:H c'=none:=I.hok.fresh hge;refine q h'.objs.size c' oc _ ctv _ tk _ zm (by rw [zo (zE hlt),zm]) ⟨vs,t,e3,e4⟩ hfn (λb o n e=>?_) (.inr ⟨c',oc,?_,?_,⟨vs,t,e3,e4⟩,ncP⟩) J;{rw [zo (zC e hfn),zo (zC e hcn),zo n];exact e};{rw [zo (Ne.symm nf),zo (Ne.symm ncP),zm];rfl};{rw [zo (zE hlt),zm]}
 . refine PySem.W.kla_makeFunctionHit (cv:=.ref c0) L.cl I.ok.glob hg L.code C (I.hok Pt _ h0) trivial ?_ hB λctv h' tk hk hsz=>?_
   . show (if ((lp.line:Int)==(lp.line:Int)&&(lp.col:Int)==(lp.col:Int))=true then some (Value.ref c0) else _)=_;rw [if_pos (by simp)]
   have nf:h'.objs.size≠Pt:=wB (yl (lt h0) hsz);have lc:c0<s.heap.objs.size:=zU (I.hok c0 _ hc0).1;have ncf:c0≠h'.objs.size:=zE (yl lc hsz);have J:=I.grown (t':=tk) (more:=#[]) (h':=h'.push (PySem.W.kla_obj "<lambda>" (X.env.qual++"<lambda>") params body scope clos ((X.mg "__name__").getD .none) c0 ctv)) h0 (λb u _ e=>zT _ (hk b u e)) (by rw [Array.append_empty];exact zT _ (hk _ _ (I.hok Pt _ h0))) ⟨.inr hc0,zT _ (hk _ _ (I.hok c0 _ hc0).1)⟩ hsz (yn _ rfl) ncf ncP;have hfn:H h'.objs.size=none:=I.hok.fresh hsz;refine q h'.objs.size c0 oc _ ctv _ tk _ zm (by rw [zo ncf,zm]) hco hfn (λb o n e=>?_) (.inr ⟨c0,oc,?_,?_,hco,ncP⟩) J
   . rw [zo (zC e hfn)];by_cases z:b=c0
     . rw [z,zm];rw [z,hc0] at e;exact e
     . rw [zo z,zo n];exact e
   . rw [zo (Ne.symm nf),zo (Ne.symm ncP),zm,Array.append_empty]
   . rw [zo ncf,zm]
theorem fq (L:LamIn X pn caps ixs scope clos c Pt)(hdef:defaultsOf params X.env=([],[]))(hbnd:∀ (pm:Value) (c':Addr) (ctv u:Value),bindArgs (PySem.W.kla_fn "<lambda>" (X.env.qual++"<lambda>") params body scope clos pm (.ref c') ctv) ⟨[u],[]⟩=pure [(pn,u)])
   (hbody:∀ (base':Heap) (f c':Addr) (A:Around) (outer:List Env) (s:Shared) (H:Hp),Room k (A.deeper (PySem.W.envX (X.env.qual++"<lambda>") scope s.heap.objs.size f (.ref c') clos))->PE (cxLam X.prog X.w X.K X.mg base' (pn::caps) (X.env.qual++"<lambda>") scope f (.ref c') clos A outer s H) body tb)
   (Fg:∀ base',FnAt X.prog X.w X.K X.mg base' g ps kg (spg base')) (hr:Room kg X.A) (hg:Gl X g) (he1:PE X e1 te)
   (hs:starEach [e1,.Lambda params body scope lp] X.env=[(false,eval e1 X.env),(false,eval (.Lambda params body scope lp) X.env)]:=by rfl) (hs2:starEach [.Lambda params body scope lp] X.env=[(false,eval (.Lambda params body scope lp) X.env)]:=by rfl) (hdb:(g==("__debug__":Str))=false:=by decide) :
   PE X (.Call (.Name g p) [e1,.Lambda params body scope lp] [] pos) (tCallLam X.prog X.w X.K X.mg (k+1) pn ixs Pt (X.env.qual++"<lambda>") lp spg te tb):=by
 intro pins s σ H Q I h;obtain ⟨ff,fdf,_,mf,kp,_⟩:=Fg X.base;refine wJ (vb I hg mf ?_ hdb);refine ux (h₀:=X.base) I.ok.mod.kin kp ?_ (by rw [hs,hs2]) (by rw [hs2];rfl);rw [hs];show wpAny _ _ (spliced ((false,eval e1 X.env)::backTo pos [(false,eval (.Lambda params body scope lp) X.env)])) _ _ s;refine vt (thn (he1 pins s σ H _ I h) λu s1 hq=>?_);obtain ⟨v,H1,I1,r1,hv,htb,q⟩:=hq;show wpAny _ _ (spliced ((false,eval (.Lambda params body scope lp) X.env)::backTo pos [])) _ _ s1;refine vt (make_lam L hdef I1 htb λf c' oc pm ctv h' tk H2 e1 e2 e3 e4 e5 e6 J=>uu ⟨J.kIn,?_⟩);obtain ⟨f2,fd2,G,m2,_,b2⟩:=Fg (withCells h' X.base clos);have ef:f2=ff:=by have:=m2.symm.trans mf;cases this;rfl
 subst ef;have C:=cells_of L J hv;have FL:=fn_lam (P:=X.prog) (w:=X.w) (K:=X.K) (mg:=X.mg) (base:=withCells h' X.base clos) (k:=k) (f:=f) (c':=c') (oc:=oc) (name:="<lambda>") (params:=params) (body:=body) (pm:=pm) (ctv:=ctv) (tb:=tb) e3 L.sc C (hbody _ f c');have R:Ready X.prog X.w X.K X.mg (withCells h' X.base clos) (k+1) pn tb (ixs.map (valAt σ)) H1 H2 f:=⟨_,_,c',oc,e1,rfl,e2,e4,_,FL,Binds.all λus hl=>by
   obtain ⟨u,rfl⟩:=List.length_eq_one_iff.mp hl;exact hbnd pm c' ctv u⟩
 have hq:=q _ f H2 e5 e6 R;have e0:=J.env1 L;have hl:[u,Value.ref f].length=ps.length:=by have:=G.len _ _ _ _ hq;rw [<- this];rfl
 refine uA (wH (G.run X.A X.stack _ H2 ⟨[u,.ref f],[]⟩ [u,.ref f] [v,.ref f] Q E0 hr e0 ?_ (.cons r1 (.cons rfl .nil)) hq) λr s' hq=>?_);{have:=b2 { s1 with heap:=h',toks:=tk } [u,.ref f] J.kIn (by simpa using hl);simpa using this}
 . cases r with
   | error e=>exact hq.elim
   | ok fl =>
     cases fl with
     | ret u=>exact J.after hq
     | next=>exact False.elim hq
     | brk=>exact False.elim hq
     | cont=>exact False.elim hq
end
def TabIn (base:Heap)(mg:Str->Option Value)(t:Addr × Addr):Prop:=PySem.W.CodeHd base t.1 t.2/\base.BuiltinsAt mg t.2/\mainGlobals≠t.2
theorem bJ {mb:Str->Option Value}{k:Nat}{fa a:Addr}{x:Str}{s₁:Shared}{vs:List Value}{ns:List Int}{tabs:List (Addr × Addr)}
   (KX:K.In s₁.heap) (hns:s₁.heap.Ns mainGlobals mg) (hb:s₁.heap.Ns builtinsNs mb) (hbb:∀ x:Str,x≠"__name__"->mb x=bootBuiltins x) (hlim:s₁.heap.NoLimit) (hg:s₁.gens=#[])
   (hbm:∃ bm ob,mg "__builtins__"=some (.ref bm)/\bm≠builtinsNs/\s₁.heap.get? bm=some ob/\ob.cls=.type "module"/\ob.dict=some builtinsNs/\ob.data=.plain)
   (hT:PySem.W.TabsAt tabs s₁.heap) (hKT:∀ t∈tabs,K.lookup t.2=none)
   (ha:s₁.heap.get? a=some { cls:=.type "list",data:=.seq vs.toArray }) (hi:IntsAre vs ns) (hl:ns.length<=sizeLine) (hr:Room k callerA)
   (F:∀ base:Heap,K.In base->base.Ns mainGlobals mg->(∀ t∈tabs,TabIn base mg t)->FnOk P w K mg base CX0 k fa fd [x] sp) (hbind:∀ (s:Shared) (u:Value),BindsTo s fd ⟨[u],[]⟩ [(x,u)])
   (hsp:∀ H:Hp,(∀ t∈tabs,H t.2=some (.tbl #[]))->SqL K H a (ns.map V.int)->sp [.ref a] H (λv _=>v=.bl true) λ_ _ _=>False) :
   codeAny (model P w) callerA (.call (.ref fa) ⟨[.ref a],[]⟩) (λr s'=>r=.ok (.ret (.bool true))/\OldK s₁.heap s'.heap/\s'.os=s₁.os/\AllBare s'.gens) s₁:=by
 have rv:=nK hi;have aT:a∉tabs.map (·.2):=λz=>by
   obtain ⟨t,ht,e⟩:=zJ.mp z;have:=(hT t ht).2;rw [e,ha] at this;cases this
 obtain ⟨H,hH⟩:∃ H:Hp,H=λb=>if b∈tabs.map (·.2) then some (.tbl #[]) else if b=a/\K.lookup a=none then some (.frz { cls:=.type "list",data:=.seq vs.toArray } (.lst (ns.map V.int))) else none:=⟨_,rfl⟩
 have hTab:∀ t∈tabs,H t.2=some (.tbl #[]):=λt ht=>by rw [hH];exact if_pos (zJ.mpr ⟨t,ht,rfl⟩)
 have cases_:∀ b o,H b=some o->(b∈tabs.map (·.2)/\o=.tbl #[])\/(b=a/\K.lookup a=none/\o=.frz { cls:=.type "list",data:=.seq vs.toArray } (.lst (ns.map V.int))):=λb o e=>by
   rw [hH] at e;dsimp only at e;by_cases z:b∈tabs.map (·.2);{rw [if_pos z] at e;cases e;exact .inl ⟨z,rfl⟩}
   . rw [if_neg z] at e;by_cases y:b=a/\K.lookup a=none
     . rw [if_pos y] at e;cases e;exact .inr ⟨y.1,y.2,rfl⟩
     . rw [if_neg y] at e;cases e
 have tabO:∀ b,b∈tabs.map (·.2)->s₁.heap.get? b=some (PySem.W.tabObj #[])/\K.lookup b=none:=λb z=>by
   obtain ⟨t,ht,rfl⟩:=zJ.mp z;exact ⟨(hT t ht).2,hKT t ht⟩
 have hok:HOk P w H s₁.heap:=λb o e=>by
   rcases cases_ b o e with ⟨z,rfl⟩ | ⟨rfl,_,rfl⟩
   . exact (tabO b z).1
   . exact ⟨ha,by rw [za];exact hl,vs,_,rv,ha⟩
 have base_of:∀ {b:Addr} {o:Obj},s₁.heap.get? b=some o->H b=none->(hidT s₁.heap H).get? b=some o:=λe n=>kB e n
 have free_of:∀ {b:Addr} {o:Obj},s₁.heap.get? b=some o->o≠PySem.W.tabObj #[]->o≠{ cls:=.type "list",data:=.seq vs.toArray }->H b=none:=λ{b o} e n1 n2=>by
   cases q:H b with
   | none=>rfl
   | some u =>
     rcases cases_ b u q with ⟨z,_⟩ | ⟨z,_⟩
     . rw [(tabO b z).1] at e;cases e;exact absurd rfl n1
     . rw [z,ha] at e;cases e;exact absurd rfl n2
 have nsK:∀ {b:Addr} {m:Str->Option Value},s₁.heap.Ns b m->(hidT s₁.heap H).Ns b m:=λ{b m} ⟨o,es,ep,e,d,r⟩=>⟨o,es,ep,base_of e (free_of e (λz=>by rw [z] at d;cases d) λz=>by rw [z] at d;cases d),d,r⟩
 have hKb:K.In (hidT s₁.heap H):=λb o e=>base_of (KX b o e) (by
   cases q:H b with
   | none=>rfl
   | some u =>
     rcases cases_ b u q with ⟨z,_⟩ | ⟨z,z2,_⟩
     . rw [(tabO b z).2] at e;cases e
     . rw [z,z2] at e;cases e)
 have hM:Mod K mg (hidT s₁.heap H):=⟨hKb,nsK hns,⟨mb,nsK hb,hbb⟩,let ⟨mc,h1,h2⟩:=hlim;⟨mc,nsK h1,h2⟩⟩
 have e0:Env0 P w K mg (hidT s₁.heap H) callerA [] s₁ H:=⟨rfl,hM,λb o e=>kA e,tU (kD _ _),trivial,λb hb=>absurd (show b∈([]:List Addr) from hb) (by simp),hok,.of_eq hg⟩
 have hTI:∀ t∈tabs,TabIn (hidT s₁.heap H) mg t:=λt ht=>by
   obtain ⟨o,vs0,file,tf,flags,tg,inF,text,tt,c1,c2,c3,rest⟩:=(hT t ht).1;obtain ⟨bm,ob,b1,b2,b3,b4,b5,b6⟩:=hbm;obtain ⟨og,es,ep,g1,g2,_⟩:=hns;refine ⟨⟨o,vs0,file,tf,flags,tg,inF,text,tt,base_of c1 (free_of c1 (λz=>by rw [z] at c2;cases c2) λz=>by rw [z] at c3;cases c3),c2,c3,rest⟩,⟨bm,ob,b1,b2,λz=>?_,λz=>?_,base_of b3 (free_of b3 (λz=>by rw [z] at b4;cases b4) λz=>by rw [z] at b6;cases b6),b4,b5,b6⟩,λz=>?_⟩;{rw [z,g1] at b3;cases b3;rw [g2] at b6;cases b6};{have:=(hT t ht).2;rw [<- z,b3] at this;cases this;cases b4};{have:=(hT t ht).2;rw [<- z,g1] at this;cases this;cases g2}
 have hSq:SqL K H a (ns.map V.int):=by
   cases hk:K.lookup a with
   | some o =>
     have e:=KX a o hk;rw [ha] at e;cases e;exact .inr ⟨_,vs.toArray,_,hk,rfl,rfl,rfl,by rw [yv,hi.length];exact hl,by simpa using rv⟩
   | none =>
     refine .inl (.inr ⟨{ cls:=.type "list",data:=.seq vs.toArray },?_⟩);rw [hH];exact (if_neg aT).trans (if_pos ⟨rfl,hk⟩)
 refine wH ((F _ hKb (nsK hns) hTI).run callerA [] s₁ H ⟨[.ref a],[]⟩ [.ref a] [.ref a] _ _ hr e0 (hbind s₁ (.ref a)) (.cons rfl .nil) (hsp H hTab hSq)) λr s' h=>?_
 cases r with
 | error e=>exact h.elim
 | ok fl =>
   cases fl with
   | next=>exact False.elim h
   | brk=>exact False.elim h
   | cont=>exact False.elim h
   | ret u =>
     obtain ⟨v,H',os,bare,un,hok',r',q⟩:=h;have q':v=.bl true:=q;subst q';obtain rfl:u=Value.bool true:=r';refine ⟨rfl,⟨λb o e=>?_,λb o e=>un.there b o e (by simp)⟩,os,bare⟩;cases q:H b with
     | none=>exact .inl (un.keep b o e q (by intro z;exact absurd (show b∈([]:List Addr) from z) (by simp)) (by simp))
     | some u =>
       rcases cases_ b u q with ⟨z,rfl⟩ | ⟨z,z2,rfl⟩
       . obtain ⟨t,ht,rfl⟩:=zJ.mp z;rw [(hT t ht).2] at e;cases e;obtain ⟨more,hm⟩:=un.tbls _ _ q;have hP:=hok' _ _ hm;exact .inr (.inl ⟨((hT t ht).1.tab (hT t ht).2).isCodeTable,rfl,#[],more,rfl,hP⟩)
       . have e2:=(hok' _ _ (un.frzs b _ _ q)).1;rw [z,ha] at e;cases e;exact .inl e2
end L2
namespace Att
open PySem PySem.Spec PyProof.Rows PySem.W
theorem fm:∀ {ns:List Int} {z:Int},z∈ns->Builtin.Int.intBits z<=WData.weightAll (ns.map WData.int)
 | n::r,_,.head _=>by
   show _<=WData.weight (.int n)+1+WData.weightAll (r.map WData.int);have:WData.weight (.int n)=Builtin.Int.intBits n:=by simp only [WData.weight,Builtin.Int.intBits]
   lia
 | n::r,z,.tail _ h=>by
   show _<=WData.weight (.int n)+1+WData.weightAll (r.map WData.int);have:=fm h;lia
theorem attach_bits {l:OpenLaw}{n:Nat}{q:Program}{loose:List Str}{XP:(Str->Option Value)->Heap->Prop}{YP:World->Heap->Prop}{d:DefRec}(hn:l.most=some n)(hdf:d.params.defaults=[])
   (call:∀ (w:World) (s₀ s₁:Shared) (mg mb:Str->Option Value) (fa a:Addr) (vs:List Value) (ns:List Int),Ground q loose [] XP w s₀ mg mb s₁.heap->YP w s₁.heap->mg d.name=some (.ref fa) ->
     s₁.heap.get? a=some { cls:=.type "list",data:=.seq vs.toArray }->IntsAre vs ns->ns.length<=n->(∀ z∈ns,Builtin.Int.intBits z<=2^20)->s₁.gens=#[] ->
     codeAny (model l.prog w) callerA (.call (.ref fa) ⟨[.ref a],[]⟩) (λr s'=>r=.ok (.ret (.bool true))/\OldK s₁.heap s'.heap/\s'.os=s₁.os/\AllBare s'.gens) s₁) :
   WalkO q loose XP YP l.row.toRowW d [] (λf vs=>PySem.call f vs):=by
 intro w s₀ s₁ mg mb G Y fa o pm cd doc dV kV ho hd hcd hD hmg hg args vals as hpre hlay hrd hwl hlo;obtain ⟨a,vs,ns,rfl,rfl,hobj,hints,hlen⟩:=cS hn hpre hwl;have hbits:∀ z∈ns,Builtin.Int.intBits z<=2^20:=λz hz=>by
   have h1:WData.layable (WData.list (ns.map WData.int))=true:=by have h2:([WData.list (ns.map WData.int)].all WData.layable)=true:=hlay;simpa using h2
   unfold WData.layable at h1;simp only [xP,vg] at h1;have h3:WData.weightAll (ns.map WData.int)<=2^20:=h1.2;exact zO (fm hz) h3
 refine enter_call (wH (call w s₀ s₁ mg mb fa a vs ns G Y hmg hobj hints hlen hbits hg) λr s' ⟨e,h2,h3,h4⟩=>?_);subst e;exact ⟨.inl ⟨.bool true,.bool true,[],rfl,λ_=>rfl,.bool true,cR l _,λ_=>⟨List.Pairwise.nil,λ_ hm=>(nomatch hm)⟩⟩,h2,h3,h4⟩
end Att
namespace L2
open PySem PySem.Spec PyProof.Rows
def DefAtC (K:zh)(mg:Str->Option Value)(x:Str)(st:Stmt)(ps:List Str)(c:Addr):Prop:=∃ f fd,Fun K x x st f fd/\mg x=some (.ref f)/\Binds K fd ps []/\fd.code=.ref c
theorem FnAt.ofC {x:Str}{k:Nat}{c:Addr}(d:DefAtC K mg x st ps c)(S:FnScope N ps (defScope st))(len:∀ vs H Q E,sp vs H Q E->vs.length=ps.length)
   (hbody:∀ (f:Addr) (A:Around) (outer:List Env) (s:Shared) (H:Hp) (vs:List V) (Q:VK) (E:XK),Room k (A.deeper (envOfC x (defScope st) s.heap.objs.size f (.ref c)))->sp vs H Q E ->
     ∃ t,PSs (cxOf CX0 P w K mg base N x (defScope st) f (.ref c) A outer s H E).nox (defBody st) t/\t { nx:=λ_ H'=>Q .non H',rt:=Q } (start N vs) H):FnAt P w K mg base x ps (k+1) sp:=by
 obtain ⟨f,fd,F,m,b,hc⟩:=d;refine ⟨f,fd,?_,m,F.kp,b⟩;obtain ⟨oc,od,kV,doc,pm,an,cdv,ct,osl,rfl,lk,hcd⟩:=F.ex;have hc:cdv=.ref c:=hc;subst hc;refine fn_of lk hcd S len λA outer s H vs Q E hr hsp=>?_
 obtain ⟨t,h,q⟩:=hbody f A outer s H vs Q E hr hsp;exact ⟨t,h.nox,q⟩
theorem fk {p:Str}{caps:List Str}{sc:Scope}(h1:sc.kind=.function)(h2:sc.isCoroutine=false)(h3:sc.isGenerator=false)(h4:(p::caps).Nodup)(h5:sc.names.lookup p=some .local)(h6:∀ x∈caps,sc.names.lookup x=some .free)(h7:∀ q∈sc.names,q.2=.free->q.1∈caps)(h8:∀ q∈sc.names,q.2≠.cell):LamScope p caps sc :=
 ⟨h1,h2,h3,h4,h5,h6,λx hx=>h7 _ (vv hx) rfl,h8⟩
def AllIn (cells:List (Str × Addr)):List (Str × Addr)->Prop
 | []=>True
 | p::r=>cells.lookup p.1=some p.2/\AllIn cells r
theorem AllIn.mem {cells:List (Str × Addr)}:∀ {l:List (Str × Addr)},AllIn cells l->∀ p∈l,cells.lookup p.1=some p.2
 | _::_,h,_,.head _=>h.1
 | _::_,h,_,.tail _ hp=>h.2.mem _ hp
def IxOk (N:List Str)(sc:Scope)(clos:List (Str × Addr)):List Str->List Nat->Prop
 | [],[]=>True
 | y::cs,j::js=>(N[j]?=some y/\sc.names.lookup y=some .cell/\∃ a,clos.lookup y=some a)/\IxOk N sc clos cs js
 | _,_=>False
theorem IxOk.get {sc:Scope}:∀ {cs:List Str} {js:List Nat},IxOk N sc clos cs js->js.length=cs.length/\∀ (i:Nat) (y:Str),cs[i]?=some y->∃ (j:Nat) (a:Addr),js[i]?=some j/\N[j]?=some y/\sc.names.lookup y=some .cell/\clos.lookup y=some a
 | [],[],_=>⟨rfl,λi y h=>by cases h⟩
 | [],_::_,h=>h.elim
 | _::_,[],h=>h.elim
 | y::cs,j::js,⟨⟨h1,h2,a,h3⟩,h4⟩=>by
   obtain ⟨l,g⟩:=IxOk.get h4;refine ⟨by rw [zZ,zZ,l],λi z hz=>?_⟩;cases i with
   | zero=>cases (show y=z from Option.some.inj hz);exact ⟨j,a,rfl,h1,h2,h3⟩
   | succ i=>exact g i z hz
section
variable {x pn:Str}{sc:Scope}{f c Pt:Addr}{s:Shared}{E:XK}{caps:List Str}{ixs:List Nat}
theorem fj (T:TabIn base mg (c,Pt))(S:LamScope pn caps scope)(cl:closureFor scope (envOfC x sc s.heap.objs.size f (.ref c))=pure clos)(al:AllIn (envOfC x sc s.heap.objs.size f (.ref c)).cells clos)(ix:IxOk N sc clos caps ixs) :
   LamIn (cxOf CX0 P w K mg base N x sc f (.ref c) A outer s H E).nox pn caps ixs scope clos c Pt :=
 ⟨S,rfl,T.1,cl,λy a h=>al.mem _ (vv h),ix.get.2,ix.get.1,λ_=>rfl,T.2.1,T.2.2⟩
end
theorem DefAt.toC {h:Heap}{x:Str}{t:Addr × Addr}(X:K.In h)(G:h.Ns mainGlobals mg)(d:DefAt K mg x st ps)(ht:PySem.W.tabIn K x=some t):DefAtC K mg x st ps t.1:=by obtain ⟨f,fd,F,m,b⟩:=d;refine ⟨f,fd,F,m,b,?_⟩;obtain ⟨oc,od,kV,doc,pm,an,cdv,ct,osl,rfl,lk,hcd⟩:=F.ex;exact PySem.W.law_code (c:=t.1) (P:=t.2) X G ht m (X _ _ lk) rfl
def noT (H:Hp):Hp:=λb=>match H b with
 | some (.tbl _)=>none
 | o=>o
section
variable {H2:Hp}{b l Pt:Addr}{o o':HO}{q:Str}{lp:Pos}
theorem x9 (e:H b=some o)(n:∀ ts,o≠.tbl ts):noT H b=some o:=by unfold noT;rw [e];cases o<;>first | rfl | exact absurd rfl (n _)
theorem vU (e:noT H b=some o):H b=some o/\∀ ts,o≠.tbl ts:=by
 unfold noT at e;split at e;{cases e}
 . rename_i h
   refine ⟨e,λts z=>?_⟩;rw [z] at e;exact h _ e
theorem u4 (e:H b=none):noT H b=none:=by unfold noT;rw [e]
theorem noT_sub:Same (noT H) H:=λ_ _ e=>(vU e).1
theorem Same.noT (s:Same H H'):Same (noT H) (noT H'):=λb o e=>x9 (s _ _ (vU e).1) (vU e).2
theorem noT_upd (n:∀ ts,o≠.tbl ts)(hb:H b=none\/∃ o',noT H b=some o'):noT (upd H b o)=upd (noT H) b o:=by
 funext c;by_cases z:c=b;{rw [z,zm];exact x9 zm n};{rw [zo z];unfold L2.noT;rw [zo z]}
theorem nl (xs:List V)(ts:Array Value):HO.lst xs≠.tbl ts:=λz=>by cases z
theorem nt (xs:List V)(ts:Array Value):HO.tup xs≠.tbl ts:=λz=>by cases z
theorem nd (kvs:List (Key × V))(ts:Array Value):HO.dK kvs≠.tbl ts:=λz=>by cases z
theorem Tb.ne (h:Tb H Pt q lp)(e:H b=some o)(n:∀ ts,o≠.tbl ts):b≠Pt:=λz=>by
 rcases h with h | ⟨_,_,h,_⟩<;>(rw [<- z,e] at h;exact n _ (Option.some.inj h))
theorem Tb.sameT {P1 P2:Addr}{q1 q2:Str}{l1 l2:Pos}(h:Tb H P2 q2 l2)(s:SameT P1 H H')(t:Tb H P1 q1 l1)(n:P2≠P1):Tb H' P2 q2 l2:=by
 rcases h with h | ⟨c,oc,h1,h2,h3⟩
 . exact .inl (s _ _ n h)
 . exact .inr ⟨c,oc,s _ _ n h1,s _ _ (Tb.ne t h2 λ_ z=>by cases z) h2,h3⟩
def Soft:HO->Prop
 | .tbl _=>False
 | .frz _ _=>False
 | _=>True
theorem Tb.put (h:Tb H Pt q lp)(e:H l=some o)(n:Soft o):Tb (upd H l o') Pt q lp:=by
 have ne:l≠Pt:=Tb.ne h e λts z=>by rw [z] at n;exact n
 rcases h with h | ⟨c,oc,h1,h2,h3⟩
 . exact .inl (by rw [zo (Ne.symm ne)];exact h)
 . refine .inr ⟨c,oc,by rw [zo (Ne.symm ne)];exact h1,?_,h3⟩;have:c≠l:=λz=>by rw [z,e] at h2;cases h2;exact n
   rw [zo this];exact h2
end
abbrev Tabs:=List (Addr × Str × Pos)
def Tbs (ts:Tabs)(H:Hp):Prop:=∀ t∈ts,Tb H t.1 t.2.1 t.2.2
def TabsUq (ts:Tabs):Prop:=∀ t∈ts,∀ u∈ts,t.1=u.1->t=u
structure Nx (ts:Tabs)(H H':Hp):Prop where
 same:Same (noT H) (noT H')
 tb:Tbs ts H'
structure Nb (ts:Tabs)(m:Addr)(H H':Hp):Prop where
 same:∀ b o,b≠m->noT H b=some o->noT H' b=some o
 tb:Tbs ts H'
section
variable {ts:Tabs}{H2:Hp}{b l m:Addr}{o o':HO}
theorem Tbs.same (h:Tbs ts H)(s:Same H H'):Tbs ts H':=λt ht=>Tb.same (h t ht) s
theorem Tbs.nx (h:Tbs ts H)(s:Same H H'):Nx ts H H':=⟨s.noT,h.same s⟩
theorem Tbs.put (h:Tbs ts H)(e:H l=some o)(n:Soft o):Tbs ts (upd H l o'):=λt ht=>Tb.put (h t ht) e n
theorem Nx.refl (h:Tbs ts H):Nx ts H H:=⟨λ_ _ e=>e,h⟩
theorem Nx.trans (a:Nx ts H H')(b:Nx ts H' H2):Nx ts H H2:=⟨a.same.trans b.same,b.tb⟩
theorem Nx.nb (a:Nx ts H H'):Nb ts m H H':=⟨λb o _ e=>a.same _ _ e,a.tb⟩
theorem Nb.trans (a:Nb ts m H H')(b:Nb ts m H' H2):Nb ts m H H2:=⟨λc o n e=>b.same _ _ n (a.same _ _ n e),b.tb⟩
theorem Nb.put (a:Nb ts m H H')(e':H' m=some o)(n:Soft o):Nb ts m H (upd H' m o'):=by refine ⟨λb x y z=>?_,a.tb.put e' n⟩;have z2:=vU (a.same _ _ y z);exact x9 (by rw [zo y];exact z2.1) z2.2
theorem Nb.of_new (a:Nb ts m H H')(e:noT H m=none):Nx ts H H':=⟨λb o z=>a.same _ _ (λy=>by rw [y,e] at z;cases z) z,a.tb⟩
theorem Tbs.grow {P1:Addr}{q1:Str}{l1:Pos}(u:TabsUq ts)(h:Tbs ts H)(hm:(P1,q1,l1)∈ts)(s:SameT P1 H H')(t':Tb H' P1 q1 l1):Nx ts H H':=by
 have t:=h _ hm;refine ⟨λb o e=>?_,λx hx=>?_⟩;{obtain ⟨e1,e2⟩:=vU e;exact x9 (s _ _ (Tb.ne t e1 e2) e1) e2}
 . by_cases z:x.1=P1
   . have:=u x hx _ hm z;rw [this];exact t'
   . exact Tb.sameT (h x hx) s t z
theorem SqL.noT {a:Addr}(h:SqL K (noT H) a xs):SqL K H a xs:=noT_sub.seq h
end
section
variable {x m:Str}{j k:Nat}{sp':Sp}
end
def tMeU (P:Program)(w:World)(K:zh)(mg:Str->Option Value)(k0:Nat)(m:Str)(ta:TE)(t:TA):TE:=λσ H Q=>ta σ H λx H1=>∃ a C dx fs ps sp,x=.ref a/\H1 a=some (.ins C dx fs)/\fs.lookup m=none /\
 (∀ base,MethAt P w K mg base C m ps k0 sp)/\t σ H1 λvs H2=>sp (x::vs) H2 Q E0
section
variable {x m:Str}{p pos:Pos}{e o:Expr}{ta:TE}{t:TA}
theorem pe_meU (k0:Nat){pl:Sem Bool}(hr:Room k0 X.A)(he:PE X o ta)(ha:PA X (e::es) t)(hP:X.prog=P:=by rfl)(hw:X.w=w:=by rfl)(hK:X.K=K:=by rfl)(hmg:X.mg=mg:=by rfl)
   (hst:starEach (e::es) X.env=(false,eval e X.env)::starEach es X.env:=by rfl) (hpl:(backTo pos (starEach es X.env)).any (·.1)=false:=by rfl)
   (ht:eval (.Call (.Attribute o m apos) (e::es) [] pos) X.env=(do
     let ov <- eval o X.env
     standAt apos.atName
     let (f,first) <- holding [ov] (getMethod ov m pl)
     callWith pos f first (backTo pos (starEach (e::es) X.env)) (backToKw pos (keywordEach [] X.env))):=by rfl) :
   PE X (.Call (.Attribute o m apos) (e::es) [] pos) (tMeU P w K mg k0 m ta t):=by
 subst hP hw hK hmg;intro pins s σ H Q I h;refine kh (pl:=pl) (thn (he pins s σ H _ I h) λu s1 hz=>?_) ht;obtain ⟨x,H1,I1,rx,a,C,dx,fs,ps,sp,ex,ea,l,M,q⟩:=hz;obtain ⟨c,f,fd,me,F,b⟩:=M X.base;subst ex;obtain rfl:u=Value.ref a:=rx;refine iq I1 ea c me l ?_;refine ux (first:=[.ref a]) (h₀:=X.base) I.ok.mod.kin me.kp (thn (ha pos pins s1 σ H1 _ I1 q) λus s2 ⟨vs,H2,I2,r,q2⟩=>⟨I2.kIn,?_⟩) hst hpl;exact rE (us:=.ref a::us) (vs:=.ref a::vs) (dvs:=[]) F hr b .nil pass0 I2 (.cons rfl r) (by rw [zH];exact q2)
end
def MDefAtC (K:zh)(C:Addr)(m qual:Str)(st:Stmt)(ps:List Str)(c:Addr):Prop:=∃ f fd,Fun K m qual st f fd/\Meth K C m f/\Binds K fd ps []/\fd.code=.ref c
theorem MethAt.ofC {c:Addr}{m:Str}{k:Nat}(cl:Cls K C)(d:MDefAtC K C m qual st ps c)(S:FnScope N ps (defScope st))(len:∀ vs H Q E,sp vs H Q E->vs.length=ps.length)
   (hbody:∀ (f:Addr) (A:Around) (outer:List Env) (s:Shared) (H:Hp) (vs:List V) (Q:VK) (E:XK),Room k (A.deeper (envOfC qual (defScope st) s.heap.objs.size f (.ref c)))->sp vs H Q E ->
     ∃ t,PSs (cxOf CX0 P w K mg base N qual (defScope st) f (.ref c) A outer s H E).nox (defBody st) t/\t { nx:=λ_ H'=>Q .non H',rt:=Q } (start N vs) H):MethAt P w K mg base C m ps (k+1) sp:=by
 obtain ⟨f,fd,F,me,b,hc⟩:=d;refine ⟨cl,f,fd,me,?_,b⟩;obtain ⟨oc,od,kV,doc,pm,an,cdv,ct,osl,rfl,lk,hcd⟩:=F.ex;have hc:cdv=.ref c:=hc;subst hc;refine fn_of lk hcd S len λA outer s H vs Q E hr hsp=>?_
 obtain ⟨t,h,q⟩:=hbody f A outer s H vs Q E hr hsp;exact ⟨t,h.nox,q⟩
def mtabAt (K:zh) (C:Addr) (m:Str):Option (Addr × Addr):=match PySem.W.findIn K (.ref C) m with
 | some (some (.ref f))=>(match K.lookup f with
   | some ⟨_,_,.func fd,_⟩=>(match fd.code with
     | .ref c=>(match K.lookup c with
       | some ⟨_,_,.fields vs,_⟩=>(match (vs[11]?:Option Value) with
         | some (.ref P)=>some (c,P)
         | _=>none)
       | _=>none)
     | _=>none)
   | _=>none)
 | _=>none
def tabQ (K:zh) (q:Str × Option Str):Option (Addr × Addr):=match q.2 with
 | none=>PySem.W.tabIn K q.1
 | some m=>(match PySem.W.nsIn K mainGlobals q.1 with
   | some (some (.ref C))=>mtabAt K C m
   | _=>none)
def tabQAt (K:zh)(q:Str × Option Str):Addr × Addr:=(tabQ K q).getD (0,0)
def tabsQ (K:zh)(ts:List Addr)(qs:List (Str × Option Str)):Bool:=qs.all (λq=>(tabQ K q).isSome&&(K.lookup (tabQAt K q).2).isNone&&PySem.W.codeHdIn K (tabQAt K q).1 (tabQAt K q).2&&ts.contains (tabQAt K q).2)&&decide ((qs.map λx=>(tabQAt K x).2).Nodup)
theorem mV {qs:List (Str × Option Str)}(h:tabsQ K ts qs=true){q:Str × Option Str}(hq:q∈qs):tabQ K q=some (tabQAt K q)/\K.lookup (tabQAt K q).2=none/\PySem.W.codeHdIn K (tabQAt K q).1 (tabQAt K q).2=true/\(tabQAt K q).2∈ts:=by unfold tabsQ at h;rw [xP] at h;have:=List.all_eq_true.mp h.1 q hq;simp only [xP] at this;obtain ⟨⟨⟨h1,h2⟩,h3⟩,h4⟩:=this;refine ⟨?_,by simpa using h2,h3,by simpa using h4⟩;obtain ⟨t,ht⟩:=kS.mp h1;unfold tabQAt;rw [ht];rfl
theorem bI {qs:List (Str × Option Str)}(h:tabsQ K ts qs=true):(qs.map λx=>(tabQAt K x).2).Nodup:=by unfold tabsQ at h;rw [xP] at h;exact wU h.2
theorem MDefAt.toC {m:Str}{t:Addr × Addr}{h:Heap}(X:K.In h)(d:MDefAt K C m qual st ps)(ht:mtabAt K C m=some t):MDefAtC K C m qual st ps t.1:=by
 obtain ⟨f,fd,F,me,b⟩:=d;refine ⟨f,fd,F,me,b,?_⟩;obtain ⟨oc,od,kV,doc,pm,an,cdv,ct,osl,rfl,lk,hcd⟩:=F.ex;have ef:PySem.W.findIn K (.ref C) m=some (some (.ref f)):=me.1;unfold mtabAt at ht;rw [ef] at ht;dsimp only at ht;rw [lk] at ht;dsimp only at ht;show cdv=.ref t.1;split at ht
 . split at ht
   . split at ht
     . cases ht;rfl
     . cases ht
   . cases ht
 . cases ht
theorem walk_ofY {l:PySem.W.OpenLaw} {n k:Nat} {q:Program} {loose:List Str} {XP:(Str->Option Value)->Heap->Prop} {YP:World->Heap->Prop} {d:DefRec} {K:Params->zh} {tabs:World->List (Addr × Addr)} {sp:World->Sp} {x:Str}
   (hn:l.most=some n) (hn2:n<=sizeLine) (hdf:d.params.defaults=[]) (hr:Room k callerA)
   (hY:∀ (w:World) (h:Heap),YP w h->(K w.params).In h)
   (hT:∀ (w:World) (h:Heap),YP w h->PySem.W.TabsAt (tabs w) h) (hKT:∀ w,∀ t∈tabs w,(K w.params).lookup t.2=none)
   (F:∀ (w:World) (mg:Str->Option Value) (fa:Addr) (h:Heap),(K w.params).In h->h.Ns mainGlobals mg->mg d.name=some (.ref fa) ->
     ∃ fd:FuncData,(∀ (s:Shared) (u:Value),BindsTo s fd ⟨[u],[]⟩ [(x,u)]) /\
       ∀ base:Heap,(K w.params).In base->base.Ns mainGlobals mg->(∀ t∈tabs w,TabIn base mg t)->FnOk l.prog w (K w.params) mg base CX0 k fa fd [x] (sp w))
   (hsp:∀ (w:World) (H:Hp) (a:Addr) (ns:List Int),ns.length<=n->(∀ z∈ns,Builtin.Int.intBits z<=2^20)->(∀ t∈tabs w,H t.2=some (.tbl #[]))->SqL (K w.params) H a (ns.map V.int)->sp w [.ref a] H (λv _=>v=.bl true) λ_ _ _=>False) :
   PySem.W.WalkO q loose XP YP l.row.toRowW d [] (λf vs=>PySem.call f vs):=by
 refine Att.attach_bits hn hdf λw s₀ s₁ mg mb fa a vs ns G Y hmg hobj hints hlen hbits hg=>?_
 have KX:=hY w _ Y;obtain ⟨fd,hb,hF⟩:=F w mg fa _ KX G.T.g hmg;exact bJ KX G.T.g G.T.b G.T.builtins G.T.nolimit hg G.T.bmain (hT w _ Y) (hKT w) hobj hints (zO hlen hn2) hr hF hb λH h1 h2=>hsp w H a ns hlen hbits h1 h2
theorem walk_tabsQ {l:PySem.W.OpenLaw} {n k:Nat} {q:Program} {loose:List Str} {XP:(Str->Option Value)->Heap->Prop} {YP:World->Heap->Prop} {d:DefRec} {K:Params->zh} {sp:World->Sp} {x:Str} (xs:List (Str × Option Str))
   (hn:l.most=some n) (hn2:n<=sizeLine) (hdf:d.params.defaults=[]) (hr:Room k callerA)
   (hY:∀ (w:World) (h:Heap),YP w h->(K w.params).In h) (hY2:∀ (w:World) (h:Heap),YP w h->∀ P∈ts,h.get? P=some (PySem.W.tabObj #[])) (ok:∀ P,tabsQ (K P) ts xs=true)
   (F:∀ (w:World) (mg:Str->Option Value) (fa:Addr) (h:Heap),(K w.params).In h->h.Ns mainGlobals mg->mg d.name=some (.ref fa) ->
     ∃ fd:FuncData,(∀ (s:Shared) (u:Value),BindsTo s fd ⟨[u],[]⟩ [(x,u)]) /\
       ∀ base:Heap,(K w.params).In base->base.Ns mainGlobals mg->(∀ y∈xs,TabIn base mg (tabQAt (K w.params) y))->FnOk l.prog w (K w.params) mg base CX0 k fa fd [x] (sp w))
   (hsp:∀ (w:World) (H:Hp) (a:Addr) (ns:List Int),ns.length<=n->(∀ z∈ns,Builtin.Int.intBits z<=2^20)->(∀ y∈xs,H (tabQAt (K w.params) y).2=some (.tbl #[]))->(xs.map λx=>(tabQAt (K w.params) x).2).Nodup->SqL (K w.params) H a (ns.map V.int)->sp w [.ref a] H (λv _=>v=.bl true) λ_ _ _=>False) :
   PySem.W.WalkO q loose XP YP l.row.toRowW d [] (λf vs=>PySem.call f vs):=by
 refine walk_ofY (x:=x) (tabs:=λw=>xs.map (tabQAt (K w.params))) hn hn2 hdf hr hY (λw h Y=>?_) (λw t ht=>?_) (λw mg fa h KX G m=>?_) λw H a ns h1 h2 h3 h4=>hsp w H a ns h1 h2 (λy hy=>h3 _ (zJ.mpr ⟨y,hy,rfl⟩)) (bI (ok _)) h4;{intro t ht;obtain ⟨y,hy,rfl⟩:=zJ.mp ht;obtain ⟨_,_,h3,h4⟩:=mV (ok w.params) hy;exact ⟨PySem.W.codeHd_of_K (hY w h Y) h3,hY2 w h Y _ h4⟩};{obtain ⟨y,hy,rfl⟩:=zJ.mp ht;exact (mV (ok _) hy).2.1};{obtain ⟨fd,hb,hF⟩:=F w mg fa h KX G m;exact ⟨fd,hb,λbase h1 h2 h3=>hF base h1 h2 λy hy=>h3 _ (zJ.mpr ⟨y,hy,rfl⟩)⟩}
theorem bH (l:Addr)(a b c:Value)(n:Nat)(o:Obj)(x:Value)(e:Value->Bool)(he:e a||e b||e c)(ho:o.data=.seq #[a,b,c] n) :
   Meets (Builtin.«tuple.index» ⟨[.ref l,x],[]⟩)
     (λA R s=>s.heap.get? l=some o/\(∀ y,y∈#[a,b,c]->SeqAt.EqAt A.in1 s y x (e y))/\R (.ok (.ret (.int (if e a=true then 0 else if e b=true then 1 else 2) s.toks))) { s with toks:=s.toks+1 }):=by
 intro prog w A R s h;obtain ⟨hp,g,d,tk,os⟩:=s;obtain ⟨hl,hq,h⟩:=h;unfold Builtin.«tuple.index»;simp only [Std.Legacy.Range.forIn_eq_forIn_range']
 wp_walk using wpAny_tupleItemsOf hl ho
 have ha:=hq #[a,b,c][0] (by simp) prog w;have hb:=hq #[a,b,c][1] (by simp) prog w;have hc:=hq #[a,b,c][2] (by simp) prog w;rw [show List.range' [:min #[a,b,c].size #[a,b,c].size].start [:min #[a,b,c].size #[a,b,c].size].size [:min #[a,b,c].size #[a,b,c].size].step=[0,1,2] by simp [Std.Legacy.Range.size,List.range']];simp only [oF,List.forIn_nil];dsimp only at h
 change ∀ E Q,_->_ at ha hb hc
 have ea:e #[a,b,c][0]=e a:=rfl;have eb:e #[a,b,c][1]=e b:=rfl;have ec:e #[a,b,c][2]=e c:=rfl
 wp_walk using ha _ _
 cases ga:e a with
 | true =>
   rw [ea,ga];rw [ga,if_pos rfl] at h
   wp_walk
   exact h
 | false =>
   rw [ea,ga];rw [ga,if_neg (by decide)] at h
   wp_walk using hb _ _
   cases gb:e b with
   | true =>
     rw [eb,gb];rw [gb,if_pos rfl] at h
     wp_walk
     exact h
   | false =>
     rw [eb,gb];rw [gb,if_neg (by decide)] at h;rw [ga,gb] at he
     wp_walk using hc _ _
     rw [ec,show e c=true from he]
     wp_walk
     exact h
def eqS3 (w:Str):Value->Bool
 | .str z _=>z==w
 | _=>false
def rIndexT (K:zh):V->List V->Hp->VK->Prop:=λx vs H Q=>∃ (l:Addr) (a b c w:Str),x=.ref l/\vs=[.str w]/\SqT K H l [.str a,.str b,.str c]/\(a==w||b==w||c==w)=true/\Q (.int (if (a==w)=true then 0 else if (b==w)=true then 1 else 2)) H
theorem fi (K:zh)(hK:X.K=K:=by rfl):MtM X "tuple.index" (rIndexT K):=by
 subst hK;intro pins s σ H x vs v us Q I rx rv h;obtain ⟨l,a,b,c,w,rfl,rfl,hH,he,q⟩:=h;cases rx;obtain ⟨u,rfl,ru⟩:=Vals.one rv;obtain ⟨t,rfl⟩:=(show ∃ t,u=Value.str w t from ru)
 obtain ⟨its,r,it,sz⟩:=I.tuple hH;cases r with
 | cons ra r =>
 cases r with
 | cons rb r =>
 cases r with
 | cons rc r =>
 cases r;obtain ⟨ta,rfl⟩:=(show ∃ t,_=Value.str a t from ra)
 obtain ⟨tb,rfl⟩:=(show ∃ t,_=Value.str b t from rb)
 obtain ⟨tc,rfl⟩:=(show ∃ t,_=Value.str c t from rc)
 obtain ⟨o,e,e1,n,e2⟩:=it;refine um F.slot_tuple_index ⟨_,e,e1⟩ F.entry_tuple_index (F.args_tuple_index_2 _ _) (bH l (.str a ta) (.str b tb) (.str c tc) n o (Value.str w t) (eqS3 w) he e2) ⟨e,λy hy=>?_,?_⟩
 . simp only [List.mem_toArray,zW,wm,wq] at hy;rcases hy with rfl | rfl | rfl<;>exact SeqAt.EqAt.str_str _ _ _ _
 . exact ⟨.int (if (a==w)=true then 0 else if (b==w)=true then 1 else 2),H,I.tok _,⟨_,rfl⟩,q⟩
end L2
namespace L2
open PySem PySem.Spec PyProof.Rows Srt SG
theorem hu1 {k:Nat}(hr:Room k A):A.units+1<cLine:=wV (by lia) (hu64 hr)
section
variable {td ty tx tv:TE}{Q:VK}
end
section
variable {x:Str}{p pos:Pos}
end
end L2
namespace L2
open PySem PySem.Spec PyProof.Rows
def del (H:Hp)(p:Addr):Hp:=λb=>if b=p then none else H b
theorem fh {p:Addr}:del H p p=none:=by unfold del;rw [if_pos rfl]
theorem wb {p b:Addr}(h:b≠p):del H p b=H b:=by unfold del;rw [if_neg h]
theorem vT {p b:Addr}{o:HO}(h:del H p b=some o):b≠p/\H b=some o:=by
 have n:b≠p:=λz=>by rw [z,fh] at h;cases h
 rw [wb n] at h;exact ⟨n,h⟩
section
variable {s:Shared}{p:Addr}
end
section
variable {o e:Expr}{m:Str}{ta:TE}{t:TA}{pos:Pos}
end
end L2
namespace BM
structure Ent where
 key:Nat
 ps:List Nat
 loc:Nat
def kys (es:List Ent):List Nat:=es.map (·.key)
def tot:List Ent->Nat
 | []=>0
 | e::r=>e.ps.length+tot r
def ahs:Nat->List Ent->List Nat
 | _,[]=>[]
 | a,e::r=>a::ahs (a+e.ps.length) r
def flat:List Ent->List Nat
 | []=>[]
 | e::r=>e.ps.map (λp=>256*e.key+p)++flat r
structure EsOk (es:List Ent):Prop where
 up:Up 0 (kys es)
 klt:∀ e∈es,e.key<256
 pup:∀ e∈es,Up 0 e.ps
 plt:∀ e∈es,∀ p∈e.ps,p<256
 ne:∀ e∈es,e.ps≠[]
def loE (k:Nat)(es:List Ent):List Ent:=es.filter λe=>decide (e.key<k)
def miE (k:Nat)(es:List Ent):List Ent:=es.filter λe=>decide (e.key=k)
def hiE (k:Nat)(es:List Ent):List Ent:=es.filter λe=>decide (k<e.key)
def plcE (k:Nat)(es:List Ent):List Nat:=match miE k es with
 | []=>[]
 | e::_=>e.ps
theorem above {k:Nat}{es:List Ent}(h:∀ e∈es,k<e.key):loE k es=[]/\miE k es=[]/\hiE k es=es:=by
 refine ⟨uh.mpr λe he=>?_,uh.mpr λe he=>?_,vM.mpr λe he=>?_⟩;{have:=h e he;simp;lia};{have:=h e he;simp;lia};{exact zK (h e he)}
theorem fg {a:Nat}{es:List Ent}(h:Up a (kys es)):∀ e∈es,a<=e.key:=λe he=>h.of_lt _ (zJ.mpr ⟨e,he,rfl⟩)
theorem split:∀ {a:Nat} {es:List Ent} (k:Nat),Up a (kys es)->es=loE k es++miE k es++hiE k es
 | _,[],_,_=>rfl
 | a,e::r,k,h=>by
   obtain ⟨h1,h2⟩:a<=e.key/\Up (e.key+1) (kys r):=h;have ab:=fg h2;rcases Nat.lt_trichotomy e.key k with c | c | c
   . have ih:=split k h2;have e1:loE k (e::r)=e::loE k r:=r6 (zK c);have e2:miE k (e::r)=miE k r:=vN (by simp;lia);have e3:hiE k (e::r)=hiE k r:=vN (by simp;lia);rw [e1,e2,e3,vi,vi,<- ih]
   . obtain ⟨a1,a2,a3⟩:=above (k:=k) (es:=r) λx hx=>by have:=ab x hx;lia
     have e1:loE k (e::r)=loE k r:=vN (by simp;lia);have e2:miE k (e::r)=e::miE k r:=r6 (zK c);have e3:hiE k (e::r)=hiE k r:=vN (by simp;lia);rw [e1,e2,e3,a1,a2,a3];rfl
   . obtain ⟨a1,a2,a3⟩:=above (k:=k) (es:=r) λx hx=>by have:=ab x hx;lia
     have e1:loE k (e::r)=loE k r:=vN (by simp;lia);have e2:miE k (e::r)=miE k r:=vN (by simp;lia);have e3:hiE k (e::r)=e::hiE k r:=r6 (zK c);rw [e1,e2,e3,a1,a2,a3];rfl
theorem qc:∀ {a:Nat} {es:List Ent} (k:Nat),Up a (kys es)->miE k es=[]\/∃ e,miE k es=[e]/\e.key=k/\e∈es
 | _,[],_,_=>.inl rfl
 | a,e::r,k,h=>by
   obtain ⟨h1,h2⟩:a<=e.key/\Up (e.key+1) (kys r):=h;by_cases c:e.key=k
   . obtain ⟨a1,a2,a3⟩:=above (k:=k) (es:=r) λx hx=>by have:=fg h2 x hx;lia
     have e2:miE k (e::r)=e::miE k r:=r6 (zK c);exact .inr ⟨e,by rw [e2,a2],c,.head _⟩
   . have e2:miE k (e::r)=miE k r:=vN (by simp;lia);rw [e2];rcases qc k h2 with z | ⟨x,z1,z2,z3⟩
     . exact .inl z
     . exact .inr ⟨x,z1,z2,.tail _ z3⟩
theorem mU {k:Nat}{es:List Ent}{e:Ent}(h:e∈loE k es):e∈es/\e.key<k:=⟨(yD.mp h).1,wU (yD.mp h).2⟩
theorem qZ {k:Nat}{es:List Ent}{e:Ent}(h:e∈hiE k es):e∈es/\k<e.key:=⟨(yD.mp h).1,wU (yD.mp h).2⟩
theorem Up.append {b:Nat}:∀ {a:Nat} {xs ys:List Nat},Up a xs->(∀ x∈xs,x<b)->Up b ys->a<=b->Up a (xs++ys)
 | _,[],_,_,_,h,l=>h.mono l
 | a,x::xs,ys,h,hb,h2,_=>by
   obtain ⟨h1,h3⟩:a<=x/\Up (x+1) xs:=h;exact ⟨h1,h3.append (λy hy=>hb y (.tail _ hy)) h2 (hb x (.head _))⟩
theorem mT:∀ x y:List Ent,tot (x++y)=tot x+tot y
 | [],y=>by show tot y=0+tot y;lia
 | e::r,y=>by
   show e.ps.length+tot (r++y)=e.ps.length+tot r+tot y;rw [mT r y];lia
theorem mS:∀ (a:Nat) (es:List Ent) (i:Nat),i<es.length->(ahs a es)[i]?=some (a+tot (es.take i))
 | _,[],_,h=>by cases h
 | a,e::r,0,_=>rfl
 | a,e::r,i+1,h=>by
   show (ahs (a+e.ps.length) r)[i]?=some (a+(e.ps.length+tot (r.take i)));rw [mS (a+e.ps.length) r i (Nat.lt_of_succ_lt_succ h),wC]
theorem mR:∀ x y:List Ent,flat (x++y)=flat x++flat y
 | [],_=>rfl
 | e::r,y=>by
   show e.ps.map _++flat (r++y)=e.ps.map _++flat r++flat y;rw [mR r y,zY]
theorem uS:∀ es:List Ent,(flat es).length=tot es
 | []=>rfl
 | e::r=>by
   show (e.ps.map _++flat r).length=e.ps.length+tot r;rw [zj,za,uS r]
theorem se {n:Nat}:∀ {es:List Ent},(∀ e∈es,∀ p∈e.ps,p<256)->(n∈flat es↔∃ e∈es,e.key=n/256/\n%256∈e.ps)
 | [],_=>by
   constructor;{intro h;cases h}
   . rintro ⟨_,h,_⟩;cases h
 | e :: r,h=>by
   show n∈e.ps.map _++flat r↔_;rw [zR,se (λx hx=>h x (.tail _ hx))];constructor
   . rintro (z | ⟨x,x1,x2⟩)
     . obtain ⟨p,hp,rfl⟩:=zJ.mp z;have:=h e (.head _) p hp;exact ⟨e,.head _,by lia,by rw [show (256*e.key+p)%256=p by lia];exact hp⟩
     . exact ⟨x,.tail _ x1,x2⟩
   . rintro ⟨x,x1,x2,x3⟩;rcases zW.mp x1 with rfl | x1
     . exact .inl (zJ.mpr ⟨_,x3,by lia⟩)
     . exact .inr ⟨x,x1,x2,x3⟩
theorem flat_plc {n:Nat}{es:List Ent}(h:EsOk es):n∈flat es↔n%256∈plcE (n/256) es:=by
 rw [se h.plt];rcases qc (n/256) h.up with z | ⟨e,z1,z2,z3⟩
 . have:plcE (n/256) es=[]:=by unfold plcE;rw [z]
   rw [this];constructor;{rintro ⟨x,x1,x2,x3⟩;have:x∈miE (n/256) es:=yD.mpr ⟨x1,zK x2⟩;rw [z] at this;cases this};{intro x;cases x}
 . have:plcE (n/256) es=e.ps:=by unfold plcE;rw [z1]
   rw [this];constructor;{rintro ⟨x,x1,x2,x3⟩;have:x∈miE (n/256) es:=yD.mpr ⟨x1,zK x2⟩;rw [z1] at this;cases zA.mp this;exact x3};{intro x;exact ⟨e,z3,z2,x⟩}
theorem fe {k:Nat}:∀ {a:Nat} {ps:List Nat},Up a ps->Up (256*k+a) (ps.map λp=>256*k+p)
 | _,[],_=>trivial
 | a,p::r,h=>by
   obtain ⟨h1,h2⟩:a<=p/\Up (p+1) r:=h;exact ⟨by show 256*k+a<=256*k+p;lia,fe h2⟩
theorem fc:∀ {a:Nat} {es:List Ent},Up a (kys es)->(∀ e∈es,Up 0 e.ps)->(∀ e∈es,∀ p∈e.ps,p<256)->Up (256*a) (flat es)
 | _,[],_,_,_=>trivial
 | a,e::r,h,h2,h3=>by
   obtain ⟨g1,g2⟩:a<=e.key/\Up (e.key+1) (kys r):=h;have u1:=(fe (k:=e.key) (h2 e (.head _))).mono (a:=256*a) (by lia);refine u1.append (b:=256*(e.key+1)) (λx hx=>?_) (fc g2 (λx hx=>h2 x (.tail _ hx)) λx hx=>h3 x (.tail _ hx)) (by lia);obtain ⟨p,hp,rfl⟩:=zJ.mp hx;have:=h3 e (.head _) p hp;lia
theorem EsOk.flat_up {es:List Ent}(h:EsOk es):Up 0 (flat es):=fc h.up h.pup h.plt
def belE (n:Nat)(es:List Ent):Nat:=tot (loE (n/256) es)+((plcE (n/256) es).filter λp=>decide (p<n%256)).length
theorem bel_flat {n:Nat}{es:List Ent}(h:EsOk es):((flat es).filter λx=>decide (x<n)).length=belE n es:=by
 have hs:=split (n/256) h.up;have f1:(flat (loE (n/256) es)).filter (λx=>decide (x<n))=flat (loE (n/256) es):=vM.mpr λx hx=>by
   obtain ⟨e,e1,e2,e3⟩:=(se λe he=>h.plt e (mU he).1).mp hx;have:=(mU e1).2;exact zK (by lia)
 have f3:(flat (hiE (n/256) es)).filter (λx=>decide (x<n))=[]:=uh.mpr λx hx=>by
   obtain ⟨e,e1,e2,e3⟩:=(se λe he=>h.plt e (qZ he).1).mp hx;have:=(qZ e1).2;simp;lia
 have f2:((flat (miE (n/256) es)).filter λx=>decide (x<n)).length=((plcE (n/256) es).filter λp=>decide (p<n%256)).length:=by
   rcases qc (n/256) h.up with z | ⟨e,z1,z2,z3⟩
   . unfold plcE;rw [z];rfl
   . unfold plcE;rw [z1];show ((e.ps.map (λp=>256*e.key+p)++[]).filter _).length=_;rw [zH,tW,za];refine congrArg List.length (rg λp hp=>?_);have:=h.plt e z3 p hp;show decide (256*e.key+p<n)=decide (p<n%256);exact wN.mpr ⟨λ_=>by lia,λ_=>by lia⟩
 have:((flat (loE (n/256) es++miE (n/256) es++hiE (n/256) es)).filter λx=>decide (x<n)).length=belE n es:=by rw [mR,mR,rj,rj,zj,zj,f1,f3,f2,uS];rfl
 rw [<- hs] at this;exact this
theorem ahs_ge:∀ (a:Nat) (es:List Ent) (x:Nat),x∈ahs a es->a<=x
 | _,[],_,h=>by cases h
 | a,e::r,x,h=>by
   rcases zW.mp (show x∈a::ahs (a+e.ps.length) r from h) with z | z
   . lia
   . have:=ahs_ge _ r x z;lia
theorem ahs_up:∀ (a:Nat) (es:List Ent),(∀ e∈es,e.ps≠[])->Up a (ahs a es)
 | _,[],_=>trivial
 | a,e::r,ne=>by
   have l0:0<e.ps.length:=List.length_pos_iff.mpr (ne e (.head _));exact ⟨zi _,(ahs_up (a+e.ps.length) r λe he=>ne e (.tail _ he)).mono (by lia)⟩
theorem qY:∀ (a:Nat) (es:List Ent) (k:Nat),a<=k->k<a+tot es->∃ (n:Nat) (e:Ent) (x p:Nat),((ahs a es).filter λy=>decide (y<=k)).length=n+1/\es[n]?=some e/\(ahs a es)[n]?=some x/\x<=k/\e.ps[k-x]?=some p/\(flat es)[k-a]?=some (256*e.key+p)
 | a,[],k,h1,h2=>by
   have:tot []=0:=rfl;lia
 | a,e :: r,k,h1,h2=>by
   have h2:k<a+(e.ps.length+tot r):=h2;have ea:ahs a (e::r)=a::ahs (a+e.ps.length) r:=rfl;have ef:flat (e::r)=e.ps.map (λp=>256*e.key+p)++flat r:=rfl;rw [ea,ef];by_cases hk:k<a+e.ps.length
   . have hl:k-a<e.ps.length:=by lia
     refine ⟨0,e,a,e.ps[k-a],?_,rfl,rfl,h1,zV hl,?_⟩
     . rw [w8,if_pos (zK h1)];rw [uh.mpr λy hy=>by
         have:=ahs_ge _ r y hy;simp only [vg];lia]
       rfl
     . rw [xS (by rw [za];exact hl),yR,zV hl];rfl
   . obtain ⟨n,e',x,p,h3,h4,h5,h6,h7,h8⟩:=qY (a+e.ps.length) r k (by lia) (by lia);refine ⟨n+1,e',x,p,?_,h4,h5,h6,h7,?_⟩
     . rw [w8,if_pos (zK h1),zZ,h3]
     . rw [y6 (by rw [za];lia),za,show k-a-e.ps.length=k-(a+e.ps.length) by lia];exact h8
end BM
namespace L2
open PySem PySem.Spec PyProof.Rows
theorem ObjOk.there {h:Heap}{a:Addr}{o:HO}(x:ObjOk P w H h a o):∃ u,h.get? a=some u:=by
 cases o with
 | lst xs=>obtain ⟨_,_,_,_,e⟩:=x;exact ⟨_,e⟩
 | tup xs=>obtain ⟨_,_,_,o,e,_⟩:=x;exact ⟨_,e⟩
 | dK kvs=>obtain ⟨_,_,_,_,o,_,_,e,_⟩:=x;exact ⟨_,e⟩
 | dT kvs=>obtain ⟨_,_,_,_,o,_,_,e,_⟩:=x;exact ⟨_,e⟩
 | set S n=>obtain ⟨o,_,_,_,e,_⟩:=x;exact ⟨_,e⟩
 | ins C dx fs=>obtain ⟨_,_,_,e,_⟩:=x;exact ⟨_,e⟩
 | own y=>obtain ⟨_,e⟩:=x;exact ⟨_,e⟩
 | xd fs=>obtain ⟨_,⟨_,_,_,e,_⟩,_⟩:=x;exact ⟨_,e⟩
 | rng lo hi=>obtain ⟨_,_,_,e⟩:=x;exact ⟨_,e⟩
 | frz ob u=>obtain ⟨e,_⟩:=x;exact ⟨_,e⟩
 | tbl ps=>exact ⟨_,show h.get? a=some _ from x⟩
 | met f y=>exact ⟨_,show h.get? a=some _ from x⟩
 | ext φ=>obtain ⟨_,⟨_,e⟩,_⟩:=x;exact ⟨_,e⟩
structure Cov (l:List Env)(h:Heap)(H:Hp)(B:Heap):Prop where
 old:∀ b o,h.get? b=some o->b∉frs l->∃ u,B.get? b=some u
 trk:∀ b u,H b=some u->∃ o,B.get? b=some o
section
variable {s:Shared}
theorem Inv.frStack (I:Inv X pins σ H s){b:Addr}{o:Obj}(e:X.s₀.heap.get? b=some o)(f:b∉X.fs):b∉frs X.stack:=λhb=>by
 rcases zW.mp (I.stkSub b hb) with z | z
 . exact absurd (zU e) (rL.mpr (by rw [z];exact I.ok.above))
 . exact f z
theorem Inv.landed {B:Heap}(I:Inv X pins σ H s)(hex:X.ex=[])(hB:B.StaysIn h')(hs:B.StaysIn s.heap)(c:Cov X.stack X.s₀.heap H B)(us:s.heap.UpToSlots h'):Un X.fs [] X.H₀ H X.s₀.heap h'/\HOk X.prog X.w H h':=by
 have same:∀ b o,s.heap.get? b=some o->(∃ u,B.get? b=some u)->h'.get? b=some o:=λb o e ⟨u,hu⟩=>by
   have:=hs b u hu;rw [e] at this;cases this;exact hB b _ hu
 have nx:∀ b:Addr,b∉X.ex:=λb hb=>by rw [hex] at hb;cases hb
 refine ⟨⟨λb o e n f _=>same b o (I.base.keep b o e n f (nx b)) (c.old b o e (I.frStack e f)),λb o e n f _=>?_,λb o e n _=>I.base.free b o e n (nx b),λb o e _=>?_,I.base.tups,I.base.frzs,I.base.tbls⟩,λa o e=>?_⟩;{obtain ⟨sl,h1⟩:=I.base.slot b o e n f (nx b);obtain ⟨_,o',ho',hd⟩:=I.funs.mem f;rw [h1] at ho';cases ho';obtain ⟨sl2,h2⟩:=us b _ h1 hd;exact ⟨sl2,h2⟩}
 . by_cases f:b∈X.fs
   . obtain ⟨_,o',ho',hd⟩:=I.funs.mem f;obtain ⟨sl,h2⟩:=us b o' ho' hd;exact ⟨_,h2⟩
   . obtain ⟨u,hu⟩:=c.old b o e (I.frStack e f);exact ⟨u,hB b u hu⟩
 . exact (I.hok a o e).stay (λb u hb q=>same b u q (hb.elim (λz=>by rw [z];exact c.trk a o e) λz=>c.trk b _ z)) (λ_ q=>q) λ_ _ q=>q
end
section
variable {f:Addr}{H0:Hp}{E:XK}
end
section
variable {f:Addr}{H0:Hp}{E:XK}
def tRaise (C:Addr)(E:XK)(te:TE):TS:=λ_ σ H=>te σ H λ_ H1=>E (.ref C) none H1
theorem fb:tRaise C E te D σ H=te σ H λ_ H1=>E (.ref C) none H1:=rfl
end
def XP (X:Cx)(pins:List (Addr × Obj))(σ:St)(W:Addr->Hp->Prop)(e:Value)(s':Shared):Prop:=∃ (ea C:Addr) (a0:Value) (B:Heap) (H':Hp),
 e=.ref ea/\Inv X pins σ H' s'/\Heap.FlyingW B X.stack ea (.ref C) a0 s'.heap/\Cov X.stack X.s₀.heap H' B/\(∀ p∈X.pn++pins,∃ o,B.get? p.1=some o)/\W C H'
section
variable {s:Shared}
theorem Inv.landed2 {B:Heap}(I:Inv X pins σ H s)(hex:X.ex=[])(hB:B.StaysIn h')(hs:B.StaysIn s.heap)(c:Cov X.stack X.s₀.heap H B)(hp:∀ p∈X.pn++pins,∃ o,B.get? p.1=some o)(us:s.heap.UpToSlots h'):Inv X pins σ H { s with heap:=h' }:=by
 obtain ⟨un,hok⟩:=I.landed hex hB hs c us;have cl:∀ {c:Addr} {v:Option Value},s.heap.IsCell c v->h'.IsCell c v:=λ{c v} ⟨o,ho,hd⟩=>by
   obtain ⟨sl,e⟩:=us c o ho λvs q=>by rw [hd] at q;cases q
   exact ⟨_,e,hd⟩
 refine ⟨I.ok,I.os,I.bare,by rw [hex];exact un,?_,λx c h=>let ⟨v,q⟩:=I.cell x c h;⟨v,cl q⟩,I.free,I.freeC,λp q=>?_,hok,I.len⟩;{obtain ⟨m,hn,hl⟩:=I.loc;refine ⟨m,us.ns hn,λi x v e1 e2 e3=>?_⟩;obtain ⟨u,r,l⟩:=hl i x v e1 e2 e3;exact ⟨u,r,l.elim (λz=>.inl z) λ⟨k,c,hc,q⟩=>.inr ⟨k,c,hc,cl q⟩⟩};{obtain ⟨e1,r⟩:=I.pin p q;obtain ⟨o,ho⟩:=hp p q;have:=hs _ _ ho;rw [e1] at this;cases this;exact ⟨hB _ _ ho,r⟩}
end
abbrev TX:=(Addr->St->Hp->Prop)->TS
section
variable {sts rest:List Stmt}{t u:TX}{pos:Pos}
end
def inEx (X:Cx)(ea:Addr)(oe:Obj):Cx:={ X with A:=X.A.mark (some (.ref ea)),calm:=false,pn:=(ea,oe)::X.pn,xe:=λ_ _=>False }
section
variable {s:Shared}{ea:Addr}{oe:Obj}
theorem Inv.inExc (I:Inv X pins σ H s)(e1:s.heap.get? ea=some oe)(e2:H ea=none)(n1:ea≠X.env.locals)(n2:ea∉X.fs)(n3:∀ v,oe.data≠.cell v):Inv (inEx X ea oe) pins σ H s :=
 ⟨⟨I.ok.mod,I.ok.kind,I.ok.glob,I.ok.blt,I.ok.above,I.ok.inj,I.ok.has,I.ok.cab,(λz=>by cases z),I.ok.frames,I.ok.stk,I.ok.exf,I.ok.bs,I.ok.bsz,I.ok.noex,I.ok.exfs,I.ok.funs,I.ok.frf⟩,I.os,I.bare,I.base,I.loc,I.cell,I.free,I.freeC,λp hp=>by
   rcases zR.mp hp with hp | hp
   . rcases zW.mp hp with rfl | hp
     . exact ⟨e1,e2,n1,n2,n3⟩
     . exact I.pin p (yF _ hp)
   . exact I.pin p (yf _ hp),I.hok,I.len⟩
theorem Inv.outExc (I:Inv (inEx X ea oe) pins σ H s)(ok:X.Ok):Inv X pins σ H s :=
 ⟨ok,I.os,I.bare,I.base,I.loc,I.cell,I.free,I.freeC,λp hp=>I.pin p (by
   rcases zR.mp hp with hp | hp
   . exact yF _ (.tail _ hp)
   . exact yf _ hp),I.hok,I.len⟩
end
def tFStr:TE:=λ_ H Q=>∀ z,Q (.str z) H
theorem pe_fstr {x g:Str}{j:Nat}{tk:Tok}{p1 p2 p3 pos:Pos}(hg:Gl X g)(hm:X.mg g=some (.int 65535 tk))(hx:x.length<=1000:=by decide)(hdb:(g==("__debug__":Str))=false:=by decide) :
   PE X (.JoinedStr [.Constant (.str x) j p1,.FormattedValue (.Name g p2) (-1) none p3] pos) tFStr:=by
 intro pins s σ H Q I h;refine JoinedStr_many (joinParts_cons (Calls.Constant_str ?_));have hxs:(Str.empty++x).length<=sizeLine:=by rw [oo];exact zO hx (by decide)
 refine ⟨hxs,?_⟩;show wpAny _ _ (joinParts (Str.empty++x) (eval (.FormattedValue (.Name g p2) (-1) none p3) X.env::[])) _ _ _;refine joinParts_cons (PyProof.Rows.FormattedValue_plain (vb (I.tok _) hg hm ?_ hdb));refine wpAny_formatField_int (by decide +kernel) ⟨?_,joinParts_nil ⟨.str _,H,I.kept λ_ _ e=>e,⟨_,rfl⟩,h _⟩ ?_⟩;{rw [strLen_append,oo];exact zO (Nat.add_le_add hx (show Str.length (toString (65535:Int):String)<=5 by decide +kernel)) (by decide)};{rw [strLen_append,oo];exact zO (Nat.add_le_add hx (show Str.length (toString (65535:Int):String)<=5 by decide +kernel)) (by decide)}
section
variable {f:Addr}{H0:Hp}{E:XK}
end
def tDSet (td ty tx:TE):TE:=λσ H Q=>td σ H λx H1=>∃ a,x=.ref a/\IsD H1 a/\ty σ H1 λy H2=>tx σ H2 λz H3=>∃ kvs k,H3 a=some (.dK kvs)/\y=kV k/\kvs.length<sizeLine /\
 (∀ v,valV kvs k=some v->Q v H3)/\(valV kvs k=none->Q z (upd H3 a (.dK (putK kvs k z))))
section
variable {o e f:Expr}{cpos:Pos}{td ty tx:TE}
theorem d_setDef {s:Shared}{a:Addr}{k:Key}{u r:Value}{z:V}(I:Inv X pins σ H s)(e:H a=some (.dK kvs))(ry:RelV (kV k) u)(rz:RelV z r)(hl:kvs.length<sizeLine)
   (h1:∀ v w' s',valV kvs k=some v->Inv X pins σ H s'->RelV v w'->Q w' s') (h2:valV kvs k=none->∀ s',Inv X pins σ (upd H a (.dK (putK kvs k z))) s'->Q r s') :
   wpAny (model X.prog X.w) A (call (.builtin "dict.setdefault") [.ref a,u,r]) Q E s:=by
 obtain ⟨zz,hd,vs,rel,dd⟩:=dk_of I.hok e;refine call_meetsIn lB dd.typeIs PySem.F.entry_dict_setdefault (PySem.F.args_dict_setdefault_3 _ _ _) (kt_meets_setdefault (mixKind X.prog X.w) a (kV_is ry) hd r) ⟨vs,dd,by rw [<- rel.length];exact zz,λv hv=>?_,λhn h' dd' hs=>?_⟩
 . have:=rel.val k;rw [hv] at this;cases l:valV kvs k with
   | none=>rw [l] at this;exact absurd this (by intro q;cases q)
   | some v' =>
     rw [l] at this;exact h1 v' v _ l (I.tok _) this
 . have l:valV kvs k=none:=by
     have:=rel.val k;rw [hn] at this;cases l:valV kvs k with
     | none=>rfl
     | some v'=>rw [l] at this;exact absurd this (by intro q;cases q)
   refine h2 l _ ?_;have he:∃ q,h'.get? a=some q:=let ⟨q,_,_,hq,_⟩:=dd';⟨q,hq⟩
   exact d_write I (by rw [e];exact True.intro) hs he (dk_new (by have:=cQ kvs k z;lia) hd (rel.put k rz) dd')
theorem pe_dset (ho:PE X o td)(he:PE X e ty)(hf:PE X f tx)(m:M2 X o "setdefault" apos e f cpos):PE X (.Call (.Attribute o "setdefault" apos) [e,f] [] cpos) (tDSet td ty tx):=by intro pins s σ H Q I h;refine wpAny_Call_method m.base m.few m.line kr lB PySem.F.type_dict_setdefault (thn (ho pins s σ H _ I h) λu s1 hq=>?_);obtain ⟨x,H1,I1,rx,a,ex,d,q1⟩:=hq;subst ex;obtain rfl:u=Value.ref a:=rx;obtain ⟨t1,t2,_⟩:=isD_at I1 d;refine ⟨t1,t2,?_⟩;rw [m.trees];refine sM rfl (o6 (vt (thn (he pins s1 σ H1 _ I1 q1) λiv s2 hq=>?_)));obtain ⟨y,H2,I2,ry,q2⟩:=hq;refine vt (thn (hf pins s2 σ H2 _ I2 q2) λfv s3 hq=>uu ?_);obtain ⟨z,H3,I3,rz,kvs,k,ea,ey,hl,q3,q4⟩:=hq;subst ey;exact d_setDef I3 ea ry rz hl (λv w' s4 l I4 rw'=>⟨v,H3,I4,rw',q3 v l⟩) λl s4 I4=>⟨z,_,I4,rz,q4 l⟩
end
end L2
namespace ZL
open PySem
section
variable {s:Shared}
theorem alive {M:Model}{a:Addr}{Q:Option Obj->Shared->Prop}(h:Q (s.heap.get? a) s):wpAny M A (loadIfAlive a) Q E s:=λ_ _ _=>h
end
end ZL
namespace L2
open PySem PySem.Spec PyProof.Rows
section
variable {s:Shared}
end
def PrOf (H:Hp)(us:List V)(ps:List (V × V)):Prop:=Paired (λv p=>∃ t:Addr,v=.ref t/\H t=some (.tup [p.1,p.2])) us ps
def lay (L:List (Addr × HO))(H:Hp):Hp:=λb=>match L.lookup b with
 | some o=>some o
 | none=>H b
theorem lay_cons {L:List (Addr × HO)}{b:Addr}{o:HO}:lay ((b,o)::L) H b=some o:=by unfold lay;rw [xO,BEq.rfl]
def tLZip (K:zh)(ta:TA):TE:=λσ H Q=>ta σ H λvs H1=>∃ a b xs ys,vs=[.ref a,.ref b]/\SqL K H1 a xs/\SqL K H1 b ys/\xs.length=ys.length/\∀ (p:Addr) (us:List V) (H2:Hp),Same H1 H2->H1 p=none->H2 p=some (.lst us)->PrOf H2 us (xs.zip ys)->(∀ t,V.ref t∈us->H1 t=none)->Q (.ref p) H2
section
variable {a b:Expr}{ta:TA}{p p' pos:Pos}
end
def rSlS:V->Option Int->Option Int->Hp->VK->Prop:=λx lo hi H Q=>∃ z,x=.str z/\z.length<=sizeLine/\Q (.str (Txt.slice z lo hi)) H
theorem sl_str:SlR X rSlS:=by
 intro pins s σ H x v vl vu lo hi sl Q I rx hs pl pu h;obtain ⟨z,rfl,hz,q⟩:=h;obtain ⟨t,rfl⟩:=rx;have fin:∀ t' k,EP X pins σ Q (.str (Txt.slice z lo hi) t') { s with toks:=k }:=λt' k=>⟨.str (Txt.slice z lo hi),H,I.tok _,⟨_,rfl⟩,q⟩
 have le:=zO (Txt.slice_le z lo hi) hz;refine ⟨"str",_,PySem.F.slot_str_getitem.lookup,typeIs_str _ _ _,?_⟩;cases pl with
 | none =>
   cases pu with
   | none=>exact uM (l:=none) (u:=none) (st:=none) hs rfl (sI ⟨le,fin⟩)
   | int j uj=>exact uM (l:=none) (u:=some (j,uj)) (st:=none) hs rfl (sI ⟨le,fin⟩)
 | int i ui =>
   cases pu with
   | none=>exact uM (l:=some (i,ui)) (u:=none) (st:=none) hs rfl (sI ⟨le,fin⟩)
   | int j uj=>exact uM (l:=some (i,ui)) (u:=some (j,uj)) (st:=none) hs rfl (sI ⟨le,fin⟩)
section
variable {R:Result->Shared->Prop}{I S:Addr}{wr:List Addr}{n:Nat}{P:Nat->Value->Prop}{St:Nat->Heap->Prop}
end
section
variable {s:Shared}
end
section
variable {x:Str}{p pos:Pos}{e:Expr}{kws:List Keyword}{ks:List Str}{t tk:TA}{id:String}{r:List V->List V->Hp->VK->Prop}
def tCBK (r:List V->List V->Hp->VK->Prop)(t tk:TA):TE:=λσ H Q=>t σ H λvs H1=>tk σ H1 λzs H2=>r vs zs H2 Q
def rMaxD (K:zh):List V->List V->Hp->VK->Prop:=λxs zs H Q=>∃ (p:Addr) (ns:List Int) (d:Int),xs=[.ref p]/\zs=[.int d]/\SqL K H p (ns.map V.int)/\Q (.int (ns.max?.getD d)) H
end
section
variable {x:Str}{p pos:Pos}
end
def New (H H':Hp):Hp:=λa=>match H a with | none=>H' a | some _=>none
theorem New.of {a:Addr}{o:HO}(h:H a=none)(e:H' a=some o):New H H' a=some o:=by unfold New;rw [h];exact e
theorem New.some {H H':Hp}{a:Addr}{o:HO}(h:New H H' a=some o):H a=none/\H' a=some o:=by
 unfold New at h;split at h
 . rename_i e
   exact ⟨e,h⟩
 . cases h
section
variable {a:Addr}{m:Nat}{Q:VK}
theorem compA (Rl:Nat->V->Hp->Prop)(mono:∀ i y H H',Same H H'->Rl i y H->Rl i y H')(hS:SqL K H1 a xs)(hn:xs.length<=1000000)
   (he:∀ i x H2 (R:VK),xs[i]?=some x->Same H1 H2->(∀ y H3,Same H2 H3->Rl i y (New H2 H3)->R y H3)->te ((capSt m caps σ).set 0 (some x)) H2 R)
   (hq:∀ D ys H2,H1 D=none->Same H1 H2->H2 D=some (.lst ys)->ys.length=xs.length->(∀ j y,ys[j]?=some y->Rl j y (del (New H1 H2) D))->Q (.ref D) H2):CompJ (Itl K a) m caps (gName 0) tNoTest te σ H1 Q:=by
 refine compG (n:=xs.length) (λD i ys H2=>i<=xs.length/\Same H1 H2/\H2 D=some (.lst ys)/\ys.length=i/\∀ j y,ys[j]?=some y->Rl j y (del (New H1 H2) D)) (λD hD=>⟨zS _,Same.new hD,zm,rfl,λj y h=>by cases h⟩) (λD i ys H2 h=>h.1)
   (λD ys H2 hD h=>⟨xs,h.2.1.seq hS,zi _⟩) (λD i ys H2 hD hi h=>⟨xs,_,h.2.1.seq hS,zV hi⟩) ?_ (λD ys H2 hD h=>hq D ys H2 hD h.2.1 h.2.2.1 h.2.2.2.1 h.2.2.2.2)
 rintro D i ys H2 x H3 hD hi ⟨_,s2,h2,rfl,h3⟩ ⟨rfl,y⟩;have hx:=y xs (s2.seq hS);rw [gName,tNoTest];rw [if_pos rfl];refine he _ x H3 _ hx s2 λz H4 s4 rz=>compYes hn hi (zi _) (s4 _ _ h2) ⟨hi,(s2.trans s4).put hD,zm,by rw [zj];rfl,λj y hj=>?_⟩
 by_cases hl:j<ys.length;{rw [xS hl] at hj;refine mono _ _ _ _ (λb o hb=>?_) (h3 j y hj);obtain ⟨n1,e1⟩:=vT hb;obtain ⟨e1,e2⟩:=New.some e1;rw [wb n1];refine New.of e1 ?_;rw [zo n1];exact s4 _ _ e2}
 . rw [y6 (by lia)] at hj;have e0:j-ys.length=0:=by
     have:=(yT.mp hj).1;simp at this;lia
   rw [e0] at hj;cases hj;have e1:j=ys.length:=by lia
   subst e1;refine mono _ _ _ _ (λb o hb=>?_) rz;obtain ⟨e1,e2⟩:=New.some hb;have n1:b≠D:=λz=>by rw [z,h2] at e1;cases e1
   rw [wb n1];refine New.of ?_ ?_
   . cases e:H1 b with
     | none=>rfl
     | some o=>rw [s2 _ _ e] at e1;cases e1
   . rw [zo n1];exact e2
end
section
variable {s:Shared}{p:Addr}{o:Obj}
theorem Inv.swap {u u':HO}(I:Inv X pins σ H s)(hp:H p=some u)(ok:ObjOk X.prog X.w H s.heap p u')(n1:∀ xs,u≠.tup xs)(n2:∀ x,u≠.own x)(n3:∀ ps,u≠.tbl ps)(nf:∀ o v,X.H₀ p≠some (.frz o v)):Inv X pins σ (upd H p u') s:=by
 have np:∀ b o,H b=some o->o≠u->upd H p u' b=some o:=λb o e n=>by
   rw [zo λz=>by rw [z,hp] at e;cases e;exact n rfl];exact e
 have nn:∀ b,H b=none->upd H p u' b=none:=λb e=>by
   rw [zo λz=>by rw [z,hp] at e;cases e];exact e
 refine ⟨I.ok,I.os,I.bare,⟨I.base.keep,I.base.slot,λb o e n x=>nn b (I.base.free b o e n x),I.base.there,λb ys e=>np b _ (I.base.tups b ys e) (n1 _).symm,λb o v e=>?_,λb ps e=>?_⟩,I.loc,I.cell,nn _ I.free,λx c h=>nn _ (I.freeC x c h),λq hq=>?_,λa o e=>?_,I.len⟩;{have z:=I.base.frzs b o v e;rw [zo λz=>by rw [z] at e;exact nf _ _ e];exact z};{obtain ⟨more,e⟩:=I.base.tbls b ps e;exact ⟨more,np b _ e (n3 _).symm⟩};{obtain ⟨e1,e2,r⟩:=I.pin q hq;exact ⟨e1,nn _ e2,r⟩}
 . by_cases z:a=p
   . subst z;rw [zm] at e;cases e;exact ok.stay (λ_ _ _ q=>q) (λb q=>np b _ q (n2 _).symm) λb ys q=>np b _ q (n1 _).symm
   . rw [zo z] at e;exact (I.hok a o e).stay (λ_ _ _ q=>q) (λb q=>np b _ q (n2 _).symm) λb ys q=>np b _ q (n1 _).symm
theorem Inv.nofrz (I:Inv X pins σ H s)(hp:H p=some (.dK kvs)):∀ o v,X.H₀ p≠some (.frz o v):=λo v e=>by
 have:=I.base.frzs p o v e;rw [hp] at this;cases this
theorem Inv.freeze (I:Inv X pins σ H s)(hp:H p=some (.dK kvs))(ho:s.heap.get? p=some o):Inv X pins σ (upd H p (.frz o (.dK kvs))) s :=
 I.swap hp ⟨ho,I.hok _ _ hp⟩ (λ_ z=>by cases z) (λ_ z=>by cases z) (λ_ z=>by cases z) (I.nofrz hp)
theorem Inv.thaw (I:Inv X pins σ H s)(hp:H p=some (.frz o (.dK kvs)))(nf:∀ o v,X.H₀ p≠some (.frz o v)):Inv X pins σ (upd H p (.dK kvs)) s :=
 I.swap hp (I.hok _ _ hp).2 (λ_ z=>by cases z) (λ_ z=>by cases z) (λ_ z=>by cases z) nf
end
def sThaw (t:TS):TS:=λD σ H=>∃ p kvs,H p=some (.dK kvs)/\t { nx:=λσ' H'=>∃ o,H' p=some (.frz o (.dK kvs))/\D.nx σ' (upd H' p (.dK kvs)),rt:=λv H'=>∃ o,H' p=some (.frz o (.dK kvs))/\D.rt v (upd H' p (.dK kvs)),bk:=λσ' H'=>∃ o,H' p=some (.frz o (.dK kvs))/\D.bk σ' (upd H' p (.dK kvs)),ct:=λσ' H'=>∃ o,H' p=some (.frz o (.dK kvs))/\D.ct σ' (upd H' p (.dK kvs)) } σ H
theorem ps_thaw {t:TS}(h:PS X st t):PS X st (sThaw t):=by
 intro pins s σ H D I q;obtain ⟨p,kvs,hp,q⟩:=q;have nf:=I.nofrz hp;refine thn (h pins s σ H _ I q) λf s1 hq=>?_
 cases f with
 | next =>
   obtain ⟨σ',H1,I1,o,h1,q1⟩:=hq;exact ⟨σ',_,I1.thaw h1 nf,q1⟩
 | brk =>
   obtain ⟨σ',H1,I1,o,h1,q1⟩:=hq;exact ⟨σ',_,I1.thaw h1 nf,q1⟩
 | cont =>
   obtain ⟨σ',H1,I1,o,h1,q1⟩:=hq;exact ⟨σ',_,I1.thaw h1 nf,q1⟩
 | ret u =>
   obtain ⟨v,σ',H1,I1,r1,o,h1,q1⟩:=hq;exact ⟨v,σ',_,I1.thaw h1 nf,r1,q1⟩
theorem key_rel {k:Key}{u:Value}(h:keyIs k u=true):RelV (kV k) u:=by
 rcases wL h with ⟨i,t,rfl,rfl⟩ | ⟨x,t,rfl,rfl⟩
 . exact ⟨t,rfl⟩
 . exact ⟨t,rfl⟩
end L2
namespace L2
open PySem
end L2
namespace L2
open PySem PySem.Spec PyProof.Rows
section
variable {h:Heap}{g:Array GenState}{d:Drawn}{t:Nat}{os:OsState}
variable {nm q:Str}{N:Addr}{bs bm bmB:List Value}{hdc:Bool}{sn:List Str}{sub:List Value}{ab:Bool}{col:Option Bool}{dd:Option Addr}{k0 k1 k2 k3 k5:Option Value}{B Bn newId nid initId inN:String}{bmN:List Value}
abbrev excB (C t:Addr):Obj:={ cls:=.ref C,data:=.fields #[.ref t,.none,.none,.none,.bool false,.none] }
end
section
variable {x:Str}{e:Expr}{j:Nat}{p1 p3 pos:Pos}
end
end L2
namespace L2
open PySem PySem.Spec PyProof.Rows Builtin Builtin.ObjectAttr PySem.W
abbrev excD (C t dx:Addr):Obj:={ excB C t with dict:=some dx }
section
variable {s:Shared}{K:Frag}{e ta dx:Addr}{name:Str}{v:Value}
end
end L2
namespace L2
open PySem PySem.Spec PyProof.Rows
def excH (e C dx:Addr):HO:=.ext λh=>∃ t,h.get? e=some (excD C t dx)
section
variable {o value:Expr}{f:Str}{ta tv:TE}{pos:Pos}
end
inductive KD {α:Type}:Sem α->Prop
 | pure (a:α):KD (.pure a)
 | uns (w:String):KD (.unsupported w)
 | at (p:Pos) {k:Unit->Sem α} (h:∀ u,KD (k u)):KD (.at p k)
 | load (a:Addr) (q:Option Value) {k:Obj->Sem α} (h:∀ o,KD (k o)):KD (.load a q k)
 | upd (a:Addr) (q:Option Value) {f:Obj->Obj} {k:Unit->Sem α} (hf:∀ o,(f o).dict=o.dict/\(o.data≠.freed->(f o).data≠.freed)) (h:∀ u,KD (k u)):KD (.update a q f k)
 | alive (a:Addr) {k:Option Obj->Sem α} (h:∀ o,KD (k o)):KD (.loadIfAlive a k)
 | alloc (o:Obj) {k:Addr->Sem α} (h:∀ a,KD (k a)):KD (.alloc o k)
 | ask {k:Setting->Sem α} (h:∀ a,KD (k a)):KD (.ask k)
 | stack {k:List (Code × Pos)->Sem α} (h:∀ a,KD (k a)):KD (.stack k)
 | thread {k:Nat->Sem α} (h:∀ a,KD (k a)):KD (.thread k)
section
variable {α β:Type}
theorem ym {m:Sem α}{f:α->Sem β}(h:KD m)(g:∀ a,KD (f a)):KD (m >>= f):=by
 show KD (m.bind f);induction h with
 | pure a=>exact g a
 | uns w=>exact .uns w
 | «at» p h ih=>exact .at p λu=>ih u
 | load a q h ih=>exact .load a q λu=>ih u
 | upd a q hf h ih=>exact .upd a q hf λu=>ih u
 | alive a h ih=>exact .alive a λu=>ih u
 | alloc o h ih=>exact .alloc o λu=>ih u
 | ask h ih=>exact .ask λu=>ih u
 | stack h ih=>exact .stack λu=>ih u
 | thread h ih=>exact .thread λu=>ih u
def DictAt (h:Heap)(e:Addr)(d:Option Addr):Prop:=∃ o,h.get? e=some o/\o.dict=d
theorem DictAt.push {h:Heap}{e:Addr}{d:Option Addr}{o:Obj}(x:DictAt h e d):DictAt (h.push o) e d:=let ⟨u,e1,e2⟩:=x;⟨u,zT _ e1,e2⟩
theorem get_data {h:Heap}{e:Addr}{o:Obj}(x:h.get? e=some o):o.data≠.freed:=λz=>by
 unfold Heap.get? at x;split at x;{cases x}
 . rename_i hn
   obtain ⟨c,dd,da,sl⟩:=o;cases z;exact hn c dd sl x
theorem DictAt.upd {h:Heap}{e a:Addr}{d:Option Addr}{f:Obj->Obj}(x:DictAt h e d)(hf:∀ o,(f o).dict=o.dict/\(o.data≠.freed->(f o).data≠.freed)):DictAt (h.update a f) e d:=by
 obtain ⟨u,e1,e2⟩:=x;by_cases c:a=e;{subst c;have nf:=(hf u).2 (get_data e1);refine ⟨f u,uJ f e1 ?_,(hf u).1.trans e2⟩;generalize f u=z at nf;obtain ⟨c,dd,da,sl⟩:=z;cases da<;>first | (exact absurd rfl nf) | rfl};{exact ⟨u,(uL _ _ c).trans e1,e2⟩}
theorem wp_kd {M:Model}{Γ:PySem.Ctx}{e:Addr}{d:Option Addr}{t:Sem α}(k:KD t){Q:α->Pos->Shared->Prop}{E:Value->Pos->Shared->Prop}{p:Pos}{s:Shared}(h:Sem.wp M Γ t Q E p s)(x:DictAt s.heap e d) :
   Sem.wp M Γ t (λa p s'=>Q a p s'/\DictAt s'.heap e d) (λv p s'=>E v p s'/\DictAt s'.heap e d) p s:=by
 induction k generalizing p s with
 | pure a=>rw [Sem.wp_pure] at h ⊢;exact ⟨h,x⟩
 | uns w=>rw [Sem.wp_unsupported] at h;exact h.elim
 | «at» q hk ih=>rw [Sem.wp_at] at h ⊢;exact ih () h x
 | load a q hk ih =>
   rw [Sem.wp_load] at h ⊢;obtain ⟨o,h1,h2⟩:=h;exact ⟨o,h1,ih o h2 x⟩
 | upd a q hf hk ih =>
   rw [Sem.wp_update] at h ⊢;exact ⟨h.1,ih () h.2 (x.upd hf)⟩
 | alive a hk ih=>rw [Sem.wp_loadIfAlive] at h ⊢;exact ih _ h x
 | alloc o hk ih=>rw [Sem.wp_alloc] at h ⊢;exact ih _ h x.push
 | ask hk ih=>rw [Sem.wp_ask] at h ⊢;exact ih _ h x
 | stack hk ih=>rw [Sem.wp_stack] at h ⊢;exact ih _ h x
 | thread hk ih=>rw [Sem.wp_thread] at h ⊢;exact ih _ h x
theorem sd {M:Model}{e:Addr}{d:Option Addr}{t:Sem α}(k:KD t){Q:α->Shared->Prop}{s:Shared}(h:wpAny M A t Q E s)(x:DictAt s.heap e d) :
   wpAny M A t (λa s'=>Q a s'/\DictAt s'.heap e d) (λv s'=>E v s'/\DictAt s'.heap e d) s:=fun Γ p hΓ=>wp_kd k (h Γ p hΓ) x
end
theorem mQ (a:Addr):KD (load a):=.load a none .pure
theorem mP:KD stack:=.stack .pure
theorem bF (v:Value):KD (fieldsOf v):=by
 unfold fieldsOf;split
 . refine ym (mQ _) λo=>?_
   split;{exact .pure _};{exact .uns _}
 . exact .uns _
theorem qX (v:Value)(i:Nat):KD (field v i):=by
 unfold field;refine ym (bF v) λa=>?_
 split;{exact .pure _};{exact .uns _}
theorem bE {f:Array Value->Array Value}(o:Obj):(Obj.mapFields f o).dict=o.dict/\(o.data≠.freed->(Obj.mapFields f o).data≠.freed):=by obtain ⟨c,d,da,sl⟩:=o;cases da<;>exact ⟨rfl,λh=>by first | exact h | (intro z;cases z)⟩
theorem mO (v:Value)(i:Nat)(x:Value):KD (setField v i x):=by
 unfold setField;split
 . unfold updateField;refine ym (mQ _) λo=>?_
   split
   . split
     . exact .upd _ _ bE .pure
     . exact .uns _
   . exact .uns _
 . exact .uns _
theorem mM (v:Value)(f:Option Addr):KD (setFlight v f):=by
 unfold setFlight;refine ym (qX v 1) λa=>?_
 split;{exact mO _ _ _};{exact .pure _}
theorem kd_back (env:Env)(b:Bool)(l:List Env):KD (keptBack env b l):=by
 unfold keptBack;split
 . split
   . exact .pure _
   . unfold underTheClaimsCaller;exact ym (ym mP λ_=>.pure _) λ_=>.pure _
 . exact .pure _
theorem bD (env:Env)(l:List Env):KD (behindIsImport env l):=by
 unfold behindIsImport;split;{exact .pure _}
 . split
   . exact .pure _
   . exact ym (qX _ _) λ_=>.pure _
theorem fZ:∀ l:List Env,KD (readyFrames l)
 | []=>.pure _
 | env::outer=>by
   unfold readyFrames;split
   . refine ym (mQ _) λo=>?_
     split;{exact .pure _};{exact ym (bD _ _) λ_=>ym (kd_back _ _ _) λ_=>ym (.upd _ _ (λo=>⟨rfl,λh=>h⟩) .pure) λ_=>fZ outer}
   . exact .uns _
theorem bC (env:Env):KD (PySem.frameOf env):=by
 unfold PySem.frameOf frameEnvs;refine ym (ym mP λ_=>.pure _) λl=>ym ?_ λr=>?_
 . unfold frameObject;split
   . exact .pure _
   . exact ym (fZ _) λ_=>.pure _
 . split
   . exact .pure _
   . exact .uns _
theorem kd_place (f:Addr)(b:Bool):KD (entryPlaceOf f b):=by
 unfold entryPlaceOf;refine ym mP λl=>?_
 split<;>exact .pure _
theorem kd_entry (a b c d e:Value)(l:List Value):KD (EntryCells.newEntry a b c d e l):=by
 unfold EntryCells.newEntry newFields newObj newObjAsIs;generalize ([a,b,c,d,e]++if l.isEmpty=true then List.replicate 6 Value.none else l)=zs;have j:∀ u:Unit,KD (do
     let z <- PySem.alloc { cls:=Value.type "traceback",data:=Data.fields zs.toArray }
     pure (Value.ref z)):=λ_=>ym (.alloc _ .pure) λ_=>.pure _
 dsimp only;split;{exact ym (.uns _) λr=>j r};{exact j ()}
theorem fY (e:Value) (env:Env):KD (noteFrame e env):=by
 unfold noteFrame;split
 . refine ym (qX _ _) λh=>?_
   have j:∀ (u:Unit) (f:Addr),KD (do
       let a <- PySem.frameOf env
       let b <- entryPlaceOf f (h != Value.none)
       let c <- EntryCells.newEntry h a Value.none (rawInt f) Value.none b
       setField e 1 c):=λ_ f=>ym (bC _) λ_=>ym (kd_place _ _) λ_=>ym (kd_entry _ _ _ _ _ _) λ_=>mO _ _ _
   dsimp only;split
   . refine ym (qX _ _) λg=>?_
     split;{exact .pure _};{exact ym (mO _ _ _) λr=>j r _}
   . exact j () _
 . exact .uns _
theorem fX (e:Value)(env:Env):KD (leaving env e):=by unfold leaving;exact ym (fY _ _) λ_=>mM _ _
section
variable {s:Shared}{p:Addr}{φ:Heap->Prop}
end
def CXD (P:Program)(w:World):CXT:=λouter H s E e s'=>∃ (ea C:Addr) (a0:Value) (B:Heap) (H':Hp) (dx:Option Addr),
 e=.ref ea/\s'.os=s.os/\AllBare s'.gens/\Un (frs outer) [] H H' s.heap s'.heap/\HOk P w H' s'.heap/\Heap.FlyingW B outer ea (.ref C) a0 s'.heap/\Cov outer s.heap H' B/\DictAt s'.heap ea dx/\E (.ref C) dx H'
section
variable {f:Addr}{H0:Hp}{E:XK}
theorem passD:Passes (CXD P w) (cxOf (CXD P w) P w K mg base N qual scope f cd A outer s0 H0 E) E:=by
 rintro pins σ H s e s' I ⟨ea,C,a0,B,H',dx,rfl,os,bare,un,hok,fl,c,dd,q⟩;have I':Inv (cxOf (CXD P w) P w K mg base N qual scope f cd A outer s0 H0 E) pins σ H' s':=I.call' os un hok bare λb hb=>nomatch hb
 have c':Cov (envOfC qual scope s0.heap.objs.size f cd::outer) s0.heap H' B:=⟨λb o e n=>by
   obtain ⟨o',e'⟩:=I.base.there b o e (λz=>nomatch z);exact c.old b o' e' n,c.trk⟩
 have go:=sd (fX (.ref ea) (envOfC qual scope s0.heap.objs.size f cd)) (wpAny_leaves_onW (M:=model P w) (E:=λ_ _=>False) (Q:=λ_ s2=>∃ h',s2={ s' with heap:=h' }/\Heap.FlyingW B outer ea (.ref C) a0 h'/\s'.heap.UpToSlots h') I.ok.frames rfl fl λh' fl' us=>⟨h',rfl,fl',us⟩) dd;refine yY go (λ_ s2 z=>?_) λ_ _ z=>z.1.elim
 obtain ⟨⟨h',rfl,fl',us⟩,d2⟩:=z;obtain ⟨un',hok'⟩:=I'.landed rfl fl'.1 fl.1 c' us;exact ⟨ea,C,a0,B,H',dx,rfl,I'.os,bare,un',hok',fl',⟨λb o e n=>c'.old b o e (I.frStack e n),c'.trk⟩,d2,q⟩
end
section
variable {f:Addr}{H0:Hp}{E:XK}
abbrev cxD (P:Program)(w:World)(K:zh)(mg:Str->Option Value)(base:Heap)(N:List Str)(qual:Str)(scope:Scope)(f:Addr)(cd:Value)(A:Around)(outer:List Env)(s0:Shared)(H0:Hp)(E:XK):Cx:=cxOf (CXD P w) P w K mg base N qual scope f cd A outer s0 H0 E
def tRaiseX (C:Addr)(sp:Sp)(E:XK)(t:TA):TS:=λ_ σ H=>t σ H λvs H1=>vs.length<=1000/\∀ ea,H1 ea=none->sp (.ref ea::vs) (upd H1 ea (excO ea C)) (λv H2=>v=.non/\∃ dx,H2 ea=some (excH ea C dx)/\E (.ref C) (some dx) (del H2 ea)) E0
end
def FnR (P:Program)(w:World)(K:zh)(mg:Str->Option Value)(base:Heap)(x:Str)(ps:List Str)(k:Nat)(sp:Sp):Prop :=
 ∃ f fd,FnOk P w K mg base (CXD P w) k f fd ps sp/\mg x=some (.ref f)/\PySem.W.keepIn K (.ref f)=true/\Binds K fd ps []
section
theorem FnR.of {x:Str}{k:Nat}(d:DefAt K mg x st ps)(S:FnScope N ps (defScope st))(len:∀ vs H Q E,sp vs H Q E->vs.length=ps.length)
   (hbody:∀ (f:Addr) (cdv:Value) (A:Around) (outer:List Env) (s:Shared) (H:Hp) (vs:List V) (Q:VK) (E:XK),Room k (A.deeper (envOfC x (defScope st) s.heap.objs.size f cdv))->sp vs H Q E ->
     ∃ t,PSs (cxD P w K mg base N x (defScope st) f cdv A outer s H E) (defBody st) t/\t { nx:=λ_ H'=>Q .non H',rt:=Q } (start N vs) H):FnR P w K mg base x ps (k+1) sp:=by
 obtain ⟨f,fd,F,m,b⟩:=d;have kp:=F.kp;obtain ⟨oc,od,kV,doc,pm,an,cdv,ct,osl,rfl,lk,hcd⟩:=F.ex;exact ⟨f,_,fn_of lk hcd S len (hbody f cdv),m,kp,b⟩
theorem FnOk.calmD {k:Nat}{f:Addr}(F:FnOk P w K mg base (CXD P w) k f fd ps sp):FnOk P w K mg base CX0 k f fd ps (λvs H Q _=>sp vs H Q E0) :=
 ⟨λvs H Q _ h=>F.len vs H Q E0 h,λA outer s H args us vs Q _ hr he hb hv hs=>wH (F.run A outer s H args us vs Q E0 hr he hb hv hs) λr s' hq=>by
   cases r with
   | error e=>obtain ⟨_,_,_,_,_,_,_,_,_,_,_,_,_,_,q⟩:=hq;exact q.elim
   | ok fl=>cases fl<;>exact hq⟩
theorem FnR.calm {x:Str}{k:Nat}(h:FnR P w K mg base x ps k sp):FnAt P w K mg base x ps k (λvs H Q _=>sp vs H Q E0):=by obtain ⟨f,fd,F,m,kp,b⟩:=h;exact ⟨f,fd,F.calmD,m,kp,b⟩
variable {f:Addr}{H0:Hp}{E:XK}
theorem fW {x:Str}{k:Nat}{e:Expr}{t:TA}{p pos:Pos}(F:FnR P w K mg base x ps k sp)(hr:Room k (A.deeper (envOfC qual scope s0.heap.objs.size f cd)))(hg:Gl (cxD P w K mg base N qual scope f cd A outer s0 H0 E) x)(ha:PA (cxD P w K mg base N qual scope f cd A outer s0 H0 E) (e::es) t)
   (hdb:(x==("__debug__":Str))=false:=by decide) (he:starEach (e::es) (envOfC qual scope s0.heap.objs.size f cd)=(false,eval e (envOfC qual scope s0.heap.objs.size f cd))::starEach es (envOfC qual scope s0.heap.objs.size f cd):=by rfl) (hpl:(backTo pos (starEach es (envOfC qual scope s0.heap.objs.size f cd))).any (·.1)=false:=by rfl) :
   PE (cxD P w K mg base N qual scope f cd A outer s0 H0 E) (.Call (.Name x p) (e::es) [] pos) (tCall sp [] E t):=by
 obtain ⟨f',fd,F,m,kp,b⟩:=F;exact ip F hr hg m kp b .nil passD ha hdb he hpl
end
def XPD (X:Cx)(pins:List (Addr × Obj))(σ:St)(W:Addr->Option Addr->Hp->Prop)(e:Value)(s':Shared):Prop:=∃ (ea C:Addr) (a0:Value) (B:Heap) (H':Hp) (dx:Option Addr),
 e=.ref ea/\Inv X pins σ H' s'/\Heap.FlyingW B X.stack ea (.ref C) a0 s'.heap/\Cov X.stack X.s₀.heap H' B/\(∀ p∈X.pn++pins,∃ o,B.get? p.1=some o)/\DictAt s'.heap ea dx/\W C dx H'
abbrev WX:=Addr->Option Addr->Hp->Prop
def PEX (X:Cx)(e:Expr)(t:WX->TE):Prop :=
 ∀ (pins:List (Addr × Obj)) (s:Shared) (σ:St) (H:Hp) (Q:VK) (W:WX),Inv X pins σ H s->t W σ H Q->wpAny (model X.prog X.w) X.A (eval e X.env) (EP X pins σ Q) (XPD X pins σ W) s
abbrev TXD:=(Addr->Option Addr->St->Hp->Prop)->TS
def PXD (X:Cx)(st:Stmt)(t:TXD):Prop :=
 ∀ (pins:List (Addr × Obj)) (s:Shared) (σ:St) (H:Hp) (D:Ends) (W:Addr->Option Addr->St->Hp->Prop),Inv X pins σ H s->t W D σ H->wpAny (model X.prog X.w) X.A (exec st X.env) (SP X pins D) (λe s'=>∃ σ',XPD X pins σ' (λC dx=>W C dx σ') e s') s
def PXDs (X:Cx)(sts:List Stmt)(t:TXD):Prop :=
 ∀ (pins:List (Addr × Obj)) (s:Shared) (σ:St) (H:Hp) (D:Ends) (W:Addr->Option Addr->St->Hp->Prop),Inv X pins σ H s->t W D σ H->wpAny (model X.prog X.w) X.A (execs sts X.env) (SP X pins D) (λe s'=>∃ σ',XPD X pins σ' (λC dx=>W C dx σ') e s') s
section
variable {s:Shared}{k:Nat}{f:Addr}
theorem Inv.toXPD {E:XK}{W:WX}{e:Value}{s':Shared}(I:Inv X pins σ H s)(hex:X.ex=[])(q:CXD X.prog X.w X.stack H s E e s')(hW:∀ C dx H',E (.ref C) dx H'->W C dx H'):XPD X pins σ W e s':=by
 obtain ⟨ea,C,a0,B,H',dx,rfl,os,bare,un,hok,fl,c,dd,q⟩:=q;refine ⟨ea,C,a0,B,H',dx,rfl,I.call' os un hok bare (λb hb=>(nomatch hb)),fl,⟨λb o e n=>?_,c.trk⟩,λp hp=>?_,dd,hW C dx H' q⟩;{obtain ⟨o',e'⟩:=I.base.there b o e (λz=>by rw [hex] at z;cases z);exact c.old b o' e' n}
 . obtain ⟨e1,_,n1,n2,_⟩:=I.pin p hp;refine c.old p.1 _ e1 λhm=>?_
   rcases zW.mp (I.stkSub _ hm) with z | z
   . exact n1 z
   . exact n2 z
def eW (W:WX):XK:=λcls dx H3=>∃ C',cls=.ref C'/\W C' dx H3
theorem run_fnX {Q:VK}{W:WX}(hex:X.ex=[])(F:FnOk X.prog X.w X.K X.mg X.base (CXD X.prog X.w) k f fd ps sp)(hr:Room k X.A)(hb:Binds X.K fd ps [])(I:Inv X pins σ H s)(r:Vals vs us)(h:sp vs H Q (eW W)):wpAny (model X.prog X.w) X.A (call (.ref f) us) (EP X pins σ Q) (XPD X pins σ W) s:=by
 have hl:us.length=ps.length:=by rw [<- r.length];exact F.len _ _ _ _ h
 have b2:=hb s us I.kIn (by rw [zH];exact hl);rw [zH] at b2;refine uA (wH (F.run X.A X.stack s H ⟨us,[]⟩ us vs Q (eW W) hr I.env0 b2 r h) λr s' hq=>?_);cases r with
 | error e=>exact I.toXPD hex (E:=eW W) hq λC dx H' ⟨C',e1,z⟩=>by cases e1;exact z
 | ok fl =>
   cases fl with
   | ret u=>exact I.after hq
   | next=>exact False.elim hq
   | brk=>exact False.elim hq
   | cont=>exact False.elim hq
def tCallX (sp:Sp)(t:TA):WX->TE:=λW σ H Q=>t σ H λvs H1=>sp vs H1 Q (eW W)
theorem mL {x:Str}{e:Expr}{t:TA}{p pos:Pos}(F:FnR X.prog X.w X.K X.mg X.base x ps k sp)(hr:Room k X.A)(hg:Gl X x)(ha:PA X.nox (e::es) t)(hex:X.ex=[]:=by rfl)
   (hdb:(x==("__debug__":Str))=false:=by decide) (he:starEach (e::es) X.env=(false,eval e X.env)::starEach es X.env:=by rfl) (hpl:(backTo pos (starEach es X.env)).any (·.1)=false:=by rfl) :
   PEX X (.Call (.Name x p) (e::es) [] pos) (tCallX sp t):=by
 obtain ⟨f,fd,F,m,kp,b⟩:=F;intro pins s σ H Q W I h;refine wJ (vb I hg m ?_ hdb);refine ux (h₀:=X.base) I.ok.mod.kin kp (yY (ha pos pins s σ H _ (I.wish _) h) (λus s1 ⟨vs,H1,I1,r,q⟩=>⟨I1.unwish.kIn,?_⟩) λ_ _ z=>False.elim z) he hpl;exact run_fnX hex F hr b I1.unwish r q
end
section
variable {sts rest:List Stmt}{t u:TXD}{pos:Pos}
theorem mK:PXDs X [] (λ_=>tNext):=λ_ _ σ H _ _ I h=>ur ⟨σ,H,I,h⟩
theorem mJ (h1:PXD X st t)(h2:PXDs X rest u):PXDs X (st::rest) (λW=>tSeq (t W) (u W)):=by
 intro pins s σ H D W I h;refine ox (thn (h1 pins s σ H { D with nx:=u W D } W I h) λf s1 q=>?_);cases f with
 | next =>
   obtain ⟨σ',H',I',q⟩:=q;exact h2 pins s1 σ' H' D W I' q
 | ret v=>exact q
 | brk=>exact q
 | cont=>exact q
theorem mI {e:Expr}{t:WX->TE}(he:PEX X e t)(hsw:swapsWith e none pos.line X.env=pure false:=by rfl):PXD X (.Expr e pos) (λW D σ H=>t (λC dx H'=>W C dx σ H') σ H λ_ H1=>D.nx σ H1):=by intro pins s σ H D W I h;refine wpAny_Expr_any (Q:=SP X pins D) (yY (he pins s σ H _ _ I h) (λu s1 ⟨v,H1,I1,r,q⟩=>⟨σ,H1,I1,q⟩) λe s1 z=>⟨σ,z⟩) I.quiet hsw
end
structure Caught (X:Cx)(pins:List (Addr × Obj))(σ:St)(H:Hp)(s:Shared)(ea C:Addr)(a0:Value)(B:Heap)(dx:Option Addr):Prop where
 inv:Inv X pins σ H s
 fl:Heap.FlyingW B X.stack ea (.ref C) a0 s.heap
 cov:Cov X.stack X.s₀.heap H B
 pn:∀ p∈X.pn++pins,∃ o,B.get? p.1=some o
 dd:DictAt s.heap ea dx
abbrev TH:=Addr->Addr->Option Addr->TS
def PH (X:Cx)(hs:List ExceptHandler)(t:TH):Prop :=
 ∀ (pins:List (Addr × Obj)) (s:Shared) (σ:St) (H:Hp) (D:Ends) (ea C:Addr) (a0:Value) (B:Heap) (dx:Option Addr),Caught X pins σ H s ea C a0 B dx->t ea C dx D σ H->wpAny (model X.prog X.w) X.A (handleBy (.ref ea) X.env hs) (SP X pins D) X.xe s
def tTryD (tb:TXD)(th:TH):TS:=λD σ H=>tb (λC dx σ1 H1=>∀ ea,H1 ea=none->th ea C dx D σ1 H1) D σ H
section
variable {s:Shared}{ea:Addr}{a0:Value}{B:Heap}{dx:Option Addr}
theorem Caught.free (c:Caught X pins σ H s ea C a0 B dx):H ea=none:=by
 cases z:H ea with
 | none=>rfl
 | some u =>
   obtain ⟨o,ho⟩:=c.cov.trk ea u z;rw [c.fl.2.1] at ho;cases ho
theorem Caught.move {h:Heap}(c:Caught X pins σ H s ea C a0 B dx)(hex:X.ex=[])(fl:Heap.FlyingW B X.stack ea (.ref C) a0 h)(us:s.heap.UpToSlots h)(d:DictAt h ea dx):Caught X pins σ H { s with heap:=h } ea C a0 B dx :=
 ⟨c.inv.landed2 hex fl.1 c.fl.1 c.cov c.pn us,fl,c.cov,c.pn,d⟩
theorem Caught.apart {oe:Obj}{vs:Array Value}(c:Caught X pins σ H s ea C a0 B dx)(hst:X.stack=X.env::X.outer)(hfr:X.env.frame=some X.env.locals)(he:s.heap.get? ea=some oe)(hd:oe.data=.fields vs):ea≠X.env.locals/\ea∉X.fs:=by
 have hn:ea∉frs X.stack:=λhm=>by
   obtain ⟨_,o,ho,hno⟩:=c.inv.stack.mem hm;rw [he] at ho;cases ho;exact hno _ hd
 rw [hst] at hn;unfold frs at hn;rw [rn,hfr] at hn;exact ⟨λz=>hn (z ▸ .head _),λz=>hn (.tail _ z)⟩
theorem mH {body:List Stmt}{h0:ExceptHandler}{hs:List ExceptHandler}{tb:TXD}{th:TH}{pos:Pos}(hb:PXDs X body tb)(hh:PH X (h0::hs) th)(hex:X.ex=[]:=by rfl)(hst:X.stack=X.env::X.outer:=by rfl)(hfr:X.env.frame=some X.env.locals:=by rfl) :
   PS X (.Try body (h0::hs) [] [] pos) (tTryD tb th):=by
 intro pins s σ H D I h;refine wpAny_Try_except (yY (hb pins s σ H D _ I h) (λf s1 hf=>?_) λe s1 hq=>?_)
 . cases f with
   | next=>exact ur hf
   | ret v=>exact hf
   | brk=>exact hf
   | cont=>exact hf
 . obtain ⟨σ1,ea,C,a0,B,H1,dx,ee,I1,fl,cov,hp,dd,q⟩:=hq;subst ee;have c1:Caught X pins σ1 H1 s1 ea C a0 B dx:=⟨I1,fl,cov,hp,dd⟩
   have fl':Heap.FlyingW B (X.env::X.outer) ea (.ref C) a0 s1.heap:=hst ▸ fl;refine yY (sd (fY _ _) (wpAny_looks_onW (Q:=λ_ z=>∃ h2,z={ s1 with heap:=h2 }/\Heap.HeldW B (X.env::X.outer) ea (.ref C) a0 X.env.locals h2/\s1.heap.UpToSlots h2) (by rw [<- hst];exact I1.ok.frames) hfr fl' λh2 held us=>⟨h2,rfl,held,us⟩) dd) (λ_ z hz=>?_) λ_ _ z=>z.1
   obtain ⟨⟨h2,rfl,held,us1⟩,d2⟩:=hz;refine yY (sd (mM _ _) (wpAny_landsW (s:={ s1 with heap:=h2 }) (Q:=λ_ z=>∃ h3,z={ s1 with heap:=h3 }/\Heap.FlyingW B (X.env::X.outer) ea (.ref C) a0 h3/\h2.UpToSlots h3) held λh3 fl3 us=>⟨h3,rfl,fl3,us⟩) d2) (λ_ z hz=>?_) λ_ _ z=>z.1
   obtain ⟨⟨h3,rfl,fl3,us2⟩,d3⟩:=hz;exact hh pins _ σ1 H1 D ea C a0 B dx (c1.move hex (hst ▸ fl3) (us1.trans us2) d3) (q ea c1.free)
theorem mG:PH X [] (λ_ _ _ _ _ _=>False):=λ_ _ _ _ _ _ _ _ _ _ _ h=>h.elim
def thNo (K:zh)(S:Addr)(ts tr:TH):TH:=λea C dx D σ H=>∃ b,PySem.W.exmOne K (.ref C) (.ref S)=some b/\if b=true then ts ea C dx { nx:=D.nx,rt:=D.rt } σ H else tr ea C dx D σ H
theorem ph_no {S:Addr}{x:Str}{suite:List Stmt}{b₀:Stmt}{rest:List ExceptHandler}{ts tr:TH}{np hpos:Pos}(K:zh)(hm:X.mg x=some (.ref S))(hs:∀ (ea C:Addr) (dx:Option Addr) (oe:Obj) (vs:Array Value),oe.cls=.ref C->oe.data=.fields vs->oe.dict=dx->PSs (inEx X ea oe) (b₀::suite) (ts ea C dx))(hr:PH X rest tr)
   (hg:Gl X x) (hK:X.K=K:=by rfl) (hex:X.ex=[]:=by rfl) (hst:X.stack=X.env::X.outer:=by rfl) (hfr:X.env.frame=some X.env.locals:=by rfl) (hdb:(x==("__debug__":Str))=false:=by decide) :
   PH X (.ExceptHandler (some (.Name x np)) none (b₀::suite) hpos::rest) (thNo K S ts tr):=by
 subst hK;intro pins s σ H D ea C a0 B dx c h;obtain ⟨b,hx,q⟩:=h;obtain ⟨oe,vs,he,hc,hd,_⟩:=c.fl.first;obtain ⟨n1,n2⟩:=c.apart hst hfr he hd;have I3':=c.inv.inExc he c.free n1 n2 λv z=>by rw [hd] at z;cases z
 refine wpAny_handleBy_cons (codeAny_handlers_test (vb (X:=inEx X ea oe) I3' hg hm ?_ hdb)) (by intro z;cases z);have LT:PySem.W.Looks (model X.prog X.w) s.heap (typeOf (.ref ea)) (.ref C):=λA' Q' E' s' k z=>by
   unfold typeOf;exact zt (wpAny_loadPart (k _ _ he) (by rw [hc];exact zc z))
 refine (PySem.W.exm_one (M:=model X.prog X.w) c.inv.kIn LT hx).at ?_;cases b with
 | false=>exact hr pins _ σ H D ea C a0 B dx c q
 | true =>
   show codeAny _ _ (.handlers _ _ _) _ _;rw [if_pos rfl] at q;refine codeAny_handlers_suite (yY (sd (mM _ _) (lands_againW (Q:=λ_ z=>∃ h4,z={ s with heap:=h4 }/\Heap.FlyingW B X.stack ea (.ref C) a0 h4/\s.heap.UpToSlots h4) c.fl λh4 fl4 us=>⟨h4,rfl,fl4,us⟩) c.dd) (λ_ z hz=>?_) λ_ _ z=>z.1);obtain ⟨⟨h4,rfl,fl4,us4⟩,d4⟩:=hz;have c4:=c.move hex fl4 us4 d4;obtain ⟨oe4,vs4,he4,hc4,hd4,_⟩:=fl4.first;obtain ⟨n1,n2⟩:=c4.apart hst hfr he4 hd4;have I4':=c4.inv.inExc he4 c4.free n1 n2 λv z=>by rw [hd4] at z;cases z
   have hdx:oe4.dict=dx:=by obtain ⟨o,e1,e2⟩:=d4;rw [show ({ s with heap:=h4 }:Shared).heap.get? ea=some oe4 from he4] at e1;cases e1;exact e2
   refine yY (hs ea C dx oe4 vs4 hc4 hd4 hdx pins _ _ H _ I4' q) (λf s6 z=>?_) λ_ _ z=>z.elim
   cases f with
   | next =>
     obtain ⟨σ2,H2,I6,qq⟩:=z;exact ⟨σ2,H2,I6.outExc c.inv.ok,qq⟩
   | ret u =>
     obtain ⟨v,σ2,H2,I6,rv,qq⟩:=z;exact ⟨v,σ2,H2,I6.outExc c.inv.ok,rv,qq⟩
   | brk=>obtain ⟨_,_,_,z⟩:=z;exact z.elim
   | cont=>obtain ⟨_,_,_,z⟩:=z;exact z.elim
end
section
variable {f:Addr}{H0:Hp}{E:XK}
theorem raiseP {s:Shared}{h1:Heap}{ea:Addr}{args:List Value}(I:Inv (cxD P w K mg base N qual scope f cd A outer s0 H0 E) pins σ H s)(hx:Heap.MadeExcOf s.heap h1 ea (.ref C) args)(q:E (.ref C) none H) :
   (cxD P w K mg base N qual scope f cd A outer s0 H0 E).xe (.ref ea) { s with heap:=h1 }:=by
 have hin:∀ env∈(envOfC qual scope s0.heap.objs.size f cd::outer),∀ b,env.frame=some b->b∈frs (envOfC qual scope s0.heap.objs.size f cd::outer):=λenv he b hb=>oP.mpr ⟨env,he,hb⟩
 have sB:(PySem.W.hideAll s.heap (frs (envOfC qual scope s0.heap.objs.size f cd::outer))).StaysIn s.heap:=λb o e=>PySem.W.of_hideAll _ e
 have c:Cov (envOfC qual scope s0.heap.objs.size f cd::outer) s0.heap H (PySem.W.hideAll s.heap (frs (envOfC qual scope s0.heap.objs.size f cd::outer))):=⟨λb o e n=>by
   obtain ⟨o',e'⟩:=I.base.there b o e (λz=>nomatch z);exact ⟨o',o5 _ e' n⟩,λb u e=>by
   obtain ⟨o,ho⟩:=(I.hok b u e).there;refine ⟨o,o5 _ ho λhm=>?_⟩;rw [I.stkFree b hm] at e;cases e⟩
 obtain ⟨t0,ge,_,_⟩:=id hx.there;have go:=sd (fX (.ref ea) (envOfC qual scope s0.heap.objs.size f cd)) (wpAny_leaves_madeW (M:=model P w) (E:=λ_ _=>False) (s:={ s with heap:=h1 }) (base:=PySem.W.hideAll s.heap (frs (envOfC qual scope s0.heap.objs.size f cd::outer))) (Q:=λ_ z=>∃ h' t,z={ s with heap:=h' }/\Heap.FlyingW (PySem.W.hideAll s.heap (frs (envOfC qual scope s0.heap.objs.size f cd::outer))) outer ea (.ref C) (.ref t) h'/\h1.UpToSlots h') I.ok.frames rfl sB (PySem.W.funFrames_hide I.stack hin) hx λh' t fl tup _ us=>⟨h',t,rfl,fl,us⟩) (e:=ea) (d:=none) ⟨_,ge,rfl⟩;refine yY go (λ_ s2 z=>?_) λ_ _ z=>z.1.elim
 obtain ⟨⟨h',t,rfl,fl,us⟩,d2⟩:=z;obtain ⟨un',hok'⟩:=I.landed rfl fl.1 sB c ((Heap.UpToSlots.of_keeps hx.keeps).trans us);exact ⟨ea,C,.ref t,_,H,none,rfl,I.os,I.bare,un',hok',fl,⟨λb o e n=>c.old b o e (I.frStack e n),c.trk⟩,d2,q⟩
theorem fV {x:Str}{e:Expr}{np cpos pos:Pos}(c:XCls K C)(hm:mg x=some (.ref C))(hg:Gl (cxD P w K mg base N qual scope f cd A outer s0 H0 E) x)(he:PE (cxD P w K mg base N qual scope f cd A outer s0 H0 E) e te)(hdb:(x==("__debug__":Str))=false:=by decide)
   (hs:starEach [e] (cxD P w K mg base N qual scope f cd A outer s0 H0 E).env=[(false,eval e (cxD P w K mg base N qual scope f cd A outer s0 H0 E).env)]:=by rfl) :
   PS (cxD P w K mg base N qual scope f cd A outer s0 H0 E) (.Raise (some (.Call (.Name x np) [e] [] cpos)) none pos) (tRaise C E te):=by
 intro pins s σ H D I h;obtain ⟨nm,qn,Nn,bs,bm,hd,sn,sub,ab,col,dd,k0,k1,k2,k3,k5,mN,hC,hN,hni,T⟩:=c.obj I.ok.mod.kin;refine wpAny_Raise_call_subU (nm:=nm) (q:=qn) (N:=Nn) (bs:=bs) (bm:=bm) (hdct:=hd) (sn:=sn) (sub:=sub) (ab:=ab) (col:=col) (dd:=dd) (k0:=k0) (k1:=k1) (k2:=k2) (k3:=k3) (k5:=k5) (newId:="ValueError.__new__") F.excBase_ValueError (by decide +kernel) F.excBase_ValueError (T.hasType (by decide +kernel)) (I.ok.hd rfl) (by rw [hs];rfl) hni (vb I hg hm ⟨rfl,?_⟩ hdb);rw [hs];refine o6 ?_;show wpAny _ _ (spliced ((false,eval e _)::backTo cpos [])) _ _ s;refine vt (thn (he pins s σ H _ I h) λu s1 ⟨v,H1,I1,r1,q1⟩=>uu ?_);have kb:=I1.bk;exact ⟨rfl,by show 1<=sizeLine;decide,kb _ _ hC,hN.keeps kb,T.keeps kb,λh' ea hx=>raiseP I1 hx q1⟩
end
theorem kv_at {κ:Type}{kvs:List (κ × V)}{vs:List (κ × Value)}{i:Nat}{k:κ}(r:KV kvs vs)(h:kvs[i]?=some (k,v)):∃ v',vs[i]?=some (k,v')/\RelV v v':=by
 induction r generalizing i with
 | nil=>cases h
 | cons q _ ih =>
   cases i with
   | zero =>
     cases h;obtain ⟨q1,q2⟩:=q;exact ⟨_,congrArg some (Prod.ext q1.symm rfl),q2⟩
   | succ i=>exact ih h
def Iti (a:Addr)(o:Obj)(kvs:List (Key × V)):It :=
 ⟨λi H=>H a=some (.frz o (.dK kvs))/\i<kvs.length,λi H v H'=>∃ T kv,v=.ref T/\H T=none/\kvs[i]?=some kv/\H'=upd H T (.tup [kV kv.1,kv.2]),λi H=>H a=some (.frz o (.dK kvs))/\kvs.length<=i⟩
def ItemTn (it a:Addr)(n ep:Nat)(i:Nat)(h:Heap):Prop:=∃ ok ov,IsItemIter h it a i n ep ok ov
theorem bB {xs:List Expr}{x1}{pos:Pos}{o:Obj}{es:Array DictEntry}(a it:Addr)(ho:o.data=.dict es ep):Turn P w K (.Tuple xs x1 pos) (Iti a o kvs) [it] it (ItemTn it a kvs.length ep) where
 mem:=by simp
 obj:=λi h st b hb=>by
   have e:b=it:=by simpa using hb
   subst e;obtain ⟨ok,ov,e⟩:=st;exact ⟨_,e,λv z=>by cases z⟩
 keep:=λi h h' st k=>by
   obtain ⟨ok,ov,e⟩:=st;exact ⟨ok,ov,k it (by simp) _ e⟩
 item:=by
   intro X hP hw hK hc i pins s σ H E I hf st hg;subst hP hw hK;obtain ⟨hq,hi⟩:=hg;obtain ⟨e1,_,_,vs,rel,o',es',ep',e2,ex,dt,ko,pr,nd⟩:=(show ObjOk X.prog X.w H s.heap a (.frz o (.dK kvs)) from I.hok _ _ hq)
   cases e1.symm.trans e2;cases ho.symm.trans dt;have gk:kvs[i]?=some (kvs[i].1,kvs[i].2):=zV hi;obtain ⟨v',gv,rv⟩:=kv_at rel gk;have ll:kvs.length=vs.length:=vp rel;rw [ll] at st;obtain ⟨ok,ov,st⟩:=st;refine wpAny_pyNext_items_item (knd:=mixKind X.prog X.w) st ⟨o,es,e1,ex,dt,ko,pr,nd⟩ gv λkey h' hk st' hT hz kk=>?_
   refine ⟨_,rfl,wpAny_letOwnedTupleGo_items st' λh2 st2 hs2=>?_⟩;have lt:s.heap.objs.size≠it:=wB (zU st);have hT2:h2.get? s.heap.objs.size=some { cls:=.type "tuple",data:=.seq #[key,v'] }:=(hs2.2 _ lt).trans hT;have keep:∀ b o,b∉[it]->s.heap.get? b=some o->h2.get? b=some o:=λb o hb q=>by
     simp only [zW,wm,wq] at hb;exact (hs2.2 b hb).trans (kk b o hb q)
   have rk:RelV (kV kvs[i].1) key:=key_rel hk;have I1:Inv X pins σ (upd H s.heap.objs.size (.tup [kV kvs[i].1,kvs[i].2])) { s with heap:=h2 }:=I.turnedNew (t':=s.toks) hf keep (zi _) ⟨by show 2<=sizeLine;decide,[key,v'],.cons rk (.cons rv .nil),_,hT2,rfl,_,rfl⟩;refine ⟨.ref s.heap.objs.size,_,I1,rfl,⟨_,_,rfl,I.hok.fresh (zi _),gk,rfl⟩,⟨_,_,ll ▸ st2⟩,λb hb=>?_⟩;rw [zo ?_];{exact (hf b hb).1};{rintro rfl;exact lt (by simpa using hb)}
 done:=by
   intro X hP hw hK hc i pins s σ H E I hf st hg;subst hP hw hK;obtain ⟨hq,hi⟩:=hg;obtain ⟨e1,_,_,vs,rel,o',es',ep',e2,ex,dt,ko,pr,nd⟩:=(show ObjOk X.prog X.w H s.heap a (.frz o (.dK kvs)) from I.hok _ _ hq)
   cases e1.symm.trans e2;cases ho.symm.trans dt;have ll:kvs.length=vs.length:=vp rel;rw [ll] at st;obtain ⟨ok,ov,st⟩:=st;exact wpAny_pyNext_items_end (knd:=mixKind X.prog X.w) (I.ok.hd hc) st ⟨o,es,e1,ex,dt,ko,pr,nd⟩ (kF (by lia)) λh' eb=>⟨rfl,I.turnedL (t':=s.toks) hf λb o hb e=>eb b o (by simpa using hb) e⟩
 self:=λ_ _ _ _ _ st h=>let ⟨ok,ov,e⟩:=st;PySem.W.kcp_self e h
def iDItem (tl:TE):TI:=λσ H R=>tl σ H λx H1=>∃ a kvs,x=.ref a/\H1 a=some (.dK kvs)/\∀ o,R (Iti a o kvs) (upd H1 a (.frz o (.dK kvs)))
theorem bA {xs:List Expr}{x1}{p3:Pos}{l:Expr}{tl:TE}{cpos:Pos}(hl:PE X l tl)(hbase:attributeBase l "items" X.env (eval l X.env)=eval l X.env:=by rfl)(hline:(apos.endLine==cpos.line)=true:=by rfl):PI X (.Tuple xs x1 p3) (.Call (.Attribute l "items" apos) [] [] cpos) (iDItem tl):=by
 intro pins s σ H R I h;refine wpAny_Call_method0_late hbase hline (thn (hl pins s σ H _ I h) λu s1 hq=>?_);obtain ⟨x,H1,I1,rx,a,kvs,ex,hq,q⟩:=hq;subst ex;obtain rfl:u=Value.ref a:=rx;obtain ⟨t1,t2,_⟩:=isD_at I1 (.inl ⟨kvs,.inl hq⟩);refine ⟨_,_,kr,kq,PySem.F.type_dict_items,t1,t2,sM rfl (PySem.evalArgs_none ?_)⟩;obtain ⟨hz,lo,vs,rel,o,es,ep,e2,ex,dt,ko,pr,nd⟩:=(show ObjOk X.prog X.w H1 s1.heap a (.dK kvs) from I1.hok _ _ hq)
 refine call_meetsIn kq t1 PySem.F.entry_dict_items (PySem.F.args_dict_items_1 _) (meets_dict_items (mixKind X.prog X.w) a lo) ⟨⟨vs,o,es,ep,e2,ex,dt,ko,pr,nd⟩,?_⟩;have ll:kvs.length=vs.length:=vp rel;have hv:(s1.heap.push { cls:=.type "dict_items",data:=.fields #[.ref a] }).get? s1.heap.objs.size=some { cls:=.type "dict_items",data:=.fields #[.ref a] }:=yn _ rfl;refine wpAny_pyIter_items (knd:=mixKind X.prog X.w) (kvs:=vs) ⟨_,hv,rfl,rfl⟩ (Heap.DictAt.push ⟨o,es,e2,ex,dt,ko,pr,nd⟩ _) ?_;have I1b:Inv X pins σ H1 { s1 with heap:=s1.heap.push { cls:=.type "dict_items",data:=.fields #[.ref a] } }:=I1.kept λb o z=>zT _ z
 have e2b:(s1.heap.push { cls:=.type "dict_items",data:=.fields #[.ref a] }).get? a=some o:=zT _ e2;generalize s1.heap.push { cls:=.type "dict_items",data:=.fields #[.ref a] }=h0 at I1b e2b ⊢;have I2:=I1b.freeze hq e2b;have hn:upd H1 a (.frz o (.dK kvs)) h0.objs.size=none:=I2.hok.fresh (zi _);refine ⟨h0.objs.size,[h0.objs.size],_,_,_,rfl,I2.kept (t':=s1.toks) λb o e=>zT _ e,bB a _ dt,⟨.none,.none,?_⟩,λb hb=>?_,q o⟩;{rw [ll];exact yn _ rfl}
 have e:b=h0.objs.size:=by simpa using hb
 subst e;exact I2.fpOk (zi _) hn
theorem loopI {a:Addr}{o:Obj}{tb:TS}(Pv:Nat->St->Hp->Prop)(h0:Pv 0 σ H)(hf:∀ i σ H,Pv i σ H->H a=some (.frz o (.dK kvs)))
   (hs:∀ i kv T σ H,kvs[i]?=some kv->H T=none->Pv i σ H->g (.ref T) σ (upd H T (.tup [kV kv.1,kv.2])) λσ2 H2=>tb { D with nx:=Pv (i+1),ct:=Pv (i+1),bk:=D.nx } σ2 H2)
   (hd:∀ σ H,Pv kvs.length σ H->D.nx σ H):LoopJ (Iti a o kvs) g tb D σ H:=by
 refine ⟨λi m σ H=>m=kvs.length-i/\i<=kvs.length/\Pv i σ H,⟨_,rfl,zS _,h0⟩,?_⟩;rintro i m σ H ⟨rfl,hi,hp⟩;have h1:=hf i σ H hp;by_cases hlt:i<kvs.length;{refine .inr ⟨⟨h1,hlt⟩,Pv (i+1),λσ' H' q=>⟨_,by lia,rfl,by lia,q⟩,?_⟩;rintro v H' ⟨T,kv,rfl,nT,hk,rfl⟩;exact hs i kv T σ H hk nT hp}
 . have e:i=kvs.length:=by lia
   subst e;exact .inl ⟨⟨h1,zi _⟩,hd σ H hp⟩
end L2
namespace Lcg
def it:Nat->Nat->Nat
 | 0,i=>i
 | n+1,i=>it n (5*i+1)
theorem fU:∀ n i,4*it n i+1=5^n*(4*i+1)
 | 0,i=>by rw [it,tT,Nat.one_mul]
 | n+1,i=>by
   rw [it,fU n,yK,Nat.mul_assoc];congr 1
   lia
theorem it_add:∀ n m i,it (n+m) i=it m (it n i)
 | 0,m,i=>by rw [xk,it]
 | n+1,m,i=>by rw [Nat.add_right_comm,it,it_add n,it]
theorem sq (M v:Nat):(1+4*M*(2*v+1))*(1+4*M*(2*v+1))=1+4*(M*2)*(2*(v+M*(2*v+1)*(2*v+1))+1):=by grind
theorem five:∀ k,∃ v,5^(2^k)=1+4*2^k*(2*v+1)
 | 0=>⟨0,by decide⟩
 | k+1=>by
   obtain ⟨v,e⟩:=five k;exact ⟨_,by rw [yK 2,Nat.pow_mul,e,Nat.pow_two];exact sq _ v⟩
theorem step (k i:Nat):∃ v,it (2^k) i=i+2^k+2^k*2*v:=by
 obtain ⟨v,e⟩:=five k;have h:=fU (2^k) i;rw [e] at h;generalize it (2^k) i=x at h ⊢;generalize 2^k=M at h ⊢;refine ⟨(2*v+1)*2*i+v,?_⟩;have e2:(1+4*M*(2*v+1))*(4*i+1)=4*(i+M+M*2*((2*v+1)*2*i+v))+1:=by grind
 rw [e2] at h;lia
theorem reach:∀ k i j,∃ n,n<2^k/\it n i%2^k=j%2^k
 | 0,i,j=>⟨0,by decide,by rw [tT,Nat.mod_one,Nat.mod_one]⟩
 | k + 1,i,j=>by
   obtain ⟨n,hn,e⟩:=reach k i j;by_cases h:it n i%2^(k+1)=j%2^(k+1);{exact ⟨n,by rw [yK];lia,h⟩}
   . refine ⟨n+2^k,by rw [yK];lia,?_⟩;obtain ⟨v,es⟩:=step k (it n i);rw [it_add,es];rw [yK] at h ⊢;rw [r9];generalize it n i=x at e h ⊢;have p:0<2^k:=Nat.two_pow_pos k;generalize 2^k=M at e h p ⊢;have d1:=Nat.mod_mul (x:=x) (a:=M) (b:=2);have d2:=Nat.mod_mul (x:=j) (a:=M) (b:=2);have d3:=Nat.mod_mul (x:=x+M) (a:=M) (b:=2);rw [d1,d2,e] at h;rw [d3,d2,Nat.add_mod_right,e,Nat.add_div_right _ p];congr 2
     have:x/M%2≠j/M%2:=λz=>h (by rw [z])
     lia
end Lcg
namespace SG
open PySem PySem.SetTable
theorem mF (M:Nat):∀ n i,Lcg.it n (i%M)%M=Lcg.it n i%M
 | 0,i=>Nat.mod_mod _ _
 | n+1,i=>by
   rw [Lcg.it,Lcg.it,<- mF M n (5*(i%M)+1),<- mF M n (5*i+1)];congr 2
   rw [rN,Nat.mul_mod,Nat.mod_mod,<- Nat.mul_mod,<- rN]
section
variable {mask:Nat}{owner:Array (Option Nat)}
def Fr (owner:Array (Option Nat))(j:Nat):Prop:=(owner.getD j (some 0)).isNone=true
theorem az (mask i:Nat):i<=runEnd mask i:=by unfold runEnd;split<;>lia
theorem ay {mask i:Nat}(h:i<=mask):runEnd mask i<=mask:=by unfold runEnd;split<;>lia
theorem fT:∀ (n i p j:Nat),i<=mask->layClean.free mask owner n i p=some j->j<=mask/\Fr owner j
 | 0,_,_,_,_,h=>by cases h
 | n + 1,i,p,j,hi,h=>by
   unfold layClean.free at h;split at h
   . rename_i k hk
     cases h;have hm:=rT.mp (List.mem_of_find?_eq_some hk);have:=ay hi;exact ⟨by lia,by simpa [Fr] using List.find?_some hk⟩
   . exact fT n _ _ j (by show (i*5+1+p/32)%(mask+1)<=mask;have:=xZ (i*5+1+p/32) (show 0<mask+1 by lia);lia) h
theorem ax {n i p:Nat}(h:Fr owner i):layClean.free mask owner (n+1) i p≠none:=by
 unfold layClean.free;split;{exact λz=>by cases z}
 . rename_i hk
   have:=List.find?_eq_none.mp hk 0 (rT.mpr (by have:=az mask i;lia));exact absurd h (by simpa [Fr] using this)
theorem fS {n i p:Nat}(h:layClean.free mask owner n (leap mask i p).1 (leap mask i p).2≠none):layClean.free mask owner (n+1) i p≠none:=by
 unfold layClean.free;split;{exact λz=>by cases z};{exact h}
theorem fR:∀ (n f i:Nat),i<=mask->n<f->Fr owner (Lcg.it n i%(mask+1))->layClean.free mask owner f i 0≠none
 | 0,f+1,i,hi,_,h=>ax (by rw [Lcg.it,tY (by lia)] at h;exact h)
 | n+1,f+1,i,hi,hf,h=>by
   refine fS ?_;show layClean.free mask owner f ((i*5+1+0/32)%(mask+1)) (0/32)≠none;rw [Nat.zero_div,xJ];refine fR n f _ (by have:=xZ (i*5+1) (show 0<mask+1 by lia);lia) (by lia) ?_;rw [mF,vd];exact h
 | 0,0,_,_,h,_=>absurd h (xM 0)
 | n+1,0,_,_,h,_=>absurd h (uc _)
theorem fQ {k:Nat}(hk:mask+1=2^k){j:Nat}(hj:j<=mask)(h:Fr owner j):∀ (d f i p:Nat),i<=mask->p<32^d->d+2^k<=f->layClean.free mask owner f i p≠none
 | 0,f,i,p,hi,hp,hf=>by
   have p0:p=0:=by rw [tT] at hp;lia
   obtain ⟨n,hn,e⟩:=Lcg.reach k i j;rw [<- hk,tY (show j<mask+1 by lia)] at e;rw [p0];exact fR n f i hi (by lia) (by rw [e];exact h)
 | d+1,0,i,p,hi,hp,hf=>by lia
 | d + 1,f+1,i,p,hi,hp,hf=>by
   refine fS (fQ hk hj h d f _ _ ?_ ?_ (by lia));{show (i*5+1+p/32)%(mask+1)<=mask;have:=xZ (i*5+1+p/32) (show 0<mask+1 by lia);lia};{show p/32<32^d;rw [yK] at hp;exact Nat.div_lt_of_lt_mul (by rw [vd];exact hp)}
theorem bits_lt (h:Int):bits h<2^64:=by unfold bits;have h1:=wj h (b:=(2^64:Int)) (by decide);have h2:=wD h (b:=(2^64:Int)) (by decide);lia
theorem aw {k:Nat}(hk:mask+1=2^k){j:Nat}(hj:j<=mask)(hf:Fr owner j)(h:Int):∃ j,layClean.free mask owner (turns mask) (bits h%(mask+1)) (bits h)=some j/\j<=mask/\Fr owner j:=by
 have hi:bits h%(mask+1)<=mask:=by have:=xZ (bits h) (show 0<mask+1 by lia);lia
 have:=fQ hk hj hf 13 (turns mask) (bits h%(mask+1)) (bits h) hi (rO (bits_lt h) (by decide)) (by unfold turns;lia);obtain ⟨x,e⟩:=Option.ne_none_iff_exists'.mp this;exact ⟨x,e,fT _ _ _ _ hi e⟩
end
theorem mE {α:Type}(y:α)(r:List (Option α)):(some y::r).filterMap id=y::r.filterMap id:=rfl
theorem fP {α β:Type}{f g:α->Option β}(h:∀ x,f x=g x)(l:List α):l.filterMap f=l.filterMap g:=by rw [show f=g from funext h]
theorem mD {α:Type}(x:α):∀ (l:List (Option α)) (j:Nat),l[j]?=some none->((l.set j (some x)).filterMap id).Perm (x::l.filterMap id)
 | [],_,h=>by cases h
 | none::r,0,_=>by simp
 | some y::r,0,h=>by simp at h
 | none::r,j+1,h=>by
   rw [ka,kQ rfl,kQ rfl];exact mD x r j (by simpa using h)
 | some y::r,j+1,h=>by
   rw [ka,mE,mE];exact ((mD x r j (by simpa using h)).cons y).trans (List.Perm.swap x y _)
theorem fO {α:Type}:∀ (l:List (Option α)),(l.filterMap id).length<l.length->∃ j,j<l.length/\l[j]?=some none
 | [],h=>absurd h (xM 0)
 | none::r,_=>⟨0,Nat.succ_pos _,rfl⟩
 | some y::r,h=>by
   rw [mE,zZ,zZ] at h;obtain ⟨j,h1,h2⟩:=fO r (by lia);exact ⟨j+1,by rw [zZ];lia,by simpa using h2⟩
theorem fN {mask k:Nat} (hk:mask+1=2^k):∀ (hs:List Int) (owner:Array (Option Nat)) (m:Nat),owner.size=mask+1->(owner.toList.filterMap id).Perm (List.range m)->m+hs.length<=mask+1 ->
   ∃ owner',hs.foldl (init:=some (owner,m)) (λacc h=>do let (owner,k) <- acc;let j <- layClean.free mask owner (turns mask) (bits h%(mask+1)) (bits h);pure (owner.setIfInBounds j (some k),k+1))=some (owner',m+hs.length)/\owner'.size=mask+1/\(owner'.toList.filterMap id).Perm (List.range (m+hs.length))
 | [],owner,m,h1,h2,_=>⟨owner,rfl,h1,h2⟩
 | h :: r,owner,m,h1,h2,h3=>by
   rw [zZ] at h3;have lf:=h2.length_eq;rw [yc] at lf;obtain ⟨j,hj,hn⟩:=fO owner.toList (by rw [lf,zI,h1];lia);rw [zI,h1] at hj;have fr:Fr owner j:=by unfold Fr;rw [yS] at hn;rw [t6,hn];rfl
   obtain ⟨x,ex,hx,fx⟩:=aw hk (show j<=mask by lia) fr h;have nx:owner.toList[x]?=some none:=by
     unfold Fr at fx;rw [t6] at fx;rw [yS];cases e:owner[x]? with
     | none=>rw [e] at fx;cases fx
     | some v =>
       rw [e] at fx;cases v with
       | none=>rfl
       | some w=>cases fx
   obtain ⟨o',e1,e2,e3⟩:=fN hk r (owner.setIfInBounds x (some m)) (m+1) (by rw [oZ];exact h1) (by
     rw [oj];refine (mD m _ x nx).trans ?_;rw [oE];exact (h2.cons m).trans (kU m _).symm) (by lia)
   refine ⟨o',?_,e2,by rw [zZ,show m+(r.length+1)=m+1+r.length by lia];exact e3⟩;rw [wk,zZ,show m+(r.length+1)=m+1+r.length by lia,<- e1];congr 1
   show (layClean.free mask owner (turns mask) (bits h%(mask+1)) (bits h)).bind _=_;rw [ex];rfl
theorem av {mask k finger moves:Nat}{led plain:Bool}(hk:mask+1=2^k)(hs:Array Int)(hn:hs.size<=mask+1):∃ t order,laid mask finger moves led plain hs=some (t,order)/\order.toList.Perm (List.range hs.size)/\t.mask=mask/\t.dummies=#[]/\t.led=led/\t.plain=plain/\t.finger=finger/\t.place.toList.Pairwise (·<·)/\t.place.size=hs.size:=by
 obtain ⟨o,e1,e2,e3⟩:=fN hk hs.toList (Array.replicate (mask+1) none) 0 (by rw [Array.size_replicate]) (by simp) (by rw [zI];lia);rw [xk,zI] at e1 e3;have el:layClean mask hs=some o:=by unfold layClean;rw [<- Array.foldl_toList,e1];rfl
 have snd:(((List.range (mask+1)).filterMap λj=>(o.getD j none).map (j,·)).map (·.2))=o.toList.filterMap id:=by
   rw [List.map_filterMap];have:o.toList=(List.range (mask+1)).map λj=>o.getD j none:=by
     refine wO (by rw [zI,e2,za,yc]) λi h1 h2=>?_
     rw [w6,ue,t6,Array.getElem_toList,wF (by rw [zI] at h1;exact h1)];rfl
   rw [this,List.filterMap_map];refine fP (λj=>?_) _;show Option.map _ ((o.getD j none).map _)=o.getD j none;cases o.getD j none<;>rfl
 unfold laid;rw [el];refine ⟨_,_,rfl,?_,rfl,rfl,rfl,rfl,rfl,?_,?_⟩;{rw [List.toList_toArray,snd];exact e3}
 . rw [List.toList_toArray];refine List.Pairwise.sublist ?_ (kI (n:=mask+1));rw [List.map_filterMap];have:(λ(x:Nat)=>Option.map (·.1) ((o.getD x none).map (x,·)))=λx=>if (o.getD x none).isSome then some x else none:=by
     funext x;cases o.getD x none<;>rfl
   rw [this];have e:(List.range (mask+1)).filterMap (λx=>if (o.getD x none).isSome then some x else none)=(List.range (mask+1)).filter λx=>(o.getD x none).isSome:=by rw [<- List.filterMap_eq_filter];refine fP (λx=>?_) _;simp [Option.guard]
   rw [e];exact List.filter_sublist
 . rw [yv,za];have:=e3.length_eq;rw [<- snd,za,yc] at this;exact this
end SG
namespace SG
open PySem PySem.Spec PyProof.Rows
theorem fM (n:Nat):∀ (f j:Nat),n<2^(j+f)->∃ k,SetTable.sizeAbove.go n f (2^j)=2^k/\n<2^k/\(2^k<=2^j\/2^k<=2*n)
 | 0,j,h=>⟨j,rfl,h,.inl (zi _)⟩
 | f + 1,j,h=>by
   unfold SetTable.sizeAbove.go;split
   . rename_i c
     obtain ⟨k,e,h1,h2⟩:=fM n f (j+1) (by rw [show j+1+f=j+(f+1) by lia];exact h);rw [yK] at e h2;refine ⟨k,e,h1,?_⟩;rcases h2 with h2 | h2
     . exact .inr (by lia)
     . exact .inr h2
   . rename_i c
     exact ⟨j,rfl,by lia,.inl (zi _)⟩
theorem above {n:Nat}(h:n<100000):∃ k,SetTable.sizeAbove n=2^k/\n<2^k/\2^k<=2*n+8:=by obtain ⟨k,e,h1,h2⟩:=fM n 64 3 (rO h (by decide));exact ⟨k,e,h1,by rcases h2 with h2 | h2<;>lia⟩
section
variable {s:Shared}
theorem reord {es:Array (Int × Value)}{order:Array Nat}(p:order.toList.Perm (List.range es.size)):(order.filterMap (es[·]?)).toList.Perm es.toList:=by rw [Array.toList_filterMap];exact (p.filterMap _).trans (by rw [filterMap_getElem?_range])
structure SA (prog:Program)(w:World)(h:Heap)(a:Addr)(o:Obj)(es:Array (Int × Value))(ep:Nat)(t:SetTable):Prop where
 ho:h.get? a=some o
 hx:o.ExactSet
 hd:o.data=.set es ep t
 el:ElemsOf (intKind prog w) es.toList
 hb:es.size<scanBound
 hf:t.fits es.size=true
 gd:Good (bt w) t
 nd:(es.toList.map λe=>iv e.2).Nodup
theorem SA.store {a:Addr}{o:Obj}{es es':Array (Int × Value)}{t t':SetTable}{h:Heap}(x:SA prog w h a o es ep t)(el:ElemsOf (intKind prog w) es'.toList)(hb:es'.size<scanBound)(hf:t'.fits es'.size=true)(gd:Good (bt w) t')(nd:(es'.toList.map λe=>iv e.2).Nodup) :
   SA prog w (h.update a (Obj.putSet es' t')) a { o with data:=.set es' (ep+1) t' } es' (ep+1) t':=⟨mZ x.ho x.hd es' t',x.hx,rfl,el,hb,hf,gd,nd⟩
theorem ris_good {bt:Bool}{t:SetTable}(l:t.led=!bt)(r:t.place.toList.Pairwise (·<·)):Good bt t:=⟨l,λ_=>ris_iff.mpr r⟩
theorem fits_mk {t:SetTable}{n:Nat}(h1:t.place.size=n)(h2:t.place.size+t.dummies.size<=t.mask):t.fits n=true:=by unfold SetTable.fits SetTable.fill;rw [xP,xC,vg];exact ⟨h1,h2⟩
theorem relay {a:Addr}{o:Obj}{es:Array (Int × Value)}{wanted:Nat}{t:SetTable}{Q:Unit->Shared->Prop}(x:SA prog w s.heap a o es ep t)(hn:es.size<=wanted)(hw:wanted<100000)
   (q:∀ es' t',es'.toList.Perm es.toList->SA prog w (s.heap.update a (Obj.putSet es' t')) a { o with data:=.set es' (ep+1) t' } es' (ep+1) t'->t'.dummies=#[]->(∃ k,t'.mask+1=2^k)->wanted<=t'.mask->Q () { s with heap:=s.heap.update a (Obj.putSet es' t') }) :
   wpAny (model prog w) A (setRelay a wanted) Q E s:=by
 obtain ⟨k,ek,h1,h2⟩:=above hw;unfold setRelay;refine zt (vq x.ho x.hd x.hf ?_);dsimp only;rw [if_neg (by rw [ek,vO];lia)];have hp:0<2^k:=Nat.two_pow_pos k;obtain ⟨t',order,e1,e2,e3,e4,e5,e6,e7,e8,e9⟩:=av (mask:=2^k-1) (k:=k) (finger:=t.finger) (moves:=t.movedTo (2^k-1)) (led:=t.led) (plain:=t.plain) (by lia) (es.map (·.1)) (by rw [rP];lia);rw [rP] at e2 e9;have pe:=reord e2;have sz:=gK pe;have er:t.relaid (es.map (·.1)) wanted=some (t',order):=by unfold SetTable.relaid;rw [ek];exact e1
 rw [er];have hf:t'.fits (order.filterMap (es[·]?)).size=true:=fits_mk (by rw [sz,e9]) (by rw [e4,e9,e3];show es.size+0<=_;lia);have X:=x.store (es':=order.filterMap (es[·]?)) (t':=t') (x.el.perm pe) (by rw [sz];exact x.hb) hf (ris_good (e5.trans x.gd.led) e8) ((pe.map λe=>iv e.2).nodup_iff.mpr x.nd);refine zt ?_;show wpAny _ _ (if ((order.filterMap (es[·]?)).size != es.size)=true then _ else _) _ _ _;rw [if_neg (by rw [sz,oz];decide)];refine zc ?_;refine oy x.ho x.hd (q _ t' pe X e4 ⟨k,by rw [e3];lia⟩ (by rw [e3];lia)) (uE (by rw [sz];exact x.hb))
end
section
variable {s:Shared}
theorem room {a:Addr}{o:Obj}{es:Array (Int × Value)}{more:Nat}{t:SetTable}{Q:Unit->Shared->Prop}(x:SA prog w s.heap a o es ep t)(hm:es.size+more<10000)
   (q:∀ h' o' es' ep' t',Heap.SameBut a s.heap h'->SA prog w h' a o' es' ep' t'->es'.toList.Perm es.toList->((∃ k,t.mask+1=2^k)->∃ k,t'.mask+1=2^k)->es.size+more<=t'.mask->(t.dummies=#[]->t'.dummies=#[])->Q () { s with heap:=h' }) :
   wpAny (model prog w) A (setRoomFor a more) Q E s:=by
 unfold setRoomFor;refine zt (vq x.ho x.hd x.hf ?_);have hf:=x.hf;unfold SetTable.fits SetTable.fill at hf;rw [xP,xC,vg] at hf;dsimp only;unfold SetTable.roomFor;split
 . rename_i wanted hw
   split at hw
   . cases hw;refine relay x (by rw [hf.1];lia) (by rw [hf.1];lia) λes' t' pe X d2 hk hle=>q _ _ es' _ t' (o3 _ a _) X pe (λ_=>hk) ?_ λ_=>d2
     rw [hf.1] at hle;lia
   . cases hw
 . rename_i hw
   split at hw;{exact (hw _ rfl).elim}
   . rename_i c
     unfold SetTable.fill at c;exact zc (q s.heap o es ep t (Heap.SameBut.refl a s.heap) x (.refl _) id (by lia) id)
end
end SG
namespace L2
open PySem PySem.Spec PyProof.Rows
def revS (z:Str):Str:=⟨z.cps.toList.reverse.toArray⟩
theorem revS_len (z:Str):(revS z).length=z.length:=by show z.cps.toList.reverse.toArray.size=z.cps.size;simp
theorem au (z:Str):((Builtin.Str.strSliceIndices none none (-1) z.length).filterMap (z.cps[·]?))=z.cps.toList.reverse:=by
 unfold Builtin.Str.strSliceIndices sliceRange;have e0:¬((-1:Int) > 0):=by decide
 simp only [e0,x4];have en:(if ((z.length:Int)-1 > -1) then ((z.length:Int)-1 - -1 - -1-1)/(- -1) else 0).toNat=z.cps.size:=by show (if ((z.cps.size:Int)-1 > -1) then ((z.cps.size:Int)-1 - -1 - -1-1)/(- -1) else 0).toNat=z.cps.size;rw [show (- -1:Int)=1 by decide,Int.ediv_one];split<;>lia
 rw [en];show List.filterMap (λx=>z.cps[x]?) (List.map (λ(k:Nat)=>((z.cps.size:Int)-1+-1*(k:Int)).toNat) (List.range z.cps.size))=_;obtain ⟨⟨l⟩⟩:=z;show List.filterMap (λx=>l.toArray[x]?) (List.map (λ(k:Nat)=>((l.length:Int)-1+-1*(k:Int)).toNat) (List.range l.length))=l.reverse;have:∀ n,n<=l.length->List.filterMap (λx=>l.toArray[x]?) (List.map (λ(k:Nat)=>((l.length:Int)-1+-1*(k:Int)).toNat) (List.range n))=l.reverse.take n:=by
   intro n;induction n with
   | zero=>intro _;rfl
   | succ n ih =>
     intro h;rw [oE,yX,List.filterMap_append,ih (by lia),yC];congr 1
     have e1:((l.length:Int)-1+-1*(n:Int)).toNat=l.length-1-n:=by lia
     have e2:l.reverse[n]?=l[l.length-1-n]?:=by rw [oV (by lia)]
     rw [e2,yz,rf,e1];have hl:l.length-1-n<l.length:=by lia
     simp [zV hl]
 rw [this l.length (zi _),yP (by simp)]
section
variable {e st:Expr}{ts:TE}{p2 pos:Pos}
def tRevS (te ts:TE):TE:=λσ H Q=>te σ H λx H1=>ts σ H1 λy H2=>∃ z,x=.str z/\y=.int (-1)/\z.length<=sizeLine/\Q (.str (revS z)) H2
theorem pe_revS (he:PE X e te)(hs:PE X st ts):PE X (.Subscript e (.Slice none none (some st) p2) pos) (tRevS te ts):=by
 intro pins s σ H Q I h;refine Subscript_ (thn (he pins s σ H _ I h) λv s1 ⟨x,H1,I1,r1,q1⟩=>?_);refine wpAny_Slice ?_;rw [evalPart_none,evalPart_some];refine zc (zc (thn (hs pins s1 σ H1 _ I1 q1) λu s3 hq=>?_));obtain ⟨y,H3,I3,r3,z,e1,e2,hz,q3⟩:=hq;subst e1 e2;obtain ⟨t,rfl⟩:=r1;obtain ⟨t2,rfl⟩:=r3;have I4:Inv X pins σ H3 { s3 with heap:=s3.heap.push { cls:=.type "slice",data:=.fields #[.none,.none,.int (-1) t2] } }:=I3.kept (t':=s3.toks) λb ob q=>zT _ q
 show wpAny (model X.prog X.w) X.A (subscriptTail e (.Slice none none (some st) p2) (.str z t) (.ref s3.heap.objs.size)) (EP X pins σ Q) X.xe { s3 with heap:=s3.heap.push { cls:=.type "slice",data:=.fields #[.none,.none,.int (-1) t2] } };refine tail_any (ops:=[.ref s3.heap.objs.size,.str z t]) (typeIs_str _ _ _) PySem.F.slot_str_getitem.lookup ?_ (by with_unfolding_all rfl);refine uM (l:=none) (u:=none) (st:=some (-1,t2)) ⟨_,yn _ rfl,rfl,rfl⟩ rfl ?_;have em:sliceMade z t none none (some (-1,t2))=.str (revS z):=by unfold sliceMade;rw [if_neg (by intro h;simp at h)];unfold slicePicked;show Made.str ⟨(List.filterMap (z.cps[·]?) (Builtin.Str.strSliceIndices none none (-1) z.length)).toArray⟩=_;rw [au];rfl
 rw [em];exact ⟨by rw [revS_len];exact hz,⟨.str (revS z),H3,I4.tok _,⟨_,rfl⟩,q3⟩⟩
end
end L2
namespace Hk
open PySem PySem.W
def lk (x:Option Obj):Option Obj:=match x with
 | some ⟨_,_,.freed,_⟩=>none
 | o=>o
noncomputable def pick (l:List Obj):Nat->List Nat->List (Option Obj):=List.rec (motive:=λ_=>Nat->List Nat->List (Option Obj)) (λ_ as=>as.map λ_=>none) (λo _ ih i as=>match as with
 | []=>[]
 | a::r=>bif Nat.beq a i then lk (some o)::ih (i+1) r else ih (i+1) (a::r)) l
theorem mC:∀ (l:List Obj) (i:Nat) (as:List Nat),(∀ a∈as,i<=a)->as.Pairwise (·<·)->pick l i as=as.map λa=>lk l[a-i]?
 | [],i,as,_,_=>by
   show as.map _=_;refine vh λa _=>?_
   simp [lk]
 | o::l,i,[],_,_=>rfl
 | o :: l,i,a::r,h,p=>by
   have p1:∀ {b},b∈r->a<b:=λhb=>kT p hb
   have p2:=List.Pairwise.of_cons p;have ha:i<=a:=h a (by simp);show (bif Nat.beq a i then lk (some o)::pick l (i+1) r else pick l (i+1) (a::r))=_;have go:∀ b,i+1<=b->(o::l)[b-i]?=l[b-(i+1)]?:=λb hb=>by
     rw [show b-i=(b-(i+1))+1 by lia];rfl
   cases e:Nat.beq a i with
   | true =>
     have ea:a=i:=Nat.eq_of_beq_eq_true e;subst ea;have hr:∀ b∈r,a+1<=b:=λb hb=>p1 hb
     show lk (some o)::pick l (a+1) r=_;rw [mC l _ r hr p2,yz,wg];refine congrArg _ (vh λb hb=>?_);rw [go b (hr b hb)]
   | false =>
     have ea:a≠i:=λz=>by subst z;simp at e
     have hr:∀ b∈a::r,i+1<=b:=λb hb=>by
       rcases zW.mp hb with rfl | hb
       . lia
       . have:=p1 hb;lia
     show pick l (i+1) (a::r)=_;rw [mC l _ (a::r) hr p];exact vh λb hb=>by rw [go b (hr b hb)]
def upB:List Nat->Bool
 | a::b::r=>Nat.ble (a+1) b&&upB (b::r)
 | _=>true
theorem up_of:∀ {as:List Nat},upB as=true->as.Pairwise (·<·)
 | [],_=>.nil
 | [a],_=>List.pairwise_singleton _ _
 | a::b::r,h=>by
   obtain ⟨h1,h2⟩:=Bool.and_eq_true_iff.mp h;have q:=up_of h2;have l:a<b:=Nat.le_of_ble_eq_true h1;refine .cons (λc hc=>?_) q;rcases zW.mp hc with rfl | hc
   . exact l
   . exact rO l (kT q hc)
theorem pick_get {as:List Nat}(u:upB as=true)(h:Heap):pick h.objs.toList 0 as=as.map h.get?:=by
 rw [mC _ 0 as (λ_ _=>zS _) (up_of u)];refine vh λa _=>?_
 rw [uY,yS];rfl
noncomputable def gHook (K:Params->Frag) (as:List Addr) (e:∀ P,as=(K P).map (·.1)) (u:upB as=true) (ts:List Addr):Hook where
 α:=List (Option Obj) × List (Option Obj)
 obs:=λs=>(pick s.heap.objs.toList 0 as,ts.map s.heap.get?)
 val:=λw=>((K w.params).map λp=>some p.2,ts.map λ_=>some (tabObj #[]))
 says:=λw h=>InK K w h/\∀ P∈ts,h.get? P=some (tabObj #[])
 of:=λw s x=>⟨InK.of e w s ((pick_get u s.heap).symm.trans (Prod.mk.inj x).1),List.map_inj_left.mp (Prod.mk.inj x).2⟩
 keeps:=λw h h' x k=>⟨InK.keeps w h h' x.1 k,λP hP=>k _ _ (x.2 P hP)⟩
theorem g_in {K:Params->Frag}{as:List Addr}{e:∀ P,as=(K P).map (·.1)}{u:upB as=true}{h:Heap}(Y:(gHook K as e u ts).says w h):(K w.params).In h:=Y.1
theorem g_tabs {K:Params->Frag}{as:List Addr}{e:∀ P,as=(K P).map (·.1)}{u:upB as=true}{h:Heap}(Y:(gHook K as e u ts).says w h):∀ P∈ts,h.get? P=some (tabObj #[]):=Y.2
end Hk
local macro_rules|`(tactic|ext k)=>`(tactic| exact L2.Room.mono (by assumption) (by decide))
namespace L2
open PySem PySem.Spec PyProof.Rows
section
variable {a b:Expr}{ta tb:TE}{pos:Pos}
theorem xW {op:CmpOp}{r:R2}(ho:OpR X (compareOp op) r)(ha:PE X a ta)(hb:PE X b tb)(hm:behindInMarks op b=false:=by exact nomark _):PE X (.Compare a [op] [b] pos) (tOp r ta tb):=iy ho ha hb hm
theorem zP {op:CmpOp}{r:R2}(ho:OpR X (compareOp op) r)(ha:PE X a ta)(hb:PE X b tb)(hm:behindInMarks op b=false:=by exact nomark _):PT X (.Compare a [op] [b] pos) (tTest (tOp r ta tb)):=pt_cmpR ho ha hb hm
theorem zN {r:R2}(hr:IxR X r)(ha:PE X a ta)(hb:PE X b tb)(hs:PlainIx b:=by exact λ_ _=>rfl):PE X (.Subscript a b pos) (tOp r ta tb):=pe_ix hr ha hb hs
theorem yx {x:Str}{i:Int}{tk:Tok}(hm:X.mg x=some (.int i tk))(hg:Gl X x:=by rfl)(hd:(x==("__debug__":Str))=false:=by decide):PE X (.Name x pos) (tC (.int i)):=nY hg hm ⟨_,rfl⟩ hd
theorem zd (i:Nat){x:Str}{e:Expr}(he:PE X e te)(hN:X.N.Nodup:=by assumption)(hi:X.N[i]?=some x:=by rfl)(hx:Loc X.env.scope x:=by ext g)(hs:swapsWith e (some (.Name x pos')) pos.line X.env=pure false:=by rfl)(hf:X.fn x=true\/X.env.scope.names.lookup x=some .local:=by first | exact .inl rfl | exact .inr rfl | assumption):PS X (.Assign [.Name x pos'] e pos) (tAsg te (gName i)):=ps_set hN hi hx he hs hf
theorem zG (i:Nat){x:Str}(hN:X.N.Nodup:=by assumption)(hi:X.N[i]?=some x:=by rfl)(hx:Loc X.env.scope x:=by ext g)(hf:X.fn x=true\/X.env.scope.names.lookup x=some .local:=by first | exact .inl rfl | exact .inr rfl | assumption):PG X (.Name x pos) (gName i):=yA hN hi hx hf
end
end L2
namespace L2
open PySem
theorem oT{H:Hp}{b:Addr}{o:HO}(e:noT H b=some o):H b=some o:=(vU e).1
theorem sL{K:zh}{H:Hp}{b:Addr}{xs:List V}(e:noT H b=some (.lst xs)):SqL K H b xs:=SqL.of (vU e).1
theorem nU{H:Hp}{b:Addr}{xs:List V}:noT (upd H b (.lst xs)) b=some (.lst xs):=x9 zm (nl _)
end L2
namespace My
open PySem L2 BM PyProof.Rows
def top (i:Nat):Stmt:=PySem.Challenge.pw_runmarks_k47_packed_answers.main.body.getD i (.Pass ⟨0,0,0,0⟩)
abbrev qW:Stmt:=top 6
theorem ja3:FnScope ["thing"] ["thing"] (defScope qW):=by ext b
abbrev qV:Stmt:=top 7
theorem jby:FnScope ["word","place"] ["word","place"] (defScope qV):=by ext b
abbrev qU:Stmt:=top 8
theorem jaL:FnScope ["place"] ["place"] (defScope qU):=by ext b
abbrev qT:Stmt:=top 9
theorem jZ:FnScope ["word"] ["word"] (defScope qT):=by ext b
abbrev qS:Stmt:=top 10
theorem ja8:FnScope ["word","by_two","by_four","by_eight","by_sixteen"] ["word"] (defScope qS):=by ext b
abbrev qR:Stmt:=top 11
theorem jay:FnScope ["word","place"] ["word","place"] (defScope qR):=by ext b
abbrev qQ:Stmt:=top 12
theorem jbz:FnScope ["word","k","passed"] ["word","k"] (defScope qQ):=by ext b
abbrev qP:Stmt:=top 13
theorem jaM:FnScope ["word"] ["word"] (defScope qP):=by ext b
abbrev qO:Stmt:=top 14
theorem ja4:FnScope ["word"] ["word"] (defScope qO):=by ext b
abbrev qN:Stmt:=top 15
theorem jaN:FnScope ["first","last"] ["first","last"] (defScope qN):=by ext b
abbrev qM:Stmt:=top 16
theorem ja9:FnScope ["places","word","place"] ["places"] (defScope qM):=by ext b
abbrev qL:Stmt:=top 17
theorem jah:FnScope ["runs","word","first","last"] ["runs"] (defScope qL):=by ext b
abbrev qK:Stmt:=top 18
theorem jaO:FnScope ["text","number","sign"] ["text"] (defScope qK):=by ext b
abbrev qJ:Stmt:=top 20
theorem jbA:FnScope ["many","goes_on","low","high","looks","at"] ["many","goes_on"] (defScope qJ):=by ext b
abbrev qI:Stmt:=top 27
theorem aq:FnScope ["thing"] ["thing"] (defScope qI):=by ext b
abbrev qH:Stmt:=top 40
theorem jaz:FnScope ["at"] ["at"] (defScope qH):=by ext b
abbrev qG:Stmt:=top 43
theorem jam:FnScope ["tape","glance"] ["tape"] (defScope qG):=by ext b
abbrev qE:Stmt:=top 44
theorem jaA:FnScope ["tape","n","glance","at","there"] ["tape","n"] (defScope qE):=by ext b
abbrev qD:Stmt:=top 45
theorem jai:FnScope ["tape","n","glance","at","there","within"] ["tape","n"] (defScope qD):=by ext b
abbrev u0:Stmt:=top 46
theorem jo:FnScope ["tape","k","glance","at","word","within"] ["tape","k"] (defScope u0):=by ext b
abbrev qB:Stmt:=top 48
theorem jaP:FnScope ["_law_script","_law_k"] ["_law_script","_law_k"] (defScope qB):=by ext b
abbrev qA:Stmt:=top 49
theorem jba:FnScope ["_law_found"] ["_law_found"] (defScope qA):=by ext b
abbrev p6:Stmt:=top 50
theorem jbb:FnScope ["_law_cell","_law_k","_law_number"] ["_law_cell","_law_k"] (defScope p6):=by ext b
abbrev p5:Stmt:=top 51
theorem jbc:FnScope ["_law_cell","_law_key","_law_x","_law_low","_law_first","_law_way","_law_more"] ["_law_cell","_law_key"] (defScope p5):=by ext b
abbrev p4:Stmt:=top 52
theorem jaa:FnScope ["_law_script","_law_cell","_law_keys","_law_some","_law_one"] ["_law_script"] (defScope p4):=by ext b
abbrev px:Stmt:=top 53
theorem jbB:FnScope ["_law_number","_law_many","_law_signs","_law_k"] ["_law_number","_law_many"] (defScope px):=by ext b
abbrev pq:Stmt:=top 54
theorem jbC:FnScope ["_law_places","_law_runs_here","_law_place"] ["_law_places"] (defScope pq):=by ext b
abbrev pk:Stmt:=top 55
theorem jbD:FnScope ["_law_numbers_here","_law_groups","_law_number","_law_rows_here","_law_key","_law_places","_law_runs_here","_law_kind"] ["_law_numbers_here"] (defScope pk):=by ext b
abbrev ph:Stmt:=top 56
theorem jbE:FnScope ["_law_places","_law_runs_here","_law_kind","_law_held","_law_place","_law_fields_here","_law_first","_law_last"] ["_law_places","_law_runs_here","_law_kind"] (defScope ph):=by ext b
abbrev pZ:Stmt:=top 57
theorem ja5:FnScope ["_law_rows_here","_law_fields_here","_law_bodies","_law_many","_law_stop","_law_key","_law_places","_law_runs_here","_law_kind","_law_body_here"] ["_law_rows_here"] (defScope pZ):=by ext b
abbrev pY:Stmt:=top 58
theorem jbd:FnScope ["_law_spans_here","_law_tape","_law_total","_law_span"] ["_law_spans_here","_law_tape"] (defScope pY):=by ext b
abbrev pX:Stmt:=top 59
theorem jbe:FnScope ["_law_found","_law_due","_law_tape"] ["_law_found","_law_due","_law_tape"] (defScope pX):=by ext b
abbrev pW:Stmt:=top 60
theorem jbf:FnScope ["_law_found","_law_due","_law_tape"] ["_law_found","_law_due","_law_tape"] (defScope pW):=by ext b
abbrev pV:Stmt:=top 61
theorem jan:FnScope ["_law_tape","_law_thing","_law_refused"] ["_law_tape","_law_thing"] (defScope pV):=by ext b
abbrev pU:Stmt:=top 62
theorem jaB:FnScope ["_law_tape","_law_thing"] ["_law_tape","_law_thing"] (defScope pU):=by ext b
abbrev pT:Stmt:=top 63
theorem jao:FnScope ["_law_script","_law_numbers_here","_law_some","_law_k","_law_x","_law_off"] ["_law_script","_law_numbers_here"] (defScope pT):=by ext b
abbrev pS:Stmt:=top 64
theorem ja6:FnScope ["_law_tape","_law_way","_law_n"] ["_law_tape","_law_way","_law_n"] (defScope pS):=by ext b
abbrev pQ:Stmt:=top 65
theorem jbg:FnScope ["_law_tape","_law_spans_here","_law_x","_law_seen","_law_first","_law_end","_law_place","_law_signs","_law_one"] ["_law_tape","_law_spans_here","_law_x"] (defScope pQ):=by ext b
abbrev pP:Stmt:=top 66
theorem jbh:FnScope ["_law_tape","_law_way","_law_n","_law_x","_law_found","_law_answer_here","_law_spans_here","_law_other_here","_law_again"] ["_law_tape","_law_way","_law_n","_law_x"] (defScope pP):=by ext b
abbrev vS:Stmt:=top 67
theorem jbL:FnScope ["_law_script","_law_numbers_here","_law_tape","_law_many","_law_n","_law_k","_law_thing","_law_x"] ["_law_script"] (defScope vS):=by ext b
abbrev fL:Stmt:=inClass (top 42) 0
theorem jK:FnScope ["self","tape"] ["self","tape"] (defScope fL):=by ext b
abbrev fK:Stmt:=inClass (top 42) 1
theorem jaj:FnScope ["self","first","many","end"] ["self","first","many"] (defScope fK):=by ext b
abbrev fJ:Stmt:=inClass (top 42) 2
theorem j4:FnScope ["self","first","many"] ["self","first","many"] (defScope fJ):=by ext b
abbrev fI:Stmt:=inClass (top 42) 3
theorem jaC:FnScope ["self","at"] ["self","at"] (defScope fI):=by ext b
abbrev fH:Stmt:=inClass (top 42) 4
theorem jak:FnScope ["self","at"] ["self","at"] (defScope fH):=by ext b
abbrev fG:Stmt:=inClass (top 42) 5
theorem jy:FnScope ["self","at"] ["self","at"] (defScope fG):=by ext b
abbrev sZ:Stmt:=inClass (top 42) 6
theorem jal:FnScope ["self","key","at"] ["self","key"] (defScope sZ):=by ext b
abbrev fF:Stmt:=inClass (top 42) 7
theorem jL:FnScope ["self","at","kind","begin","many","body","places","runs"] ["self","at"] (defScope fF):=by ext b
structure Blt (mg:Str->Option Value):Prop where
 len:mg "len"=none
 range:mg "range"=none
 isi:mg "isinstance"=none
 int:mg "int"=none
 bool:mg "bool"=none
 str:mg "str"=none
 lst:mg "list"=none
 tup:mg "tuple"=none
 min:mg "min"=none
 sorted:mg "sorted"=none
 st:mg "set"=none
 ValueError:mg "ValueError"=none
structure CD_Glance (K:zh)(mg:Str->Option Value)(C:Addr):Prop where
 at_:mg "Glance"=some (.ref C)
 c:Cls K C
 init:MakerAt K C "Glance.__init__" fL ["self","tape"]
 m_signs:MDefAt K C "signs" "Glance.signs" fK ["self","first","many"]
 m_number:MDefAt K C "number" "Glance.number" fJ ["self","first","many"]
 m_key:MDefAt K C "key" "Glance.key" fI ["self","at"]
 m_ahead:MDefAt K C "ahead" "Glance.ahead" fH ["self","at"]
 m_bytes_ahead:MDefAt K C "bytes_ahead" "Glance.bytes_ahead" fG ["self","at"]
 m_found:MDefAt K C "found" "Glance.found" sZ ["self","key"]
 m_word:MDefAt K C "word" "Glance.word" fF ["self","at"]
 n_tape:NoAttr K C "tape"
 n_spans:NoAttr K C "spans"
 n_heads:NoAttr K C "heads"
def rzX (C:Addr)(sp:Sp)(E:XK)(vs:List V)(H1:Hp):Prop:=vs.length<=1000/\∀ ea,H1 ea=none->sp (.ref ea::vs) (upd H1 ea (excO ea C)) (λv H2=>v=.non/\∃ dx,H2 ea=some (excH ea C dx)/\E (.ref C) (some dx) (del H2 ea)) E0
theorem fE {E:XK}{t:TA}{σ:L2.St}:tRaiseX C sp E t D σ H=t σ H λvs H1=>rzX C sp E vs H1:=rfl
local macro_rules|`(tactic|ext a)=>do
 let f:=λ(s:String)=>(s.splitOn ",").toArray.map λx=>Lean.mkIdent x.toName
 let a:=f "rIndexT,tMeU,rCatT,rSlT,tRevS,tPar,tDSet,tSeq,fE,tNext,tAsg,gName,tVar,tC,tOp,tUn,rI,rI0,rU,rEq,rNe,hE,g8,gz,tRet,tDrop,tIfS,tTest,tB,tAnd,tOr,tNot,tAndV,tNotV,tIf,tCall,tNil,tCons,tTup,tLst,tCB,tBM,tBM0,rIxL,rIxT,rIxS,gSub,rSetL,rAppend,rBitLen,rCat,rRep,iRng1,iRng2,iList,tChain,rReverse,tNoTest,hU,hO,rLen,rListOf,rIn,tDNewK,tMeD,rExtend,rSlS,sThaw,tMake,tFld,sFld,gTup,gCons,gNil,tSl,tNoPart,tPart,rSlL,iStr,iRng3,rJoin,CDiv,CMul,CPow,CShl,L2.start,capSt,List.map_cons,List.map_nil,List.nil_append,List.cons_append,List.getElem?_cons_zero,List.getElem?_cons_succ,List.set_cons_zero,List.set_cons_succ,Nat.reduceAdd,Nat.reduceSub,tFStr,fb,tSortSet,tCallV,tCallLam,tNever,iDItem,onV_s,onI_i,onB_b,onR_r,onT_t,tLZip"
 let b:=a++f "nk,nj,onB_ap,onR_ap,onT_ap,tyV_int,tyV_list,rIsi_int,cB,rIsi_blb,rIsi_bli,tCBK,rMaxD,tyV_str,List.length_cons,List.length_nil,List.append_nil,List.getD_cons_zero,List.getD_cons_succ,rep0,rep1,rep2,rep3,rep4,rep5,rep6,rep7,rep9,Int.reduceLT,Int.reduceLE,Int.reducePow,Int.reduceNeg,Int.reduceMul,Int.reduceAdd,Int.reduceSub,Int.reduceToNat,Int.reduceEq,reduceIte,Option.some.injEq,V.int.injEq,V.bl.injEq,V.ref.injEq,V.str.injEq,V.ty.injEq,List.cons.injEq,exists_and_left,exists_eq_left,exists_eq_left',exists_eq_right,exists_eq',exists_eq,and_true,true_and,Int.zero_add,decide_eq_true_eq,Bool.not_eq_true',decide_eq_false_iff_not,if_true,if_false,Bool.false_eq_true,Bool.true_eq_false,ite_not,not_true_eq_false,not_false_eq_true,Bool.not_true,Bool.not_false,decide_true,decide_false,or_true,true_or,reduceCtorEq,false_and,and_false,exists_false,false_or,or_false"
 `(tactic| ((try dsimp only [$[$a:ident],*]);try simp only [$[$b:ident],*]))
def mixI (c k:Int):Int:=((c*48271+k*7919+104729)%2147483647)*((c*48271+k*7919+104729)%2147483647)%2147483629
def spMixed:Sp:=λvs H Q _=>∃ c k:Int,vs=[.int c,.int k]/\Q (.int (mixI c k)) H
theorem ok_mixed (d:DefAt K mg "_law_mixed" p6 ["_law_cell","_law_k"]):FnAt P w K mg base "_law_mixed" ["_law_cell","_law_k"] 1 spMixed:=by
 refine FnAt.of d jbb ?_ ?_;ext c;have nd:=jbb.nd;obtain ⟨c,k,rfl,q⟩:=h;refine ⟨_,(zu (zd 2 (zv zL (zv zX (zv zX (zv xt (pv 0) zx) (zv xt (pv 1) zx)) zx) zx)) (zp (zb (zv zL (zv xt (pv 2) (pv 2)) zx)))),?_⟩
 ext a;have h1:=wj (c*48271+k*7919+104729) (b:=2147483647) (by decide);have h2:=wD (c*48271+k*7919+104729) (b:=2147483647) (by decide);exact ⟨.inl ⟨by lia,by lia⟩,q⟩
def spCell (K:zh):Sp:=λvs H Q _=>∃ (a:Addr) (ns:List Int) (k:Nat),vs=[.ref a,.int k]/\SqL K H a (ns.map V.int)/\Q (.int (ns.getD k 0)) H
theorem ao (B:Blt mg)(d:DefAt K mg "_law_cell_at" qB ["_law_script","_law_k"]):FnAt P w K mg base "_law_cell_at" ["_law_script","_law_k"] 1 (spCell K):=by
 refine FnAt.of d jaP ?_ ?_;ext c;have nd:=jaP.nd;obtain ⟨a,ns,k,rfl,hS,q⟩:=h;refine ⟨_,(zu (zQ (zP wc (pv 1) (zB (xh K) rfl B.len yZ (zy (pv 0) zw))) (zp (zb (zN (xE K) (pv 0) (pv 1)))) zM) (zp (zb zx))),?_⟩
 ext a;refine ⟨_,.inl hS,?_⟩;rw [za];by_cases hk:k<ns.length;{rw [if_pos (by lia)];refine ⟨_,hS,.int (ns.getD k 0),vD ?_,q⟩;rw [yR,zV hk,yL,zV hk];rfl}
 . rw [if_neg (by lia)];have e:ns.getD k 0=0:=by rw [yL,kF (by lia)];rfl
   rw [e] at q;exact q
def spWhole:Sp:=λvs H Q _=>∃ i:Int,vs=[.int i]/\Q (.bl true) H
theorem ok_whole (B:Blt mg)(d:DefAt K mg "_law_whole" qA ["_law_found"]):FnAt P w K mg base "_law_whole" ["_law_found"] 1 spWhole:=by refine FnAt.of d jba ?_ ?_;ext c;have nd:=jba.nd;obtain ⟨k,rfl,q⟩:=h;refine ⟨_,(zp (zb (we (zB (vx K) rfl B.isi vy (zy (pv 0) (zy (vz (v:=.ty "int") rfl B.int boot_int rfl) zw))) (vY (pe_not (zB (vx K) rfl B.isi vy (zy (pv 0) (zy (vz (v:=.ty "bool") rfl B.bool boot_bool rfl) zw)))))))),?_⟩;ext a;exact q
theorem yU {m:Addr}{nm:Str}{k:Nat}{dx:Addr}{fs:List (Str × V)}{ns:List Str}{F:Sp->Prop}(h:H m=some (.ins C dx fs))(l:fs.lookup nm=none)(M:MethAt P w K mg base C nm ns k sp)(q:F sp):∃ C dx fs,H m=some (.ins C dx fs)/\List.lookup nm fs=none/\∃ ns sp,MethAt P w K mg base C nm ns k sp/\F sp:=⟨C,dx,fs,h,l,ns,sp,M,q⟩
theorem xg {m:Addr}{nm:Str}{dx:Addr}{fs:List (Str × V)}{Q:V->Prop}(h:H m=some (.ins C dx fs))(c:Cls K C)(n:NoAttr K C nm)(l:fs.lookup nm=some v)(q:Q v):∃ C dx fs,H m=some (.ins C dx fs)/\Cls K C/\NoAttr K C nm/\∃ v,List.lookup nm fs=some v/\Q v:=⟨C,dx,fs,h,c,n,v,l,q⟩
theorem zq {t u:TS}{σ:L2.St}(h:∀ k:L2.St->Hp->Prop,(∀ σ' H',u D σ' H'->k σ' H')->t { D with nx:=k } σ H):tSeq t u D σ H:=h (u D) λ_ _ x=>x
theorem none_of {p:Addr}(s:Same H H')(h:H' p=none):H p=none:=by
 cases e:H p with
 | none=>rfl
 | some o=>rw [s _ _ e] at h;cases h
theorem small5 {n:Nat}(h:n<=100000):n<=sizeLine:=zO h (by decide)
def Ev (te:TE)(σ:L2.St)(v:V):Prop:=∀ (H:Hp) (Q:VK),Q v H->te σ H Q
def Evs (ta:TA)(σ:L2.St)(vs:List V):Prop:=∀ (H:Hp) (R:List V->Hp->Prop),R vs H->ta σ H R
theorem Ev.c {σ:L2.St}:Ev (tC v) σ v:=λH Q q=>q
theorem Evs.nil {σ:L2.St}:Evs tNil σ []:=λH R r=>r
theorem Evs.cons {ta:TA}{σ:L2.St}(a:Ev te σ v)(b:Evs ta σ vs):Evs (tCons te ta) σ (v::vs):=λH R r=>by
 rw [tCons];exact a H _ (b H _ r)
theorem fC (xs:List V)(n:Nat):cutV xs none (some (n:Int))=xs.take n:=by
 unfold cutV;rw [HT.sIx_nat,show HT.sIx xs.length 0 none=0 from rfl,ve,uY];by_cases c:n<=xs.length;{rw [rW c]};{rw [Nat.min_eq_right (by lia),yP (zi _),yP (by lia)]}
theorem compV {a:Addr}{m:Nat}{σ:L2.St}{Q:VK}(f:Nat->V)(hS:SqL K H1 a xs)(hn:xs.length<=1000000)
   (he:∀ (i:Nat) x H2 (R:VK),xs[i]?=some x->Same H1 H2->(∀ H3,Same H2 H3->R (f i) H3)->te ((capSt m caps σ).set 0 (some x)) H2 R)
   (hq:∀ D H2,H1 D=none->Same H1 H2->H2 D=some (.lst ((List.range xs.length).map f))->Q (.ref D) H2):CompJ (Itl K a) m caps (gName 0) tNoTest te σ H1 Q:=by
 refine compA (xs:=xs) (λi y _=>y=f i) (λ_ _ _ _ _ h=>h) hS hn (λi x H2 R hx s2 q2=>he i x H2 R hx s2 λH3 s3=>q2 _ H3 s3 rfl) (λD ys H2 hD s2 h2 l2 h3=>?_);have e:ys=(List.range xs.length).map f:=by
   refine wO (by rw [za,yc,l2]) λi a1 a2=>?_
   rw [h3 i _ (zV a1),w6,ue]
 exact hq D H2 hD s2 (e ▸ h2)
theorem pair_get {α β:Type}{F:α->β->Prop}{us:List α}{es:List β}{i:Nat}{u:α}(h:Paired F us es)(e:us[i]?=some u):∃ e,es[i]?=some e/\F u e:=by
 induction h generalizing i with
 | nil=>cases e
 | cons r _ ih =>
   cases i with
   | zero=>cases e;exact ⟨_,rfl,r⟩
   | succ i=>exact ih e
theorem fB {α β:Type}{F:α->β->Prop}{us:List α}{es:List β}{i:Nat}{u:α}{e:β}(h:Paired F us es)(e1:us[i]?=some u)(e2:es[i]?=some e):F u e:=by obtain ⟨z,h1,h2⟩:=pair_get h e1;rw [e2] at h1;cases h1;exact h2
theorem pO {α β:Type}(f:α->β)(g:α->β):∀ l:List α,(l.flatMap λr=>[f r,g r]).length=2*l.length
 | []=>rfl
 | x::r=>by
   rw [xo,zj,pO f g r];show 2+_=2*(r.length+1);lia
theorem fA {n p:Nat}(h:p<n):ixN n (p:Int)=some p:=by unfold ixN;rw [if_pos (by lia),if_pos (by lia)];rfl
def Tups (H:Hp):List V->List (Nat × Nat)->Prop:=Paired λv r=>∃ t,v=.ref t/\H t=some (.tup [.int (r.1:Nat),.int (r.2:Nat)])
def RunsL (H:Hp)(p:Addr)(rs:List (Nat × Nat)):Prop:=∃ vs,H p=some (.lst vs)/\Tups H vs rs
theorem Tups.same (h:Tups H vs rs)(s:Same H H'):Tups H' vs rs:=Paired.mapP h λ_ _ ⟨t,e,ht⟩=>⟨t,e,s _ _ ht⟩
theorem RunsL.same {p:Addr}(h:RunsL H p rs)(s:Same H H'):RunsL H' p rs:=let ⟨vs,e,t⟩:=h;⟨vs,s _ _ e,t.same s⟩
theorem Tups.length (h:Tups H vs rs):vs.length=rs.length:=vp h
theorem Tups.snoc {t:Addr}{r:Nat × Nat}(h:Tups H vs rs)(e:H t=some (.tup [.int (r.1:Nat),.int (r.2:Nat)])):Tups H (vs++[.ref t]) (rs++[r]):=by
 induction h with
 | nil=>exact .cons ⟨_,rfl,e⟩ .nil
 | cons r _ ih=>exact .cons r ih
theorem Tups.last {r:Nat × Nat}(h:Tups H vs (rs++[r])):∃ vs0 t,vs=vs0++[.ref t]/\Tups H vs0 rs/\H t=some (.tup [.int (r.1:Nat),.int (r.2:Nat)]):=by
 induction rs generalizing vs with
 | nil =>
   cases h with
   | cons q n =>
     cases n;obtain ⟨t,e,h⟩:=q;exact ⟨[],t,by rw [e];rfl,.nil,h⟩
 | cons x xs ih =>
   cases h with
   | cons q n =>
     obtain ⟨vs0,t,e,h1,h2⟩:=ih n;exact ⟨_::vs0,t,by rw [e];rfl,.cons q h1,h2⟩
def pairD (r:Nat × Nat):PyData:=.tuple [.int (r.1:Nat),.int (r.2:Nat)]
theorem pN (h:Tups H vs rs):RdDs K H vs (rs.map pairD):=by
 induction h with
 | nil=>exact .nil
 | cons r _ ih =>
   obtain ⟨t,e,h⟩:=r;subst e;exact .cons (.tup (SqT.of h) (.cons (.int _) (.cons (.int _) .nil))) ih
theorem eo:∀ rs:List (Nat × Nat),PyData.canLayAll0 (rs.map pairD)=true
 | []=>rfl
 | r::rs=>by
   rw [yz];simp only [PyData.canLayAll0,pairD,PyData.canLay0,eo rs,Bool.and_self]
theorem eZ:∀ rs:List (Nat × Nat),PyData.depthAll (rs.map pairD)<=1
 | []=>by decide
 | r::rs=>by
   have:=eZ rs;rw [yz];simp only [PyData.depthAll,pairD,PyData.depth];lia
theorem pL (rs:List (Nat × Nat)):SeqAt.shaped (.list (rs.map pairD))=true:=by
 have h1:=eZ rs;have h2:PyData.depth (.list (rs.map pairD))<=64:=by simp only [PyData.depth];lia
 show (PyData.canLay0 (.list (rs.map pairD))&&decide (PyData.depth (.list (rs.map pairD))<=64))=true;rw [xP];exact ⟨by simp only [PyData.canLay0];exact eo rs,zK h2⟩
theorem eY (rs qs:List (Nat × Nat)):SeqAt.noMix (.list (rs.map pairD)) (.list (qs.map pairD))=true :=
 SeqAt.noMix_of_shape (.list (.tuple [.int,.int])) rfl _ _ (list_map_has λ_=>rfl) (list_map_has λ_=>rfl)
theorem mB:∀ rs qs:List (Nat × Nat),PySem.Spec.sameAll (rs.map pairD) (qs.map pairD)=decide (rs=qs)
 | [],[]=>by simp [PySem.Spec.sameAll]
 | [],_::_=>by simp [PySem.Spec.sameAll]
 | _::_,[]=>by simp [PySem.Spec.sameAll]
 | (a,b)::r,(c,d)::q=>by
   simp only [yz,PySem.Spec.sameAll,PySem.Spec.same,pairD,mB r q,Bool.and_true];rw [vf];simp;lia
section
variable {Q:VK}{a b:Addr}
theorem ak {qs:List (Nat × Nat)}(h1:RunsL H a rs)(h2:RunsL H b qs)(q:Q (.bl (!decide (rs=qs))) H):rNeD K (.ref a) (.ref b) H Q:=by obtain ⟨vs,e1,t1⟩:=h1;obtain ⟨us,e2,t2⟩:=h2;exact ⟨_,_,.lst (SqL.of e1) (pN t1),.lst (SqL.of e2) (pN t2),pL rs,pL qs,eY rs qs,by simp only [PySem.Spec.same];rw [mB];exact q⟩
theorem eV {qs:List (Nat × Nat)}(h1:RunsL H a rs)(h2:RunsL H b qs)(q:Q (.bl (decide (rs=qs))) H):rEqD K (.ref a) (.ref b) H Q:=by obtain ⟨vs,e1,t1⟩:=h1;obtain ⟨us,e2,t2⟩:=h2;exact ⟨_,_,.lst (SqL.of e1) (pN t1),.lst (SqL.of e2) (pN t2),pL rs,pL qs,eY rs qs,by simp only [PySem.Spec.same];rw [mB];exact q⟩
end
theorem Tups.upd {H:Hp}{r:Addr}{xs ys:List V}{vs:List V}{rs:List (Nat × Nat)}(h:Tups H vs rs)(e:H r=some (.lst xs)):Tups (upd H r (.lst ys)) vs rs :=
 Paired.mapP h λ_ _ ⟨t,z,ht⟩=>⟨t,z,by rw [zo (ne_of ht e (by intro q;cases q))];exact ht⟩
theorem ixN_last:ixN (vs++[v]).length (-1)=some vs.length:=by
 have hl:(vs++[v]).length=vs.length+1:=by simp
 unfold ixN;rw [hl,if_neg (by decide),if_pos (by lia)];congr 1
 lia
theorem set_last {u:V}:(vs++[v]).set vs.length u=vs++[u]:=by rw [oW _ _ (zi _),wg];rfl
theorem Up.lt256 {ps:List Nat}(h:Up 0 ps)(hk:∀ p∈ps,p<256):ps.length<=256:=by
 have:∀ (qs:List Nat) (a:Nat),Up a qs->(∀ p∈qs,p<256)->a<=256->qs.length+a<=256:=by
   intro qs;induction qs with
   | nil=>intro a _ _ h;show 0+a<=256;lia
   | cons p r ih =>
     intro a u w _;have h1:=w p xp;have h2:=u.1;have:=ih (p+1) u.2 (λq hq=>w q (xx _ hq)) h1;rw [zZ];lia
 exact this ps 0 h hk (by lia)
def tx (bs:List Bool):Str:=⟨(bs.map λb=>if b=true then 49 else 48).toArray⟩
def sg (b:Bool):Str:=if b=true then "1" else "0"
theorem sg_eq (b:Bool):sg b=⟨#[if b=true then 49 else 48]⟩:=by cases b<;>decide +kernel
theorem x8 (bs:List Bool):(tx bs).length=bs.length:=by show (Array.size (bs.map λb=>if b=true then 49 else 48).toArray)=_;rw [yv,za]
theorem eU (bs:List Bool):(tx bs).cps.size=bs.length:=x8 bs
theorem l9:∀ (ys:List Str),Str.join Str.empty ys=⟨(ys.flatMap λy=>y.cps.toList).toArray⟩
 | []=>rfl
 | [x]=>by show x=(⟨(([x]:List Str).flatMap λy=>y.cps.toList).toArray⟩:Str);cases x;simp
 | x::y::r=>by
   have ih:=l9 (y::r);show (⟨(x.cps++#[])++(Str.join Str.empty (y::r)).cps⟩:Str)=_;rw [ih];simp
theorem l7 (bs:List Bool):Txt.join "" (bs.map sg)=tx bs:=by
 show Builtin.Str.glued _ _=_;rw [StrLaws.glued_eq_join];have e:("":Str)=Str.empty:=by decide +kernel
 rw [e,l9];unfold tx;congr 2
 induction bs with
 | nil=>rfl
 | cons b r ih=>rw [yz,xo,ih,sg_eq];rfl
theorem tx_get {bs:List Bool}{i:Nat}(h:i<bs.length):(tx bs).cps.toList[i]?=some (if bs.getD i false=true then 49 else 48):=by unfold tx;rw [yL,zV h];simp [zV h]
theorem one_eq (b:Bool):decide ((⟨#[if b=true then 49 else 48]⟩:Str)="1")=b:=by cases b<;>decide +kernel
theorem sgn_tx {bs:List Bool}{i:Nat}(h:i<bs.length):sgn (tx bs) i=.str ⟨#[if bs.getD i false=true then 49 else 48]⟩:=by have:=tx_get h;unfold sgn;rw [yS] at this;rw [t6,this];rfl
theorem pK:∀ bs:List Bool,((bs.map sg).map (·.length)).sum=bs.length
 | []=>rfl
 | b::r=>by
   rw [yz,yz,List.sum_cons,pK r,zZ,sg_eq];show 1+_=_;lia
def spNumber:Sp:=λvs H Q _=>∃ bs:List Bool,vs=[.str (tx bs)]/\bs.length<=400/\Q (.int (numA 0 bs:Nat)) H
structure NumI (bs:List Bool)(H:Hp)(i:Nat)(σ:L2.St)(H':Hp):Prop where
 ex:∃ v,σ=[some (.str (tx bs)),some (.int (numA 0 (bs.take i):Nat)),v]
 hp:H'=H
theorem eS (d:DefAt K mg "number_of" qK ["text"]):FnAt P w K mg base "number_of" ["text"] 1 spNumber:=by
 refine FnAt.of d jaO ?_ ?_;ext c;have nd:=jaO.nd;obtain ⟨bs,rfl,hb,q⟩:=h;refine ⟨_,(zu (zd 1 zx) (zu (yW yd rfl (pi_str (pv 0)) (zG 2) (zp (zd 1 (zv zX (zv xt zx (pv 1)) (rH (zP yo (pv 2) xj) zx zx))))) (zp (zb (pv 1))))),?_⟩
 ext a;refine loopF (NumI bs H) ⟨⟨none,rfl⟩,rfl⟩ ?_ ?_
 . rintro i σ H' hi ⟨⟨v,rfl⟩,rfl⟩;rw [eU] at hi;rw [sgn_tx hi];ext a;have e:bs.take (i+1)=bs.take i++[bs.getD i false]:=by
     rw [yC,yL,zV hi];rfl
   have one:=one_eq (bs.getD i false);generalize bs.getD i false=b at e one ⊢;cases b;{rw [if_neg (of_decide_eq_false one)];refine ⟨⟨some (.str ⟨#[48]⟩),?_⟩,rfl⟩;rw [e,qx];rfl};{rw [if_pos (wU one)];refine ⟨⟨some (.str ⟨#[49]⟩),?_⟩,rfl⟩;rw [e,qx];rfl}
 . rintro σ H' ⟨⟨v,rfl⟩,rfl⟩;ext a;rw [eU,wM];exact q
theorem aj (c k:Int):0<=mixI c k/\mixI c k<2147483629:=⟨wj _ (by decide),wD _ (by decide)⟩
def spPcT:Sp:=λvs H Q _=>∃ (c:Int) (k:Nat),vs=[.int c,.int k]/\k<256/\∀ (r:Addr) (zs:List Nat) (H':Hp),Same H H'->H r=none->H' r=some (.lst (pint zs))->zs.length<=600->Q (.ref r) H'
theorem ok_pcT (B:Blt mg)(ja:FnAt P w K mg base "_law_mixed" ["_law_cell","_law_k"] 1 spMixed)(d:DefAt K mg "_law_piece" p5 ["_law_cell","_law_key"]):FnAt P w K mg base "_law_piece" ["_law_cell","_law_key"] 2 spPcT:=by
 refine FnAt.of d jbc ?_ ?_;ext c;have nd:=jbc.nd;obtain ⟨c,k0,rfl,k256,q⟩:=h;refine ⟨_,(zu (zd 2 (ze ja (zy (pv 0) (zy zx zw)))) (zu (zd 3 (zv xt zx (pv 1))) (zu (zd 4 (zv zX (pv 3) (zv zL (pv 2) zx))) (zu (zd 5 (zv zL (zv xr (pv 2) zx) zx)) (zu (zd 6 (zv xr (pv 2) zx)) (zu (zQ (zP yo (pv 5) zx) (zp (zb (yi (zy (pv 4) zw)))) zM) (zu (zQ (zP yo (pv 5) zx) (zp (zb (xF ["_law_k"] [4] rfl (xG rfl B.range (zy (zv zX zx (zv zL (pv 6) zx)) zw)) (λ_ _ _ _ _=>yA (i:=0) (by show List.Nodup (["_law_k","_law_first"]:List Str);decide +kernel) rfl (Or.inl rfl)) (λ_ _ _ _ _=>wx) (λ_ _ _ _ _=>(zv zX (pv 1) (pv 0))) ⟨⟨_,rfl,rfl,.inl rfl⟩,trivial⟩ xi))) zM) (zu (zQ (zP yo (pv 5) zx) (zp (zb (xF ["_law_k"] [4,6] rfl (xG rfl B.range (zy (zv zX zx (zv zL (zv xr (pv 6) zx) zx)) zw)) (λ_ _ _ _ _=>yA (i:=0) (by show List.Nodup (["_law_k","_law_first","_law_more"]:List Str);decide +kernel) rfl (Or.inl rfl)) (λ_ _ _ _ _=>wx) (λ_ _ _ _ _=>(zv zX (pv 1) (zv xt (pv 0) (zv zX zx (zv zL (pv 2) zx))))) ⟨⟨_,rfl,rfl,.inl rfl⟩,⟨⟨_,rfl,rfl,.inl rfl⟩,trivial⟩⟩ xi))) zM) (zu (zQ (zP yo (pv 5) zx) (zp (zb (xF ["_law_k"] [3] rfl (xG rfl B.range (zy (zv zX zx (zv zL (pv 6) zx)) zw)) (λ_ _ _ _ _=>yA (i:=0) (by show List.Nodup (["_law_k","_law_low"]:List Str);decide +kernel) rfl (Or.inl rfl)) (λ_ _ _ _ _=>wx) (λ_ _ _ _ _=>(zv zX (pv 1) (zv xt zx (pv 0)))) ⟨⟨_,rfl,rfl,.inl rfl⟩,trivial⟩ xi))) zM) (zu (zQ (zP yo (pv 5) zx) (zp (zb (xF ["_law_k"] [3] rfl (xG rfl B.range (zy (zv zX zx (zv zL (pv 6) zx)) zw)) (λ_ _ _ _ _=>yA (i:=0) (by show List.Nodup (["_law_k","_law_low"]:List Str);decide +kernel) rfl (Or.inl rfl)) (λ_ _ _ _ _=>wx) (λ_ _ _ _ _=>(zv zX (zv zX (pv 1) (zv xt zx (zv xr (pv 0) zx))) (zv zL (pv 0) zx))) ⟨⟨_,rfl,rfl,.inl rfl⟩,trivial⟩ xi))) zM) (zu (zQ (zP yo (pv 5) zx) (zp (zb (xF ["_law_k"] [3] rfl (xG rfl B.range (zy (zv zX zx (zv zL (pv 6) zx)) zw)) (λ_ _ _ _ _=>yA (i:=0) (by show List.Nodup (["_law_k","_law_low"]:List Str);decide +kernel) rfl (Or.inl rfl)) (λ_ _ _ _ _=>wx) (λ_ _ _ _ _=>(zv zX (zv zX (pv 1) (zv xt zx (zv xr (pv 0) zx))) (zv zL (pv 0) zx))) ⟨⟨_,rfl,rfl,.inl rfl⟩,trivial⟩ xi))) zM) (zu (zQ (zP yo (pv 5) zx) (zp (zb (xF ["_law_k"] [3] rfl (xG rfl B.range (zy zx zw)) (λ_ _ _ _ _=>yA (i:=0) (by show List.Nodup (["_law_k","_law_low"]:List Str);decide +kernel) rfl (Or.inl rfl)) (λ_ _ _ _ _=>wx) (λ_ _ _ _ _=>(zv zX (pv 1) (pv 0))) ⟨⟨_,rfl,rfl,.inl rfl⟩,trivial⟩ xi))) zM) (zp (zb (xF ["_law_k"] [3] rfl (xG rfl B.range (zy (zv zX zx (zv zL (pv 6) zx)) zw)) (λ_ _ _ _ _=>yA (i:=0) (by show List.Nodup (["_law_k","_law_low"]:List Str);decide +kernel) rfl (Or.inl rfl)) (λ_ _ _ _ _=>wx) (λ_ _ _ _ _=>(zv zX (zv zX (pv 1) zx) (pv 0))) ⟨⟨_,rfl,rfl,.inl rfl⟩,trivial⟩ xi))))))))))))))),?_⟩
 refine zq λk hk=>?_
 ext a;refine ⟨_,_,rfl,hk _ _ (zq λk hk=>?_)⟩;have hx:=aj c 1;generalize mixI c 1=x at hx ⊢;ext a;refine hk _ _ (zq λk hk=>?_);ext a;refine hk _ _ (zq λk hk=>?_);ext a;refine hk _ _ (zq λk hk=>?_);generalize x/256%8=wy;have f0:∃ fs:Nat,256*(k0:Int)+x%256=(fs:Int):=⟨(256*(k0:Int)+x%256).toNat,by lia⟩
 have m0:∃ mo:Nat,x/2048=(mo:Int):=⟨(x/2048).toNat,by lia⟩
 obtain ⟨fs,ef⟩:=f0;obtain ⟨mo,em⟩:=m0;rw [ef];ext a;rw [em];refine hk _ _ (zq λk hk=>?_);ext a;have fin:∀ (n:Nat) (e:Nat->Nat),n<=600->∀ D,H D=none->Q (.ref D) (upd H D (.lst (((List.range n).filter λ_=>true).map λi=>V.int (e i:Nat)))):=λn e hn D nD=>by
   refine q D ((List.range n).map e) _ (Same.new nD) nD ?_ (by rw [za,yc];exact hn);rw [zm,vM.mpr (λ_ _=>rfl)];unfold pint;rw [yO];rfl
 by_cases c0:wy=0;{rw [if_pos c0];exact ⟨by decide,λp np=>q p [fs] _ (Same.new np) np zm (show 1<=600 by decide)⟩}
 rw [if_neg c0];refine hk _ _ (zq λk hk=>?_);ext a;by_cases c1:wy=1;{rw [if_pos c1];refine ⟨by lia,by lia,compR (λ_=>true) (λi=>.int ((λi=>fs+i) i:Nat)) (by lia) (λi H2 R hi s h=>by ext a;exact h) (λi H2 R hi _ s h=>?_) (fin _ (λi=>fs+i) (by lia))⟩;ext a;exact h}
 rw [if_neg c1];refine hk _ _ (zq λk hk=>?_);ext a;by_cases c2:wy=2;{rw [if_pos c2];refine ⟨by lia,by lia,compR (λ_=>true) (λi=>.int ((λi=>fs+i*(2+mo%4)) i:Nat)) (by lia) (λi H2 R hi s h=>by ext a;exact h) (λi H2 R hi _ s h=>?_) (fin _ (λi=>fs+i*(2+mo%4)) (by lia))⟩;ext a;exact ⟨.inl ⟨by lia,by lia⟩,h⟩}
 rw [if_neg c2];refine hk _ _ (zq λk hk=>?_);ext a;by_cases c3:wy=3;{rw [if_pos c3];refine ⟨by lia,by lia,compR (λ_=>true) (λi=>.int ((λi=>256*k0+2*i) i:Nat)) (by lia) (λi H2 R hi s h=>by ext a;exact h) (λi H2 R hi _ s h=>?_) (fin _ (λi=>256*k0+2*i) (by lia))⟩;ext a;exact h}
 rw [if_neg c3];refine hk _ _ (zq λk hk=>?_);ext a;by_cases c4:wy=4;{rw [if_pos c4];refine ⟨by lia,by lia,compR (λ_=>true) (λi=>.int ((λi=>256*k0+4*(i/2)+i%2) i:Nat)) (by lia) (λi H2 R hi s h=>by ext a;exact h) (λi H2 R hi _ s h=>?_) (fin _ (λi=>256*k0+4*(i/2)+i%2) (by lia))⟩;ext a;exact h}
 rw [if_neg c4];refine hk _ _ (zq λk hk=>?_);ext a;by_cases c5:wy=5;{rw [if_pos c5];refine ⟨by lia,by lia,compR (λ_=>true) (λi=>.int ((λi=>256*k0+5*(i/3)+i%3) i:Nat)) (by lia) (λi H2 R hi s h=>by ext a;exact h) (λi H2 R hi _ s h=>?_) (fin _ (λi=>256*k0+5*(i/3)+i%3) (by lia))⟩;ext a;exact h}
 rw [if_neg c5];refine hk _ _ (zq λk hk=>?_);ext a;by_cases c6:wy=6;{rw [if_pos c6];refine compR (λ_=>true) (λi=>.int ((λi=>256*k0+i) i:Nat)) (by lia) (λi H2 R hi s h=>by ext a;exact h) (λi H2 R hi _ s h=>?_) (fin _ (λi=>256*k0+i) (by lia));ext a;exact h}
 rw [if_neg c6];refine hk _ _ (?_);ext a;refine ⟨by lia,by lia,compR (λ_=>true) (λi=>.int ((λi=>256*k0+254+i) i:Nat)) (by lia) (λi H2 R hi s h=>by ext a;exact h) (λi H2 R hi _ s h=>?_) (fin _ (λi=>256*k0+254+i) (by lia))⟩;ext a;exact h
def spNumT (K:zh):Sp:=λvs H Q _=>∃ (a:Addr) (ns:List Int),vs=[.ref a]/\SqL K H a (ns.map V.int)/\∀ (r:Addr) (zs:List Nat) (H':Hp),Same H H'->H r=none->H' r=some (.lst (pint zs))->zs.length<=700->(∀ z∈zs,z<65536)->Q (.ref r) H'
structure NuI (a ks p:Addr)(c:Int)(H:Hp)(σ:L2.St)(H':Hp):Prop where
 ex:∃ (v4:Option V) (zs:List Nat),σ=[some (.ref a),some (.int c),some (.ref ks),some (.ref p),v4]/\H' p=some (.lst (pint zs))/\zs.length<=1300
 sm:Same H H'
theorem six_keys {a b c d e f:Nat}(h:a<256/\b<256/\c<256/\d<256/\e<256/\f<256)(z:Int)(h0:0<=z)(h6:z<6):[a,b,c,d,e,f].getD z.toNat 0<256/\atI [V.int a,V.int b,V.int c,V.int d,V.int e,V.int f] z=some (.int ([a,b,c,d,e,f].getD z.toNat 0:Nat)):=by
 rcases (by lia:z=0\/z=1\/z=2\/z=3\/z=4\/z=5) with rfl | rfl | rfl | rfl | rfl | rfl
 . exact ⟨by show a<256;lia,rfl⟩
 . exact ⟨by show b<256;lia,rfl⟩
 . exact ⟨by show c<256;lia,rfl⟩
 . exact ⟨by show d<256;lia,rfl⟩
 . exact ⟨by show e<256;lia,rfl⟩
 . exact ⟨by show f<256;lia,rfl⟩
theorem ok_numT (B:Blt mg) (ja:FnAt P w K mg base "_law_mixed" ["_law_cell","_law_k"] 1 spMixed) (jc:FnAt P w K mg base "_law_cell_at" ["_law_script","_law_k"] 1 (spCell K)) (jaQ:FnAt P w K mg base "_law_piece" ["_law_cell","_law_key"] 2 spPcT) (d:DefAt K mg "_law_numbers" p4 ["_law_script"]):FnAt P w K mg base "_law_numbers" ["_law_script"] 3 (spNumT K):=by
 refine FnAt.of d jaa ?_ ?_;ext c;have nd:=jaa.nd;obtain ⟨a,ns,rfl,hS,q⟩:=h;refine ⟨_,(zu (zd 1 (ze jc (zy (pv 0) (zy zx zw)))) (zu (zd 2 (yi (zy zx (zy zx (zy (zv zL (ze ja (zy (pv 1) (zy zx zw))) zx) (zy (zv zL (ze ja (zy (pv 1) (zy zx zw))) zx) (zy (zv zL (ze ja (zy (pv 1) (zy zx zw))) zx) zw))))))) (zu (yQ (yg K yN xU xT xY (pv 2) (zy (zv zL (zv zX (zN (xE K) (pv 2) zx) zx) zx) zw))) (zu (zd 3 (yi zw)) (zu (zQ (zP yo (zv zL (ze ja (zy (pv 1) (zy zx zw))) zx) zx) (zp (hZ (i:=3) ["_law_k"] [2] jaa.nd rfl (by ext g) rfl (xG rfl B.range (zy (zv yI zx (zv zL (ze ja (zy (pv 1) (zy zx zw))) zx)) zw)) (λ_ _ _ _ _=>yA (i:=0) (by show List.Nodup (["_law_k","_law_keys"]:List Str);decide +kernel) rfl (Or.inl rfl)) (λ_ _ _ _ _=>wx) (λ_ _ _ _ _=>(zv zX (zv xt zx (pv 0)) (zN (xE K) (pv 1) zx))) ⟨⟨_,rfl,rfl,.inl rfl⟩,trivial⟩ xi)) zM) (zu (yW yd rfl (yH K (rD (gr K) (pv 0) iY (uW zx))) (zG 4) (zp (zQ (zP wc (zB (xh K) rfl B.len yZ (zy (pv 3) zw)) zx) (zp (yQ (yg K yN sP sO rC (pv 3) (zy (ze jaQ (zy (pv 4) (zy (zN (xE K) (pv 2) (zv zL (ze ja (zy (pv 4) (zy zx zw))) zx)) zw))) zw)))) zM))) (zp (zb (xF ["_law_number"] [] rfl (yH K (rD (gr K) (pv 3) iY (uW zx))) (λ_ _ _ _ _=>yA (i:=0) (by show List.Nodup (["_law_number"]:List Str);decide +kernel) rfl (Or.inl rfl)) (λ_ _ _ _ _=>m8 (zP wc (pv 0) zx)) (λ_ _ _ _ _=>(pv 0)) trivial xi))))))))),?_⟩
 refine zq λk hk=>?_
 ext a;refine ⟨a,ns,0,rfl,hS,hk _ _ (zq λk hk=>?_)⟩;generalize ns.getD 0 0=c;have ev:∀ (j:Int) (σ:L2.St),σ[1]?=some (some (.int c))->Ev (tOp (rI (λ_ j=>0<j) λi j=>V.int (i%j)) (tCall spMixed [] E0 (tCons (tVar 1) (tCons (tC (V.int j)) tNil))) (tC (V.int 256))) σ (.int (mixI c j%256)):=λj σ e H Q h=>by
   ext a;exact ⟨_,e,_,_,rfl,_,rfl,h⟩
 rw [tAsg,tLst];refine Evs.cons Ev.c (Evs.cons Ev.c (Evs.cons (ev 2 _ rfl) (Evs.cons (ev 3 _ rfl) (Evs.cons (ev 4 _ rfl) Evs.nil)))) H _ ⟨by show 5<=sizeLine;decide,λp np=>?_⟩;have a0:∀ j:Int,∃ n:Nat,mixI c j%256=(n:Int)/\n<256:=λj=>⟨(mixI c j%256).toNat,by lia,by lia⟩
 obtain ⟨n2,e2,l2⟩:=a0 2;obtain ⟨n3,e3,l3⟩:=a0 3;obtain ⟨n4,e4,l4⟩:=a0 4;rw [e2,e3,e4,gName];refine hk _ _ (zq λk hk=>?_);ext a;have h5:=zm (H:=H) (a:=p) (o:=.lst [V.int 0,V.int 255,V.int n2,V.int n3,V.int n4]);refine ⟨⟨_,SqL.of h5⟩,_,SqL.of h5,_,rfl,_,rfl,_,h5,by show 5<sizeLine;decide,hk _ _ (zq λk hk=>?_)⟩;obtain ⟨n5,e5,l5⟩:∃ n:Nat,((n2:Int)+1)%256=(n:Int)/\n<256:=⟨(((n2:Int)+1)%256).toNat,by lia,by lia⟩
 rw [e5];have s1:Same H (upd (upd H p (.lst [V.int 0,V.int 255,V.int n2,V.int n3,V.int n4])) p (.lst ([V.int 0,V.int 255,V.int n2,V.int n3,V.int n4]++[V.int n5]))):=(Same.new np).put np;have h6:=zm (H:=upd H p (.lst [V.int 0,V.int 255,V.int n2,V.int n3,V.int n4])) (a:=p) (o:=.lst ([V.int 0,V.int 255,V.int n2,V.int n3,V.int n4]++[V.int n5]));generalize upd (upd H p (.lst [V.int 0,V.int 255,V.int n2,V.int n3,V.int n4])) p (.lst ([V.int 0,V.int 255,V.int n2,V.int n3,V.int n4]++[V.int n5]))=H1 at s1 h6;ext a;refine ⟨by decide,λr0 nr0=>hk _ _ (zq λk hk=>?_)⟩
 suffices go:∀ (r:Addr) (zs0:List Nat) (H2:Hp),Same H H2->H r=none->p≠r->H2 p=some (.lst ([V.int 0,V.int 255,V.int n2,V.int n3,V.int n4]++[V.int n5]))->H2 r=some (.lst (pint zs0))->zs0.length<=256->k [some (V.ref a),some (V.int c),some (V.ref p),some (V.ref r),none] H2 by
   have s2:=Same.new (o:=.lst []) nr0;have h62:=s2 _ _ h6;have g0:=go r0 [] _ (s1.trans s2) (none_of s1 nr0) (zC h6 nr0) h62 zm (zS _);generalize upd H1 r0 (.lst [])=H2 at s2 h62 g0;ext a;refine ⟨_,_,rfl,_,rfl,?_⟩;split
   . obtain ⟨cn,ec,cb⟩:∃ cn:Nat,256-mixI c 7%3=(cn:Int)/\cn<=256:=⟨(256-mixI c 7%3).toNat,by lia,by lia⟩
     refine ⟨_,_,rfl,_,rfl,?_⟩;rw [ec];refine ⟨by lia,by lia,compR (λ_=>true) (λi=>.int ((256*i+n2:Nat):Int)) (by lia) (λi H3 R hi s h=>h) (λi H3 R hi _ s h=>?_) (λD nD=>?_)⟩;{ext a;refine ⟨_,SqL.of (s _ _ h62),.int (n2:Nat),rfl,_,rfl,?_⟩;rw [show 256*(i:Int)+(n2:Int)=((256*i+n2:Nat):Int) by lia];exact h};{rw [vM.mpr λ_ _=>rfl,yp];refine go D ((List.range cn).map λi=>256*i+n2) _ ((s1.trans s2).trans (Same.new nD)) (none_of (s1.trans s2) nD) (zC h62 nD) ((Same.new nD) _ _ h62) ?_ (by rw [za,yc];exact cb);rw [zm];unfold pint;rw [yO];rfl}
   . exact g0
 intro r zs0 H2 s2 nrH rp hp2 hr2 l0;have h0:=hr2;refine hk _ _ (zq λk hk=>?_);ext a;refine ⟨_,s2.seq hS,λl nl=>?_⟩;rw [show cutV (ns.map V.int) none (some 60)=(ns.take 60).map V.int from (fC _ 60).trans (n0).symm];refine ⟨⟨_,SqL.of zm⟩,?_⟩;have s3:=Same.new (o:=.lst ((ns.take 60).map V.int)) nl;have hr2:=s3 _ _ hr2;have hl2:=zm (H:=H2) (a:=l) (o:=.lst ((ns.take 60).map V.int));have hp2:=s3 _ _ hp2;have lr:l≠r:=λz=>by rw [z,h0] at nl;cases nl
 have s4:=s2.trans s3;generalize upd H2 l (.lst ((ns.take 60).map V.int))=H2 at s3 s4 hr2 hl2 hp2;refine loopL (K:=K) (xs:=(ns.take 60).map V.int) (λ_ σ H'=>NuI a p r c H σ H'/\H' l=some (.lst ((ns.take 60).map V.int))/\H' p=some (.lst ([V.int 0,V.int 255,V.int n2,V.int n3,V.int n4]++[V.int n5]))) ⟨⟨⟨none,zs0,rfl,hr2,by lia⟩,s4⟩,hl2,hp2⟩ (λi σ H3 _ h=>SqL.of h.2.1) ?_ ?_
 . rintro i x σ H3 hx ⟨⟨⟨v4,zs,rfl,hz,lz⟩,sm⟩,hl,hp⟩;obtain ⟨y,hy,rfl⟩:∃ y,(ns.take 60)[i]?=some y/\x=.int y:=by
     rw [yR] at hx;cases e:(ns.take 60)[i]? with
     | none=>rw [e] at hx;cases hx
     | some y=>rw [e] at hx;exact ⟨y,rfl,(Option.some.inj hx).symm⟩
   rw [gName];ext a;refine ⟨_,.inl (SqL.of hz),?_⟩;rw [yh];by_cases c7:(zs.length:Int)<700
   . rw [if_pos c7];obtain ⟨k256,ek⟩:=six_keys (a:=0) (b:=255) (c:=n2) (d:=n3) (e:=n4) (f:=n5) ⟨by decide,by decide,l2,l3,l4,l5⟩ (mixI y 5%6) (wj _ (by decide)) (wD _ (by decide));generalize [0,255,n2,n3,n4,n5].getD (mixI y 5%6).toNat 0=kk at k256 ek;refine ⟨⟨_,SqL.of hz⟩,_,_,rfl,_,rfl,_,SqL.of hp,_,ek,y,kk,rfl,k256,λq1 ps H4 s4 n4 h4 pl=>⟨_,rfl,_,s4 _ _ hz,_,h4,?_,⟨⟨_,zs++ps,rfl,?_,by rw [zj];lia⟩,(sm.trans s4).put nrH⟩,?_,?_⟩⟩
     . rw [yh,yh];exact small5 (by lia)
     . rw [zm];unfold pint;rw [yX]
     . rw [zo lr];exact s4 _ _ hl
     . rw [zo rp];exact s4 _ _ hp
   . rw [if_neg c7];exact ⟨⟨⟨_,zs,rfl,hz,lz⟩,sm⟩,hl,hp⟩
 . rintro σ H3 ⟨⟨⟨v4,zs,rfl,hz,lz⟩,sm⟩,hl,hp⟩;refine hk _ _ ?_;ext a;refine ⟨_,SqL.of hz,λq1 n1=>?_⟩;rw [show cutV (pint zs) none (some 700)=pint (zs.take 700) from (fC _ 700).trans (by unfold pint;rw [n0])];refine ⟨⟨_,SqL.of zm⟩,compL (K:=K) (xs:=pint (zs.take 700)) (λv=>match v with | .int i=>decide (i<65536) | _=>false) id (SqL.of zm) (by rw [yh,y3];lia) (λv H2 R hv s h=>?_) (λv H2 R hv _ s h=>?_) (λD nD=>?_)⟩
   . obtain ⟨z,_,rfl⟩:=zJ.mp hv;ext a;exact h
   . ext a;exact h
   . have e:((pint (zs.take 700)).filter λv=>match v with | .int i=>decide (i<65536) | _=>false).map id=pint ((zs.take 700).filter λz=>decide (z<65536)):=by
       rw [tQ];unfold pint;rw [tW];refine congrArg (List.map _) (rg λz _=>?_);rw [Function.comp_apply,wN];lia
     rw [e];exact q D _ _ ((sm.trans (Same.new n1)).trans (Same.new nD)) (none_of (sm.trans (Same.new n1)) nD) zm (zO (rq _ _) (by rw [y3];lia)) λz hz=>wU (yD.mp hz).2
def lowB:Nat->Nat->List Bool
 | _,0=>[]
 | n,m+1=>decide (n%2=1)::lowB (n/2) m
def bitsB (n m:Nat):List Bool:=(lowB n m).reverse
theorem l6:∀ (n m:Nat),(lowB n m).length=m
 | _,0=>rfl
 | n,m+1=>by rw [lowB,zZ,l6]
theorem yG (n m:Nat):(bitsB n m).length=m:=by unfold bitsB;rw [xc,l6]
theorem lx:∀ (m n:Nat),n<2^m->numA 0 (bitsB n m)=n
 | 0,n,h=>by
   have:n=0:=by simpa using h
   subst this;rfl
 | m + 1,n,h=>by
   unfold bitsB lowB;rw [oN,qx];have ih:=lx m (n/2) (by rw [yK] at h;lia);unfold bitsB at ih;rw [ih];by_cases c:n%2=1;{rw [zK c];show 2*(n/2)+1=n;lia};{rw [yu c];show 2*(n/2)+0=n;lia}
theorem eR:∀ (n m:Nat),lowB n (m+1)=lowB n m++[decide (n/2^m%2=1)]
 | n,0=>by rw [lowB,lowB,lowB,tT,Nat.div_one];rfl
 | n,m+1=>by
   rw [lowB,eR (n/2) m]
   conv=>rhs;rw [lowB]
   rw [vi,tw,yK,vd]
def spBitsL:Sp:=λvs H Q _=>∃ (n m:Nat),vs=[.int n,.int m]/\m<=400/\∀ H',Same H H'->Q (.str (tx (bitsB n m))) H'
structure BtI (n m:Nat)(p:Addr)(H:Hp)(i:Nat)(σ:L2.St)(H':Hp):Prop where
 ex:∃ v3,σ=[some (.int (n/2^i:Nat)),some (.int m),some (.ref p),v3]
 hp:H' p=some (.lst ((lowB n i).map λb=>V.str (sg b)))
 sm:Same H H'
theorem ok_bitsL (B:Blt mg) (d:DefAt K mg "_law_bits" px ["_law_number","_law_many"]):FnAt P w K mg base "_law_bits" ["_law_number","_law_many"] 1 spBitsL:=by
 refine FnAt.of d jbB ?_ ?_;ext c;have nd:=jbB.nd;obtain ⟨n,m,rfl,m4,q⟩:=h;refine ⟨_,(zu (zd 2 (yi zw)) (zu (yW yd rfl (xG rfl B.range (zy (pv 1) zw)) (zG 3) (zu (yQ (yg K yN xU xT xY (pv 2) (zy (tK nV rfl B.str boot_str (zy (zv zL (pv 0) zx) zw)) zw))) (zp (zd 0 (zv xr (pv 0) zx))))) (zu (yQ (gy K yN PySem.F.slot_list_reverse PySem.F.type_list_reverse cU (pv 2))) (zp (zb (yg K uK uI uH (tE K) xj (zy (pv 2) zw))))))),?_⟩
 refine zq λk hk=>?_
 ext a;refine ⟨by decide,λp np=>hk _ _ (zq λk hk=>?_)⟩;ext a;refine ⟨by lia,by lia,?_⟩;rw [yp];refine loopR (BtI n m p H) ⟨⟨none,by rw [tT,Nat.div_one]⟩,zm,Same.new np⟩ ?_ ?_
 . rintro i σ H1 hi ⟨⟨v3,rfl⟩,hp,sm⟩;rw [gName];refine zq λk2 hk2=>?_
   ext a;have dg:((n/2^i:Nat):Int)%2=(if decide (n/2^i%2=1)=true then 1 else 0)/\V.str (Str.ofString (toString (((n/2^i:Nat):Int)%2)))=V.str (sg (decide (n/2^i%2=1))):=by
     generalize n/2^i=z;by_cases c:z%2=1;{rw [zK c,if_pos rfl,show (z:Int)%2=1 by lia];exact ⟨rfl,congrArg V.str (by decide +kernel)⟩};{rw [yu c,if_neg yw,show (z:Int)%2=0 by lia];exact ⟨rfl,congrArg V.str (by decide +kernel)⟩}
   have sn:=eR n i;have ll:=l6 n i;rw [dg.2];refine ⟨⟨_,SqL.of hp⟩,?_,_,hp,small1000 (by rw [za,ll];lia),hk2 _ _ ?_⟩;{rw [dg.1];split<;>decide}
   ext a;refine ⟨⟨some (.int i),?_⟩,?_,sm.put np⟩;{rw [show ((n/2^i:Nat):Int)/2=((n/2^(i+1):Nat):Int) by rw [yK,<- tw];lia]};{rw [zm,sn,yX];rfl}
 . rintro σ H1 ⟨⟨v3,rfl⟩,hp,sm⟩;refine hk _ _ (zq λk hk=>?_);ext a;refine ⟨⟨_,SqL.of hp⟩,_,hp,hk _ _ ?_⟩;rw [<- List.map_reverse];ext a;refine ⟨(bitsB n m).map sg,SqL.of ?_,?_,?_⟩
   . rw [zm,yO];rfl
   . rw [pK,za,yG];show m+m*0<=_;lia
   . rw [l7];exact q _ (sm.put np)
def spRunsS (K:zh):Sp:=λvs H Q _=>∃ (a:Addr) (ps:List Nat),vs=[.ref a]/\SqL K H a (pint ps)/\ps.length<=256/\∀ (r:Addr) (H':Hp),Same H H'->H r=none->RunsL H' r (runsOf ps)->Q (.ref r) H'
structure RunI (a:Addr)(ps:List Nat)(H:Hp)(i:Nat)(σ:L2.St)(H':Hp):Prop where
 ex:∃ (r:Addr) (v2:Option V),σ=[some (.ref a),some (.ref r),v2]/\RunsL H' r (runsOf (ps.take i))/\H r=none
 len:(runsOf (ps.take i)).length<=i
 same:Same H H'
theorem ok_runsS (d:DefAt K mg "_law_runs" pq ["_law_places"]):FnAt P w K mg base "_law_runs" ["_law_places"] 1 (spRunsS K):=by
 refine FnAt.of d jbC ?_ ?_;ext c;have nd:=jbC.nd;obtain ⟨a,ps,rfl,hS,h256,q⟩:=h;refine ⟨_,(zu (zd 1 (yi zw)) (zu (yW yd rfl (yH K (pv 0)) (zG 2) (zp (zQ (PW.pt (rJ (zP (op_neD K (hu64 hr)) (pv 1) (yi zw)) (rK (zP yo (zN (yr K) (zN (xE K) (pv 1) (vF vE zx)) zx) (zv yI (pv 2) zx))))) (zp (tO (wz (zy (zN (yr K) (zN (xE K) (pv 1) (vF vE zx)) zx) (zy (pv 2) zw))) (nX (pv 1) (vF vE zx) nO))) (zp (yQ (yg K yN xU xT xY (pv 1) (zy (wz (zy (pv 2) (zy (pv 2) zw))) zw))))))) (zp (zb (pv 1))))),?_⟩
 ext a;refine ⟨zS _,λr hr0=>?_⟩;have sm0:Same H (upd H r (.lst [])):=λb o e=>by rw [zo (zC e hr0)];exact e
 refine ⟨⟨_,sm0.seq hS⟩,loopL (K:=K) (xs:=pint ps) (RunI a ps H) ⟨⟨r,none,rfl,⟨[],zm,.nil⟩,hr0⟩,zi _,sm0⟩ ?_ ?_ ?_⟩;{rintro i σ H1 hi ⟨_,_,sm⟩;exact sm.seq hS}
 . rintro i x σ H1 hi ⟨⟨r,v2,rfl,hR,hn⟩,hl,sm⟩;obtain ⟨p,hp,rfl⟩:=vB hi;have tk:runsOf (ps.take (i+1))=addP (runsOf (ps.take i)) p:=by
     rw [yC,hp];exact qv _ _
   have hi2:i<ps.length:=(yT.mp hp).1;ext a;refine ⟨zS _,λe he=>?_⟩;obtain ⟨vs,hv,ht⟩:=hR;have smE:Same H1 (upd H1 e (.lst [])):=λb o z=>by rw [zo (zC z he)];exact z
   refine ak (qs:=[]) ⟨vs,smE _ _ hv,ht.same smE⟩ ⟨[],zm,.nil⟩ ?_;have hv2:=smE _ _ hv;have ht2:=ht.same smE;have sm2:=sm.trans smE;generalize upd H1 e (.lst [])=H2 at hv2 ht2 sm2 ⊢;clear hv ht smE sm he;generalize runsOf (ps.take i)=rs at tk hl ht2 ⊢;have lv:=ht2.length;have small:∀ n,n<=1000->n<sizeLine:=λn h=>small1000 h
   have app:addP rs p=rs++[(p,p)]->(∃ xs,SqL K H2 r xs)/\2<=sizeLine/\∀ p_3,H2 p_3=none->∃ x,upd H2 p_3 (HO.tup [V.int p,V.int p]) r=some (HO.lst x)/\x.length<sizeLine/\RunI a ps H (i+1) [some (V.ref a),some (V.ref r),some (V.int p)] (upd (upd H2 p_3 (HO.tup [V.int p,V.int p])) r (HO.lst (x++[V.ref p_3]))):=λea=>by
     refine ⟨⟨_,SqL.of hv2⟩,by decide,λt h3=>?_⟩;have smT:Same H2 (upd H2 t (.tup [.int p,.int p])):=λb o z=>by rw [zo (zC z h3)];exact z
     have hv3:=smT _ _ hv2;refine ⟨vs,hv3,small _ (by lia),⟨⟨r,_,rfl,⟨_,zm,?_⟩,hn⟩,?_,λb o z=>?_⟩⟩;{rw [tk,ea];exact ((ht2.same smT).snoc (r:=(p,p)) zm).upd hv3};{rw [tk,ea,zj];show rs.length+1<=_;lia};{rw [zo (zC z hn)];exact smT _ _ (sm2 b o z)}
   rcases vm rs with e0 | ⟨rs0,⟨x,y⟩,e0⟩
   . refine ⟨_,rfl,?_⟩;rw [zK e0,if_neg (by decide)];exact app (by rw [e0];rfl)
   . rw [vk] at e0
     subst e0;obtain ⟨vs0,t,rfl,ht0,htt⟩:=ht2.last;refine ⟨_,rfl,?_⟩;rw [yu (by simp),if_pos (show (!false)=true from rfl)];refine ⟨_,SqL.of hv2,.ref t,(iW _ _),t,rfl,_,SqT.of htt,.int (y:Nat),rfl,rfl,?_⟩;by_cases ey:y+1=p
     . have ea:addP (rs0++[(x,y)]) p=rs0++[(x,p)]:=vX ey;rw [if_pos (by congr 1;lia)];refine ⟨_,SqL.of hv2,.ref t,(iW _ _),t,rfl,_,SqT.of htt,.int (x:Nat),rfl,by decide,λt2 h2=>?_⟩;have smT:Same H2 (upd H2 t2 (.tup [.int (x:Nat),.int (p:Nat)])):=λb o z=>by rw [zo (zC z h2)];exact z
       have hv3:=smT _ _ hv2;refine ⟨_,hv3,vs0.length,ixN_last,⟨⟨r,_,rfl,⟨vs0++[.ref t2],?_,?_⟩,hn⟩,?_,λb o z=>?_⟩⟩;{rw [zm,set_last]};{rw [tk,ea];exact ((ht0.same smT).snoc (r:=(x,p)) zm).upd hv3};{rw [tk,ea];rw [zj] at hl ⊢;have:[(x,p)].length=[(x,y)].length:=rfl;lia};{rw [zo (zC z hn)];exact smT _ _ (sm2 b o z)}
     . rw [if_neg (by intro z;injection z with z;lia)];exact app (vW ey)
 . rintro σ H1 ⟨⟨r,v2,rfl,hR,hn⟩,hl,sm⟩;ext a;rw [yP (by rw [yh];exact zi _)] at hR;exact q r H1 sm hn hR
def keysOf (ns:List Nat):List Nat:=ns.foldl (λks n=>if n/256∈ks then ks else ks++[n/256]) []
def plcN (k:Nat)(ns:List Nat):List Nat:=(ns.filter λn=>decide (n/256=k)).map (·%256)
theorem uz (ns:List Nat)(n:Nat):keysOf (ns++[n])=if n/256∈keysOf ns then keysOf ns else keysOf ns++[n/256]:=by unfold keysOf;rw [tj];rfl
theorem sY (k:Nat)(ns:List Nat)(n:Nat):plcN k (ns++[n])=plcN k ns++if n/256=k then [n%256] else []:=by
 unfold plcN;rw [rj,yX,w8];by_cases e:n/256=k;{rw [if_pos (zK e),if_pos e];rfl};{rw [if_neg (by rw [vg];exact e),if_neg e];rfl}
theorem pJ {p:List Nat->Prop}(h0:p [])(h1:∀ l a,p l->p (l++[a]))(l:List Nat):p l:=by
 have:∀ n (l:List Nat),l.length=n->p l:=λn=>by
   induction n with
   | zero=>exact λl h=>uk.mp h ▸ h0
   | succ n ih =>
     intro l h;have ne:l≠[]:=λz=>by rw [z] at h;cases h
     rw [<- kX ne];exact h1 _ _ (ih _ (by rw [List.length_dropLast,h];rfl))
 exact this _ l rfl
theorem uR (ns:List Nat):∀ k,k∈keysOf ns↔∃ n∈ns,n/256=k:=by
 refine pJ (p:=λns=>∀ k,k∈keysOf ns↔∃ n∈ns,n/256=k) ?_ ?_ ns;{exact λk=>⟨λh=>(by cases h),λ⟨_,h,_⟩=>(by cases h)⟩}
 . intro l n ih k
   rw [uz];have mm:(∃ m∈l++[n],m/256=k)↔(∃ m∈l,m/256=k)\/k=n/256:=by
     constructor
     . rintro ⟨m,h,e⟩;rcases zR.mp h with h | h
       . exact .inl ⟨m,h,e⟩
       . rw [zA.mp h] at e;exact .inr e.symm
     . rintro (⟨m,h,e⟩ | e)
       . exact ⟨m,yF _ h,e⟩
       . exact ⟨n,yf _ (.head _),e.symm⟩
   rw [mm];split
   . rename_i c
     rw [ih];exact ⟨.inl,λh=>h.elim id λe=>e ▸ (ih _).mp c⟩
   . rw [zR,ih,zA]
theorem ai (ns:List Nat):(keysOf ns).length<=ns.length:=by
 refine pJ (p:=λns=>(keysOf ns).length<=ns.length) (zi _) (λl n ih=>?_) ns;rw [uz];split;{rw [zj];exact oK ih};{rw [zj,zj];exact Nat.succ_le_succ ih}
theorem Up.snoc {x:Nat}:∀ {a:Nat} {l:List Nat},Up a l->(∀ y∈l,y<x)->a<=x->Up a (l++[x])
 | _,[],_,_,h=>⟨h,trivial⟩
 | a,y::r,⟨h1,h2⟩,h,_=>⟨h1,Up.snoc h2 (λz hz=>h z (.tail _ hz)) (h y (.head _))⟩
theorem Up.last {x:Nat}:∀ {a:Nat} {l:List Nat},Up a (l++[x])->Up a l/\(∀ y∈l,y<x)/\a<=x
 | _,[],⟨h,_⟩=>⟨trivial,λy h=>(by cases h),h⟩
 | a,y::r,⟨h1,h2⟩=>by
   obtain ⟨i1,i2,i3⟩:=Up.last h2;refine ⟨⟨h1,i1⟩,λz hz=>?_,by lia⟩;rcases zW.mp hz with rfl | hz
   . lia
   . exact i2 z hz
theorem Up.nd':∀ {a:Nat} {l:List Nat},Up a l->l.Nodup
 | _,[],_=>List.nodup_nil
 | a,y::r,⟨_,h⟩=>vJ.mpr ⟨λz=>absurd (h.of_lt y z) (by lia),Up.nd' h⟩
theorem eQ (ns:List Nat):Up 0 ns->Up 0 (keysOf ns):=by
 refine pJ (p:=λns=>Up 0 ns->Up 0 (keysOf ns)) (λ_=>trivial) (λl n ih h=>?_) ns;obtain ⟨h1,h2,_⟩:=Up.last h;rw [uz];split;{exact ih h1}
 . rename_i c
   refine Up.snoc (ih h1) (λy hy=>?_) (zS _);obtain ⟨m,hm,rfl⟩:=(uR l y).mp hy;have:=h2 m hm;have:m/256≠n/256:=λz=>c (z ▸ hy)
   lia
theorem eO (k:Nat)(ns:List Nat):Up 0 ns->Up 0 (plcN k ns):=by
 refine pJ (p:=λns=>Up 0 ns->Up 0 (plcN k ns)) (λ_=>trivial) (λl n ih h=>?_) ns;obtain ⟨h1,h2,_⟩:=Up.last h;rw [sY];split
 . rename_i c
   refine Up.snoc (ih h1) (λy hy=>?_) (zS _);obtain ⟨m,hm,rfl⟩:=zJ.mp hy;obtain ⟨hm1,hm2⟩:=yD.mp hm;have:=h2 m hm1;have:=wU hm2;lia
 . rw [zH];exact ih h1
def entsOf (ns:List Nat):List Ent:=(keysOf ns).map λk=>⟨k,plcN k ns,0⟩
theorem eN {ns:List Nat}(u:Up 0 ns)(l:∀ n∈ns,n<65536):EsOk (entsOf ns):=by
 have me:∀ e∈entsOf ns,e.key∈keysOf ns/\e.ps=plcN e.key ns:=λe he=>by
   obtain ⟨k,hk,rfl⟩:=zJ.mp he;exact ⟨hk,rfl⟩
 refine ⟨?_,λe he=>?_,λe he=>?_,λe he p hp=>?_,λe he=>?_⟩;{unfold kys entsOf;rw [yO,show (λe:Ent=>e.key) ∘ (λk=>(⟨k,plcN k ns,0⟩:Ent))=id from rfl,tQ];exact eQ ns u};{obtain ⟨n,hn,e⟩:=(uR ns _).mp (me e he).1;have:=l n hn;lia};{rw [(me e he).2];exact eO _ ns u};{rw [(me e he).2] at hp;obtain ⟨m,_,rfl⟩:=zJ.mp hp;exact xZ _ (by decide)};{rw [(me e he).2];obtain ⟨n,hn,e⟩:=(uR ns _).mp (me e he).1;exact List.ne_nil_of_mem (zJ.mpr ⟨n,yD.mpr ⟨hn,zK e⟩,rfl⟩)}
theorem eJ {ns:List Nat}(u:Up 0 ns)(l:∀ n∈ns,n<65536):flat (entsOf ns)=ns:=by
 have ok:=eN u l;refine Up.ext ok.flat_up u λn=>?_
 rw [se ok.plt];constructor
 . rintro ⟨e,he,e1,e2⟩;obtain ⟨k,hk,rfl⟩:=zJ.mp he;obtain ⟨m,hm,e3⟩:=zJ.mp e2;obtain ⟨h1,h2⟩:=yD.mp hm;have h2:=wU h2;have e1:k=n/256:=e1;have:m=n:=by lia
   exact this ▸ h1
 . intro hn;refine ⟨⟨n/256,plcN (n/256) ns,0⟩,zJ.mpr ⟨n/256,(uR ns _).mpr ⟨n,hn,rfl⟩,rfl⟩,rfl,?_⟩;exact zJ.mpr ⟨n,yD.mpr ⟨hn,zK rfl⟩,rfl⟩
theorem eI {ns:List Nat}(u:Up 0 ns)(l:∀ n∈ns,n<65536):(entsOf ns).length<=256:=by
 unfold entsOf;rw [za];refine Up.lt256 (eQ ns u) λk hk=>?_
 obtain ⟨n,hn,e⟩:=(uR ns k).mp hk;have:=l n hn;lia
def grK (lf:Nat->Addr)(ks:List Nat):List (Key × V):=ks.map λ(k:Nat)=>(Sum.inl (k:Int),V.ref (lf k))
theorem lu (lf:Nat->Addr)(k:Nat):∀ ks:List Nat,valV (grK lf ks) (Sum.inl (k:Int))=if k∈ks then some (.ref (lf k)) else none
 | []=>by rw [if_neg (λh=>by cases h)];rfl
 | j :: r=>by
   have ih:=lu lf k r;unfold valV grK at ih ⊢;rw [yz,tX];by_cases c:j=k;{subst c;rw [zK (show (Sum.inl (j:Int):Key)=Sum.inl (j:Int) from rfl),if_pos (.head _)];rfl}
   . rw [yu (show ¬(Sum.inl (j:Int):Key)=Sum.inl (k:Int) from λz=>c (by have:=Sum.inl.inj z;lia))];refine ih.trans ?_;by_cases m:k∈r
     . rw [if_pos m,if_pos (.tail _ m)]
     . rw [if_neg m,if_neg (λh=>by rcases zW.mp h with h | h;exact c h.symm;exact m h)]
def GrSt (H H':Hp)(D:Addr)(ns:List Nat):Prop:=∃ lf:Nat->Addr,H' D=some (.dK (grK lf (keysOf ns)))/\(∀ k∈keysOf ns,H' (lf k)=some (.lst (pint (plcN k ns)))/\H (lf k)=none)/\∀ k∈keysOf ns,∀ k'∈keysOf ns,lf k=lf k'->k=k'
theorem gr_step {D:Addr} {ns:List Nat} {n:Nat} {R:Hp->Prop} (fD:H D=none) (sm:Same H H1) (st:GrSt H H1 D ns) (ln:ns.length<=10000) (q:∀ H',Same H H'->GrSt H H' D (ns++[n])->R H') (p:Addr) (fp:H1 p=none) :
   ∃ kvs,upd H1 p (.lst []) D=some (.dK kvs)/\∃ k,V.int ((n/256:Nat):Int)=kV k/\kvs.length<sizeLine /\
     (∀ v,valV kvs k=some v->tyV K "list" v (upd H1 p (.lst []))/\∃ l,v=.ref l/\∃ xs,upd H1 p (.lst []) l=some (.lst xs)/\xs.length<sizeLine/\R (upd (upd H1 p (.lst [])) l (.lst (xs++[.int ((n%256:Nat):Int)])))) /\
     (valV kvs k=none->(∃ xs,SqL K (upd (upd H1 p (.lst [])) D (.dK (putK kvs k (.ref p)))) p xs)/\∃ xs,upd (upd H1 p (.lst [])) D (.dK (putK kvs k (.ref p))) p=some (.lst xs)/\xs.length<sizeLine/\R (upd (upd (upd H1 p (.lst [])) D (.dK (putK kvs k (.ref p)))) p (.lst (xs++[.int ((n%256:Nat):Int)])))):=by
 obtain ⟨lf,hD,ls,inj⟩:=st;have sp:=Same.new (o:=.lst []) fp;have hp0:H p=none:=sm.free fp;have nDp:D≠p:=λz=>by rw [<- z,hD] at fp;cases fp
 have lk:=ai ns;have gl:(grK lf (keysOf ns)).length=(keysOf ns).length:=za ..;have small:∀ {m:Nat},m<=10000->m<sizeLine:=λh=>wV h (by decide)
 refine ⟨_,sp _ _ hD,Sum.inl ((n/256:Nat):Int),rfl,small (by lia),λv hv=>?_,λhv=>?_⟩
 . rw [lu] at hv
   have hin:n/256∈keysOf ns:=by
     by_cases c:n/256∈keysOf ns;{exact c};{rw [if_neg c] at hv;cases hv}
   rw [if_pos hin] at hv;cases hv;obtain ⟨h2,h3⟩:=ls _ hin;have pl:(plcN (n/256) ns).length<=ns.length:=by unfold plcN;rw [za];exact rq _ _
   refine ⟨tyV_list.mpr ⟨_,SqL.of (sp _ _ h2)⟩,_,rfl,_,sp _ _ h2,small (by rw [yh];lia),q _ ((sm.trans sp).put h3) ⟨lf,?_,λk hk=>?_,?_⟩⟩;{rw [uz,if_pos hin,zo (λz=>by rw [<- z,hD] at h2;cases h2)];exact sp _ _ hD}
   . rw [uz,if_pos hin] at hk;refine ⟨?_,(ls k hk).2⟩;by_cases e:k=n/256
     . rw [e,zm,sY,if_pos rfl];unfold pint;rw [yX];rfl
     . rw [zo (λz=>e (inj k hk _ hin z)),sY,if_neg (λz=>e z.symm),zH];exact sp _ _ (ls k hk).1
   . rw [uz,if_pos hin];exact inj
 . have nin:n/256∉keysOf ns:=λz=>by
     rw [lu,if_pos z] at hv;cases hv
   have lp:∀ k∈keysOf ns,lf k≠p:=λk hk z=>by
     have:=(ls k hk).1;rw [z,fp] at this;cases this
   have lD:∀ k∈keysOf ns,lf k≠D:=λk hk z=>by
     have:=(ls k hk).1;rw [z,hD] at this;cases this
   have gp:upd (upd H1 p (.lst [])) D (.dK (putK (grK lf (keysOf ns)) (Sum.inl ((n/256:Nat):Int)) (.ref p))) p=some (.lst []):=by rw [zo (Ne.symm nDp),zm]
   have ek:keysOf (ns++[n])=keysOf ns++[n/256]:=by rw [uz,if_neg nin]
   have ne:∀ k∈keysOf ns,k≠n/256:=λk hk z=>nin (z ▸ hk)
   refine ⟨⟨_,SqL.of gp⟩,[],gp,by decide,q _ (((sm.trans sp).put fD).put hp0) ⟨λk=>if k=n/256 then p else lf k,?_,λk hk=>?_,λk hk k' hk' e=>?_⟩⟩
   . rw [zo nDp,zm,putK_new _ hv,ek];unfold grK;rw [yX];congr 3
     . exact vh λk hk=>by dsimp only;rw [if_neg (ne k hk)]
     . show _=[(Sum.inl ((n/256:Nat):Int),V.ref (if n/256=n/256 then p else _))]
       rw [if_pos rfl]
   . rw [ek] at hk
     dsimp only;by_cases e:k=n/256
     . rw [e,if_pos rfl,zm,sY,if_pos rfl];refine ⟨?_,hp0⟩;have:plcN (n/256) ns=[]:=by
         unfold plcN;rw [uh.mpr λm hm=>by rw [vg];exact λz=>nin ((uR ns _).mpr ⟨m,hm,z⟩)];rfl
       rw [this];rfl
     . have hk:k∈keysOf ns:=(zR.mp hk).resolve_right λz=>e (zA.mp z)
       rw [if_neg e,zo (lp k hk),zo (lD k hk),sY,if_neg (λz=>e z.symm),zH];exact ⟨sp _ _ (ls k hk).1,(ls k hk).2⟩
   . rw [ek] at hk hk'
     dsimp only at e;by_cases e1:k=n/256
     . by_cases e2:k'=n/256
       . rw [e1,e2]
       . have hk':k'∈keysOf ns:=(zR.mp hk').resolve_right λz=>e2 (zA.mp z)
         rw [if_pos e1,if_neg e2] at e;exact absurd e.symm (lp k' hk')
     . have hk:k∈keysOf ns:=(zR.mp hk).resolve_right λz=>e1 (zA.mp z)
       rw [if_neg e1] at e;by_cases e2:k'=n/256;{rw [if_pos e2] at e;exact absurd e (lp k hk)}
       . have hk':k'∈keysOf ns:=(zR.mp hk').resolve_right λz=>e2 (zA.mp z)
         rw [if_neg e2] at e;exact inj k hk k' hk' e
def kN (ps:List Nat):Nat:=if ps.length<=32/\ps.length<=2*(runsOf ps).length then 0 else if 16<=(runsOf ps).length then 1 else 2
theorem eH {ps:List Nat}(h:¬(ps.length<=32/\ps.length<=2*(runsOf ps).length)):kN ps=if 16<=(runsOf ps).length then 1 else 2:=by unfold kN;rw [if_neg h]
def RowL (H:Hp)(v:V)(e:Ent):Prop:=∃ t lp lr,v=.ref t/\H t=some (.tup [.int (e.key:Nat),.ref lp,.ref lr,.int (kN e.ps:Nat)])/\H lp=some (.lst (pint e.ps))/\RunsL H lr (runsOf e.ps)
theorem RowL.same {e:Ent}(s:Same H H')(h:RowL H v e):RowL H' v e:=by obtain ⟨t,lp,lr,a,b,c,d⟩:=h;exact ⟨t,lp,lr,a,s _ _ b,s _ _ c,d.same s⟩
theorem lq:∀ {ks:List Int} {a:Nat},ks.Pairwise (·<·)->(∀ k∈ks,(a:Int)<=k)->Up a (ks.map Int.toNat)
 | [],_,_,_=>trivial
 | k::r,a,h,l=>by
   obtain ⟨h1,h2⟩:=rh.mp h;have lk:=l k (.head _);refine ⟨by lia,lq h2 λj hj=>?_⟩;have:=h1 j hj;lia
structure GrI (a D:Addr)(zs:List Nat)(H:Hp)(i:Nat)(σ:L2.St)(H':Hp):Prop where
 ex:∃ v2 v3 v4 v5 v6 v7:Option V,σ=[some (.ref a),some (.ref D),v2,v3,v4,v5,v6,v7]
 same:Same H H'
 st:GrSt H H' D (zs.take i)
structure RwI (a D L:Addr)(o:Obj)(kvs:List (Key × V))(zs:List Nat)(H:Hp)(i:Nat)(σ:L2.St)(H':Hp):Prop where
 ex:∃ v2 v4 v5 v6 v7:Option V,σ=[some (.ref a),some (.ref D),v2,some (.ref L),v4,v5,v6,v7]
 fz:H' D=some (.frz o (.dK kvs))
 sm:∀ b ob,b≠D->H b=some ob->H' b=some ob
 rw:∃ us,H' L=some (.lst us)/\Paired (RowL (del (del H' L) D)) us ((entsOf zs).take i)
def spRowsT (K:zh):Sp:=λvs H Q _=>∃ (a:Addr) (ns:List Nat),vs=[.ref a]/\SqL K H a (pint ns)/\ns.length<=1000/\(∀ n∈ns,n<65536)/\∀ l us zs H',Same H H'->H l=none->H' l=some (.lst us)->Paired (RowL H') us (entsOf zs)->Up 0 zs->(∀ n,n∈zs↔n∈ns)->Q (.ref l) H'
theorem ok_rowsT (B:Blt mg)(jbi:FnAt P w K mg base "_law_runs" ["_law_places"] 1 (spRunsS K))(d:DefAt K mg "_law_rows" pk ["_law_numbers_here"]):FnAt P w K mg base "_law_rows" ["_law_numbers_here"] 2 (spRowsT K):=by
 refine FnAt.of d jbD ?_ ?_;ext c;have nd:=jbD.nd;obtain ⟨a,ns,rfl,hS,l1000,lt,q⟩:=h;refine ⟨_,(zu (zd 1 pe_dnewK) (zu (yW yd rfl (yH K (fw K rfl rfl B.sorted rfl B.st (pv 0))) (zG 2) (zp (yQ (yg K yN xU xT xY (pe_dset (pv 1) (zv xr (pv 2) zx) (yi zw) ⟨rfl,rfl,rfl,rfl⟩) (zy (zv zL (pv 2) zx) zw))))) (zu (zd 3 (yi zw)) (zu (ps_thaw (yW yd rfl (bA (pv 1)) (vA K rfl (xu (zG 4) (xu (zG 5) vG))) (zu (zd 6 (ze jbi (zy (pv 5) zw))) (zu (zd 7 zx) (zu (zQ (zP op_ge (zB (xh K) rfl B.len yZ (zy (pv 6) zw)) zx) (zp (zd 7 zx)) zM) (zu (zQ (PW.pt (rJ (zP wK (zB (xh K) rfl B.len yZ (zy (pv 5) zw)) zx) (rK (zP wK (zB (xh K) rfl B.len yZ (zy (pv 5) zw)) (zv xt zx (zB (xh K) rfl B.len yZ (zy (pv 6) zw))))))) (zp (zd 7 zx)) zM) (zp (yQ (yg K yN xU xT xY (pv 3) (zy (wz (zy (pv 4) (zy (pv 5) (zy (pv 6) (zy (pv 7) zw))))) zw)))))))))) (zp (zb (pv 3))))))),?_⟩
 refine zq λk hk=>?_
 ext a;refine λD nD=>hk _ _ (zq λk hk=>?_)
 ext a;have s1:=Same.new (o:=.dK []) nD;refine ⟨ns.map λ(n:Nat)=>(n:Int),by rw [yO];exact s1.seq hS,by rw [za];lia,λp ks np pw mem=>?_⟩;have kn:∀ y∈ks,∃ n∈ns,y=((n:Nat):Int):=λy hy=>by
   obtain ⟨n,hn,e⟩:=zJ.mp ((mem y).mp hy);exact ⟨n,hn,e.symm⟩
 have up:Up 0 (ks.map Int.toNat):=lq pw λy hy=>by
   obtain ⟨n,_,rfl⟩:=kn y hy;lia
 have ez:ks.map V.int=pint (ks.map Int.toNat):=by
   unfold pint;rw [yO];refine vh λy hy=>?_
   obtain ⟨n,_,rfl⟩:=kn y hy;rfl
 have mz:∀ n,n∈ks.map Int.toNat↔n∈ns:=λn=>by
   constructor;{intro h;obtain ⟨y,hy,rfl⟩:=zJ.mp h;obtain ⟨m,hm,rfl⟩:=kn y hy;exact hm};{intro h;exact zJ.mpr ⟨(n:Int),(mem _).mpr (zJ.mpr ⟨n,h,rfl⟩),rfl⟩}
 rw [ez];have lz:(ks.map Int.toNat).length<=1000:=by refine zO (List.Nodup.length_le_of_subset (l₂:=ns) (Up.nd' up) λn h=>(mz n).mp h) l1000
 have ltz:∀ n∈ks.map Int.toNat,n<65536:=λn h=>lt n ((mz n).mp h)
 generalize ks.map Int.toNat=zs at up mz lz ltz ez;clear ez kn mem pw;have s2:=Same.new (o:=.lst (pint zs)) np;have pD:p≠D:=λz=>by rw [z,zm] at np;cases np
 have hp2:=zm (H:=upd H D (.dK [])) (a:=p) (o:=.lst (pint zs));have hD2:=s2 _ _ (zm (H:=H) (a:=D) (o:=.dK []));have sH:Same H (del (upd (upd H D (.dK [])) p (.lst (pint zs))) D):=λb o e=>by
   rw [wb (zC e nD)];exact (s1.trans s2) _ _ e
 generalize upd (upd H D (.dK [])) p (.lst (pint zs))=H2 at s2 hp2 hD2 sH;refine ⟨⟨_,SqL.of hp2⟩,loopL (K:=K) (xs:=pint zs) (GrI a D zs (del H2 D)) ⟨⟨_,_,_,_,_,_,rfl⟩,λb o e=>(vT e).2,λ_=>D,hD2,λk h=>(by cases h),λk h=>(by cases h)⟩ (λi σ H3 _ h=>SqL.of (h.same _ _ (by rw [wb pD];exact hp2))) ?_ ?_⟩
 . rintro i x σ H3 hx ⟨⟨v2,v3,v4,v5,v6,v7,rfl⟩,sm,st⟩;obtain ⟨n,hn,rfl⟩:=vB hx;have tk:zs.take (i+1)=zs.take i++[n]:=by rw [yC,hn];rfl
   ext a;rw [show (n:Int)/256=((n/256:Nat):Int) by lia,show (n:Int)%256=((n%256:Nat):Int) by lia];refine ⟨.inl ⟨_,.inl st.choose_spec.1⟩,zS _,λp np=>gr_step (show del H2 D D=none from fh) sm st (by rw [y3];lia) (λH' s' st'=>⟨⟨_,_,_,_,_,_,rfl⟩,s',by rw [tk];exact st'⟩) p np⟩
 . rintro σ H3 ⟨⟨v2,v3,v4,v5,v6,v7,rfl⟩,sm,st⟩;rw [yP (by rw [yh];exact zi _)] at st;obtain ⟨lf,hD,ls,inj⟩:=st;refine hk _ _ (zq λk hk=>?_);ext a;refine ⟨by decide,λL nL=>hk _ _ (zq λk hk=>?_)⟩;have s4:=Same.new (o:=.lst []) nL;have LD:L≠D:=λz=>by rw [z,hD] at nL;cases nL
   ext a;refine ⟨D,_,s4 _ _ hD,_,s4 _ _ hD,λo=>?_⟩;have gl:(grK lf (keysOf zs)).length=(entsOf zs).length:=by unfold grK entsOf;rw [za,za]
   refine loopI (RwI a D L o (grK lf (keysOf zs)) zs (del H3 D)) ⟨⟨_,_,_,_,_,rfl⟩,zm,λb ob nb e=>?_,[],by rw [zo LD,zm],.nil⟩ (λi σ H' h=>h.fz) ?_ ?_;{rw [zo nb];exact s4 _ _ (vT e).2}
   . rintro i kv T σ H5 hkv nT ⟨⟨v2,v4,v5,v6,v7,rfl⟩,fz,sm5,us,hL,rows⟩;have il:i<(keysOf zs).length:=by
       have:=(yT.mp hkv).1;unfold grK at this;rw [za] at this;exact this
     obtain ⟨ky,hky⟩:∃ ky,(keysOf zs)[i]?=some ky:=⟨_,zV il⟩
     have ekv:kv=(Sum.inl (ky:Int),V.ref (lf ky)):=by unfold grK at hkv;rw [yR,hky] at hkv;exact (Option.some.inj hkv).symm
     subst ekv;have kin:=y4 hky;obtain ⟨g1,g2⟩:=ls ky kin;have pl:(plcN ky zs).length<=256:=Up.lt256 (eO ky zs up) λp hp=>by
       obtain ⟨m,_,rfl⟩:=zJ.mp hp;exact xZ _ (by decide)
     have nlD:lf ky≠D:=λz=>by rw [z,hD] at g1;cases g1
     have nlL:lf ky≠L:=λz=>by rw [z,nL] at g1;cases g1
     have g5:=sm5 _ _ nlD (by rw [wb nlD];exact g1);have s6:=Same.new (o:=.tup [kV (Sum.inl (ky:Int)),V.ref (lf ky)]) nT;simp only [gTup,gCons,gName,gNil];refine ⟨T,_,rfl,.inl (.inl zm),rfl,_,_,rfl,_,_,rfl,rfl,?_⟩;have g6:=s6 _ _ g5;have fz6:=s6 _ _ fz;have hL6:=s6 _ _ hL;generalize upd H5 T (.tup [kV (Sum.inl (ky:Int)),V.ref (lf ky)])=H6 at s6 g6 fz6 hL6;refine zq λk2 hk2=>?_
     ext a;refine ⟨lf ky,plcN ky zs,rfl,SqL.of g6,pl,λr H7 s7 nr hR=>hk2 _ _ (zq λk2 hk2=>?_)⟩;ext a;refine hk2 _ _ (zq λk2 hk2=>?_);obtain ⟨vr,hvr,htr⟩:=id hR;have lr:=htr.length;have st1:∀ kd1:Nat,kd1=(if 16<=(runsOf (plcN ky zs)).length then 1 else 2)->k2 [some (V.ref a),some (V.ref D),v2,some (V.ref L),some (V.int (ky:Int)),some (V.ref (lf ky)),some (V.ref r),some (V.int kd1)] H7:=λkd1 e1=>by
       refine hk2 _ _ (zq λk3 hk3=>?_);have st2:∀ kd:Nat,kd=kN (plcN ky zs)->k3 [some (V.ref a),some (V.ref D),v2,some (V.ref L),some (V.int (ky:Int)),some (V.ref (lf ky)),some (V.ref r),some (V.int kd)] H7:=λkd e2=>by
         refine hk3 _ _ ?_;ext a;have hL7:=s7 _ _ hL6;refine ⟨⟨_,SqL.of hL7⟩,by decide,λt nt=>?_⟩;have s8:=Same.new (o:=.tup [V.int (ky:Int),V.ref (lf ky),V.ref r,V.int kd]) nt;have ht8:=zm (H:=H7) (a:=t) (o:=.tup [V.int (ky:Int),V.ref (lf ky),V.ref r,V.int kd]);have tL:t≠L:=λz=>by rw [z,hL7] at nt;cases nt
         have tD:t≠D:=λz=>by rw [z,s7 _ _ fz6] at nt;cases nt
         generalize upd H7 t (.tup [V.int (ky:Int),V.ref (lf ky),V.ref r,V.int kd])=H8 at s8 ht8;have hL8:=s8 _ _ hL7;have fz8:=s8 _ _ (s7 _ _ fz6);have ul:us.length<=256:=by rw [vp rows,y3];have:=eI up ltz;lia
         refine ⟨us,hL8,small1000 (by lia),⟨_,_,_,_,_,rfl⟩,by rw [zo (Ne.symm LD)];exact fz8,λb ob nb e=>?_,us++[V.ref t],zm,?_⟩
         . have nbL:b≠L:=λz=>by
             obtain ⟨_,e⟩:=vT e;rw [z,nL] at e;cases e
           rw [zo nbL];exact ((s6.trans s7).trans s8) _ _ (sm5 _ _ nb e)
         . have te:(entsOf zs).take (i+1)=(entsOf zs).take i++[⟨ky,plcN ky zs,0⟩]:=by
             rw [yC];unfold entsOf;rw [yR,hky];rfl
           rw [te];have off:∀ {Ha:Hp},Same Ha H8->Same (del (del Ha L) D) (del (del (upd H8 L (.lst (us++[V.ref t]))) L) D):=λ{Ha} sa b ob e=>by
             obtain ⟨n1,e⟩:=vT e;obtain ⟨n2,e⟩:=vT e;rw [wb n1,wb n2,zo n2];exact sa _ _ e
           have ov:∀ {b:Addr} {ob:HO},b≠L->b≠D->H8 b=some ob->del (del (upd H8 L (.lst (us++[V.ref t]))) L) D b=some ob:=λ{b ob} n1 n2 e=>by
             rw [wb n2,wb n1,zo n1];exact e
           refine Paired.snoc (Paired.mapP rows λ_ _ h=>RowL.same (off ((s6.trans s7).trans s8)) h) ⟨t,lf ky,r,rfl,?_,ov nlL nlD ((s7.trans s8) _ _ g6),vr,?_,?_⟩;{rw [<- e2];exact ov tL tD ht8};{exact ov (λz=>by rw [z,hL6] at nr;cases nr) (λz=>by rw [z,fz6] at nr;cases nr) (s8 _ _ hvr)}
           . refine Paired.mapP htr λv rr h=>?_
             obtain ⟨tt,ev,ht⟩:=h;refine ⟨tt,ev,ov (λz=>?_) (λz=>?_) (s8 _ _ ht)⟩;{rw [z,hL7] at ht;cases ht};{rw [z,s7 _ _ fz6] at ht;cases ht}
       ext a;refine ⟨_,.inl (SqL.of (s7 _ _ g6)),?_⟩;rw [yh];by_cases c1:((plcN ky zs).length:Int)<=32
       . rw [if_pos c1];refine ⟨_,.inl (SqL.of (s7 _ _ g6)),_,.inl (SqL.of hvr),?_⟩;rw [yh,lr];by_cases c2:((plcN ky zs).length:Int)<=2*((runsOf (plcN ky zs)).length:Int)
         . rw [if_pos c2];refine st2 0 ?_;unfold kN;rw [if_pos ⟨by lia,by lia⟩]
         . rw [if_neg c2];exact st2 kd1 (e1.trans (eH λh=>c2 (by lia)).symm)
       . rw [if_neg c1];exact st2 kd1 (e1.trans (eH λh=>c1 (by lia)).symm)
     ext a;refine ⟨_,.inl (SqL.of hvr),?_⟩;rw [lr];by_cases c1:16<=((runsOf (plcN ky zs)).length:Int);{rw [if_pos c1];exact st1 1 (if_pos (show 16<=(runsOf (plcN ky zs)).length by lia)).symm};{rw [if_neg c1];exact st1 2 (if_neg (show ¬16<=(runsOf (plcN ky zs)).length by lia)).symm}
   . rintro σ H5 ⟨⟨v2,v4,v5,v6,v7,rfl⟩,fz,sm5,us,hL,rows⟩;refine ⟨o,fz,hk _ _ ?_⟩;ext a;rw [gl,wM] at rows;refine q L us zs _ (λb ob e=>?_) ?_ ?_ (Paired.mapP rows λ_ _ h=>RowL.same (λb ob e=>?_) h) up mz
     . have e3:=sm _ _ (sH _ _ e);have nb:b≠D:=zC e nD;rw [zo nb];exact sm5 _ _ nb (by rw [wb nb];exact e3)
     . have e:del H2 D L=none:=none_of sm nL;exact none_of sH e
     . rw [zo LD];exact hL
     . obtain ⟨n1,e⟩:=vT e;obtain ⟨n2,e⟩:=vT e;rw [zo n1];exact e
def bodyF (kd:Nat)(ps:List Nat):List (List Bool) :=
 if kd=0 then ps.map λp=>bitsB p 8 else if kd=1 then [(List.range 256).map λp=>decide (p∈ps)] else (runsOf ps).flatMap λr=>[bitsB r.1 8,bitsB r.2 8]
def txs (fs:List (List Bool)):List V:=fs.map λb=>V.str (tx b)
theorem sX (a b:List (List Bool)):txs (a++b)=txs a++txs b:=yX
def spBodyT (K:zh):Sp:=λvs H Q _=>∃ (lp lr:Addr) (ps:List Nat) (kd:Nat),vs=[.ref lp,.ref lr,.int kd]/\H lp=some (.lst (pint ps))/\RunsL H lr (runsOf ps)/\kd<=2/\ps.length<=256/\(∀ p∈ps,p<256)/\∀ l H',Same H H'->H l=none->H' l=some (.lst (txs (bodyF kd ps)))->Q (.ref l) H'
structure HdI (lp lr h:Addr)(ps:List Nat)(H:Hp)(i:Nat)(σ:L2.St)(H':Hp):Prop where
 ex:∃ v4 v5 v6 v7:Option V,σ=[some (.ref lp),some (.ref lr),some (.int 1),some (.ref h),v4,v5,v6,v7]
 sm:Same H H'
 hh:H' h=some (.lst ((List.range 256).map λp=>V.str (sg (decide (p∈ps.take i)))))
structure FsI (lp lr f:Addr)(kd:Int)(rs:List (Nat × Nat))(H:Hp)(i:Nat)(σ:L2.St)(H':Hp):Prop where
 ex:∃ v3 v4 v6 v7:Option V,σ=[some (.ref lp),some (.ref lr),some (.int kd),v3,v4,some (.ref f),v6,v7]
 sm:Same H H'
 hf:H' f=some (.lst (txs ((rs.take i).flatMap λr=>[bitsB r.1 8,bitsB r.2 8])))
theorem ok_bodyT (B:Blt mg) (jj:FnAt P w K mg base "_law_bits" ["_law_number","_law_many"] 1 spBitsL) (d:DefAt K mg "_law_body" ph ["_law_places","_law_runs_here","_law_kind"]):FnAt P w K mg base "_law_body" ["_law_places","_law_runs_here","_law_kind"] 2 (spBodyT K):=by
 refine FnAt.of d jbE ?_ ?_;ext c;have nd:=jbE.nd;obtain ⟨lp,lr,ps,kd,rfl,hp,hR,k2,l256,lt,q⟩:=h;refine ⟨_,(zu (zQ (zP yo (pv 2) zx) (zp (zb (xF ["_law_place"] [] rfl (yH K (pv 0)) (λ_ _ _ _ _=>yA (i:=0) (by show List.Nodup (["_law_place"]:List Str);decide +kernel) rfl (Or.inl rfl)) (λ_ _ _ _ _=>wx) (λ_ _ _ _ _=>(ze jj (zy (pv 0) (zy zx zw)))) trivial xi))) zM) (zu (zQ (zP yo (pv 2) zx) (zu (zd 3 (zv op_rep (yi (zy xj zw)) zx)) (zu (yW yd rfl (yH K (pv 0)) (zG 4) (zp (tO xj (nX (pv 3) (pv 4) nO)))) (zp (zb (yi (zy (yg K uK uI uH (tE K) xj (zy (pv 3) zw)) zw)))))) zM) (zu (zd 5 (yi zw)) (zu (yW yd rfl (yH K (pv 1)) (vA K rfl (xu (zG 6) (xu (zG 7) vG))) (zu (yQ (yg K yN xU xT xY (pv 5) (zy (ze jj (zy (pv 6) (zy zx zw))) zw))) (zp (yQ (yg K yN xU xT xY (pv 5) (zy (ze jj (zy (pv 7) (zy zx zw))) zw)))))) (zp (zb (pv 5))))))),?_⟩
 refine zq λk hk=>?_
 ext a;by_cases c0:kd=0
 . rw [if_pos (show (kd:Int)=0 by lia)];refine ⟨⟨_,SqL.of hp⟩,compV (λi=>.str (tx (bitsB (ps[i]?.getD 0) 8))) (SqL.of hp) (by rw [yh];lia) (λi x H2 R hx s2 r=>?_) (λD H2 nD s2 hD=>q D H2 s2 nD ?_)⟩
   . obtain ⟨p,ep,rfl⟩:=vB hx;rw [ep] at r;ext a;exact ⟨p,8,rfl,by decide,r⟩
   . rw [hD,yh];unfold bodyF txs;rw [if_pos c0,yO];refine congrArg (λz=>some (HO.lst z)) (wO (by rw [za,za,yc]) λi a1 a2=>?_);rw [za,yc] at a1;rw [w6,w6,ue,zV a1];rfl
 rw [if_neg (show ¬(kd:Int)=0 by lia)];refine hk _ _ (zq λk hk=>?_);ext a;by_cases c1:kd=1
 . rw [if_pos (show (kd:Int)=1 by lia)]
   refine ⟨by decide,λp1 n1=>⟨_,zm,by show 1*256<=sizeLine;decide,λh nh=>?_⟩⟩;have s1:=Same.new (o:=.lst [V.str (Str.ofString "0")]) n1;have e0:(List.replicate 256 [V.str (Str.ofString "0")]).flatten=(List.range 256).map λp=>V.str (sg (decide (p∈ps.take 0))):=by
     rw [kZ];refine wO (by rw [ug,za,yc]) λi a1 a2=>?_
     rw [kG,w6,oA,yu (λz=>by cases z)];rfl
   rw [e0];have s2:=s1.trans (Same.new (o:=.lst ((List.range 256).map λp=>V.str (sg (decide (p∈ps.take 0))))) nh);have nhH:H h=none:=none_of s1 nh;have h2:=zm (H:=upd H p1 (.lst [V.str (Str.ofString "0")])) (a:=h) (o:=.lst ((List.range 256).map λp=>V.str (sg (decide (p∈ps.take 0)))));generalize upd (upd H p1 (.lst [V.str (Str.ofString "0")])) h (.lst ((List.range 256).map λp=>V.str (sg (decide (p∈ps.take 0)))))=H2 at s2 h2;refine ⟨⟨_,SqL.of (s2 _ _ hp)⟩,loopL (K:=K) (xs:=pint ps) (HdI lp lr h ps H) ⟨⟨_,_,_,_,by rw [show (kd:Int)=1 by lia]⟩,s2,h2⟩ (λi σ H3 _ g=>SqL.of (g.sm _ _ hp)) ?_ ?_⟩
   . rintro i x σ H3 hx ⟨⟨v4,v5,v6,v7,rfl⟩,sm,hh⟩;obtain ⟨p,ep,rfl⟩:=vB hx;ext a;have pl:=lt p (y4 ep);refine ⟨_,hh,p,?_,⟨_,_,_,_,rfl⟩,sm.put nhH,?_⟩
     . rw [za,yc];exact fA pl
     . rw [zm]
       refine congrArg (λz=>some (HO.lst z)) (wO (by rw [oG,za,za]) λj a1 a2=>?_);rw [List.getElem_set,w6,w6,ue];rw [yC,ep];by_cases c:p=j;{rw [if_pos c,zK (show j∈ps.take i++(some p).toList from yf _ (c ▸ .head _))];rfl}
       . rw [if_neg c];have:decide (j∈ps.take i)=decide (j∈ps.take i++(some p).toList):=wN.mpr ⟨λh=>yF _ h,λh=>by
           rcases zR.mp h with h | h
           . exact h
           . exact absurd (zA.mp h).symm c⟩
         rw [this]
   . rintro σ H3 ⟨⟨v4,v5,v6,v7,rfl⟩,sm,hh⟩;ext a;rw [yP (by rw [yh];exact zi _)] at hh;refine ⟨((List.range 256).map λp=>decide (p∈ps)).map sg,?_,?_,by decide,λl nl=>?_⟩
     . rw [yO,yO];exact SqL.of hh
     . simp only [pK,za,yc];decide +kernel
     . rw [l7];refine q l _ (sm.trans (Same.new nl)) (none_of sm nl) ?_;rw [zm];unfold bodyF txs;rw [if_neg c0,if_pos c1];rfl
 rw [if_neg (show ¬(kd:Int)=1 by lia)];refine hk _ _ (zq λk hk=>?_);ext a;refine ⟨by decide,λf nf=>hk _ _ (zq λk hk=>?_)⟩;ext a;obtain ⟨vr,hvr,htr⟩:=hR;have s1:=Same.new (o:=.lst []) nf;have lr':=htr.length;refine ⟨⟨_,SqL.of (s1 _ _ hvr)⟩,loopL (K:=K) (xs:=vr) (FsI lp lr f kd (runsOf ps) H) ⟨⟨_,_,_,_,rfl⟩,s1,zm⟩ (λi σ H3 _ g=>SqL.of (g.sm _ _ hvr)) ?_ ?_⟩
 . rintro i x σ H3 hx ⟨⟨v3,v4,v6,v7,rfl⟩,sm,hf⟩;have il:i<(runsOf ps).length:=by have:=(yT.mp hx).1;lia
   have er:=zV il;obtain ⟨t,rfl,ht⟩:=fB htr hx er;generalize (runsOf ps)[i]=r at er ht;simp only [gTup,gCons,gName,gNil];refine ⟨t,_,rfl,.inl (.inl (sm _ _ ht)),rfl,_,_,rfl,_,_,rfl,rfl,?_⟩;have ln:(txs (((runsOf ps).take i).flatMap λr=>[bitsB r.1 8,bitsB r.2 8])).length<=600:=by unfold txs;rw [za,pO,y3];have:=nC ps;lia
   refine zq λk2 hk2=>?_
   ext a;refine ⟨⟨_,SqL.of hf⟩,r.1,8,rfl,by decide,λH4 s4=>⟨_,s4 _ _ hf,small1000 (by lia),hk2 _ _ ?_⟩⟩;ext a;refine ⟨⟨_,SqL.of zm⟩,r.2,8,rfl,by decide,λH5 s5=>⟨_,s5 _ _ zm,small1000 (by rw [zj];show _+1<=_;lia),⟨_,_,_,_,rfl⟩,?_,?_⟩⟩;{exact (((sm.trans s4).put nf).trans s5).put nf};{rw [zm,yC,er,rm,sX,zY];rfl}
 . rintro σ H3 ⟨⟨v3,v4,v6,v7,rfl⟩,sm,hf⟩;refine hk _ _ ?_;ext a;refine q f H3 sm nf ?_;rw [hf,lr',wM];unfold bodyF;rw [if_neg c0,if_neg c1]
def RowK (H:Hp)(v:V)(x:Ent × Nat):Prop:=∃ t lp lr,v=.ref t/\H t=some (.tup [.int (x.1.key:Nat),.ref lp,.ref lr,.int (x.2:Nat)])/\H lp=some (.lst (pint x.1.ps))/\RunsL H lr (runsOf x.1.ps)
def lenB (x:Ent × Nat):Nat:=(bodyF x.2 x.1.ps).flatten.length/8
def totN (l:List (Ent × Nat)):Nat:=(l.map λx=>x.1.ps.length).sum
def totB (l:List (Ent × Nat)):Nat:=(l.map lenB).sum
theorem lj (l:List (Ent × Nat))(x:Ent × Nat):totN (l++[x])=totN l+x.1.ps.length:=by unfold totN;rw [yX,rV];show _+(_+0)=_;rw [xJ]
theorem eG (l:List (Ent × Nat))(x:Ent × Nat):totB (l++[x])=totB l+lenB x:=by unfold totB;rw [yX,rV];show _+(_+0)=_;rw [xJ]
def headOf (m s:Nat)(x:Ent × Nat):List (List Bool):=[bitsB x.1.key 8,bitsB x.2 2,bitsB (m+x.1.ps.length-1) 16,bitsB (s+lenB x) 14]
def headsF:Nat->Nat->List (Ent × Nat)->List (List Bool)
 | _,_,[]=>[]
 | m,s,x::r=>headOf m s x++headsF (m+x.1.ps.length) (s+lenB x) r
theorem eF (x:Ent × Nat):∀ (l:List (Ent × Nat)) (m s:Nat),headsF m s (l++[x])=headsF m s l++headOf (m+totN l) (s+totB l) x
 | [],m,s=>by
   show headOf m s x++[]=[]++headOf (m+0) (s+0) x;rw [zH,yb];rfl
 | y::r,m,s=>by
   show headOf m s y++headsF _ _ (r++[x])=(headOf m s y++headsF _ _ r)++headOf (m+(y.1.ps.length+totN r)) (s+(lenB y+totB r)) x;rw [eF x r,zY,wC,wC]
def bodiesF (l:List (Ent × Nat)):List (List Bool):=l.flatMap λx=>bodyF x.2 x.1.ps
def fieldsT (l:List (Ent × Nat)):List (List Bool):=bitsB l.length 9::(headsF 0 0 l++bodiesF l)
theorem lh:∀ (l:List (Ent × Nat)) (m s:Nat),(headsF m s l).length=4*l.length
 | [],_,_=>rfl
 | x::r,m,s=>by
   show (headOf m s x++headsF _ _ r).length=4*(r.length+1);rw [zj,lh r];show 4+_=_;lia
theorem lZ (fs:List (List Bool)):Txt.join "" (fs.map tx)=tx fs.flatten:=by
 show Builtin.Str.glued _ _=_;rw [StrLaws.glued_eq_join];have e:("":Str)=Str.empty:=by decide +kernel
 rw [e,l9];unfold tx;refine congrArg (λz=>(⟨List.toArray z⟩:Str)) ?_;induction fs with
 | nil=>rfl
 | cons b r ih=>rw [yz,xo,ih,yE,yX]
theorem lY:∀ fs:List (List Bool),((fs.map tx).map (·.length)).sum=fs.flatten.length
 | []=>rfl
 | b::r=>by
   rw [yz,yz,List.sum_cons,lY r,x8,yE,zj]
theorem lX {kd:Nat} {ps:List Nat} (h:ps.length<=256):(bodyF kd ps).length<=512/\(bodyF kd ps).flatten.length<=4096:=by
 have rl:=nC ps;unfold bodyF;split;{refine ⟨by rw [za];lia,?_⟩;rw [List.length_flatten,yO,show (List.length ∘ λp=>bitsB p 8)=λ_=>8 from funext λp=>yG p 8];rw [List.map_const',List.sum_replicate_nat];lia}
 . split
   . exact ⟨by show 1<=512;decide,by rw [yE,zj,za,yc];decide⟩
   . refine ⟨by rw [pO];lia,?_⟩;have:∀ l:List (Nat × Nat),(l.flatMap λr=>[bitsB r.1 8,bitsB r.2 8]).flatten.length=16*l.length:=λl=>by
       induction l with
       | nil=>rfl
       | cons x r ih =>
         rw [xo,xw,zj,ih];show (bitsB x.1 8++(bitsB x.2 8++[])).length+_=16*(r.length+1);rw [zj,zj,yG,yG];show 8+(8+0)+_=_;lia
     rw [this];lia
def spFieldsT (K:zh):Sp:=λvs H Q _=>∃ (a:Addr) (us:List V) (l:List (Ent × Nat)),vs=[.ref a]/\H a=some (.lst us)/\Paired (RowK H) us l/\l.length<=256/\(∀ x∈l,x.2<=2/\x.1.ps≠[]/\x.1.ps.length<=256/\∀ p∈x.1.ps,p<256)/\∀ r H',Same H H'->H r=none->H' r=some (.lst (txs (fieldsT l)))->Q (.ref r) H'
structure FlI (a F Bd:Addr)(l:List (Ent × Nat))(H:Hp)(i:Nat)(σ:L2.St)(H':Hp):Prop where
 ex:∃ v5 v6 v7 v8 v9:Option V,σ=[some (.ref a),some (.ref F),some (.ref Bd),some (.int (totN (l.take i):Nat)),some (.int (totB (l.take i):Nat)),v5,v6,v7,v8,v9]
 sm:Same H H'
 hF:H' F=some (.lst (txs (bitsB l.length 9::headsF 0 0 (l.take i))))
 hB:H' Bd=some (.lst (txs (bodiesF (l.take i))))
theorem af (B:Blt mg)(jj:FnAt P w K mg base "_law_bits" ["_law_number","_law_many"] 1 spBitsL)(jbj:FnAt P w K mg base "_law_body" ["_law_places","_law_runs_here","_law_kind"] 2 (spBodyT K))(d:DefAt K mg "_law_fields" pZ ["_law_rows_here"]):FnAt P w K mg base "_law_fields" ["_law_rows_here"] 3 (spFieldsT K):=by
 refine FnAt.of d ja5 ?_ ?_;ext c;have nd:=ja5.nd;obtain ⟨a,us,l,rfl,ha,rows,l256,ok,q⟩:=h;refine ⟨_,(zu (zd 1 (yi (zy (ze jj (zy (zB (xh K) rfl B.len yZ (zy (pv 0) zw)) (zy zx zw))) zw))) (zu (zd 2 (yi zw)) (zu (zd 3 zx) (zu (zd 4 zx) (zu (yW yd rfl (yH K (pv 0)) (vA K rfl (xu (zG 5) (xu (zG 6) (xu (zG 7) (xu (zG 8) vG))))) (zu (zd 9 (ze jbj (zy (pv 6) (zy (pv 7) (zy (pv 8) zw))))) (zu (zd 3 (zv zX (pv 3) (zB (xh K) rfl B.len yZ (zy (pv 6) zw)))) (zu (zd 4 (zv zX (pv 4) (zv xr (zB uV rfl B.len yZ (zy (yg K uK uI uH (tE K) xj (zy (pv 9) zw)) zw)) zx))) (zu (yQ (yg K yN sP sO rC (pv 1) (zy (yi (zy (ze jj (zy (pv 5) (zy zx zw))) (zy (ze jj (zy (pv 8) (zy zx zw))) zw))) zw))) (zu (yQ (yg K yN sP sO rC (pv 1) (zy (yi (zy (ze jj (zy (zv yI (pv 3) zx) (zy zx zw))) (zy (ze jj (zy (pv 4) (zy zx zw))) zw))) zw))) (zp (yQ (yg K yN sP sO rC (pv 2) (zy (pv 9) zw)))))))))) (zp (zb (zv op_cat (pv 1) (pv 2))))))))),?_⟩
 have ul:=vp rows;refine zq λk hk=>?_
 ext a;refine ⟨_,.inl (SqL.of ha),us.length,9,rfl,by decide,λH1 s1=>⟨by decide,λF nF=>hk _ _ (zq λk hk=>?_)⟩⟩;ext a;refine ⟨by decide,λBd nB=>hk _ _ (zq λk hk=>?_)⟩;ext a;refine hk _ _ (zq λk hk=>?_);ext a;refine hk _ _ (zq λk hk=>?_);have s2:=s1.trans (Same.new (o:=.lst [V.str (tx (bitsB us.length 9))]) nF);have s3:=s2.trans (Same.new (o:=.lst []) nB);have FB:F≠Bd:=λz=>by rw [<- z,zm] at nB;cases nB
 have nFH:=none_of s1 nF;have nBH:=none_of s2 nB;ext a;refine ⟨⟨_,SqL.of (s3 _ _ ha)⟩,loopL (K:=K) (xs:=us) (FlI a F Bd l H) ⟨⟨_,_,_,_,_,rfl⟩,s3,?_,zm⟩ (λi σ H3 _ h=>SqL.of (h.sm _ _ ha)) ?_ ?_⟩;{rw [zo FB,zm,ul];rfl}
 . rintro i x σ H3 hx ⟨⟨v5,v6,v7,v8,v9,rfl⟩,sm,hF,hB⟩;have il:i<l.length:=by have:=(yT.mp hx).1;lia
   have el:=zV il;obtain ⟨t,lp,lr,rfl,ht,hlp,hlr⟩:=fB rows hx el;obtain ⟨ok1,ok2,ok3,ok4⟩:=ok _ (y9 il);have tk:l.take (i+1)=l.take i++[l[i]]:=by rw [yC,el];rfl
   generalize l[i]=y at el ht hlp hlr ok1 ok2 ok3 ok4 tk;obtain ⟨bl1,bl2⟩:=lX (kd:=y.2) ok3;have pos:1<=y.1.ps.length:=by
     cases h:y.1.ps with
     | nil=>exact absurd h ok2
     | cons=>exact Nat.succ_le_succ (zS _)
   simp only [gTup,gCons,gName,gNil];refine ⟨t,_,rfl,.inl (.inl (sm _ _ ht)),rfl,_,_,rfl,_,_,rfl,_,_,rfl,_,_,rfl,rfl,?_⟩;refine zq λk1 hk1=>?_
   ext a;refine ⟨lp,lr,y.1.ps,y.2,rfl,sm _ _ hlp,hlr.same sm,ok1,ok3,ok4,λbo H4 s4 nbo hbo=>hk1 _ _ (zq λk1 hk1=>?_)⟩;have sm4:=sm.trans s4;ext a;refine ⟨_,.inl (SqL.of (sm4 _ _ hlp)),hk1 _ _ (zq λk1 hk1=>?_)⟩;rw [yh,show ((totN (l.take i):Nat):Int)+(y.1.ps.length:Int)=((totN (l.take (i+1)):Nat):Int) by rw [tk,lj];lia];ext a;have ebo:H4 bo=some (.lst (((bodyF y.2 y.1.ps).map tx).map V.str)):=by rw [hbo,yO];rfl
   refine ⟨_,SqL.of ebo,?_,?_,hk1 _ _ (zq λk1 hk1=>?_)⟩;{rw [lY,za,show (Str.ofString "").length=0 from rfl];lia};{rw [lZ,x8];exact small5 (by lia)}
   rw [lZ,x8,show ((totB (l.take i):Nat):Int)+((bodyF y.2 y.1.ps).flatten.length:Int)/8=((totB (l.take (i+1)):Nat):Int) by rw [tk,eG];unfold lenB;lia];have fl:(txs (bitsB l.length 9::headsF 0 0 (l.take i))).length<=1100:=by unfold txs;rw [za,zZ,lh,y3];lia
   ext a;refine ⟨⟨_,SqL.of (s4 _ _ hF)⟩,y.1.key,8,rfl,by decide,λH5 s5=>⟨y.2,2,rfl,by decide,λH6 s6=>⟨by decide,λp7 n7=>?_⟩⟩⟩;have s7:=((s4.trans s5).trans s6).trans (Same.new (o:=.lst [V.str (tx (bitsB y.1.key 8)),V.str (tx (bitsB y.2 2))]) n7);refine ⟨_,s7 _ _ hF,_,zm,small5 (by show _+2<=_;lia),hk1 _ _ (zq λk1 hk1=>?_)⟩;have n7F:F≠p7:=zC ((s4.trans (s5.trans s6)) _ _ hF) n7;have hB7:=s7 _ _ hB;have hbo7:=((s5.trans s6).trans (Same.new (o:=.lst [V.str (tx (bitsB y.1.key 8)),V.str (tx (bitsB y.2 2))]) n7)) _ _ hbo;have sF:=(sm.trans s7).put (o:=.lst (txs (bitsB l.length 9::headsF 0 0 (l.take i))++[V.str (tx (bitsB y.1.key 8)),V.str (tx (bitsB y.2 2))])) nFH;have boF:bo≠F:=λz=>by rw [z,hF] at nbo;cases nbo
   have hF8:=zm (H:=upd H6 p7 (.lst [V.str (tx (bitsB y.1.key 8)),V.str (tx (bitsB y.2 2))])) (a:=F) (o:=.lst (txs (bitsB l.length 9::headsF 0 0 (l.take i))++[V.str (tx (bitsB y.1.key 8)),V.str (tx (bitsB y.2 2))]));have hB7:=(zo (o:=.lst (txs (bitsB l.length 9::headsF 0 0 (l.take i))++[V.str (tx (bitsB y.1.key 8)),V.str (tx (bitsB y.2 2))])) (Ne.symm FB)).trans hB7;have hbo7:=(zo (o:=.lst (txs (bitsB l.length 9::headsF 0 0 (l.take i))++[V.str (tx (bitsB y.1.key 8)),V.str (tx (bitsB y.2 2))])) boF).trans hbo7;generalize upd (upd H6 p7 (.lst [V.str (tx (bitsB y.1.key 8)),V.str (tx (bitsB y.2 2))])) F (.lst (txs (bitsB l.length 9::headsF 0 0 (l.take i))++[V.str (tx (bitsB y.1.key 8)),V.str (tx (bitsB y.2 2))]))=H8 at hB7 hbo7 hF8 sF;have tp:1<=totN (l.take (i+1)):=by rw [tk,lj];lia
   ext a;rw [show ((totN (l.take (i+1)):Nat):Int)-1=((totN (l.take (i+1))-1:Nat):Int) by lia];refine ⟨⟨_,SqL.of hF8⟩,_,16,rfl,by decide,λH9 s9=>⟨_,14,rfl,by decide,λH10 s10=>⟨by decide,λp11 n11=>?_⟩⟩⟩;have s11:=(s9.trans s10).trans (Same.new (o:=.lst [V.str (tx (bitsB (totN (l.take (i+1))-1) 16)),V.str (tx (bitsB (totB (l.take (i+1))) 14))]) n11);refine ⟨_,s11 _ _ hF8,_,zm,small5 (by rw [zj];show _+2+2<=_;lia),hk1 _ _ ?_⟩;have hB12:=s11 _ _ hB7;have hbo12:=s11 _ _ hbo7;have s12:=(sF.trans s11).put (o:=.lst (txs (bitsB l.length 9::headsF 0 0 (l.take i))++[V.str (tx (bitsB y.1.key 8)),V.str (tx (bitsB y.2 2))]++[V.str (tx (bitsB (totN (l.take (i+1))-1) 16)),V.str (tx (bitsB (totB (l.take (i+1))) 14))])) nFH;have hF12:=zm (H:=upd H10 p11 (.lst [V.str (tx (bitsB (totN (l.take (i+1))-1) 16)),V.str (tx (bitsB (totB (l.take (i+1))) 14))])) (a:=F) (o:=.lst (txs (bitsB l.length 9::headsF 0 0 (l.take i))++[V.str (tx (bitsB y.1.key 8)),V.str (tx (bitsB y.2 2))]++[V.str (tx (bitsB (totN (l.take (i+1))-1) 16)),V.str (tx (bitsB (totB (l.take (i+1))) 14))]));have hB12:=(zo (o:=.lst (txs (bitsB l.length 9::headsF 0 0 (l.take i))++[V.str (tx (bitsB y.1.key 8)),V.str (tx (bitsB y.2 2))]++[V.str (tx (bitsB (totN (l.take (i+1))-1) 16)),V.str (tx (bitsB (totB (l.take (i+1))) 14))])) (Ne.symm FB)).trans hB12;have hbo12:=(zo (o:=.lst (txs (bitsB l.length 9::headsF 0 0 (l.take i))++[V.str (tx (bitsB y.1.key 8)),V.str (tx (bitsB y.2 2))]++[V.str (tx (bitsB (totN (l.take (i+1))-1) 16)),V.str (tx (bitsB (totB (l.take (i+1))) 14))])) boF).trans hbo12;generalize upd (upd H10 p11 (.lst [V.str (tx (bitsB (totN (l.take (i+1))-1) 16)),V.str (tx (bitsB (totB (l.take (i+1))) 14))])) F (.lst (txs (bitsB l.length 9::headsF 0 0 (l.take i))++[V.str (tx (bitsB y.1.key 8)),V.str (tx (bitsB y.2 2))]++[V.str (tx (bitsB (totN (l.take (i+1))-1) 16)),V.str (tx (bitsB (totB (l.take (i+1))) 14))]))=H12 at hB12 hbo12 hF12 s12;ext a;refine ⟨⟨_,SqL.of hB12⟩,_,hB12,_,hbo12,?_,⟨_,_,_,_,_,rfl⟩,s12.put nBH,?_,?_⟩
   . have h2:∀ l:List (Ent × Nat),(∀ x∈l,x.1.ps.length<=256)->(txs (bodiesF l)).length<=512*l.length:=λl=>by
       induction l with
       | nil=>exact λ_=>zi _
       | cons x r ih =>
         intro h;have:=ih λy hy=>h y (.tail _ hy)
         have b:=(lX (kd:=x.2) (h x (.head _))).1;unfold txs bodiesF at this ⊢;rw [za] at this ⊢;rw [xo,zj,zZ];lia
     have h3:=h2 (l.take i) λx hx=>(ok x (xR hx)).2.2.1
     rw [y3] at h3;rw [show (txs (bodyF y.2 y.1.ps)).length=(bodyF y.2 y.1.ps).length from za ..,vO];lia
   . rw [zo FB,hF12];have e:bitsB l.length 9::headsF 0 0 (l.take (i+1))=(bitsB l.length 9::headsF 0 0 (l.take i))++([bitsB y.1.key 8,bitsB y.2 2]++[bitsB (totN (l.take (i+1))-1) 16,bitsB (totB (l.take (i+1))) 14]):=by
       rw [tk,eF,lj,eG,xk,xk];rfl
     rw [e,sX,sX,zY];rfl
   . rw [zm,tk];unfold bodiesF;rw [rm,sX];show _=some (HO.lst (_++txs (bodyF y.2 y.1.ps++[])));rw [zH]
 . rintro σ H3 ⟨⟨v5,v6,v7,v8,v9,rfl⟩,sm,hF,hB⟩;refine hk _ _ ?_;rw [ul,wM] at hF hB;ext a;refine ⟨_,hF,_,hB,?_,λr nr=>q r _ (sm.trans (Same.new nr)) (none_of sm nr) ?_⟩
   . have h1:(txs (bitsB l.length 9::headsF 0 0 l)).length=1+4*l.length:=by
       unfold txs;rw [za,zZ,lh];lia
     have h2:∀ l:List (Ent × Nat),(∀ x∈l,x.1.ps.length<=256)->(txs (bodiesF l)).length<=512*l.length:=λl=>by
       induction l with
       | nil=>exact λ_=>zi _
       | cons x r ih =>
         intro h;have:=ih λy hy=>h y (.tail _ hy)
         have b:=(lX (kd:=x.2) (h x (.head _))).1;unfold txs bodiesF at this ⊢;rw [za] at this ⊢;rw [xo,zj,zZ];lia
     have h3:=h2 l λx hx=>(ok x hx).2.2.1
     rw [h1,vO];lia
   . rw [zm,<- sX];rfl
def Fx (x:Addr)(H H':Hp):Prop:=∀ b o,b≠x->H b=some o->H' b=some o
theorem Fx.of {x:Addr}(s:Same H H'):Fx x H H':=λb o _ e=>s b o e
theorem Fx.refl {x:Addr}:Fx x H H:=λ_ _ _ e=>e
theorem Fx.trans {x:Addr}{H'':Hp}(a:Fx x H H')(b:Fx x H' H''):Fx x H H'':=λc o n e=>b c o n (a c o n e)
def halvF:Nat->Nat->Nat->Nat->List Nat
 | 0,_,_,_=>[]
 | n+1,lo,hi,m=>if lo<hi then (lo+hi)/2::(if (lo+hi)/2<m then halvF n ((lo+hi)/2+1) hi m else halvF n lo ((lo+hi)/2) m) else []
def halv (lo hi m:Nat):List Nat:=halvF (hi-lo) lo hi m
theorem sW (m:Nat):∀ (n k lo hi:Nat),hi-lo<=n->hi-lo<=k->halvF n lo hi m=halvF k lo hi m
 | 0,0,_,_,_,_=>rfl
 | 0,k+1,lo,hi,h,_=>by rw [halvF,halvF,if_neg (by lia)]
 | n+1,0,lo,hi,_,h=>by rw [halvF,halvF,if_neg (by lia)]
 | n+1,k+1,lo,hi,h,h'=>by
   rw [halvF,halvF];by_cases c:lo<hi;{rw [sW m n k _ hi (by lia) (by lia),sW m n k lo _ (by lia) (by lia)]};{rw [if_neg c,if_neg c]}
theorem halv_pos {lo hi m:Nat}(h:lo<hi):halv lo hi m=(lo+hi)/2::(if (lo+hi)/2<m then halv ((lo+hi)/2+1) hi m else halv lo ((lo+hi)/2) m):=by unfold halv;rw [sW m (hi-lo) (hi-lo-1+1) lo hi (by lia) (by lia),halvF,if_pos h,sW m (hi-lo-1) (hi-((lo+hi)/2+1)) _ hi (by lia) (by lia),sW m (hi-lo-1) ((lo+hi)/2-lo) lo _ (by lia) (by lia)]
theorem halv_neg {lo hi m:Nat}(h:¬ lo<hi):halv lo hi m=[]:=by unfold halv;rw [show hi-lo=0 by lia,halvF]
def Bes (H:Hp)(J:Hp->Prop):Prop:=∀ (H':Hp) (l:Addr) (o:HO),H l=none->(H' l=none\/∃ xs,H' l=some (.lst xs))->J H'->J (upd H' l o)
def spHalvE (P:Program)(w:World)(K:zh)(mg:Str->Option Value)(base:Heap):Sp:=λvs H Q _=>∃ (n m:Nat) (f sp:Addr) (pn:Str) (tb:TE) (cvs:List V) (H0:Hp) (J:List Nat->Hp->Prop),vs=[.int n,.ref f]/\m<=n/\n<=1000/\Ready P w K mg base 5 pn tb cvs H0 H f /\
 J [] H/\(∀ pr H',J pr H'->∃ xs,H' sp=some (.lst xs))/\(∀ pr,Bes H (J pr))/\(∀ (pr:List Nat) (i:Nat) (H':Hp) (R:VK),(∃ r,pr++i::r=halv 0 n m)->i<n->Fx sp H H'->J pr H'->(∀ H'',Fx sp H' H''->J (pr++[i]) H''->R (.bl (decide (i<m))) H'')->tb (some (.int i)::cvs.map some) H' R) /\
 ∀ t l H',Fx sp H H'->H t=none->J (halv 0 n m) H'->H' t=some (.tup [.int m,.ref l])->Q (.ref t) H'
structure HalvJ (n m:Nat)(f l sp:Addr)(J:List Nat->Hp->Prop)(H:Hp)(σ:L2.St)(H':Hp):Prop where
 ex:∃ (lo hi:Nat) (pr:List Nat) (v5:Option V),σ=[some (.int n),some (.ref f),some (.int lo),some (.int hi),some (.ref l),v5]/\lo<=m/\m<=hi/\hi<=n/\pr.length+(hi-lo)<=n/\pr++halv lo hi m=halv 0 n m/\H' l=some (.lst (pint pr))/\J pr H'
 fx:Fx sp H H'
def gapN:L2.St->Nat
 | _::_::some (.int lo)::some (.int hi)::_=>(hi-lo).toNat
 | _=>0
theorem small1000x {n:Nat}(h:n<=1000):n<sizeLine:=wV h (by decide)
theorem ok_halvE (d:DefAt K mg "halved" qJ ["many","goes_on"]):FnAt P w K mg base "halved" ["many","goes_on"] 6 (spHalvE P w K mg base):=by
 refine FnAt.of d jbA ?_ ?_;ext c;have nd:=jbA.nd;obtain ⟨n,m,fl,sp,pn,tb,cvs,H0,J,rfl,mn,n1000,⟨o,fd,c',oc,hf,hfd,hc,nf,LA⟩,j0,jsp,bes,htb,q⟩:=h;obtain ⟨xs0,hsp⟩:=jsp _ _ j0;refine ⟨_,(zu (zd 2 zx) (zu (zd 3 (pv 0)) (zu (zd 4 (yi zw)) (zu (ps_while yd (zP wc (pv 2) (pv 3)) (zu (zd 5 (zv xr (zv zX (pv 2) (pv 3)) zx)) (zu (yQ (yg K yN xU xT xY (pv 4) (zy (pv 5) zw))) (zp (zQ (ya (pe_callV (k:=5) 1 (hr.mono (by decide)) (zy (pv 5) zw))) (zp (zd 2 (zv zX (pv 5) zx))) (zp (zd 3 (pv 5)))))))) (zp (zb (wz (zy (pv 2) (zy (pv 4) zw))))))))),?_⟩
 refine zq λk hk=>?_
 ext a;refine hk _ _ (zq λk hk=>?_);ext a;refine hk _ _ (zq λk hk=>?_);ext a;refine ⟨zS _,λl nl=>hk _ _ (zq λk hk=>?_)⟩;ext a;have lsp:l≠sp:=λz=>by rw [z,hsp] at nl;cases nl
 have fsp:fl≠sp:=λz=>by rw [z,hsp] at hf;cases hf
 have csp:c'≠sp:=λz=>by rw [z,hsp] at hc;cases hc
 have nlf:fl≠l:=λz=>by rw [z,nl] at hf;cases hf
 have nlc:c'≠l:=λz=>by rw [z,nl] at hc;cases hc
 refine while_by (HalvJ n m fl l sp J H) (λσ _=>gapN σ) ⟨⟨0,n,[],_,rfl,zS _,mn,zi _,by show 0+(n-0)<=n;lia,rfl,zm,bes [] H l _ nl (.inl nl) j0⟩,Fx.of (Same.new nl)⟩ ?_ (λσ H R R' h z=>by
   simp only [tTest,tOp,nk,nj,tVar,rI0,nk,nj,onB_ap] at z ⊢;obtain ⟨v,e,v2,e',i,e1,j,e2,k,e3,q⟩:=z;exact ⟨v,e,v2,e',i,e1,j,e2,k,e3,h _ _ q⟩)
 rintro σ H1 ⟨⟨lo,hi,pr,v5,rfl,h1,h2,h3,h4,h5,h6,j1⟩,fx⟩;ext a;by_cases lt:lo<hi
 . rw [if_pos (by lia)];have em:((lo:Int)+(hi:Int))/2=(((lo+hi)/2:Nat):Int):=by lia
   rw [em];have hv:halv lo hi m=(lo+hi)/2::(if (lo+hi)/2<m then halv ((lo+hi)/2+1) hi m else halv lo ((lo+hi)/2) m):=by exact halv_pos lt
   rw [hv] at h5;have l1:lo<=(lo+hi)/2:=by lia
   have l2:(lo+hi)/2<hi:=by lia
   generalize (lo+hi)/2=mid at h5 hv l1 l2 ⊢;have s2:Fx sp H (upd H1 l (.lst (pint pr++[V.int mid]))):=λb ob n e=>by rw [zo (λz=>by rw [z,nl] at e;cases e)];exact fx b ob n e
   have j2:J pr (upd H1 l (.lst (pint pr++[V.int mid]))):=bes pr H1 l _ nl (.inr ⟨_,h6⟩) j1;have hl2:upd H1 l (.lst (pint pr++[V.int mid])) l=some (.lst (pint (pr++[mid]))):=by rw [zm];unfold pint;rw [yX];rfl
   refine ⟨⟨_,SqL.of h6⟩,_,h6,small1000x (by rw [yh];lia),?_⟩;generalize upd H1 l (.lst (pint pr++[V.int mid]))=H2 at s2 hl2 j2 ⊢;refine ⟨o,s2 _ _ fsp hf,fd,hfd,_,_,LA,s2 _ _ fsp hf,_,rfl,s2 _ _ fsp hf,s2 _ _ csp hc,htb pr mid H2 _ ⟨_,h5⟩ (by lia) s2 j2 λH3 s3 j3=>⟨_,rfl,?_⟩⟩;have hl3:=s3 _ _ lsp hl2;by_cases c:mid<m
   . rw [if_pos c] at h5;rw [zK c,if_pos rfl];refine ⟨⟨⟨mid+1,hi,pr++[mid],_,rfl,by lia,h2,h3,by rw [zj];show pr.length+1+_<=_;lia,by rw [zY];exact h5,hl3,j3⟩,s2.trans s3⟩,?_⟩;show (((hi:Int)-((mid:Int)+1)).toNat)<((hi:Int)-(lo:Int)).toNat
     lia
   . rw [if_neg c] at h5;rw [yu c,if_neg (by decide)];refine ⟨⟨⟨lo,mid,pr++[mid],_,rfl,h1,by lia,by lia,by rw [zj];show pr.length+1+_<=_;lia,by rw [zY];exact h5,hl3,j3⟩,s2.trans s3⟩,?_⟩;show (((mid:Int)-(lo:Int)).toNat)<((hi:Int)-(lo:Int)).toNat
     lia
 . rw [if_neg (by lia)];refine hk _ _ ?_;ext a;refine ⟨by decide,λt nt=>?_⟩;have e1:lo=m:=by lia
   have hv:halv lo hi m=[]:=halv_neg lt;rw [hv,zH] at h5;have tsp:t≠sp:=λz=>by
     obtain ⟨xs,hx⟩:=jsp _ _ j1;rw [z,hx] at nt;cases nt
   have ntH:H t=none:=by
     cases e:H t with
     | none=>rfl
     | some o=>rw [fx _ _ tsp e] at nt;cases nt
   have sT:=Same.new (o:=.tup [V.int lo,V.ref l]) nt;rw [h5] at j1;exact q t l _ (fx.trans (Fx.of sT)) ntH (bes _ H1 t _ ntH (.inl nt) j1) (by rw [zm,e1])
def subB (t:List Bool)(p m:Nat):List Bool:=(t.drop p).take m
theorem subB_len {p m:Nat}(h:p+m<=t.length):(subB t p m).length=m:=by unfold subB;rw [y3,xv];lia
theorem d9 {a b:Nat}(h1:a<=b)(h2:b<=t.length):Txt.slice (tx t) (some (a:Int)) (some (b:Int))=tx (subB t a (b-a)):=by
 have h2':b<=(tx t).length:=by rw [x8];exact h2
 have e:=PyProof.Rows.slice_closesL (x:=tx t) (i:=(a:Int)) (j:=(b:Int)) (by lia) (by lia) (by lia);rw [xC] at e;rw [e];have e1:((b:Int)-(a:Int)).toNat=b-a:=by lia
 rw [e1,yp];unfold tx subB;refine congrArg (λz=>(⟨List.toArray z⟩:Str)) ?_;rw [n0,List.map_drop]
structure GlAt (C g sp:Addr)(t:List Bool)(fs:List (Str × V))(ss:List (Nat × Nat))(H:Hp):Prop where
 ob:∃ dx,H g=some (.ins C dx (("tape",.str (tx t))::("spans",.ref sp)::fs))
 sp:RunsL H sp ss
theorem RunsL.put {p l:Addr}{o:HO}(h:RunsL H p rs)(n:p≠l)(e:H l=none\/∃ xs,H l=some (.lst xs)):RunsL (upd H l o) p rs:=by
 obtain ⟨vs,hv,ht⟩:=h;refine ⟨vs,by rw [zo n];exact hv,Paired.mapP ht λ_ _ ⟨t,e1,h1⟩=>⟨t,e1,?_⟩⟩;rw [zo (λz=>?_)];{exact h1}
 . rw [z] at h1;rcases e with e | ⟨_,e⟩<;>(rw [e] at h1;cases h1)
theorem GlAt.ne {g sp:Addr}{fs:List (Str × V)}(h:GlAt C g sp t fs ss H):g≠sp:=λz=>by
 obtain ⟨dx,e⟩:=h.ob;obtain ⟨vs,e2,_⟩:=h.sp;rw [z,e2] at e;cases e
theorem GlAt.same {g sp:Addr}{fs:List (Str × V)}(h:GlAt C g sp t fs ss H)(s:Same H H'):GlAt C g sp t fs ss H':=⟨let ⟨dx,e⟩:=h.ob;⟨dx,s _ _ e⟩,h.sp.same s⟩
theorem GlAt.put {g sp l:Addr}{fs:List (Str × V)}{o:HO}(h:GlAt C g sp t fs ss H)(n:sp≠l)(e:H l=none\/∃ xs,H l=some (.lst xs)):GlAt C g sp t fs ss (upd H l o):=by
 refine ⟨?_,h.sp.put n e⟩;obtain ⟨dx,e1⟩:=h.ob;refine ⟨dx,?_⟩;rw [zo (λz=>?_)];{exact e1}
 . rw [z] at e1;rcases e with e | ⟨_,e⟩<;>(rw [e] at e1;cases e1)
def hdF:Option Nat->List (Str × V)
 | none=>[]
 | some n=>[("heads",.int (n:Nat))]
def spSg (C:Addr):Sp:=λvs H Q _=>∃ (g sp:Addr) (t:List Bool) (ho:Option Nat) (ss:List (Nat × Nat)) (p m:Nat),vs=[.ref g,.int p,.int m]/\GlAt C g sp t (hdF ho) ss H/\t.length<=100000/\0<m/\p+m<=t.length/\ss.length<=1000 /\
 ∀ H',Fx sp H H'->GlAt C g sp t (hdF ho) (ss++[(p,p+m)]) H'->Q (.str (tx (subB t p m))) H'
def spNm (C:Addr):Sp:=λvs H Q _=>∃ (g sp:Addr) (t:List Bool) (ho:Option Nat) (ss:List (Nat × Nat)) (p m:Nat),vs=[.ref g,.int p,.int m]/\GlAt C g sp t (hdF ho) ss H/\t.length<=100000/\0<m/\p+m<=t.length/\ss.length<=1000/\m<=400 /\
 ∀ H',Fx sp H H'->GlAt C g sp t (hdF ho) (ss++[(p,p+m)]) H'->Q (.int (numA 0 (subB t p m):Nat)) H'
section
variable {CG:Addr}
theorem ok_sg (B:Blt mg)(cd:CD_Glance K mg CG):MethAt P w K mg base CG "signs" ["self","first","many"] 1 (spSg CG):=by
 refine MethAt.of cd.c cd.m_signs jaj ?_ ?_;ext c;have nd:=jaj.nd;obtain ⟨g,sp,t,ho,ss,p,m,rfl,G,tl,m0,pm,sl,q⟩:=h;obtain ⟨⟨dx,hg⟩,vs,hs,ht⟩:=id G;refine ⟨_,(zu (zd 3 (zB (c8 rfl) rfl B.min cE (zy (zv zX (pv 1) (pv 2)) (zy (zB uV rfl B.len yZ (zy (xX K (pv 0)) zw)) zw)))) (zu (zQ (zP op_ge (pv 1) (pv 3)) (zp (zb xj)) zM) (zu (yQ (yg K yN xU xT xY (xX K (pv 0)) (zy (wz (zy (pv 1) (zy (pv 3) zw))) zw))) (zp (zb (rD sl_str (xX K (pv 0)) (uW (pv 1)) (uW (pv 3)))))))),?_⟩
 refine zq λk hk=>?_
 have ts:(tx t).length<=sizeLine:=by rw [x8];exact small5 tl
 ext a;refine xg hg cd.c cd.n_tape rfl ⟨_,rfl,ts,_,_,⟨rfl,rfl⟩,hk _ _ (zq λk hk=>?_)⟩;rw [x8,if_neg (show ¬((t.length:Nat):Int)<(p:Int)+(m:Int) by lia)];ext a;rw [if_neg (show ¬(p:Int)+(m:Int)<=(p:Int) by lia)];refine hk _ _ (zq λk hk=>?_);ext a;refine xg hg cd.c cd.n_spans rfl ⟨.inl ⟨rfl,_,SqL.of hs⟩,by decide,λu nu=>?_⟩;have vl:=ht.length;have s1:=Same.new (o:=.tup [V.int (p:Nat),V.int ((p:Int)+(m:Int))]) nu;have G1:=G.same s1;have hu:=zm (H:=H) (a:=u) (o:=.tup [V.int (p:Nat),V.int ((p:Int)+(m:Int))]);have hs1:=s1 _ _ hs;have ht1:=ht.same s1;generalize upd H u (.tup [V.int (p:Nat),V.int ((p:Int)+(m:Int))])=H1 at s1 G1 hu hs1 ht1 ⊢;refine ⟨_,rfl,_,hs1,small1000x (by rw [vl];exact sl),hk _ _ ?_⟩;have usp:u≠sp:=λz=>by rw [z,hs] at nu;cases nu
 have f2:Fx sp H (upd H1 sp (.lst (vs++[.ref u]))):=λb o n e=>by rw [zo n];exact s1 _ _ e
 have hg2:upd H1 sp (.lst (vs++[.ref u])) g=some (.ins CG dx (("tape",.str (tx t))::("spans",.ref sp)::hdF ho)):=by rw [zo G.ne];exact s1 _ _ hg
 have G2:GlAt CG g sp t (hdF ho) (ss++[(p,p+m)]) (upd H1 sp (.lst (vs++[.ref u]))):=by
   refine ⟨⟨dx,hg2⟩,_,zm,?_⟩;refine Tups.snoc (Paired.mapP ht1 λ_ _ ⟨t',e1,h1⟩=>⟨t',e1,?_⟩) ?_;{rw [zo (λz=>by rw [z,hs1] at h1;cases h1)];exact h1};{rw [zo usp,hu];rfl}
 generalize upd H1 sp (.lst (vs++[.ref u]))=H2 at f2 hg2 G2;ext a;refine xg hg2 cd.c cd.n_tape rfl ⟨_,rfl,ts,?_⟩;have e1:(p:Int)+(m:Int)=((p+m:Nat):Int):=by lia
 rw [e1,d9 (by lia) pm,kM];exact q H2 f2 G2
theorem ok_nm (jbF:MethAt P w K mg base CG "signs" ["self","first","many"] 1 (spSg CG))(jR:FnAt P w K mg base "number_of" ["text"] 1 spNumber)(cd:CD_Glance K mg CG):MethAt P w K mg base CG "number" ["self","first","many"] 3 (spNm CG):=by refine MethAt.of cd.c cd.m_number j4 ?_ ?_;ext c;have nd:=j4.nd;obtain ⟨g,sp,t,ho,ss,p,m,rfl,G,tl,m0,pm,sl,m4,q⟩:=h;obtain ⟨dx,hg⟩:=G.ob;refine ⟨_,(zp (zb (ze jR (zy (yV P w K mg base 1 (pv 0) (zy (pv 1) (zy (pv 2) zw))) zw)))),?_⟩;ext a;refine yU hg (by cases ho<;>rfl) jbF ⟨g,sp,t,ho,ss,p,m,rfl,G,tl,m0,pm,sl,λH' f1 G1=>⟨subB t p m,rfl,by rw [subB_len pm];exact m4,q H' f1 G1⟩⟩
def hp (i:Nat):Nat:=9+40*i
def spHp:Sp:=λvs H Q _=>∃ i:Nat,vs=[.int i]/\Q (.int (hp i:Nat)) H
theorem ok_hp (c1:∃ t,mg "MANY_SIGNS"=some (.int 9 t))(c2:∃ t,mg "HEAD_SIGNS"=some (.int 40 t))(d:DefAt K mg "head_place" qH ["at"]):FnAt P w K mg base "head_place" ["at"] 1 spHp:=by obtain ⟨t1,je⟩:=c1;obtain ⟨t2,jr⟩:=c2;refine FnAt.of d jaz ?_ ?_;ext c;have nd:=jaz.nd;obtain ⟨i,rfl,q⟩:=h;refine ⟨_,(zp (zb (zv zX (yx je) (zv xt (yx jr) (pv 0))))),?_⟩;ext a;rw [show (9:Int)+40*(i:Int)=((hp i:Nat):Int) by unfold hp;lia];exact q
def spKy (C:Addr):Sp:=λvs H Q _=>∃ (g sp:Addr) (t:List Bool) (ho:Option Nat) (ss:List (Nat × Nat)) (i:Nat),vs=[.ref g,.int i]/\GlAt C g sp t (hdF ho) ss H/\t.length<=100000/\hp i+8<=t.length/\ss.length<=1000 /\
 ∀ H',Fx sp H H'->GlAt C g sp t (hdF ho) (ss++[(hp i,hp i+8)]) H'->Q (.int (numA 0 (subB t (hp i) 8):Nat)) H'
def sPr (p m:Nat):Nat->List (Nat × Nat)
 | 0=>[]
 | i+1=>[(hp i+p,hp i+p+m)]
def nPr (t:List Bool)(p m d:Nat):Nat->Nat
 | 0=>0
 | i+1=>numA 0 (subB t (hp i+p) m)+d
def spPr (C:Addr)(p m d:Nat):Sp:=λvs H Q _=>∃ (g sp:Addr) (t:List Bool) (ho:Option Nat) (ss:List (Nat × Nat)) (i:Nat),vs=[.ref g,.int i]/\GlAt C g sp t (hdF ho) ss H/\t.length<=100000/\(i≠0->hp (i-1)+p+m<=t.length)/\ss.length<=1000 /\
 ∀ H',Fx sp H H'->GlAt C g sp t (hdF ho) (ss++sPr p m i) H'->Q (.int (nPr t p m d i:Nat)) H'
theorem ok_ky (c1:∃ t,mg "KEY_SIGNS"=some (.int 8 t))(jf:FnAt P w K mg base "head_place" ["at"] 1 spHp)(jt:MethAt P w K mg base CG "number" ["self","first","many"] 3 (spNm CG))(cd:CD_Glance K mg CG):MethAt P w K mg base CG "key" ["self","at"] 4 (spKy CG):=by obtain ⟨t1,jB⟩:=c1;refine MethAt.of cd.c cd.m_key jaC ?_ ?_;ext c;have nd:=jaC.nd;obtain ⟨g,sp,t,ho,ss,i,rfl,G,tl,pm,sl,q⟩:=h;obtain ⟨dx,hg⟩:=G.ob;refine ⟨_,(zp (zb (yV P w K mg base 3 (pv 0) (zy (ze jf (zy (pv 1) zw)) (zy (yx jB) zw))))),?_⟩;ext a;refine yU hg (by cases ho<;>rfl) jt ⟨i,rfl,g,sp,t,ho,ss,hp i,8,rfl,G,tl,by decide,pm,sl,by decide,q⟩
theorem ok_ah (c1:∃ t,mg "LAST_AT"=some (.int 10 t))(c2:∃ t,mg "LAST_SIGNS"=some (.int 16 t))(jf:FnAt P w K mg base "head_place" ["at"] 1 spHp)(jt:MethAt P w K mg base CG "number" ["self","first","many"] 3 (spNm CG))(cd:CD_Glance K mg CG):MethAt P w K mg base CG "ahead" ["self","at"] 4 (spPr CG 10 16 1):=by
 obtain ⟨t1,j5⟩:=c1;obtain ⟨t2,ju⟩:=c2;refine MethAt.of cd.c cd.m_ahead jak ?_ ?_;ext c;have nd:=jak.nd;obtain ⟨g,sp,t,ho,ss,i,rfl,G,tl,pm,sl,q⟩:=h;obtain ⟨dx,hg⟩:=G.ob;refine ⟨_,(zp (zb (rH (zP tM (pv 1) zx) (zv zX (yV P w K mg base 3 (pv 0) (zy (zv zX (ze jf (zy (zv yI (pv 1) zx) zw)) (yx j5)) (zy (yx ju) zw))) zx) zx))),?_⟩;ext a;cases i with
 | zero =>
   rw [if_neg (by decide)];refine q H Fx.refl ?_;show GlAt CG g sp t (hdF ho) (ss++[]) H;rw [zH];exact G
 | succ i =>
   rw [if_pos (by lia)];refine yU hg (by cases ho<;>rfl) jt ⟨i,by rw [show ((i+1:Nat):Int)-1=(i:Int) by lia],_,rfl,g,sp,t,ho,ss,hp i+10,16,rfl,G,tl,by decide,pm (Nat.succ_ne_zero i),sl,by decide,λH' f1 G1=>⟨_,rfl,?_⟩⟩;exact q H' f1 G1
theorem ok_ba (c1:∃ t,mg "STOP_AT"=some (.int 26 t))(c2:∃ t,mg "STOP_SIGNS"=some (.int 14 t))(jf:FnAt P w K mg base "head_place" ["at"] 1 spHp)(jt:MethAt P w K mg base CG "number" ["self","first","many"] 3 (spNm CG))(cd:CD_Glance K mg CG):MethAt P w K mg base CG "bytes_ahead" ["self","at"] 4 (spPr CG 26 14 0):=by
 obtain ⟨t1,j6⟩:=c1;obtain ⟨t2,jv⟩:=c2;refine MethAt.of cd.c cd.m_bytes_ahead jy ?_ ?_;ext c;have nd:=jy.nd;obtain ⟨g,sp,t,ho,ss,i,rfl,G,tl,pm,sl,q⟩:=h;obtain ⟨dx,hg⟩:=G.ob;refine ⟨_,(zp (zb (rH (zP tM (pv 1) zx) (yV P w K mg base 3 (pv 0) (zy (zv zX (ze jf (zy (zv yI (pv 1) zx) zw)) (yx j6)) (zy (yx jv) zw))) zx))),?_⟩;ext a;cases i with
 | zero =>
   rw [if_neg (by decide)];refine q H Fx.refl ?_;show GlAt CG g sp t (hdF ho) (ss++[]) H;rw [zH];exact G
 | succ i =>
   rw [if_pos (by lia)];exact yU hg (by cases ho<;>rfl) jt ⟨i,by rw [show ((i+1:Nat):Int)-1=(i:Int) by lia],_,rfl,g,sp,t,ho,ss,hp i+26,14,rfl,G,tl,by decide,pm (Nat.succ_ne_zero i),sl,by decide,q⟩
end
def At (t:List Bool)(p:Nat)(f:List Bool):Prop:=∃ A B,t=A++(f++B)/\A.length=p
theorem At.len {f:List Bool}{p:Nat}(h:At t p f):p+f.length<=t.length:=by obtain ⟨A,B,rfl,rfl⟩:=h;rw [zj,zj];lia
theorem At.sub {f:List Bool}{p m:Nat}(h:At t p f)(e:f.length=m):subB t p m=f:=by obtain ⟨A,B,rfl,rfl⟩:=h;subst e;unfold subB;rw [rQ,List.take_left]
theorem At.left {f g:List Bool}{p:Nat}(h:At t p (f++g)):At t p f:=by obtain ⟨A,B,rfl,rfl⟩:=h;exact ⟨A,g++B,by rw [zY],rfl⟩
theorem At.right {f g:List Bool}{p q:Nat}(h:At t p (f++g))(e:p+f.length=q):At t q g:=by obtain ⟨A,B,rfl,rfl⟩:=h;exact ⟨A++f,B,by rw [zY,zY],by rw [zj];exact e⟩
theorem At.zero {f z:List Bool}:At (f++z) 0 f:=⟨[],z,rfl,rfl⟩
theorem At.num {p v m:Nat}(h:At t p (bitsB v m))(e:v<2^m):numA 0 (subB t p m)=v:=by rw [h.sub (yG v m),lx m v e]
theorem At.fit {p v m:Nat}(h:At t p (bitsB v m)):p+m<=t.length:=by have:=h.len;rw [yG] at this;exact this
def szB (kd:Nat)(ps:List Nat):Nat:=if kd=0 then ps.length else if kd=1 then 32 else 2*(runsOf ps).length
theorem fl8 {α:Type}(f:α->Nat):∀ l:List α,(l.map λa=>bitsB (f a) 8).flatten.length=8*l.length
 | []=>rfl
 | a::l=>by rw [yz,yE,zj,fl8 f l,yG,zZ];lia
theorem fl16:∀ l:List (Nat × Nat),(l.flatMap λr=>[bitsB r.1 8,bitsB r.2 8]).flatten.length=16*l.length
 | []=>rfl
 | a::l=>by
   rw [xo,xw,zj,fl16 l,zZ];show (bitsB a.1 8++(bitsB a.2 8++[])).length+_=_;rw [zj,zj,yG,yG];show 8+(8+0)+_=_;lia
theorem pI (kd:Nat)(ps:List Nat):(bodyF kd ps).flatten.length=8*szB kd ps:=by
 unfold bodyF szB;split;{exact fl8 _ _}
 . split
   . simp
   . rw [fl16];lia
theorem pH (x:Ent × Nat):lenB x=szB x.2 x.1.ps:=by unfold lenB;rw [pI];lia
theorem head_at {p nb sb:Nat}{x:Ent × Nat}(h:At t p (headOf nb sb x).flatten):At t p (bitsB x.1.key 8)/\At t (p+8) (bitsB x.2 2)/\At t (p+8+2) (bitsB (nb+x.1.ps.length-1) 16)/\At t (p+8+2+16) (bitsB (sb+lenB x) 14):=by have h:At t p (bitsB x.1.key 8++(bitsB x.2 2++(bitsB (nb+x.1.ps.length-1) 16++(bitsB (sb+lenB x) 14++[])))):=h;have h1:=h.right (q:=p+8) (by rw [yG]);have h2:=h1.right (q:=p+8+2) (by rw [yG]);have h3:=h2.right (q:=p+8+2+16) (by rw [yG]);exact ⟨h.left,h1.left,h2.left,h3.left⟩
theorem ae (nb sb:Nat)(x:Ent × Nat):(headOf nb sb x).flatten.length=40:=by show (bitsB x.1.key 8++(bitsB x.2 2++(bitsB (nb+x.1.ps.length-1) 16++(bitsB (sb+lenB x) 14++[])))).length=40;simp only [zj,yG,xN]
theorem totB_app (a b:List (Ent × Nat)):totB (a++b)=totB a+totB b:=by unfold totB;rw [yX,rV]
theorem aa (x:Ent × Nat)(l:List (Ent × Nat)):totN (x::l)=x.1.ps.length+totN l:=rfl
theorem d7 (x:Ent × Nat)(l:List (Ent × Nat)):totB (x::l)=lenB x+totB l:=rfl
theorem d6:∀ (l r:List (Ent × Nat)) (m s:Nat),headsF m s (l++r)=headsF m s l++headsF (m+totN l) (s+totB l) r
 | [],r,m,s=>by
   show headsF m s r=[]++headsF (m+0) (s+0) r;rw [yb];rfl
 | x::l,r,m,s=>by
   show headOf m s x++headsF _ _ (l++r)=(headOf m s x++headsF _ _ l)++headsF (m+(x.1.ps.length+totN l)) (s+(lenB x+totB l)) r;rw [d6 l r,zY,wC,wC]
theorem pG:∀ (l:List (Ent × Nat)) (m s:Nat),(headsF m s l).flatten.length=40*l.length
 | [],_,_=>rfl
 | x::l,m,s=>by
   show (headOf m s x++headsF _ _ l).flatten.length=_;rw [xw,zj,ae,pG l,zZ];lia
theorem lW:∀ l:List (Ent × Nat),(bodiesF l).flatten.length=8*totB l
 | []=>rfl
 | x::l=>by
   show (bodyF x.2 x.1.ps++bodiesF l).flatten.length=_;rw [xw,zj,lW l,d7,pI,pH];lia
theorem aZ (l:List (Ent × Nat)):(fieldsT l).flatten=bitsB l.length 9++((headsF 0 0 l).flatten++(bodiesF l).flatten):=by unfold fieldsT;rw [yE,xw]
def rwE (es:List Ent):List (Ent × Nat):=es.map λe=>(e,kN e.ps)
def TPe (es:List Ent):List Bool:=(fieldsT (rwE es)).flatten
structure EsR (es:List Ent):Prop where
 ok:EsOk es
 len:es.length<=256
 tot:tot es<=700
def byE (es:List Ent)(i:Nat):Nat:=totB (rwE (es.take i))
theorem sV (es:List Ent):(rwE es).length=es.length:=za _
theorem lV (a b:List Ent):rwE (a++b)=rwE a++rwE b:=yX
theorem d5:∀ es:List Ent,totN (rwE es)=BM.tot es
 | []=>rfl
 | e::es=>by
   show totN ((e,kN e.ps)::rwE es)=e.ps.length+BM.tot es;rw [aa,d5 es]
theorem kN_le (ps:List Nat):kN ps<=2:=by
 unfold kN;split;{decide};{split<;>decide}
theorem pF {e:Ent}(h:e.ps≠[])(u:Up 0 e.ps):lenB (e,kN e.ps)<=e.ps.length/\1<=lenB (e,kN e.ps)/\lenB (e,kN e.ps)<=32:=by
 have r1:1<=(runsOf e.ps).length:=by
   obtain ⟨r,_⟩:=runs_ok u;cases z:runsOf e.ps with
   | nil=>rw [z] at r;exact absurd r.symm h
   | cons a b=>rw [zZ];lia
 have r2:1<=e.ps.length:=by
   cases z:e.ps with
   | nil=>exact absurd z h
   | cons a b=>rw [zZ];lia
 rw [pH];show szB (kN e.ps) e.ps<=e.ps.length/\1<=szB (kN e.ps) e.ps/\szB (kN e.ps) e.ps<=32;have rl:=nC e.ps;unfold szB kN;by_cases c1:e.ps.length<=32/\e.ps.length<=2*(runsOf e.ps).length;{rw [if_pos c1,if_pos rfl];lia}
 . rw [if_neg c1];by_cases c2:16<=(runsOf e.ps).length
   . rw [if_pos c2,if_neg (by decide),if_pos rfl];lia
   . rw [if_neg c2,if_neg (by decide),if_neg (by decide)];lia
theorem lU:∀ {es:List Ent},(∀ e∈es,e.ps≠[]/\Up 0 e.ps)->totB (rwE es)<=BM.tot es
 | [],_=>zi _
 | e::es,h=>by
   show totB ((e,kN e.ps)::rwE es)<=e.ps.length+BM.tot es;rw [d7];have:=lU λx hx=>h x (.tail _ hx)
   have:=(pF (h e (.head _)).1 (h e (.head _)).2).1;lia
theorem EsR.row {es:List Ent}(o:EsR es):∀ e∈es,e.ps≠[]/\Up 0 e.ps:=λe he=>⟨o.ok.ne e he,o.ok.pup e he⟩
theorem d0:∀ (es:List Ent) (i:Nat),BM.tot (es.take i)<=BM.tot es:=λes i=>by
 have:=mT (es.take i) (es.drop i);rw [yq] at this;lia
theorem EsR.by_le {es:List Ent}(o:EsR es)(i:Nat):byE es i<=700:=by
 have h1:=lU (es:=es.take i) λe he=>o.row e (xR he)
 have h2:=d0 es i;have:=o.tot;unfold byE;lia
theorem dy {es:List Ent}{i:Nat}{e:Ent}(h:es[i]?=some e):es.take (i+1)=es.take i++[e]:=by rw [yC,h];rfl
theorem pE {es:List Ent}{i:Nat}{e:Ent}(h:es[i]?=some e):byE es (i+1)=byE es i+lenB (e,kN e.ps):=by unfold byE;rw [dy h,lV,totB_app];rfl
theorem tot_succ {es:List Ent}{i:Nat}{e:Ent}(h:es[i]?=some e):BM.tot (es.take (i+1))=BM.tot (es.take i)+e.ps.length:=by rw [dy h,mT];rfl
theorem split_at {es:List Ent}{i:Nat}{e:Ent}(h:es[i]?=some e):∃ r,es=es.take i++e::r:=by obtain ⟨h1,h2⟩:=yT.mp h;refine ⟨es.drop (i+1),?_⟩;rw [<- h2,<- wG h1,yq]
theorem pC (es:List Ent):TPe es=bitsB es.length 9++((headsF 0 0 (rwE es)).flatten++(bodiesF (rwE es)).flatten):=by unfold TPe;rw [aZ,sV]
theorem TE_len {es:List Ent}:(TPe es).length=hp es.length+8*totB (rwE es):=by rw [pC,zj,zj,yG,pG,lW,sV];unfold hp;lia
theorem EsR.tl {es:List Ent}(o:EsR es):(TPe es).length<=20000:=by have h1:=lU o.row;have:=o.tot;have:=o.len;rw [TE_len];unfold hp;lia
theorem dw (es:List Ent):At (TPe es) 0 (bitsB es.length 9):=by rw [pC];exact At.zero
theorem vw {es:List Ent}{i:Nat}{e:Ent}(h:es[i]?=some e):At (TPe es) (hp i) (bitsB e.key 8)/\At (TPe es) (hp i+8) (bitsB (kN e.ps) 2)/\At (TPe es) (hp i+10) (bitsB (BM.tot (es.take i)+e.ps.length-1) 16)/\At (TPe es) (hp i+26) (bitsB (byE es i+lenB (e,kN e.ps)) 14):=by
 obtain ⟨r,er⟩:=split_at h;have il:(es.take i).length=i:=by obtain ⟨h1,_⟩:=yT.mp h;rw [y3];lia
 have a0:At (TPe es) 0 (bitsB es.length 9++((headsF 0 0 (rwE es)).flatten++(bodiesF (rwE es)).flatten)):=by rw [pC];exact ⟨[],[],by simp,rfl⟩
 have a1:=(a0.right (q:=9) (by rw [yG])).left;have eh:headsF 0 0 (rwE es)=headsF 0 0 (rwE (es.take i))++(headOf (BM.tot (es.take i)) (byE es i) (e,kN e.ps)++headsF (BM.tot (es.take i)+e.ps.length) (byE es i+lenB (e,kN e.ps)) (rwE r)):=by
   have e1:rwE es=rwE (es.take i)++((e,kN e.ps)::rwE r):=by
     conv=>lhs;rw [er]
     rw [lV];rfl
   rw [e1,d6,xk,xk,d5];rfl
 rw [eh,xw,xw] at a1;have a2:=(a1.right (q:=hp i) (by rw [pG,sV,il];rfl)).left;exact head_at a2
theorem dv {es:List Ent}{i:Nat}{e:Ent}(h:es[i]?=some e):At (TPe es) (hp es.length+8*byE es i) (bodyF (kN e.ps) e.ps).flatten:=by
 obtain ⟨r,er⟩:=split_at h;have a0:At (TPe es) 0 ((bitsB es.length 9++(headsF 0 0 (rwE es)).flatten)++(bodiesF (rwE es)).flatten):=by rw [pC,<- zY];exact ⟨[],[],by simp,rfl⟩
 have a1:=a0.right (q:=hp es.length) (by rw [zj,yG,pG,sV];unfold hp;lia);have eb:bodiesF (rwE es)=bodiesF (rwE (es.take i))++(bodyF (kN e.ps) e.ps++bodiesF (rwE r)):=by
   have e1:rwE es=rwE (es.take i)++((e,kN e.ps)::rwE r):=by
     conv=>lhs;rw [er]
     rw [lV];rfl
   rw [e1];unfold bodiesF;rw [rm,xo]
 rw [eb,xw,xw] at a1;exact (a1.right (by rw [lW];rfl)).left
structure Ag (T t:List Bool)(ss:List (Nat × Nat)):Prop where
 len:t.length=T.length
 eq:∀ s∈ss,∀ i,s.1<=i->i<s.2->t[i]?=T[i]?
theorem Ag.refl {T:List Bool}:Ag T T ss:=⟨rfl,λ_ _ _ _ _=>rfl⟩
theorem Ag.sub {T:List Bool}{ss':List (Nat × Nat)}(h:Ag T t ss)(s:∀ x∈ss',x∈ss):Ag T t ss':=⟨h.len,λx hx=>h.eq x (s x hx)⟩
theorem Ag.left {T:List Bool}{a b:List (Nat × Nat)}(h:Ag T t (a++b)):Ag T t a:=h.sub λ_ hx=>yF _ hx
theorem Ag.right {T:List Bool}{a b:List (Nat × Nat)}(h:Ag T t (a++b)):Ag T t b:=h.sub λ_ hx=>yf _ hx
theorem Ag.get {T:List Bool}{p m:Nat}(h:Ag T t ss)(s:(p,p+m)∈ss):subB t p m=subB T p m:=by
 unfold subB;refine oM λi=>?_
 rw [List.getElem?_take,List.getElem?_take];by_cases c:i<m;{rw [if_pos c,if_pos c,tm,tm];exact h.eq _ s _ (by show p<=p+i;lia) (by show p+i<p+m;lia)};{rw [if_neg c,if_neg c]}
theorem Ag.num {T:List Bool}{p m v:Nat}(h:Ag T t ss)(s:(p,p+m)∈ss)(a:At T p (bitsB v m))(l:v<2^m):numA 0 (subB t p m)=v/\p+m<=t.length:=by rw [h.get s,h.len];exact ⟨a.num l,a.fit⟩
theorem EsR.ah {es:List Ent}(o:EsR es){i:Nat}(il:i<=es.length)(h:Ag (TPe es) t (sPr 10 16 i)):nPr t 10 16 1 i=BM.tot (es.take i)/\(i≠0->hp (i-1)+10+16<=t.length):=by
 cases i with
 | zero=>exact ⟨rfl,λz=>absurd rfl z⟩
 | succ j =>
   obtain ⟨e,he⟩:∃ e,es[j]?=some e:=⟨_,zV (by lia)⟩
   have r:=o.row e (y4 he);have l1:1<=e.ps.length:=by
     cases z:e.ps with
     | nil=>exact absurd z r.1
     | cons a b=>rw [zZ];lia
   have tt:=tot_succ he;have t2:=d0 es (j+1);have:=o.tot;obtain ⟨n1,n2⟩:=h.num (p:=hp j+10) (m:=16) (.head _) (vw he).2.2.1 (by show _<65536;lia);refine ⟨?_,λ_=>n2⟩;show numA 0 (subB t (hp j+10) 16)+1=_;rw [n1,tt];lia
theorem EsR.ba {es:List Ent}(o:EsR es){i:Nat}(il:i<=es.length)(h:Ag (TPe es) t (sPr 26 14 i)):nPr t 26 14 0 i=byE es i/\(i≠0->hp (i-1)+26+14<=t.length):=by
 cases i with
 | zero=>exact ⟨rfl,λz=>absurd rfl z⟩
 | succ j =>
   obtain ⟨e,he⟩:∃ e,es[j]?=some e:=⟨_,zV (by lia)⟩
   have b1:=o.by_le (j+1);have b2:=pE he;obtain ⟨n1,n2⟩:=h.num (p:=hp j+26) (m:=14) (.head _) (vw he).2.2.2 (by show _<16384;lia);refine ⟨?_,λ_=>n2⟩;show numA 0 (subB t (hp j+26) 14)+0=_;rw [n1,b2,xJ]
def sKy (i:Nat):Nat × Nat:=(hp i,hp i+8)
def cutE (k:Nat)(es:List Ent):Nat:=(loE k es).length
def sFnd (k:Nat)(es:List Ent):List (Nat × Nat):=(halv 0 es.length (cutE k es)).map sKy++if cutE k es<es.length then [sKy (cutE k es)] else []
def thereE (k:Nat)(es:List Ent):Bool:=!(miE k es).isEmpty
theorem lS (k:Nat)(es:List Ent):cutE k es<=es.length:=rq _ _
theorem key_lt {k i:Nat}{es:List Ent}{e:Ent}(o:EsOk es)(h:es[i]?=some e):e.key<k↔i<cutE k es:=by
 have sp:=split k o.up;rw [sp,zY] at h;by_cases c:i<cutE k es;{rw [xS c] at h;exact ⟨λ_=>c,λ_=>(mU (y4 h)).2⟩}
 . rw [y6 (oJ c)] at h;refine ⟨λz=>?_,λz=>absurd z c⟩;rcases zR.mp (y4 h) with m | m
   . have:=wU (yD.mp m).2;lia
   . have:=(qZ m).2;lia
theorem at_cut {k:Nat}{es:List Ent}{e:Ent}(o:EsOk es)(h:es[cutE k es]?=some e):decide (e.key=k)=thereE k es/\(thereE k es=true->miE k es=[e]):=by
 have h:(loE k es++(miE k es++hiE k es))[(loE k es).length]?=some e:=by rw [<- zY,<- split k o.up];exact h
 rw [y6 (zi _),wg] at h;unfold thereE;rcases qc k o.up with z | ⟨e',z,ek,_⟩
 . rw [z] at h ⊢;have:=(qZ (y4 h)).2;exact ⟨yu (by lia),λz=>by cases z⟩
 . rw [z] at h ⊢;cases (show e'=e from Option.some.inj h);exact ⟨zK ek,λ_=>rfl⟩
theorem no_cut {k:Nat}{es:List Ent}(o:EsOk es)(h:¬cutE k es<es.length):thereE k es=false:=by
 have sp:=congrArg List.length (split k o.up);rw [zj,zj] at sp;unfold cutE at h;have:(miE k es).length=0:=by lia
 unfold thereE;rw [List.eq_nil_of_length_eq_zero this];rfl
theorem pB (m:Nat):∀ (n lo hi:Nat),∀ i∈halvF n lo hi m,i<hi
 | 0,_,_,_,h=>by cases h
 | n + 1,lo,hi,i,h=>by
   rw [halvF] at h;by_cases c:lo<hi
   . rw [if_pos c] at h
     rcases zW.mp h with rfl | h
     . lia
     . split at h
       . exact pB m n _ hi i h
       . have:=pB m n lo _ i h;lia
   . rw [if_neg c] at h;cases h
theorem lQ (m:Nat):∀ (k n lo hi:Nat),hi-lo<2^k->(halvF n lo hi m).length<=k
 | k,0,_,_,_=>zS _
 | 0,n+1,lo,hi,h=>by
   rw [halvF,if_neg (by lia)];exact zi _
 | k + 1,n+1,lo,hi,h=>by
   rw [halvF];by_cases c:lo<hi
   . rw [if_pos c,zZ];have e:2^(k+1)=2*2^k:=by rw [yK];lia
     split;{have:=lQ m k n ((lo+hi)/2+1) hi (by lia);lia};{have:=lQ m k n lo ((lo+hi)/2) (by lia);lia}
   . rw [if_neg c];exact zS _
theorem uQ {n m:Nat}(h:n<=256):(halv 0 n m).length<=9:=lQ m 9 _ 0 n (by show n-0<512;lia)
theorem Fx.tbs {sp:Addr}{ts:Tabs}(f:Fx sp H H')(hs:H sp=some (.lst vs))(h:Tbs ts H):Tbs ts H':=λt ht=>by
 rcases h t ht with h | ⟨c,oc,h1,h2,h3⟩
 . exact .inl (f _ _ (λz=>by rw [z,hs] at h;cases h) h)
 . exact .inr ⟨c,oc,f _ _ (λz=>by rw [z,hs] at h1;cases h1) h1,f _ _ (λz=>by rw [z,hs] at h2;cases h2) h2,h3⟩
theorem Fx.nb {sp:Addr}{ts:Tabs}(f:Fx sp H H')(hs:H sp=some (.lst vs))(h:Tbs ts H):Nb ts sp H H':=⟨λb o n e=>by
 obtain ⟨e1,e2⟩:=vU e;exact x9 (f b o n e1) e2,f.tbs hs h⟩
theorem SameT.gl {Pt g sp:Addr}{fs:List (Str × V)}{lp:Pos}(s:SameT Pt H H')(T:Tb H Pt qual lp)(h:GlAt C g sp t fs ss H):GlAt C g sp t fs ss H':=by
 obtain ⟨⟨dx,e⟩,vs,hv,ht⟩:=h;have ne:∀ {b o},H b=some o->(∀ ts,o≠.tbl ts)->b≠Pt:=λe n=>Tb.ne T e n
 exact ⟨⟨dx,s _ _ (ne e λ_ z=>by cases z) e⟩,vs,s _ _ (ne hv λ_ z=>by cases z) hv,Paired.mapP ht λ_ _ ⟨u,e1,h1⟩=>⟨u,e1,s _ _ (ne h1 λ_ z=>by cases z) h1⟩⟩
theorem SameT.fr {Pt b:Addr}{H2:Hp}{q:Str}{lp:Pos}(s:SameT Pt H H2)(t:Tb H2 Pt q lp)(f:H2 b=none):H b=none:=by
 cases e:H b with
 | none=>rfl
 | some o =>
   by_cases z:b=Pt
   . rw [z] at f;rcases t with h | ⟨_,_,h,_⟩<;>(rw [f] at h;cases h)
   . rw [s _ _ z e] at f;cases f
theorem Nb.free {ts:Tabs}{m b:Addr}(a:Nb ts m H H')(n:b≠m)(e:noT H' b=none):noT H b=none:=by
 cases z:noT H b with
 | none=>rfl
 | some o=>rw [a.same _ _ n z] at e;cases e
def spFd (C:Addr)(ts:Tabs):Sp:=λvs H Q _=>∃ (g sp:Addr) (t:List Bool) (ss:List (Nat × Nat)) (es:List Ent) (k:Nat),vs=[.ref g,.int k]/\EsR es/\GlAt C g sp t (hdF (some es.length)) ss H/\Ag (TPe es) t (sFnd k es)/\ss.length<=100/\Tbs ts H /\
 ∀ u H',Nb ts sp H H'->noT H u=none->GlAt C g sp t (hdF (some es.length)) (ss++sFnd k es) H'->H' u=some (.tup [.int (cutE k es:Nat),.bl (thereE k es)])->Q (.ref u) H'
def lpF:Pos:=match defBody sZ with | .Assign _ (.Subscript (.Call _ [_,.Lambda _ _ _ p] _ _) _ _) _::_=>p | _=>⟨0,0,0,0⟩
def qF:Str:=(Str.ofString "Glance.found"++Str.ofString ".<locals>.")++Str.ofString "<lambda>"
section
variable {CG c1 P1:Addr}{ts:Tabs}
theorem ok_fd (B:Blt mg)(uq:TabsUq ts)(hm:(P1,qF,lpF)∈ts)(T_Glance_found:TabIn base mg (c1,P1))(j7:∀ base,FnAt P w K mg base "halved" ["many","goes_on"] 6 (spHalvE P w K mg base))(jbk:∀ base,MethAt P w K mg base CG "key" ["self","at"] 4 (spKy CG))(cd:CD_Glance K mg CG)(d:MDefAtC K CG "found" "Glance.found" sZ ["self","key"] c1):MethAt P w K mg base CG "found" ["self","key"] 7 (spFd CG ts):=by
 refine MethAt.ofC cd.c d jal (λvs H Q E h=>?_) (λf A outer s H vs Q E hr h=>?_);{obtain ⟨g,sp,t,ss,es,k,rfl,_⟩:=h;rfl}
 obtain ⟨g,sp,t,ss,es,k,rfl,o,G,ag,sl,tb,q⟩:=h;obtain ⟨⟨dx,hg⟩,vs,hs,hts⟩:=id G;have hT:=tb _ hm;have tl:t.length<=100000:=by rw [ag.len];have:=o.tl;lia
 have fit:∀ i,i<es.length->hp i+8<=t.length:=λi hi=>by
   obtain ⟨e,he⟩:∃ e,es[i]?=some e:=⟨_,zV hi⟩
   rw [ag.len];exact (vw he).1.fit
 have rd:∀ i,i<es.length->sKy i∈sFnd k es->∃ e,es[i]?=some e/\numA 0 (subB t (hp i) 8)=e.key:=λi hi hm=>by
   obtain ⟨e,he⟩:∃ e,es[i]?=some e:=⟨_,zV hi⟩
   exact ⟨e,he,(ag.num hm (vw he).1 (o.ok.klt e (y4 he))).1⟩
 have nd:=jal.nd;refine ⟨_,(zu (zd 2 (zN (yr K) (fq (k:=4) (caps:=["key","self"]) (ixs:=[1,0]) (fj T_Glance_found (fk rfl rfl rfl (by decide +kernel) rfl (by decide +kernel) (by decide +kernel) (by decide +kernel)) rfl ⟨rfl,⟨rfl,trivial⟩⟩ ⟨⟨rfl,rfl,_,rfl⟩,⟨⟨rfl,rfl,_,rfl⟩,trivial⟩⟩) rfl (λ_ _ _ _=>rfl) (λ_ _ _ _ _ _ _ hr=>(xW wc (pe_meU (P:=P) (w:=w) (K:=K) (mg:=mg) 4 (hr.mono (by decide)) (pv 2) (zy (pv 0) zw)) (pv 1))) j7 (hr.mono (by decide)) rfl (xX K (pv 0))) zx)) (zp (zb (wz (zy (pv 2) (zy (we (xW wc (pv 2) (xX K (pv 0))) (vY (xW yo (yV P w K mg base 4 (pv 0) (zy (pv 2) zw)) (pv 1)))) zw)))))),?_⟩
 refine zq λkk hk=>?_
 ext a;refine xg hg cd.c cd.n_heads rfl ⟨λj hj=>?_,hT,λbase' fl H2 sT hT2 R=>?_⟩
 . simp only [zW,wm,wq] at hj;rcases hj with rfl | rfl
   . exact ⟨_,rfl⟩
   . exact ⟨_,rfl⟩
 have G2:=SameT.gl sT hT G;refine ⟨es.length,cutE k es,fl,sp,_,_,_,H,λpr H'=>GlAt CG g sp t (hdF (some es.length)) (ss++pr.map sKy) H',rfl,lS _ _,zO o.len (by decide),R,?_,λpr H' GG=>?_,λpr H' l ob nl hl GG=>?_,λpr i H' RR hpr hi fx GG hR=>?_,λu l H' fx nu GG hu=>?_⟩;{show GlAt CG g sp t (hdF (some es.length)) (ss++[]) H2;rw [zH];exact G2};{obtain ⟨xs,hx,_⟩:=GG.sp;exact ⟨xs,hx⟩};{refine GG.put (λz=>?_) hl;obtain ⟨xs,hx,_⟩:=G2.sp;rw [<- z,hx] at nl;cases nl}
 . obtain ⟨r,er⟩:=hpr;have mem:i∈halv 0 es.length (cutE k es):=by rw [<- er];exact yf _ (.head _)
   have pl:pr.length<=9:=by have:=congrArg List.length er;rw [zj] at this;have:=uQ (m:=cutE k es) o.len;lia
   obtain ⟨e,he,en⟩:=rd i hi (yF _ (zJ.mpr ⟨i,mem,rfl⟩));obtain ⟨dx',hg'⟩:=GG.ob;ext a;refine ⟨g,rfl,_,_,_,hg',rfl,_,_,jbk,g,sp,t,some es.length,ss++pr.map sKy,i,rfl,GG,tl,fit i hi,by rw [zj,za];lia,λH3 f3 G3=>?_⟩;refine ⟨_,rfl,(k:Int),rfl,?_⟩;have ed:decide (((numA 0 (subB t (hp i) 8):Nat):Int)<(k:Int))=decide (i<cutE k es):=by have kl:=key_lt (k:=k) o.ok he;rw [en];exact wN.mpr ⟨λz=>kl.mp (by lia),λz=>by have:=kl.mpr z;lia⟩
   rw [ed];refine hR H3 f3 ?_;show GlAt CG g sp t (hdF (some es.length)) (ss++(pr++[i]).map sKy) H3;rw [yX,<- zY];exact G3
 . have nuH:=SameT.fr sT hT2 nu;obtain ⟨xs2,hsp2,_⟩:=G2.sp;have nb2:Nb ts sp H H':=((tb.grow uq hm sT hT2).nb).trans (fx.nb hsp2 (tb.grow uq hm sT hT2).tb);have usp:u≠sp:=λz=>by rw [z,hsp2] at nu;cases nu
   have GG:GlAt CG g sp t (hdF (some es.length)) (ss++(halv 0 es.length (cutE k es)).map sKy) H':=GG;have sl2:(ss++(halv 0 es.length (cutE k es)).map sKy).length<=1000:=by rw [zj,za];have:=uQ (m:=cutE k es) o.len;lia
   obtain ⟨dx',hg'⟩:=GG.ob;refine ⟨u,rfl,_,SqT.of hu,_,rfl,hk _ _ ?_⟩;have fin:∀ H4 (b:Bool),b=thereE k es->Nb ts sp H H4->GlAt CG g sp t (hdF (some es.length)) (ss++sFnd k es) H4->2<=sizeLine/\∀ p,H4 p=none->Q (.ref p) (upd H4 p (.tup [V.int (cutE k es:Nat),V.bl b])):=λH4 b eb n4 G4=>⟨by decide,λp np=>by
     have s5:=Same.new (o:=.tup [V.int (cutE k es:Nat),V.bl b]) np;obtain ⟨xs4,hsp4,_⟩:=G4.sp;have psp:p≠sp:=λz=>by rw [z,hsp4] at np;cases np
     refine q p _ (n4.trans ((Fx.of s5).nb hsp4 n4.tb)) ?_ (G4.same s5) (by rw [zm,eb]);exact Nb.free n4 psp (u4 np)⟩
   ext a;refine xg hg' cd.c cd.n_heads rfl ⟨_,rfl,?_⟩;by_cases c:cutE k es<es.length
   . rw [if_pos (show ((cutE k es:Nat):Int)<((es.length:Nat):Int) by lia)];obtain ⟨e,he,en⟩:=rd _ c (yf _ (by rw [if_pos c];exact .head _));obtain ⟨c1,_⟩:=at_cut o.ok he;refine yU hg' rfl (jbk base) ⟨g,sp,t,some es.length,_,cutE k es,rfl,GG,tl,fit _ c,sl2,λH3 f3 G3=>?_⟩;have ed:decide (V.int ((numA 0 (subB t (hp (cutE k es)) 8):Nat):Int)=V.int (k:Int))=thereE k es:=by
       rw [en,<- c1];exact wN.mpr ⟨λz=>by have:=V.int.inj z;lia,λz=>by rw [z]⟩
     obtain ⟨xs',hsp',_⟩:=GG.sp;refine ⟨rfl,fin H3 _ ed (nb2.trans (f3.nb hsp' nb2.tb)) ?_⟩;unfold sFnd;rw [if_pos c,<- zY];exact G3
   . rw [if_neg (show ¬((cutE k es:Nat):Int)<((es.length:Nat):Int) by lia)];refine fin H' false (no_cut o.ok c).symm nb2 ?_;unfold sFnd;rw [if_neg c,zH];exact GG
end
def spBelow:Sp:=λvs H Q _=>∃ p:Nat,vs=[.int p]/\p<=1000/\Q (.int ((2^p-1:Nat):Int)) H
theorem dq (d:DefAt K mg "all_below" qU ["place"]):FnAt P w K mg base "all_below" ["place"] 1 spBelow:=by
 refine FnAt.of d jaL ?_ ?_;ext c;have nd:=jaL.nd;obtain ⟨p,rfl,hp,q⟩:=h;refine ⟨_,(zp (zb (zv yI (zv hV zx (pv 0)) zx))),?_⟩;ext a;refine ⟨⟨by lia,by lia,by decide⟩,?_⟩;have e:(1:Int)*2^(p:Int).toNat-1=((2^p-1:Nat):Int):=by have:0<2^p:=yB (by decide);rw [yp,Int.one_mul,Int.ofNat_sub this];simp
 rw [e];exact q
def spSpan:Sp:=λvs H Q _=>∃ a b:Nat,vs=[.int a,.int b]/\a<=b+1/\b<1000/\Q (.int (wd (List.range' a (b+1-a)):Nat)) H
theorem aY (jS:FnAt P w K mg base "all_below" ["place"] 1 spBelow)(d:DefAt K mg "span_word" qN ["first","last"]):FnAt P w K mg base "span_word" ["first","last"] 2 spSpan:=by
 refine FnAt.of d jaN ?_ ?_;ext c;have nd:=jaN.nd;obtain ⟨x,y,rfl,h1,h2,q⟩:=h;refine ⟨_,(zp (zb (zv yI (ze jS (zy (zv zX (pv 1) zx) zw)) (ze jS (zy (pv 0) zw))))),?_⟩;ext a;refine ⟨y+1,by rw [oC];rfl,by lia,x,rfl,by lia,?_⟩;ext a;have e:=iM (y+1-x) x;rw [show x+(y+1-x)=y+1 by lia] at e;have p1:0<2^x:=yB (by decide);have p2:0<2^(y+1):=yB (by decide);have e2:((2^(y+1)-1:Nat):Int)-((2^x-1:Nat):Int)=((wd (List.range' x (y+1-x)):Nat):Int):=by lia
 rw [e2];exact q
def spDrop:Sp:=λvs H Q _=>∃ w:Nat,vs=[.int w]/\Q (.int ((w &&& (w-1):Nat):Int)) H
theorem aX (d:DefAt K mg "without_first" qT ["word"]):FnAt P w K mg base "without_first" ["word"] 1 spDrop:=by
 refine FnAt.of d jZ ?_ ?_;ext c;have nd:=jZ.nd;obtain ⟨n,rfl,q⟩:=h;refine ⟨_,(zp (zb (zv w4 (pv 0) (zv yI (pv 0) zx)))),?_⟩;ext a;have e:Builtin.bitAnd (n:Int) ((n:Int)-1)=((n &&& (n-1):Nat):Int):=by
   cases n with
   | zero=>decide
   | succ m =>
     rw [bitAnd_pp (by lia) (by lia)];have e1:((m+1:Nat):Int).toNat=m+1:=yp _;have e2:(((m+1:Nat):Int)-1).toNat=m+1-1:=by lia
     rw [e1,e2]
 rw [e];exact q
def spCount:Sp:=λvs H Q _=>∃ ps:List Nat,vs=[.int (wd ps:Nat)]/\Up 0 ps/\(∀ p∈ps,p<256)/\Q (.int ps.length) H
structure LowC (mg:Str->Option Value):Prop where
 a:∃ t,mg "LOWER_1"=some (.int 38597363079105398474523661669562635951089994888546854679819194669304376546645 t)
 b:∃ t,mg "LOWER_2"=some (.int 23158417847463239084714197001737581570653996933128112807891516801582625927987 t)
 c:∃ t,mg "LOWER_4"=some (.int 6811299366900952671974763824040465167839410862684739061144563765171360567055 t)
 d:∃ t,mg "LOWER_8"=some (.int 450552876409790643671482431940419874915447411150352389258589821042463539455 t)
theorem aW (L:LowC mg)(d:DefAt K mg "counted" qS ["word"]):FnAt P w K mg base "counted" ["word"] 2 spCount:=by
 obtain ⟨⟨t1,jD⟩,⟨t2,jE⟩,⟨t4,jF⟩,⟨t8,jG⟩⟩:=L;refine FnAt.of d ja8 ?_ ?_;ext c;have nd:=ja8.nd;obtain ⟨ps,rfl,up,h256,q⟩:=h;refine ⟨_,(zu (zd 1 (zv zX (zv w4 (pv 0) (yx jD)) (zv w4 (zv tN (pv 0) zx) (yx jD)))) (zu (zd 2 (zv zX (zv w4 (pv 1) (yx jE)) (zv w4 (zv tN (pv 1) zx) (yx jE)))) (zu (zd 3 (zv zX (zv w4 (pv 2) (yx jF)) (zv w4 (zv tN (pv 2) zx) (yx jF)))) (zu (zd 4 (zv zX (zv w4 (pv 3) (yx jG)) (zv w4 (zv tN (pv 3) zx) (yx jG)))) (zp (zb (zv zL (pv 4) zx))))))),?_⟩
 ext a;rw [swarI (k:=1) (n:=128) (d:=2) (w:=wd ps) (by rw [msk1];rfl) rfl];rw [swarI (k:=2) (n:=64) (d:=4) (by rw [msk2];rfl) rfl];rw [swarI (k:=4) (n:=32) (d:=16) (by rw [msk4];rfl) rfl];rw [swarI (k:=8) (n:=16) (d:=256) (by rw [msk8];rfl) rfl];rw [countI up h256];exact q
def spLast:Sp:=λvs H Q _=>∃ ps:List Nat,vs=[.int (wd ps:Nat)]/\Up 0 ps/\Q (match ps.getLast? with | none=>.non | some p=>.int (p:Nat)) H
def spFirst:Sp:=λvs H Q _=>∃ ps:List Nat,vs=[.int (wd ps:Nat)]/\Up 0 ps/\Q (match ps with | []=>.non | p::_=>.int (p:Nat)) H
theorem aV (d:DefAt K mg "last_one" qO ["word"]):FnAt P w K mg base "last_one" ["word"] 1 spLast:=by
 refine FnAt.of d ja4 ?_ ?_;ext c;have nd:=ja4.nd;obtain ⟨ps,rfl,up,q⟩:=h;refine ⟨_,(zu (zQ (zP yo (pv 0) zx) (zp (zb nZ)) zM) (zp (zb (zv yI (gy K PySem.F.plainAttrs_int PySem.F.slot_int_bit_length PySem.F.type_int_bit_length cC (pv 0)) zx)))),?_⟩
 ext a;rcases vm ps with rfl | ⟨qs,p,rfl⟩
 . rw [if_pos (show ((wd []:Nat):Int)=0 from rfl)];exact q
 . rw [vk] at up q ⊢;have h0:0<wd (qs++[p]):=by
     rw [qy];have:0<2^p:=yB (by decide);show 0<wd qs+(2^p+0)
     lia
   rw [if_neg (by lia),b8 up];have e:((p+1:Nat):Int)-1=(p:Nat):=by lia
   rw [e];rw [oS] at q;exact q
theorem aU (jbJ:FnAt P w K mg base "last_one" ["word"] 1 spLast)(d:DefAt K mg "first_one" qP ["word"]):FnAt P w K mg base "first_one" ["word"] 2 spFirst:=by
 refine FnAt.of d jaM ?_ ?_;ext c;have nd:=jaM.nd;obtain ⟨ps,rfl,up,q⟩:=h;refine ⟨_,(zp (zb (ze jbJ (zy (zv w4 (pv 0) (vF vE (pv 0))) zw)))),?_⟩;ext a;cases ps with
 | nil=>exact ⟨[],rfl,trivial,q⟩
 | cons p r =>
   refine ⟨[p],?_,⟨zS _,trivial⟩,q⟩;rw [b9 up.2];rfl
def spWordOf (K:zh):Sp:=λvs H Q _=>∃ (a:Addr) (ps:List Nat),vs=[.ref a]/\SqL K H a (pint ps)/\(∀ p∈ps,p<1000)/\Q (.int (orW ps:Nat)) H
structure WordOfI (a:Addr)(ps:List Nat)(H:Hp)(i:Nat)(σ:L2.St)(H':Hp):Prop where
 ex:∃ v,σ=[some (.ref a),some (.int (orW (ps.take i):Nat)),v]
 hp:H'=H
theorem aS (d:DefAt K mg "word_of" qM ["places"]):FnAt P w K mg base "word_of" ["places"] 1 (spWordOf K):=by
 refine FnAt.of d ja9 ?_ ?_;ext c;have nd:=ja9.nd;obtain ⟨a,ps,rfl,hS,h1000,q⟩:=h;refine ⟨_,(zu (zd 1 zx) (zu (yW yd rfl (yH K (pv 0)) (zG 2) (zp (zd 1 (zv op_or (pv 1) (zv hV zx (pv 2)))))) (zp (zb (pv 1))))),?_⟩
 ext a;refine ⟨⟨_,hS⟩,loopL (xs:=pint ps) (WordOfI a ps H) ⟨⟨_,rfl⟩,rfl⟩ ?_ ?_ ?_⟩;{rintro i σ H' hi ⟨_,rfl⟩;exact hS}
 . rintro i x σ H' hi ⟨⟨v,rfl⟩,rfl⟩;obtain ⟨p,hp,rfl⟩:=vB hi;have hmem:p<1000:=h1000 p (y4 hp);have tk:ps.take (i+1)=ps.take i++[p]:=by rw [yC,hp];rfl
   ext a;refine ⟨⟨by lia,by lia,by decide⟩,⟨some (.int p),?_⟩,rfl⟩;rw [tk,orW_snoc,iP (xA _) (by rw [Int.one_mul];exact i5 _)];rw [yp,yp,Int.one_mul];congr
 . rintro σ H' ⟨⟨v,rfl⟩,rfl⟩;ext a;rw [yP (by rw [yh];exact zi _)];exact q
def spWordOfRuns:Sp:=λvs H Q _=>∃ (a:Addr) (rs:List (Nat × Nat)),vs=[.ref a]/\RunsL H a rs/\(∀ r∈rs,r.1<=r.2/\r.2<999)/\Q (.int (orR rs:Nat)) H
structure WordRI (a:Addr)(rs:List (Nat × Nat))(H:Hp)(i:Nat)(σ:L2.St)(H':Hp):Prop where
 ex:∃ v v',σ=[some (.ref a),some (.int (orR (rs.take i):Nat)),v,v']
 hp:H'=H
theorem Tups.get {i:Nat}{x:V}(h:Tups H vs rs)(e:vs[i]?=some x):∃ t r,x=.ref t/\rs[i]?=some r/\H t=some (.tup [.int (r.1:Nat),.int (r.2:Nat)]):=by
 induction h generalizing i with
 | nil=>cases e
 | cons z _ ih =>
   cases i with
   | zero =>
     cases e;obtain ⟨t,z,h⟩:=z;exact ⟨t,_,z,rfl,h⟩
   | succ i=>exact ih e
theorem aR (jap:FnAt P w K mg base "span_word" ["first","last"] 2 spSpan)(d:DefAt K mg "word_of_runs" qL ["runs"]):FnAt P w K mg base "word_of_runs" ["runs"] 3 spWordOfRuns:=by
 refine FnAt.of d jah ?_ ?_;ext c;have nd:=jah.nd;obtain ⟨a,rs,rfl,⟨vs,hv,ht⟩,hb,q⟩:=h;refine ⟨_,(zu (zd 1 zx) (zu (yW yd rfl (yH K (pv 0)) (vA K rfl (xu (zG 2) (xu (zG 3) vG))) (zp (zd 1 (zv op_or (pv 1) (ze jap (zy (pv 2) (zy (pv 3) zw))))))) (zp (zb (pv 1))))),?_⟩
 ext a;refine ⟨⟨_,SqL.of hv⟩,loopL (xs:=vs) (WordRI a rs H) ⟨⟨_,_,rfl⟩,rfl⟩ ?_ ?_ ?_⟩;{rintro i σ H' hi ⟨_,rfl⟩;exact SqL.of hv}
 . rintro i x σ H' hi ⟨⟨v,v',rfl⟩,rfl⟩;obtain ⟨t,r,rfl,hr1,htt⟩:=ht.get hi;obtain ⟨b1,b2⟩:=hb r (y4 hr1);have tk:rs.take (i+1)=rs.take i++[r]:=by rw [yC,hr1];rfl
   ext a;refine ⟨_,SqT.of htt,rfl,?_⟩;ext a;refine ⟨_,_,⟨rfl,rfl⟩,?_⟩;ext a;refine ⟨_,_,⟨rfl,rfl⟩,?_⟩;ext a;refine ⟨r.1,r.2,rfl,by lia,by lia,?_⟩;ext a;refine ⟨⟨some (.int (r.1:Nat)),some (.int (r.2:Nat)),?_⟩,rfl⟩;rw [tk,orR_snoc,iP (xA _) (xA _),yp,yp]
 . rintro σ H' ⟨⟨v,v',rfl⟩,rfl⟩;ext a;rw [yP (by rw [ht.length];exact zi _)];exact q
def spBit:Sp:=λvs H Q _=>∃ (w k:Nat),vs=[.int w,.int k]/\Q (.int ((w.testBit k).toNat:Nat)) H
theorem aQ (d:DefAt K mg "bit_at" qV ["word","place"]):FnAt P w K mg base "bit_at" ["word","place"] 1 spBit:=by
 refine FnAt.of d jby ?_ ?_;ext c;have nd:=jby.nd;obtain ⟨v,k,rfl,q⟩:=h;refine ⟨_,(zp (zb (zv w4 (zv tN (pv 0) (pv 1)) zx))),?_⟩;ext a;refine ⟨by lia,?_⟩;have e:Builtin.bitAnd ((v:Int)/2^((k:Nat):Int).toNat) 1=((v.testBit k).toNat:Nat):=by
   rw [bitAnd_m1,yp];have e1:(v:Int)/2^k%2=((v/2^k%2:Nat):Int):=by rw [Int.natCast_emod,Int.natCast_ediv,Int.natCast_pow];rfl
   rw [e1,Nat.testBit_eq_decide_div_mod_eq];by_cases h1:v/2^k%2=1;{rw [zK h1,h1];rfl}
   . rw [yu h1];have:v/2^k%2=0:=by lia
     rw [this];rfl
 rw [e];exact q
def spOneAt:Sp:=λvs H Q _=>∃ (ps:List Nat) (k:Nat),vs=[.int (wd ps:Nat),.int k]/\Up 0 ps/\k<ps.length/\k<=1000/\Q (.int (ps.getD k 0:Nat)) H
structure OneI (ps:List Nat)(k:Nat)(H:Hp)(i:Nat)(σ:L2.St)(H':Hp):Prop where
 ex:∃ v,σ=[some (.int (wd (ps.drop i):Nat)),some (.int k),v]
 hp:H'=H
theorem aP (B:Blt mg)(ja7:FnAt P w K mg base "without_first" ["word"] 1 spDrop)(jaq:FnAt P w K mg base "first_one" ["word"] 2 spFirst)(d:DefAt K mg "one_at" qQ ["word","k"]):FnAt P w K mg base "one_at" ["word","k"] 3 spOneAt:=by
 refine FnAt.of d jbz ?_ ?_;ext c;have nd:=jbz.nd;obtain ⟨ps,k,rfl,up,hk,h1000,q⟩:=h;refine ⟨_,(zu (yW yd rfl (xG rfl B.range (zy (pv 1) zw)) (zG 2) (zp (zd 0 (ze ja7 (zy (pv 0) zw))))) (zp (zb (ze jaq (zy (pv 0) zw))))),?_⟩
 ext a;refine ⟨by lia,by lia,loopR (OneI ps k H) ⟨⟨none,rfl⟩,rfl⟩ ?_ ?_⟩
 . rintro i σ H' hi ⟨⟨v,rfl⟩,rfl⟩;have hi2:i<ps.length:=by lia
   have ud:Up 0 (ps.drop i):=up.drop i;have e:ps.drop i=ps[i]::ps.drop (i+1):=wG hi2;ext a;refine ⟨_,rfl,⟨some (.int (i:Int)),?_⟩,rfl⟩;rw [e] at ud ⊢;rw [iQ ud.2]
 . rintro σ H' ⟨⟨v,rfl⟩,rfl⟩;rw [yp];ext a;refine ⟨ps.drop k,rfl,up.drop k,?_⟩;rw [wG hk];rw [yL,zV hk] at q;exact q
def spOnes:Sp:=λvs H Q _=>∃ (ps:List Nat) (k:Nat),vs=[.int (wd ps:Nat),.int k]/\Up 0 ps/\(∀ p∈ps,p<256)/\k<=1000/\Q (.int (ps.filter λp=>decide (p<k)).length) H
theorem aO (jS:FnAt P w K mg base "all_below" ["place"] 1 spBelow)(jH:FnAt P w K mg base "counted" ["word"] 2 spCount)(d:DefAt K mg "ones_below" qR ["word","place"]):FnAt P w K mg base "ones_below" ["word","place"] 3 spOnes:=by refine FnAt.of d jay ?_ ?_;ext c;have nd:=jay.nd;obtain ⟨ps,k,rfl,up,h256,hk,q⟩:=h;refine ⟨_,(zp (zb (ze jH (zy (zv w4 (pv 0) (ze jS (zy (pv 1) zw))) zw)))),?_⟩;ext a;refine ⟨k,rfl,hk,?_⟩;ext a;refine ⟨ps.filter λp=>decide (p<k),?_,up.filter,λp hp=>h256 p (yD.mp hp).1,q⟩;rw [bitAnd_pp (xA _) (xA _),yp,yp,wd_mask k up]
def sWd (es:List Ent)(i:Nat):List (Nat × Nat):=[(hp i+8,hp i+8+2)]++sPr 26 14 i++sPr 26 14 (i+1)++[(hp es.length+8*byE es i,hp es.length+8*byE es i+8*(byE es (i+1)-byE es i))]
def spWr (C:Addr):Sp:=λvs H Q _=>∃ (g sp:Addr) (t:List Bool) (ss:List (Nat × Nat)) (es:List Ent) (i:Nat) (e:Ent),vs=[.ref g,.int i]/\EsR es/\es[i]?=some e/\GlAt C g sp t (hdF (some es.length)) ss H/\Ag (TPe es) t (sWd es i)/\ss.length<=200 /\
 ∀ H',Fx sp H H'->GlAt C g sp t (hdF (some es.length)) (ss++sWd es i) H'->Q (.int (wd e.ps:Nat)) H'
theorem aN {ps:List Nat}(u:Up 0 ps)(h:∀ p∈ps,p<256):numA 0 ((List.range 256).map λp=>decide (p∈ps)).reverse=wd ps:=by
 refine nJ u λi=>?_
 have ln:((List.range 256).map λp=>decide (p∈ps)).reverse.length=256:=by rw [xc,za,yc]
 by_cases c:i<256;{have:=iL ((List.range 256).map λp=>decide (p∈ps)).reverse (255-i) (by rw [ln];lia);rw [ln] at this;rw [show 256-1-(255-i)=i by lia] at this;rw [this,yL,oV (by rw [za,yc];lia),za,yc,show 256-1-(255-i)=i by lia,yR,List.getElem?_range c];rfl};{rw [Nat.testBit_lt_two_pow (yl (qw _) (by rw [ln];exact uf (by decide) (by lia)))];exact (yu λz=>c (h i z)).symm}
theorem sub_part {ps:List Nat}{i:Nat}(h:i<ps.length):subB (ps.map λp=>bitsB p 8).flatten (8*i) 8=bitsB (ps.getD i 0) 8:=by
 have e:ps=ps.take i++ps[i]::ps.drop (i+1):=by rw [<- wG h,yq]
 have e2:ps.getD i 0=ps[i]:=by rw [yL,zV h];rfl
 rw [e2];generalize ps[i]=x at e;have il:(ps.take i).length=i:=by rw [y3];lia
 generalize ps.take i=a at e il;rw [e,yX,xw,yz,yE];unfold subB;rw [sC (by rw [fl8,il];exact zi _),wX (by rw [fl8,il];exact zi _),yb];have:=yG x 8;rw [sE (by rw [this];exact zi _),yP (by rw [this];exact zi _)]
theorem dm:∀ rs:List (Nat × Nat),(rs.flatMap λr=>[bitsB r.1 8,bitsB r.2 8])=(rs.flatMap λr=>[r.1,r.2]).map λp=>bitsB p 8
 | []=>rfl
 | r::rs=>by rw [xo,xo,yX,dm rs];rfl
theorem dk:∀ (rs:List (Nat × Nat)) (i:Nat),i<rs.length->((rs.flatMap λr=>[r.1,r.2])[2*i]?=some (rs.getD i (0,0)).1/\(rs.flatMap λr=>[r.1,r.2])[2*i+1]?=some (rs.getD i (0,0)).2)
 | [],i,h=>by cases h
 | r::rs,0,_=>⟨rfl,rfl⟩
 | r::rs,i+1,h=>by
   have:=dk rs i (by rw [zZ] at h;lia);rw [xo,show 2*(i+1)=2*i+2 by lia];exact this
theorem pA (rs:List (Nat × Nat)):(rs.flatMap λr=>[r.1,r.2]).length=2*rs.length:=pO _ _ rs
theorem tup_mk2 {h:Heap}{x:Str}{a:Addr}{c:Value}{d:Option Addr}{its:Array Value}{n:Nat}{sl:Array (Option Value)}(X:K.In h)(G:h.Ns mainGlobals mg)(e:PySem.W.nsIn K mainGlobals x=some (some (.ref a)))
   (l:K.lookup a=some ⟨c,d,.seq its n,sl⟩) (hc:c=.type "tuple") (hd:d=none) (hz:its.size<=sizeLine) (r:Vals xs its.toList):∃ a,mg x=some (.ref a)/\(∃ o,K.lookup a=some o/\o.cls=.type "tuple"/\o.dict=none)/\∀ H,SqT K H a xs :=
 ⟨a,vo X G e,⟨_,l,hc,hd⟩,λH=>.inr ⟨_,its,n,l,hc,rfl,hz,r⟩⟩
theorem tx_rev (bs:List Bool):revS (tx bs)=tx bs.reverse:=by unfold revS tx;simp
theorem rngN_8 (n:Nat):rngN 0 ((8*n:Nat):Int) 8=n:=by unfold rngN Builtin.Range.rangeSize;split<;>lia
theorem small_8 {n:Nat}(h:n<=32):Builtin.Range.small 0 ((8*n:Nat):Int) 8=true:=by revert n;decide
theorem small_2 {n:Nat}(h:n<=32):Builtin.Range.small 0 (((2*n:Nat):Int)-1) 2=true:=by revert n;decide
theorem compFP {x:Nat->V}{m':Nat}{σ:L2.St}{Q:VK}(rs:List (Nat × Nat))(ln:rs.length<=1000)
   (he:∀ i,i<rs.length->∀ H2 (R:VK),Same H1 H2->(∀ p,H2 p=none->R (.ref p) (upd H2 p (.tup [.int ((rs.getD i (0,0)).1:Nat),.int ((rs.getD i (0,0)).2:Nat)])))->te ((capSt m' caps σ).set 0 (some (x i))) H2 R)
   (hq:∀ D H2,Same H1 H2->H1 D=none->RunsL H2 D rs->Q (.ref D) H2):CompJ (Itf x rs.length) m' caps (gName 0) tNoTest te σ H1 Q:=by
 refine compG (n:=rs.length) (λD i ys H2=>i<=rs.length/\ys.length=i/\Same H1 H2/\H2 D=some (.lst ys)/\Tups H2 ys (rs.take i)) (λD nD=>⟨zS _,rfl,Same.new nD,zm,.nil⟩) (λD i ys H2 h=>h.1)
   (λD ys H2 nD h=>rfl) (λD i ys H2 nD hi h=>hi) ?_ (λD ys H2 nD h=>hq D H2 h.2.2.1 nD ⟨ys,h.2.2.2.1,by have:=h.2.2.2.2;rwa [wM] at this⟩)
 rintro D i ys H2 v H3 nD hi ⟨_,ly,s2,hD,tu⟩ ⟨rfl,rfl⟩;have tk:rs.take (i+1)=rs.take i++[rs.getD i (0,0)]:=by rw [yC,yL,zV hi];rfl
 rw [gName,tNoTest,if_pos rfl];refine he i hi H3 _ s2 λp np=>?_
 have sp:=Same.new (o:=.tup [.int ((rs.getD i (0,0)).1:Nat),.int ((rs.getD i (0,0)).2:Nat)]) np;refine compYes (by lia) hi (by lia) (sp _ _ hD) ⟨hi,by rw [zj,ly];rfl,(s2.trans sp).put nD,zm,?_⟩;rw [tk];exact ((tu.same sp).snoc (r:=rs.getD i (0,0)) zm).upd (sp _ _ hD)
theorem rngN_2 (n:Nat):rngN 0 (((2*n:Nat):Int)-1) 2=n:=by unfold rngN Builtin.Range.rangeSize;split<;>lia
section
variable {CG:Addr}
theorem ok_wr (B:Blt mg)(cc:(∃ t,mg "KIND_AT"=some (.int 8 t))/\(∃ t,mg "KIND_SIGNS"=some (.int 2 t))/\(∃ t,mg "BYTE_SIGNS"=some (.int 8 t)))(cK:∃ a,mg "KINDS"=some (.ref a)/\(∃ o,K.lookup a=some o/\o.cls=.type "tuple"/\o.dict=none)/\∀ H,SqT K H a [.str (Str.ofString "list"),.str (Str.ofString "bits"),.str (Str.ofString "runs")])(jf:FnAt P w K mg base "head_place" ["at"] 1 spHp)(jR:FnAt P w K mg base "number_of" ["text"] 1 spNumber)(jaR:FnAt P w K mg base "word_of" ["places"] 1 (spWordOf K))(jM:FnAt P w K mg base "word_of_runs" ["runs"] 3 spWordOfRuns)(jbF:MethAt P w K mg base CG "signs" ["self","first","many"] 1 (spSg CG))(jt:MethAt P w K mg base CG "number" ["self","first","many"] 3 (spNm CG))(jaD:MethAt P w K mg base CG "bytes_ahead" ["self","at"] 4 (spPr CG 26 14 0))(cd:CD_Glance K mg CG):MethAt P w K mg base CG "word" ["self","at"] 5 (spWr CG):=by
 obtain ⟨⟨t1,j8⟩,⟨t2,jw⟩,⟨t3,jg⟩⟩:=cc;obtain ⟨T_KINDS,jaw,tyK,sK⟩:=cK;refine MethAt.of cd.c cd.m_word jL ?_ ?_;ext c;have nd:=jL.nd;obtain ⟨g,sp,t,ss,es,i,e,rfl,o,he,G,ag,sl,q⟩:=h;obtain ⟨dx,hg⟩:=G.ob;have em:=y4 he;have il:i<es.length:=(yT.mp he).1;have tl:t.length<=100000:=by rw [ag.len];have:=o.tl;lia
 obtain ⟨b1,b2⟩:=o.ba (xK il) (ag.sub λx hx=>by unfold sWd;simp [hx]);obtain ⟨b3,b4⟩:=o.ba (i:=i+1) il (ag.sub λx hx=>by unfold sWd;simp [hx]);have kd:=kN_le e.ps;obtain ⟨k1,k2⟩:=ag.num (p:=hp i+8) (m:=2) (by unfold sWd;simp) (vw he).2.1 (by show _<4;lia);have by1:=pE he;obtain ⟨lb1,lb2,lb3⟩:=pF (o.ok.ne e em) (o.ok.pup e em);have bdL:=pI (kN e.ps) e.ps;have eB:lenB (e,kN e.ps)=szB (kN e.ps) e.ps:=pH _;have body:subB t (hp es.length+8*byE es i) (8*(byE es (i+1)-byE es i))=(bodyF (kN e.ps) e.ps).flatten/\hp es.length+8*byE es i+8*(byE es (i+1)-byE es i)<=t.length:=by have a:=dv he;have h1:=a.sub (m:=8*(byE es (i+1)-byE es i)) (by rw [bdL,by1,eB];lia);have h2:=a.len;rw [ag.get (by unfold sWd;simp),ag.len];refine ⟨h1,?_⟩;rw [bdL] at h2;rw [by1,eB];lia
 refine ⟨_,(zu (zd 2 (yV P w K mg base 3 (pv 0) (zy (zv zX (ze jf (zy (pv 1) zw)) (yx j8)) (zy (yx jw) zw)))) (zu (zd 3 (yV P w K mg base 4 (pv 0) (zy (pv 1) zw))) (zu (zd 4 (zv yI (yV P w K mg base 4 (pv 0) (zy (zv zX (pv 1) zx) zw)) (pv 3))) (zu (zd 5 (yV P w K mg base 1 (pv 0) (zy (zv zX (ze jf (zy (xX K (pv 0)) zw)) (zv xt (yx jg) (pv 3))) (zy (zv xt (yx jg) (pv 4)) zw)))) (zu (zQ (zP yo (pv 2) (yg K k8 k6 kx (fi K) (nY (v:=.ref T_KINDS) rfl jaw rfl) (zy xj zw))) (zp (zb (ze jR (zy (pe_revS (pv 5) (vF vE zx)) zw)))) zM) (zu (zd 6 (xF ["first"] [5] rfl (gu rfl B.range (zy zx (zy (zB uV rfl B.len yZ (zy (pv 5) zw)) (zy (yx jg) zw)))) (λ_ _ _ _ _=>yA (i:=0) (by show List.Nodup (["first","body"]:List Str);decide +kernel) rfl (Or.inl rfl)) (λ_ _ _ _ _=>wx) (λ_ _ _ _ _=>(ze jR (zy (rD sl_str (pv 1) (uW (pv 0)) (uW (zv zX (pv 0) (yx jg)))) zw))) ⟨⟨_,rfl,rfl,.inl rfl⟩,trivial⟩ xi)) (zu (zQ (zP yo (pv 2) (yg K k8 k6 kx (fi K) (nY (v:=.ref T_KINDS) rfl jaw rfl) (zy xj zw))) (zp (zb (ze jaR (zy (pv 6) zw)))) zM) (zu (hZ (i:=7) ["first"] [6] jL.nd rfl (by ext g) rfl (gu rfl B.range (zy zx (zy (zv yI (zB (xh K) rfl B.len yZ (zy (pv 6) zw)) zx) (zy zx zw)))) (λ_ _ _ _ _=>yA (i:=0) (by show List.Nodup (["first","places"]:List Str);decide +kernel) rfl (Or.inl rfl)) (λ_ _ _ _ _=>wx) (λ_ _ _ _ _=>(wz (zy (zN (xE K) (pv 1) (pv 0)) (zy (zN (xE K) (pv 1) (zv zX (pv 0) zx)) zw)))) ⟨⟨_,rfl,rfl,.inl rfl⟩,trivial⟩ xi) (zp (zb (ze jM (zy (xF ["run"] [] rfl (yH K (pv 7)) (λ_ _ _ _ _=>yA (i:=0) (by show List.Nodup (["run"]:List Str);decide +kernel) rfl (Or.inl rfl)) (λ_ _ _ _ _=>m8 (zP wK (zN (yr K) (pv 0) zx) (zN (yr K) (pv 0) zx))) (λ_ _ _ _ _=>(pv 0)) trivial xi) zw)))))))))))),?_⟩
 refine zq λkk hk=>?_
 ext a;refine yU hg rfl jt ⟨i,rfl,_,rfl,g,sp,t,some es.length,ss,hp i+8,2,rfl,G,tl,by decide,k2,by lia,by decide,λH1 f1 G1=>hk _ _ (zq λkk hk=>?_)⟩;rw [k1];have sp1:∀ (a:Nat) p m,(sPr p m a).length<=1:=λa p m=>by cases a<;>simp [sPr]
 obtain ⟨dx1,hg1⟩:=G1.ob;ext a;refine yU hg1 rfl jaD ⟨g,sp,t,some es.length,_,i,rfl,G1,tl,b2,by rw [zj];show _+1<=_;lia,λH2 f2 G2=>hk _ _ (zq λkk hk=>?_)⟩;rw [b1];obtain ⟨dx2,hg2⟩:=G2.ob;ext a;refine yU hg2 rfl jaD ⟨g,sp,t,some es.length,_,i+1,rfl,G2,tl,b4,by rw [zj,zj];have:=sp1 i 26 14;show _+1+_<=_;lia,λH3 f3 G3=>⟨_,rfl,hk _ _ (zq λkk hk=>?_)⟩⟩;rw [b3];have eM:((byE es (i+1):Nat):Int)-((byE es i:Nat):Int)=((byE es (i+1)-byE es i:Nat):Int):=by lia
 rw [eM];obtain ⟨dx3,hg3⟩:=G3.ob;ext a;have e1:((hp es.length:Nat):Int)+8*((byE es i:Nat):Int)=((hp es.length+8*byE es i:Nat):Int):=by lia
 have e2:(8:Int)*((byE es (i+1)-byE es i:Nat):Int)=((8*(byE es (i+1)-byE es i):Nat):Int):=by lia
 refine yU hg3 rfl jbF (xg hg3 cd.c cd.n_heads rfl ⟨es.length,rfl,_,rfl,g,sp,t,some es.length,_,hp es.length+8*byE es i,8*(byE es (i+1)-byE es i),by rw [e1,e2],G3,tl,by lia,body.2,?_,λH4 f4 G4=>hk _ _ (zq λkk hk=>?_)⟩);{have:=sp1 i 26 14;have:=sp1 (i+1) 26 14;rw [zj,zj,zj];show _+1+_+_<=_;lia}
 rw [body.1];have fx:Fx sp H H4:=((f1.trans f2).trans f3).trans f4;have G5:GlAt CG g sp t (hdF (some es.length)) (ss++sWd es i) H4:=by
   have:ss++sWd es i=ss++[(hp i+8,hp i+8+2)]++sPr 26 14 i++sPr 26 14 (i+1)++[(hp es.length+8*byE es i,hp es.length+8*byE es i+8*(byE es (i+1)-byE es i))]:=by unfold sWd;simp only [zY]
   rw [this];exact G4
 have q5:∀ H',Same H4 H'->Q (.int (wd e.ps:Nat)) H':=λH' s'=>q H' (fx.trans (Fx.of s')) (G5.same s')
 have q:=q H4 fx G5;clear G4 G5 f1 f2 f3 f4 G1 G2 G3 hg1 hg2 hg3;have pl:=o.ok.plt e em;have pu:=o.ok.pup e em;have bl:(bodyF (kN e.ps) e.ps).flatten.length=8*szB (kN e.ps) e.ps:=bdL;have bs:szB (kN e.ps) e.ps<=32:=by rw [<- eB];exact lb3
 generalize hkd:kN e.ps=kd' at bl bs kd ⊢;have ts:(tx (bodyF kd' e.ps).flatten).length<=sizeLine:=by rw [x8,bl];exact small5 (by lia)
 ext a;refine ⟨.inr (.inl ⟨rfl,tyK⟩),_,_,_,sK H4,by decide +kernel,?_⟩;rw [show (if (Str.ofString "list"==Str.ofString "bits")=true then (0:Int) else if (Str.ofString "bits"==Str.ofString "bits")=true then 1 else 2)=1 by decide +kernel];by_cases k1':kd'=1
 . rw [if_pos (by lia)];refine ⟨ts,?_⟩;subst k1';rw [tx_rev];have eb:(bodyF 1 e.ps).flatten=(List.range 256).map λp=>decide (p∈e.ps):=by
     unfold bodyF;simp
   rw [eb];refine ⟨_,rfl,by rw [xc,za,yc];decide,?_⟩;rw [aN pu pl];exact q
 rw [if_neg (by lia)];refine hk _ _ (zq λkk hk=>?_);obtain ⟨qs,eq,ql,qz,q0,q2⟩:∃ qs:List Nat,(bodyF kd' e.ps).flatten=(qs.map λp=>bitsB p 8).flatten/\(∀ p∈qs,p<256)/\qs.length<=32/\(kd'=0->qs=e.ps)/\(kd'=2->qs=(runsOf e.ps).flatMap λr=>[r.1,r.2]):=by
   unfold szB at bs;unfold bodyF;rcases (by lia:kd'=0\/kd'=2) with z | z
   . rw [if_pos z] at bs;exact ⟨e.ps,by rw [if_pos z],pl,bs,λ_=>rfl,λy=>by lia⟩
   . rw [if_neg (by lia),if_neg (by lia)] at bs;refine ⟨(runsOf e.ps).flatMap λr=>[r.1,r.2],by rw [if_neg (by lia),if_neg (by lia),dm],λp hp=>?_,by rw [pA];exact bs,λy=>by lia,λ_=>rfl⟩;obtain ⟨r,hr,hpr⟩:=oI.mp hp;have h1:=iJ pl r hr;have h2:=tH e.ps r hr;simp only [zW,wm,wq] at hpr;rcases hpr with rfl | rfl<;>lia
 rw [eq] at bl ts ⊢;have tl2:(tx (qs.map λp=>bitsB p 8).flatten).length=8*qs.length:=by rw [x8,fl8]
 ext a;refine ⟨ts,_,_,_,⟨rfl,rfl,rfl⟩,by decide,by decide,?_,?_⟩;{rw [tl2];exact small_8 qz}
 rw [tl2,rngN_8];refine compF (λ_=>true) (λj=>.int (qs.getD j 0:Nat)) (by lia) (λj H2 R hj s2 r=>r) (λj H2 R hj _ s2 r=>?_) (λD nD=>?_)
 . ext a;have e3:((j:Nat):Int)*8=((8*j:Nat):Int):=by lia
   have e4:((8*j:Nat):Int)+8=((8*j+8:Nat):Int):=by lia
   rw [e3,e4];refine ⟨ts,?_⟩;rw [d9 (by lia) (by rw [fl8];lia),kM,sub_part hj];refine ⟨_,rfl,by rw [yG];decide,?_⟩;rw [lx 8 _ (ql _ (by rw [yL,zV hj];exact y9 hj))];exact r
 have ep:((List.range qs.length).filter λ_=>true).map (λj=>V.int (qs.getD j 0:Nat))=pint qs:=by
   rw [vM.mpr λ_ _=>rfl];unfold pint;refine wO (by rw [za,za,yc]) λj a1 a2=>?_
   rw [za] at a2;rw [w6,w6,ue,yL,zV a2];rfl
 rw [ep];refine hk _ _ (zq λkk hk=>?_);have q:=q5;have s5:=Same.new (o:=.lst (pint qs)) nD;have hD:=zm (H:=H4) (a:=D) (o:=.lst (pint qs));generalize upd H4 D (.lst (pint qs))=H5 at s5 hD;ext a;refine ⟨.inr (.inl ⟨rfl,tyK⟩),_,_,_,sK H5,by decide +kernel,?_⟩;rw [show (if (Str.ofString "list"==Str.ofString "list")=true then (0:Int) else if (Str.ofString "bits"==Str.ofString "list")=true then 1 else 2)=0 by decide +kernel];by_cases k0':kd'=0;{rw [if_pos (by lia)];refine ⟨D,qs,rfl,SqL.of hD,λp hp=>by have:=ql p hp;lia,?_⟩;rw [q0 k0',orW_up pu];exact q H5 s5}
 rw [if_neg (by lia)];have q2:=q2 (by lia);refine hk _ _ (zq λkk hk=>?_);have rl:(runsOf e.ps).length<=16:=by rw [q2,pA] at qz;lia
 ext a;refine ⟨_,.inl (SqL.of hD),_,_,_,⟨rfl,rfl,rfl⟩,by decide,by decide,?_,?_⟩;{rw [yh,q2,pA];exact small_2 (by lia)}
 rw [yh,q2,pA,rngN_2];refine compFP (runsOf e.ps) (by lia) (λj hj H6 R s6 r=>?_) (λD2 H6 s6 nD2 hR=>hk _ _ ?_)
 . obtain ⟨g1,g2⟩:=dk (runsOf e.ps) j hj;have hD6:=s6 _ _ hD;rw [q2] at hD6;have at1:∀ {k v:Nat},((runsOf e.ps).flatMap λr=>[r.1,r.2])[k]?=some v->atI (pint ((runsOf e.ps).flatMap λr=>[r.1,r.2])) ((k:Nat):Int)=some (.int (v:Nat)):=λ{k v} h=>vD (by unfold pint;rw [yR,h];rfl)
   ext a;have e3:((j:Nat):Int)*2=((2*j:Nat):Int):=by lia
   have e4:((2*j:Nat):Int)+1=((2*j+1:Nat):Int):=by lia
   rw [e3,e4];exact ⟨_,SqL.of hD6,_,at1 g1,_,SqL.of hD6,_,at1 g2,by decide,r⟩
 . obtain ⟨vr,hvr,htr⟩:=hR;ext a;refine ⟨⟨_,SqL.of hvr⟩,compL (K:=K) (xs:=vr) (λ_=>true) id (SqL.of hvr) (by rw [htr.length];lia) (λv H7 R hv s7 h=>?_) (λv H7 R hv _ s7 h=>?_) (λD3 nD3=>?_)⟩
   . obtain ⟨a,ha,rfl⟩:=xq.mp hv;obtain ⟨u,rr,eu,hr,hu⟩:=htr.get (zV ha);rw [eu];have:=tH e.ps rr (y4 hr);ext a;exact ⟨_,SqT.of (s7 _ _ hu),_,rfl,_,SqT.of (s7 _ _ hu),_,rfl,_,rfl,_,rfl,by rw [zK (by lia)];exact h⟩
   . ext a;exact h
   . rw [vM.mpr λ_ _=>rfl,tQ];have s7:=Same.new (o:=.lst vr) nD3;refine ⟨D3,runsOf e.ps,rfl,⟨vr,zm,htr.same s7⟩,λr hr=>⟨tH e.ps r hr,by have:=iJ pl r hr;lia⟩,?_⟩;rw [cM pu];exact q _ ((s5.trans s6).trans s7)
end
def Scal:V->Prop
 | .int _=>True
 | .bl _=>True
 | .non=>True
 | .str _=>True
 | _=>False
def isI:V->Bool
 | .int _=>true
 | _=>false
def okP (v:V)(n:Nat):Bool:=match v with
 | .int z=>decide (0<=z/\z<(n:Int))
 | _=>false
def spIsV:Sp:=λvs H Q _=>∃ v,vs=[v]/\Scal v/\Q (.bl (isI v)) H
theorem aM (B:Blt mg)(d:DefAt K mg "is_whole" qW ["thing"]):FnAt P w K mg base "is_whole" ["thing"] 1 spIsV:=by
 refine FnAt.of d ja3 ?_ ?_;ext c;have nd:=ja3.nd;obtain ⟨v,rfl,sv,q⟩:=h;refine ⟨_,(zp (zb (we (zB (vx K) rfl B.isi vy (zy (pv 0) (zy (vz (v:=.ty "int") rfl B.int boot_int rfl) zw))) (vY (pe_not (zB (vx K) rfl B.isi vy (zy (pv 0) (zy (vz (v:=.ty "bool") rfl B.bool boot_bool rfl) zw)))))))),?_⟩;cases v with
 | int z=>ext a;exact q
 | bl b=>ext a;exact q
 | non =>
   ext a;exact ⟨_,_,_,_,false,rfl,rfl,.non,rfl,_,rfl,q⟩
 | str z =>
   ext a;exact ⟨_,_,_,_,false,rfl,rfl,.str z,rfl,_,rfl,q⟩
 | _=>exact sv.elim
def spIniG (C:Addr):Sp:=λvs H Q _=>∃ (g dx:Addr) (t:List Bool) (es:List Ent),vs=[.ref g,.str (tx t)]/\H g=some (.ins C dx [])/\EsR es/\Ag (TPe es) t [(0,9)] /\
 ∀ sp H',Fx g H H'->H sp=none->GlAt C g sp t (hdF (some es.length)) [(0,9)] H'->Q .non H'
section
variable {CG:Addr}{ts:Tabs}
theorem ok_iniG (c1:∃ t,mg "MANY_SIGNS"=some (.int 9 t))(jt:MethAt P w K mg base CG "number" ["self","first","many"] 3 (spNm CG))(cd:CD_Glance K mg CG):MakeAt P w K mg base "Glance" CG ["self","tape"] 4 (spIniG CG):=by
 obtain ⟨t1,je⟩:=c1;refine MakeAt.of cd.at_ cd.init jK ?_ ?_;ext c;have nd:=jK.nd;obtain ⟨g,dx,t,es,rfl,hg,o,ag,q⟩:=h;have tl:t.length<=100000:=by rw [ag.len];have:=o.tl;lia
 obtain ⟨n1,n2⟩:=ag.num (p:=0) (m:=9) (.head _) (dw es) (by have:=o.len;show _<512;lia);refine ⟨_,(zu (mx K (pv 0) (pv 1)) (zu (mx K (pv 0) (yi zw)) (zp (mx K (pv 0) (yV P w K mg base 3 (pv 0) (zy zx (zy (yx je) zw))))))),?_⟩
 refine zq λk hk=>?_
 ext a;refine ⟨_,_,_,hg,cd.c,cd.n_tape,by decide,hk _ _ (zq λk hk=>?_)⟩;rw [show putF (Str.ofString "tape") (V.str (tx t)) []=([("tape",.str (tx t))]:List (Str × V)) from rfl];have h1:=zm (H:=H) (a:=g) (o:=.ins CG dx [("tape",.str (tx t))]);have f1:Fx g H (upd H g (.ins CG dx [("tape",.str (tx t))])):=λb o n z=>by rw [zo n];exact z
 generalize upd H g (.ins CG dx [("tape",.str (tx t))])=H1 at h1 f1;ext a;refine ⟨by decide,λsp nsp=>?_⟩;have s2:=Same.new (o:=.lst []) nsp;have h2:=s2 _ _ h1;have hs2:=zm (H:=H1) (a:=sp) (o:=.lst []);have spg:sp≠g:=λz=>by rw [z,h1] at nsp;cases nsp
 have nspH:H sp=none:=by
   cases e:H sp with
   | none=>rfl
   | some ob=>rw [f1 _ _ spg e] at nsp;cases nsp
 have f2:=f1.trans (Fx.of s2);generalize upd H1 sp (.lst [])=H2 at s2 h2 hs2 f2;refine ⟨_,_,_,h2,cd.c,cd.n_spans,by show 1<1000;decide,hk _ _ ?_⟩;rw [show putF (Str.ofString "spans") (V.ref sp) [(Str.ofString "tape",V.str (tx t))]=([("tape",.str (tx t)),("spans",.ref sp)]:List (Str × V)) from rfl];have h3:=zm (H:=H2) (a:=g) (o:=.ins CG dx [("tape",.str (tx t)),("spans",.ref sp)]);have hs3:upd H2 g (.ins CG dx [("tape",.str (tx t)),("spans",.ref sp)]) sp=some (.lst []):=by rw [zo spg];exact hs2
 have f3:Fx g H (upd H2 g (.ins CG dx [("tape",.str (tx t)),("spans",.ref sp)])):=f2.trans λb o n z=>by rw [zo n];exact z
 generalize upd H2 g (.ins CG dx [("tape",.str (tx t)),("spans",.ref sp)])=H3 at h3 hs3 f3;have G:GlAt CG g sp t (hdF none) [] H3:=⟨⟨dx,h3⟩,[],hs3,.nil⟩
 ext a;refine yU h3 rfl jt ⟨g,sp,t,none,[],0,9,rfl,G,tl,by decide,n2,by decide,by decide,λH4 f4 G4=>?_⟩;rw [n1];obtain ⟨⟨dx',hg4⟩,vs,hs4,ht4⟩:=G4;refine ⟨_,_,_,hg4,cd.c,cd.n_heads,by show 2<1000;decide,?_⟩;have G5:GlAt CG g sp t (hdF (some es.length)) [(0,9)] (upd H4 g (.ins CG dx' [("tape",.str (tx t)),("spans",.ref sp),("heads",.int (es.length:Nat))])):=by refine ⟨⟨dx',zm⟩,vs,by rw [zo spg];exact hs4,Paired.mapP ht4 λ_ _ ⟨u,e1,h1⟩=>⟨u,e1,?_⟩⟩;rw [zo (λz=>by rw [z,hg4] at h1;cases h1)];exact h1
 exact q sp _ (λb ob n z=>by
   rw [zo n];exact f4 b ob (λy=>by rw [y,nspH] at z;cases z) (f3 b ob n z)) nspH G5
end
theorem RunsL.noT {p:Addr}(h:RunsL H p rs):RunsL (L2.noT H) p rs:=by obtain ⟨vs,hv,ht⟩:=h;exact ⟨vs,x9 hv λ_ z=>(by cases z),Paired.mapP ht λ_ _ ⟨t,e1,h1⟩=>⟨t,e1,x9 h1 λ_ z=>(by cases z)⟩⟩
structure An (ts:Tabs)(H H':Hp)(u sp:Addr)(v:V)(ss:List (Nat × Nat)):Prop where
 nx:Nx ts H H'
 nu:noT H u=none
 nsp:noT H sp=none
 hu:noT H' u=some (.tup [v,.ref sp])
 hs:RunsL (noT H') sp ss
theorem sU {C g dx sp:Addr}{o1 o2:HO}(ng:H g=none)(ndx:H dx=none)(dne:dx≠g)(f1:Fx g (upd (upd H dx o1) g o2) H1)(nsp:upd (upd H dx o1) g o2 sp=none):Same H H1/\H sp=none:=by
 refine ⟨λb o e=>f1 b o (zC e ng) ?_,?_⟩;{rw [zo (zC e ng),zo (zC e ndx)];exact e}
 . have n1:sp≠g:=λz=>by rw [z,zm] at nsp;cases nsp
   rw [zo n1] at nsp;have n2:sp≠dx:=λz=>by rw [z,zm] at nsp;cases nsp
   rw [zo n2] at nsp;exact nsp
theorem An.mk' {ts:Tabs}{g sp u:Addr}{fs:List (Str × V)}(n:Nb ts sp H H')(nsp:noT H sp=none)(G:GlAt C g sp t fs ss H')(nu:H' u=none):An ts H (upd H' u (.tup [v,.ref sp])) u sp v ss:=by
 have s:=Same.new (o:=.tup [v,.ref sp]) nu;obtain ⟨vs,hv,_⟩:=G.sp;have usp:u≠sp:=λz=>by rw [z,hv] at nu;cases nu
 exact ⟨(n.trans ((Fx.of s).nb hv n.tb)).of_new nsp,Nb.free n usp (u4 nu),nsp,x9 zm λ_ z=>(by cases z),(G.sp.same s).noT⟩
def sMany (es:List Ent):List (Nat × Nat):=[(0,9)]++sPr 10 16 es.length
def spMany (ts:Tabs):Sp:=λvs H Q _=>∃ (t:List Bool) (es:List Ent),vs=[.str (tx t)]/\EsR es/\Ag (TPe es) t (sMany es)/\Tbs ts H /\
 ∀ u sp H',An ts H H' u sp (.int (BM.tot es:Nat)) (sMany es)->Q (.ref u) H'
def sHas (n:Nat)(es:List Ent):List (Nat × Nat):=[(0,9)]++sFnd (n/256) es++if thereE (n/256) es=true then sWd es (cutE (n/256) es) else []
def hasE (n:Nat)(es:List Ent):Bool:=decide (n%256∈plcE (n/256) es)
def okN (v:V):Bool:=match v with
 | .int z=>decide (0<=z/\z<=65535)
 | _=>false
theorem dj (h:okN v=true):∃ n:Nat,v=.int n/\n<=65535:=by
 cases v with
 | int z =>
   have:=wU h;exact ⟨z.toNat,by congr 1;lia,by lia⟩
 | _=>cases h
def spChkX (CN:Addr):Sp:=λvs H Q E=>∃ v:V,vs=[v]/\Scal v/\if okN v=true then Q .non H else E (.ref CN) none H
def spHas (CN:Addr)(ts:Tabs):Sp:=λvs H Q E=>∃ (t:List Bool) (v:V),vs=[.str (tx t),v]/\Scal v/\(okN v=false->E (.ref CN) none H)/\(okN v=true->∃ (n:Nat) (es:List Ent),v=.int n/\EsR es/\Ag (TPe es) t (sHas n es)/\Tbs ts H /\
 ∀ u sp H',An ts H H' u sp (.bl (hasE n es)) (sHas n es)->Q (.ref u) H')
def sBel (n:Nat)(es:List Ent):List (Nat × Nat):=sHas n es++sPr 10 16 (cutE (n/256) es)
def spBel (CN:Addr)(ts:Tabs):Sp:=λvs H Q E=>∃ (t:List Bool) (v:V),vs=[.str (tx t),v]/\Scal v/\(okN v=false->E (.ref CN) none H)/\(okN v=true->∃ (n:Nat) (es:List Ent),v=.int n/\EsR es/\Ag (TPe es) t (sBel n es)/\Tbs ts H /\
 ∀ u sp H',An ts H H' u sp (.int (belE n es:Nat)) (sBel n es)->Q (.ref u) H')
theorem o9 {k:Nat}{es:List Ent}(o:EsOk es):(thereE k es=false->plcE k es=[])/\(thereE k es=true->∃ e,es[cutE k es]?=some e/\plcE k es=e.ps):=by
 constructor
 . intro h;unfold thereE at h;unfold plcE;cases z:miE k es with
   | nil=>rfl
   | cons a b=>rw [z] at h;cases h
 . intro h;by_cases c:cutE k es<es.length
   . obtain ⟨e,he⟩:∃ e,es[cutE k es]?=some e:=⟨_,zV c⟩
     refine ⟨e,he,?_⟩;unfold plcE;rw [(at_cut o he).2 h]
   . rw [no_cut o c] at h;cases h
theorem di {k:Nat}{es:List Ent}(h:es.length<=256):(sFnd k es).length<=10:=by
 unfold sFnd;rw [zj,za];have:=uQ (m:=cutE k es) h;split;{show _+1<=_;lia};{show _+0<=_;lia}
theorem sQ (p m a:Nat):(sPr p m a).length<=1:=by cases a<;>simp [sPr]
theorem dh (es:List Ent)(i:Nat):(sWd es i).length<=4:=by unfold sWd;rw [zj,zj,zj];have:=sQ 26 14 i;have:=sQ 26 14 (i+1);show 1+_+_+1<=4;lia
theorem take_cut {k:Nat}{es:List Ent}(o:EsOk es):es.take (cutE k es)=loE k es:=by have h:(loE k es++(miE k es++hiE k es)).take (loE k es).length=loE k es:=List.take_left' rfl;rw [<- zY,<- split k o.up] at h;exact h
section
variable {CG:Addr}{ts:Tabs}
theorem ok_many (jd:MakeAt P w K mg base "Glance" CG ["self","tape"] 4 (spIniG CG))(jm:MethAt P w K mg base CG "ahead" ["self","at"] 4 (spPr CG 10 16 1))(cd:CD_Glance K mg CG)(d:DefAt K mg "packed_many" qG ["tape"]):FnAt P w K mg base "packed_many" ["tape"] 8 (spMany ts):=by
 refine FnAt.of d jam ?_ ?_;ext c;have nd:=jam.nd;obtain ⟨t,es,rfl,o,ag,tb,q⟩:=h;have tl:t.length<=100000:=by rw [ag.len];have:=o.tl;lia
 obtain ⟨a1,a2⟩:=o.ah (zi _) (ag.right);rw [wM] at a1;refine ⟨_,(zu (zd 1 (su jd (hr.mono (by decide)) rfl (zy (pv 0) zw))) (zp (zb (wz (zy (yV P w K mg base 4 (pv 1) (zy (xX K (pv 1)) zw)) (zy (xX K (pv 1)) zw)))))),?_⟩
 refine zq λk hk=>?_
 ext a;refine λg dx ng ndx dne=>⟨g,dx,t,es,rfl,zm,o,ag.left,λsp H1 f1 nsp G1=>⟨rfl,hk _ _ ?_⟩⟩
 obtain ⟨s1,nspH⟩:=sU (C:=CG) ng ndx dne f1 nsp;obtain ⟨dx1,hg1⟩:=G1.ob;obtain ⟨vs1,hs1,_⟩:=G1.sp;ext a;refine yU hg1 rfl jm (xg hg1 cd.c cd.n_heads rfl ⟨g,sp,t,some es.length,[(0,9)],es.length,rfl,G1,tl,a2,by decide,λH2 f2 G2=>?_⟩);rw [a1];obtain ⟨dx2,hg2⟩:=G2.ob;have n2:Nb ts sp H H2:=((tb.nx s1).nb).trans (f2.nb hs1 (tb.same s1));exact xg hg2 cd.c cd.n_spans rfl ⟨by decide,λu nu=>q u sp _ (An.mk' n2 (u4 nspH) G2 nu)⟩
theorem ok_hasP {CN:Addr}(cP:∃ t,mg "PLACES"=some (.int 256 t))(jN:FnR P w K mg base "check_number" ["thing"] 2 (spChkX CN))(jd:MakeAt P w K mg base "Glance" CG ["self","tape"] 4 (spIniG CG))(jax:MethAt P w K mg base CG "found" ["self","key"] 7 (spFd CG ts))(jab:MethAt P w K mg base CG "word" ["self","at"] 5 (spWr CG))(jbl:FnAt P w K mg base "bit_at" ["word","place"] 1 spBit)(cd:CD_Glance K mg CG)(d:DefAt K mg "packed_has" qE ["tape","n"]):FnR P w K mg base "packed_has" ["tape","n"] 8 (spHas CN ts):=by
 obtain ⟨tP,jh⟩:=cP;refine FnR.of d jaA (λvs H Q E h=>?_) (λf cdv A outer s H vs Q E hr h=>?_);{obtain ⟨t,v,rfl,_⟩:=h;rfl}
 obtain ⟨t,v,rfl,sv,qe,q⟩:=h;have nd:=jaA.nd;refine ⟨_,(zu (yQ (fW jN (hr.mono (by decide)) rfl (zy (pv 1) zw))) (zu (zd 2 (su jd (hr.mono (by decide)) rfl (zy (pv 0) zw))) (zu (tO (yV P w K mg base 7 (pv 2) (zy (zv xr (pv 1) (yx jh)) zw)) (vA K rfl (xu (zG 3) (xu (zG 4) vG)))) (zp (zb (wz (zy (we (pv 4) (vY (xW yo (ze jbl (zy (yV P w K mg base 5 (pv 2) (zy (pv 3) zw)) (zy (zv zL (pv 1) (yx jh)) zw))) zx))) (zy (xX K (pv 2)) zw)))))))),?_⟩
 refine zq λk hk=>?_
 ext a;refine ⟨v,rfl,sv,?_⟩;cases ov:okN v with
 | false =>
   rw [if_neg (by decide)];exact qe ov
 | true =>
 rw [if_pos rfl];obtain ⟨n,es,rfl,o,ag,tb,q⟩:=q ov;obtain ⟨n',en,n5⟩:=dj ov;have en:n=n':=by have:=V.int.inj en;lia
 subst en;refine hk _ _ (zq λk hk=>?_);ext a;refine λg dx ng ndx dne=>⟨g,dx,t,es,rfl,zm,o,ag.left.left,λsp H1 f1 nsp G1=>⟨rfl,hk _ _ (zq λk hk=>?_)⟩⟩
 obtain ⟨s1,nspH⟩:=sU (C:=CG) ng ndx dne f1 nsp;obtain ⟨dx1,hg1⟩:=G1.ob;have ed:(n:Int)/256=((n/256:Nat):Int):=by lia
 have em:(n:Int)%256=((n%256:Nat):Int):=by lia
 ext a;rw [ed];refine yU hg1 rfl jax ⟨g,sp,t,[(0,9)],es,n/256,rfl,o,G1,ag.left.right,by decide,tb.same s1,λu H2 n2 nu G2 hu=>?_⟩;have n02:Nb ts sp H H2:=((tb.nx s1).nb).trans n2;refine ⟨u,rfl,_,SqT.of hu,rfl,?_⟩;ext a;refine ⟨_,_,⟨rfl,rfl⟩,_,_,rfl,rfl,hk _ _ ?_⟩;obtain ⟨dx2,hg2⟩:=G2.ob;obtain ⟨vs2,hs2,_⟩:=G2.sp;obtain ⟨tp1,tp2⟩:=o9 (k:=n/256) o.ok;ext a;cases th:thereE (n/256) es with
 | false =>
   rw [if_neg (by decide)];have eh:hasE n es=false:=by unfold hasE;rw [tp1 th];exact yu (λz=>nomatch z)
   have es':sHas n es=[(0,9)]++sFnd (n/256) es:=by unfold sHas;rw [th,if_neg (by decide),zH]
   refine xg hg2 cd.c cd.n_spans rfl ⟨by decide,λu2 nu2=>?_⟩;rw [es',eh] at q;exact q u2 sp _ (An.mk' n02 (u4 nspH) G2 nu2)
 | true =>
   rw [if_pos rfl];obtain ⟨e,he,ep⟩:=tp2 th;have es':sHas n es=[(0,9)]++sFnd (n/256) es++sWd es (cutE (n/256) es):=by unfold sHas;rw [th,if_pos rfl]
   rw [es'] at ag q;have sl:=di (k:=n/256) o.len;refine yU hg2 rfl jab ⟨g,sp,t,_,es,cutE (n/256) es,e,rfl,o,he,G2,ag.right,by rw [zj];show 1+_<=_;lia,λH3 f3 G3=>?_⟩;rw [em];refine ⟨_,_,rfl,?_⟩;have eb:decide (V.int (((wd e.ps).testBit (n%256)).toNat:Nat)=V.int 1)=hasE n es:=by unfold hasE;rw [ep,tJ (o.ok.pup e (y4 he))];cases decide (n%256∈e.ps)<;>rfl
   obtain ⟨dx3,hg3⟩:=G3.ob;rw [<- eb] at q;exact ⟨rfl,xg hg3 cd.c cd.n_spans rfl ⟨by decide,λu2 nu2=>q u2 sp _ (An.mk' (n02.trans (f3.nb hs2 n02.tb)) (u4 nspH) G3 nu2)⟩⟩
theorem ok_belP {CN:Addr}(cP:∃ t,mg "PLACES"=some (.int 256 t))(jN:FnR P w K mg base "check_number" ["thing"] 2 (spChkX CN))(jd:MakeAt P w K mg base "Glance" CG ["self","tape"] 4 (spIniG CG))(jax:MethAt P w K mg base CG "found" ["self","key"] 7 (spFd CG ts))(jab:MethAt P w K mg base CG "word" ["self","at"] 5 (spWr CG))(jm:MethAt P w K mg base CG "ahead" ["self","at"] 4 (spPr CG 10 16 1))(jac:FnAt P w K mg base "ones_below" ["word","place"] 3 spOnes)(cd:CD_Glance K mg CG)(d:DefAt K mg "packed_below" qD ["tape","n"]):FnR P w K mg base "packed_below" ["tape","n"] 8 (spBel CN ts):=by
 obtain ⟨tP,jh⟩:=cP;refine FnR.of d jai (λvs H Q E h=>?_) (λf cdv A outer s H vs Q E hr h=>?_);{obtain ⟨t,v,rfl,_⟩:=h;rfl}
 obtain ⟨t,v,rfl,sv,qe,q⟩:=h;have nd:=jai.nd;refine ⟨_,(zu (yQ (fW jN (hr.mono (by decide)) rfl (zy (pv 1) zw))) (zu (zd 2 (su jd (hr.mono (by decide)) rfl (zy (pv 0) zw))) (zu (tO (yV P w K mg base 7 (pv 2) (zy (zv xr (pv 1) (yx jh)) zw)) (vA K rfl (xu (zG 3) (xu (zG 4) vG)))) (zu (zd 5 (rH (ya (pv 4)) (ze jac (zy (yV P w K mg base 5 (pv 2) (zy (pv 3) zw)) (zy (zv zL (pv 1) (yx jh)) zw))) zx)) (zp (zb (wz (zy (zv zX (yV P w K mg base 4 (pv 2) (zy (pv 3) zw)) (pv 5)) (zy (xX K (pv 2)) zw))))))))),?_⟩
 refine zq λk hk=>?_
 ext a;refine ⟨v,rfl,sv,?_⟩;cases ov:okN v with
 | false =>
   rw [if_neg (by decide)];exact qe ov
 | true =>
 rw [if_pos rfl];obtain ⟨n,es,rfl,o,ag,tb,q⟩:=q ov;obtain ⟨n',en,n5⟩:=dj ov;have en:n=n':=by have:=V.int.inj en;lia
 subst en;refine hk _ _ (zq λk hk=>?_);ext a;refine λg dx ng ndx dne=>⟨g,dx,t,es,rfl,zm,o,ag.left.left.left,λsp H1 f1 nsp G1=>⟨rfl,hk _ _ (zq λk hk=>?_)⟩⟩
 obtain ⟨s1,nspH⟩:=sU (C:=CG) ng ndx dne f1 nsp;obtain ⟨dx1,hg1⟩:=G1.ob;have ed:(n:Int)/256=((n/256:Nat):Int):=by lia
 have em:(n:Int)%256=((n%256:Nat):Int):=by lia
 ext a;rw [ed];refine yU hg1 rfl jax ⟨g,sp,t,[(0,9)],es,n/256,rfl,o,G1,ag.left.left.right,by decide,tb.same s1,λu H2 n2 nu G2 hu=>?_⟩;have n02:Nb ts sp H H2:=((tb.nx s1).nb).trans n2;refine ⟨u,rfl,_,SqT.of hu,rfl,?_⟩;ext a;refine ⟨_,_,⟨rfl,rfl⟩,_,_,rfl,rfl,hk _ _ (zq λk hk=>?_)⟩;obtain ⟨dx2,hg2⟩:=G2.ob;obtain ⟨vs2,hs2,_⟩:=G2.sp;obtain ⟨tp1,tp2⟩:=o9 (k:=n/256) o.ok;have tl:t.length<=100000:=by rw [ag.len];have:=o.tl;lia
 obtain ⟨a1,a2⟩:=o.ah (lS (n/256) es) ag.right;rw [take_cut o.ok] at a1;have sl:=di (k:=n/256) o.len;have sw:=dh es (cutE (n/256) es);have fin:∀ H3,Nb ts sp H H3->GlAt CG g sp t (hdF (some es.length)) (sHas n es) H3->(sHas n es).length<=1000->k [some (V.str (tx t)),some (V.int n),some (V.ref g),some (V.int (cutE (n/256) es:Nat)),some (V.bl (thereE (n/256) es)),some (V.int (((plcE (n/256) es).filter λp=>decide (p<n%256)).length:Nat))] H3:=λH3 n3 G3 l3=>by
   refine hk _ _ ?_;obtain ⟨dx3,hg3⟩:=G3.ob;obtain ⟨vs3,hs3,_⟩:=G3.sp;ext a;refine yU hg3 rfl jm ⟨g,sp,t,some es.length,_,cutE (n/256) es,rfl,G3,tl,a2,l3,λH4 f4 G4=>?_⟩;rw [a1];obtain ⟨dx4,hg4⟩:=G4.ob;have eb:((BM.tot (loE (n/256) es):Nat):Int)+((((plcE (n/256) es).filter λp=>decide (p<n%256)).length:Nat):Int)=((belE n es:Nat):Int):=by unfold belE;lia
   refine ⟨_,rfl,?_⟩;rw [eb];exact xg hg4 cd.c cd.n_spans rfl ⟨by decide,λu2 nu2=>q u2 sp _ (An.mk' (n3.trans (f4.nb hs3 n3.tb)) (u4 nspH) G4 nu2)⟩
 ext a;cases th:thereE (n/256) es with
 | false =>
   rw [if_neg (by decide)];have es':sHas n es=[(0,9)]++sFnd (n/256) es:=by unfold sHas;rw [th,if_neg (by decide),zH]
   rw [th,tp1 th,es'] at fin;exact fin H2 n02 G2 (by rw [zj];show 1+_<=_;lia)
 | true =>
   rw [if_pos rfl];obtain ⟨e,he,ep⟩:=tp2 th;have es':sHas n es=[(0,9)]++sFnd (n/256) es++sWd es (cutE (n/256) es):=by unfold sHas;rw [th,if_pos rfl]
   have agw:=ag.left;rw [es'] at agw;have em':=y4 he;refine yU hg2 rfl jab ⟨g,sp,t,_,es,cutE (n/256) es,e,rfl,o,he,G2,agw.right,by rw [zj];show 1+_<=_;lia,λH3 f3 G3=>?_⟩;rw [em];refine ⟨e.ps,_,rfl,o.ok.pup e em',o.ok.plt e em',by lia,?_⟩;rw [th,ep,es'] at fin;exact fin H3 (n02.trans (f3.nb hs2 n02.tb)) G3 (by rw [zj,zj];show 1+_+_<=_;lia)
end
theorem up_cut {k:Nat}:∀ {a:Nat} {xs:List Nat} {i x:Nat},Up a xs->xs[i]?=some x->(x<=k↔i<(xs.filter λy=>decide (y<=k)).length)
 | _,[],i,x,_,h=>by cases h
 | a,y :: xs,i,x,u,h=>by
   by_cases c:y<=k
   . rw [w8,if_pos (zK c),zZ];cases i with
     | zero =>
       cases (show y=x from Option.some.inj h);exact ⟨λ_=>by lia,λ_=>c⟩
     | succ i =>
       have:=up_cut (k:=k) (show Up (y+1) xs from u.2) (show xs[i]?=some x from h);rw [this];lia
   . have e:xs.filter (λz=>decide (z<=k))=[]:=uh.mpr λz hz=>by
       have:=(show Up (y+1) xs from u.2).of_lt z hz;simp only [vg];lia
     rw [w8,if_neg (by simpa using c),e];have xm:x=y\/x∈xs:=by
       cases i with
       | zero=>exact .inl (Option.some.inj h).symm
       | succ i=>exact .inr (y4 (show xs[i]?=some x from h))
     refine ⟨λz=>?_,λz=>by cases z⟩;rcases xm with rfl | m
     . exact absurd z c
     . have:=(show Up (y+1) xs from u.2).of_lt x m;lia
def cutC (k:Nat)(es:List Ent):Nat:=((ahs 0 es).filter λy=>decide (y<=k)).length
def sCho (k:Nat)(es:List Ent):List (Nat × Nat):=sMany es++(halv 0 es.length (cutC k es)).flatMap (sPr 10 16)++sWd es (cutC k es-1)++sPr 10 16 (cutC k es-1)++[sKy (cutC k es-1)]
def spCho (ts:Tabs):Sp:=λvs H Q _=>∃ (t:List Bool) (k x:Nat) (es:List Ent),vs=[.str (tx t),.int k]/\EsR es/\(flat es)[k]?=some x/\Ag (TPe es) t (sCho k es)/\Tbs ts H /\
 ∀ u sp H',An ts H H' u sp (.int (x:Nat)) (sCho k es)->Q (.ref u) H'
def spChR (CP:Addr):Sp:=λvs H _ E=>∃ (t:List Bool) (v:V) (es:List Ent),vs=[.str (tx t),v]/\EsR es/\Scal v/\okP v (BM.tot es)=false/\Ag (TPe es) t (sMany es)/\∀ H',Same H H'->E (.ref CP) none H'
def lpC:Pos:=match defBody u0 with | _::_::.Assign _ (.BinOp (.Subscript (.Call _ [_,.Lambda _ _ _ p] _ _) _ _) _ _ _) _::_=>p | _=>⟨0,0,0,0⟩
def qC:Str:=(Str.ofString "packed_chosen"++Str.ofString ".<locals>.")++Str.ofString "<lambda>"
theorem lO {p m:Nat}:∀ l:List Nat,(l.flatMap (sPr p m)).length<=l.length
 | []=>zi _
 | a::l=>by
   rw [xo,zj,zZ];have:=sQ p m a;have:=lO (p:=p) (m:=m) l;lia
section
variable {CG c2 P2:Addr}{ts:Tabs}
theorem ok_cho (B:Blt mg)(uq:TabsUq ts)(hm:(P2,qC,lpC)∈ts)(T_packed_chosen:TabIn base mg (c2,P2))(cP:∃ t,mg "PLACES"=some (.int 256 t))(ji:FnAt P w K mg base "is_whole" ["thing"] 1 spIsV)(jd:MakeAt P w K mg base "Glance" CG ["self","tape"] 4 (spIniG CG))(j7:∀ base,FnAt P w K mg base "halved" ["many","goes_on"] 6 (spHalvE P w K mg base))(jm:∀ base,MethAt P w K mg base CG "ahead" ["self","at"] 4 (spPr CG 10 16 1))(jbk:MethAt P w K mg base CG "key" ["self","at"] 4 (spKy CG))(jab:MethAt P w K mg base CG "word" ["self","at"] 5 (spWr CG))(jH:FnAt P w K mg base "counted" ["word"] 2 spCount)(jbm:FnAt P w K mg base "one_at" ["word","k"] 3 spOneAt)(cd:CD_Glance K mg CG)(d:DefAtC K mg "packed_chosen" u0 ["tape","k"] c2):FnAt P w K mg base "packed_chosen" ["tape","k"] 8 (spCho ts):=by
 obtain ⟨tP,jh⟩:=cP;refine FnAt.ofC d jo (λvs H Q E h=>?_) (λf A outer s H vs Q E hr h=>?_);{obtain ⟨t,k,x,es,rfl,_⟩:=h;rfl}
 obtain ⟨t,k,x,es,rfl,o,hx,ag,tb,q⟩:=h;have tl:t.length<=100000:=by rw [ag.len];have:=o.tl;lia
 have kt:k<BM.tot es:=by rw [<- uS];exact (yT.mp hx).1
 obtain ⟨n,e,y,p,en,he,hy,yk,hp',hf⟩:=qY 0 es k (zS _) (by lia);rw [uY,hx] at hf;have hf:=Option.some.inj hf;have ec:cutC k es=n+1:=en;have il:n<es.length:=(yT.mp he).1;have em':=y4 he;have yt:y=BM.tot (es.take n):=by rw [mS 0 es n il] at hy;have:=Option.some.inj hy;lia
 unfold sCho at ag;rw [ec,oO] at ag;obtain ⟨a1,a2⟩:=o.ah (zi _) ag.left.left.left.left.right;rw [wM] at a1;obtain ⟨b1,b2⟩:=o.ah (xK il) ag.left.right;have rd:∀ i,i<es.length->i∈halv 0 es.length (cutC k es)->nPr t 10 16 1 i=BM.tot (es.take i)/\(i≠0->hp (i-1)+10+16<=t.length):=λi hi hm=>o.ah (xK hi) (ag.left.left.left.right.sub λz hz=>oI.mpr ⟨i,by rw [<- ec];exact hm,hz⟩)
 obtain ⟨k1,k2⟩:=ag.right.num (p:=hp n) (m:=8) (.head _) (vw he).1 (o.ok.klt e em');have sl0:=sQ 10 16 es.length;have sl1:=lO (p:=10) (m:=16) (halv 0 es.length (cutC k es));have sl2:=uQ (m:=cutC k es) o.len;have sl3:=dh es n;have nd:=jo.nd;refine ⟨_,(zu (zd 2 (su jd (hr.mono (by decide)) rfl (zy (pv 0) zw))) (zu (zQ (PW.pt (xH (yj (ya (ze ji (zy (pv 1) zw)))) (vZ (yj (rG wK wc zx (pv 1) (yV P w K mg base 4 (pv 2) (zy (xX K (pv 2)) zw))))))) (zp (i7)) zM) (zu (zd 3 (zv yI (zN (yr K) (fq (k:=4) (caps:=["k","glance"]) (ixs:=[1,2]) (fj T_packed_chosen (fk rfl rfl rfl (by decide +kernel) rfl (by decide +kernel) (by decide +kernel) (by decide +kernel)) rfl ⟨rfl,⟨rfl,trivial⟩⟩ ⟨⟨rfl,rfl,_,rfl⟩,⟨⟨rfl,rfl,_,rfl⟩,trivial⟩⟩) rfl (λ_ _ _ _=>rfl) (λ_ _ _ _ _ _ _ hr=>(xW wK (pe_meU (P:=P) (w:=w) (K:=K) (mg:=mg) 4 (hr.mono (by decide)) (pv 2) (zy (pv 0) zw)) (pv 1))) j7 (hr.mono (by decide)) rfl (xX K (pv 2))) zx) zx)) (zu (zd 4 (yV P w K mg base 5 (pv 2) (zy (pv 3) zw))) (zu (zd 5 (zv yI (pv 1) (yV P w K mg base 4 (pv 2) (zy (pv 3) zw)))) (zu (zQ (yj (rG wK wc zx (pv 5) (ze jH (zy (pv 4) zw)))) (zp (i7)) zM) (zp (zb (wz (zy (zv zX (zv xt (yV P w K mg base 4 (pv 2) (zy (pv 3) zw)) (yx jh)) (ze jbm (zy (pv 4) (zy (pv 5) zw)))) (zy (xX K (pv 2)) zw))))))))))),?_⟩
 refine zq λkk hk=>?_
 ext a;refine λg dx ng ndx dne=>⟨g,dx,t,es,rfl,zm,o,ag.left.left.left.left.left,λsp H1 f1 nsp G1=>⟨rfl,hk _ _ (zq λkk hk=>?_)⟩⟩
 obtain ⟨s1,nspH⟩:=sU (C:=CG) ng ndx dne f1 nsp;obtain ⟨dx1,hg1⟩:=G1.ob;obtain ⟨vs1,hs1,_⟩:=G1.sp;ext a;refine ⟨_,rfl,trivial,_,rfl,?_⟩;rw [if_neg (show ¬isI (V.int (k:Int))=false from λz=>nomatch z),if_pos (show (0:Int)<=(k:Int) by lia)];refine yU hg1 rfl (jm base) (xg hg1 cd.c cd.n_heads rfl ⟨g,sp,t,some es.length,[(0,9)],es.length,rfl,G1,tl,a2,by decide,λH2 f2 G2=>⟨_,rfl,?_⟩⟩);rw [a1,if_pos (by lia)];refine hk _ _ (zq λkk hk=>?_);have n2:Nb ts sp H H2:=((tb.nx s1).nb).trans (f2.nb hs1 (tb.same s1));have tb2:=n2.tb;have hT:=tb2 _ hm;obtain ⟨dx2,hg2⟩:=G2.ob;obtain ⟨vs2,hs2,_⟩:=G2.sp;have G2:GlAt CG g sp t (hdF (some es.length)) (sMany es) H2:=G2;have l2:(sMany es).length<=2:=by unfold sMany;rw [zj];show 1+_<=_;lia
 ext a;refine xg hg2 cd.c cd.n_heads rfl ⟨λj hj=>?_,hT,λbase' fl H3 sT hT3 R=>?_⟩
 . simp only [zW,wm,wq] at hj;rcases hj with rfl | rfl
   . exact ⟨_,rfl⟩
   . exact ⟨_,rfl⟩
 have G3:=SameT.gl sT hT G2;obtain ⟨xs3,hs3,_⟩:=G3.sp;have n3:Nb ts sp H H3:=n2.trans ((tb2.grow uq hm sT hT3).nb);refine ⟨es.length,cutC k es,fl,sp,_,_,_,H2,λpr H'=>GlAt CG g sp t (hdF (some es.length)) (sMany es++pr.flatMap (sPr 10 16)) H',rfl,by rw [ec];exact il,zO o.len (by decide),R,?_,λpr H' GG=>?_,λpr H' l ob nl hl GG=>?_,λpr i H' RR hpr hi fx GG hR=>?_,λu l H4 fx nu GG hu=>?_⟩;{show GlAt CG g sp t (hdF (some es.length)) (sMany es++[]) H3;rw [zH];exact G3};{obtain ⟨xs,hx,_⟩:=GG.sp;exact ⟨xs,hx⟩};{refine GG.put (λz=>?_) hl;rw [<- z,hs3] at nl;cases nl}
 . obtain ⟨r,er⟩:=hpr;have mem:i∈halv 0 es.length (cutC k es):=by rw [<- er];exact yf _ (.head _)
   have pl:(pr.flatMap (sPr 10 16)).length<=9:=by have:=lO (p:=10) (m:=16) pr;have:=congrArg List.length er;rw [zj] at this;lia
   obtain ⟨d1,d2⟩:=rd i hi mem;obtain ⟨dx',hg'⟩:=GG.ob;ext a;refine ⟨g,rfl,_,_,_,hg',rfl,_,_,jm,g,sp,t,some es.length,sMany es++pr.flatMap (sPr 10 16),i,rfl,GG,tl,d2,by rw [zj];lia,λH5 f5 G5=>?_⟩;refine ⟨_,rfl,(k:Int),rfl,?_⟩;have ed:decide (((nPr t 10 16 1 i:Nat):Int)<=(k:Int))=decide (i<cutC k es):=by have kl:=up_cut (k:=k) (ahs_up 0 es o.ok.ne) (mS 0 es i hi);rw [d1];exact wN.mpr ⟨λz=>kl.mp (by lia),λz=>by have:=kl.mpr z;lia⟩
   rw [ed];refine hR H5 f5 ?_;show GlAt CG g sp t (hdF (some es.length)) (sMany es++(pr++[i]).flatMap (sPr 10 16)) H5;rw [rm,<- zY,xo,List.flatMap_nil,zH];exact G5
 . have GG:GlAt CG g sp t (hdF (some es.length)) (sMany es++(halv 0 es.length (cutC k es)).flatMap (sPr 10 16)) H4:=GG;have n4:Nb ts sp H H4:=n3.trans (fx.nb hs3 n3.tb);have ln4:(sMany es++(halv 0 es.length (cutC k es)).flatMap (sPr 10 16)).length<=11:=by
     rw [zj];lia
   refine ⟨u,rfl,_,SqT.of hu,_,rfl,_,rfl,hk _ _ (zq λkk hk=>?_)⟩;rw [show ((cutC k es:Nat):Int)-1=(n:Int) by lia];obtain ⟨dx4,hg4⟩:=GG.ob;obtain ⟨vs4,hs4,_⟩:=GG.sp;ext a;refine yU hg4 rfl jab ⟨g,sp,t,_,es,n,e,rfl,o,he,GG,ag.left.left.right,by lia,λH5 f5 G5=>hk _ _ (zq λkk hk=>?_)⟩;have n5:Nb ts sp H H5:=n4.trans (f5.nb hs4 n4.tb);obtain ⟨dx5,hg5⟩:=G5.ob;obtain ⟨vs5,hs5,_⟩:=G5.sp;ext a;refine yU hg5 rfl (jm base) ⟨g,sp,t,some es.length,_,n,rfl,G5,tl,b2,by rw [zj];lia,λH6 f6 G6=>⟨_,rfl,hk _ _ (zq λkk hk=>?_)⟩⟩;rw [b1,<- yt];have n6:Nb ts sp H H6:=n5.trans (f6.nb hs5 n5.tb);obtain ⟨dx6,hg6⟩:=G6.ob;obtain ⟨vs6,hs6,_⟩:=G6.sp;have kyl:k-y<e.ps.length:=(yT.mp hp').1;have ps256:=Up.lt256 (o.ok.pup e em') (o.ok.plt e em');have eky:(k:Int)-(y:Int)=((k-y:Nat):Int):=by lia
   rw [eky];ext a;rw [if_pos (show (0:Int)<=((k-y:Nat):Int) by lia)];refine ⟨e.ps,rfl,o.ok.pup e em',o.ok.plt e em',_,rfl,?_⟩;rw [if_pos (by lia)];refine hk _ _ ?_;ext a;have sl4:=sQ 10 16 n;refine yU hg6 rfl jbk ⟨g,sp,t,some es.length,_,n,rfl,G6,tl,k2,by rw [zj,zj];lia,λH7 f7 G7=>?_⟩;rw [k1];refine ⟨_,rfl,e.ps,k-y,rfl,o.ok.pup e em',kyl,by lia,_,rfl,?_⟩;have ex:(e.key:Int)*256+((e.ps.getD (k-y) 0:Nat):Int)=((x:Nat):Int):=by rw [yL,hp',hf];show (e.key:Int)*256+(p:Int)=_;lia
   rw [ex];obtain ⟨dx7,hg7⟩:=G7.ob;refine xg hg7 cd.c cd.n_spans rfl ⟨by decide,λu2 nu2=>q u2 sp _ ?_⟩;have:=An.mk' (v:=.int (x:Nat)) (n6.trans (f7.nb hs6 n6.tb)) (u4 nspH) G7 nu2;unfold sCho;rw [show cutC k es-1=n by lia];exact this
theorem ok_choR {C_NoPlace:Addr}(B:Blt mg)(xc_NoPlace:XCls K C_NoPlace)(g_NoPlace:mg "NoPlace"=some (.ref C_NoPlace))(ji:FnAt P w K mg base "is_whole" ["thing"] 1 spIsV)(jd:MakeAt P w K mg base "Glance" CG ["self","tape"] 4 (spIniG CG))(jm:MethAt P w K mg base CG "ahead" ["self","at"] 4 (spPr CG 10 16 1))(cd:CD_Glance K mg CG)(d:DefAt K mg "packed_chosen" u0 ["tape","k"]):FnR P w K mg base "packed_chosen" ["tape","k"] 8 (spChR C_NoPlace):=by
 refine FnR.of d jo (λvs H Q E h=>?_) (λf cdv A outer s H vs Q E hr h=>?_);{obtain ⟨t,v,es,rfl,_⟩:=h;rfl}
 obtain ⟨t,v,es,rfl,o,sv,nv,ag,q⟩:=h;have tl:t.length<=100000:=by rw [ag.len];have:=o.tl;lia
 obtain ⟨a1,a2⟩:=o.ah (zi _) ag.right;rw [wM] at a1;have nd:=jo.nd;refine ⟨_,(zu (zd 2 (su jd (hr.mono (by decide)) rfl (zy (pv 0) zw))) (zu (zQ (PW.pt (xH (yj (ya (ze ji (zy (pv 1) zw)))) (vZ (yj (rG wK wc zx (pv 1) (yV P w K mg base 4 (pv 2) (zy (xX K (pv 2)) zw))))))) (zp (fV xc_NoPlace g_NoPlace rfl xj)) zM) dE)),?_⟩;refine zq λkk hk=>?_
 ext a;refine λg dx ng ndx dne=>⟨g,dx,t,es,rfl,zm,o,ag.left,λsp H1 f1 nsp G1=>⟨rfl,hk _ _ (zq λkk hk=>?_)⟩⟩
 obtain ⟨s1,nspH⟩:=sU (C:=CG) ng ndx dne f1 nsp;obtain ⟨dx1,hg1⟩:=G1.ob;ext a;refine ⟨v,rfl,sv,_,rfl,?_⟩;have qa:=q H1 s1;cases v with
 | int z =>
   rw [if_neg (show ¬isI (V.int z)=false from λy=>nomatch y)];refine ⟨z,rfl,?_⟩;by_cases z0:0<=z;{rw [if_pos z0];refine yU hg1 rfl jm (xg hg1 cd.c cd.n_heads rfl ⟨g,sp,t,some es.length,[(0,9)],es.length,rfl,G1,tl,a2,by decide,λH2 f2 G2=>⟨z,rfl,_,rfl,?_⟩⟩);have nz:¬(0<=z/\z<((BM.tot es:Nat):Int)):=of_decide_eq_false nv;rw [a1,if_neg (by lia)];exact q H2 λb ob e=>f2 b ob (λy=>by rw [y,nspH] at e;cases e) (s1 _ _ e)}
   . rw [if_neg z0];exact qa
 | bl b=>exact qa
 | non=>exact qa
 | str z=>exact qa
 | _=>exact sv.elim
end
theorem ok_chkR {C_NoNumber:Addr} (cG:∃ t,mg "GREATEST"=some (.int 65535 t)) (xc_NoNumber:XCls K C_NoNumber) (g_NoNumber:mg "NoNumber"=some (.ref C_NoNumber)) (ji:FnAt P w K mg base "is_whole" ["thing"] 1 spIsV) (d:DefAt K mg "check_number" qI ["thing"]):FnR P w K mg base "check_number" ["thing"] 2 (spChkX C_NoNumber):=by
 obtain ⟨tG,jz⟩:=cG;refine FnR.of d aq (λvs H Q E h=>?_) (λf cdv A outer s H vs Q E hr h=>?_);{obtain ⟨v,rfl,_⟩:=h;rfl}
 obtain ⟨v,rfl,sv,q⟩:=h;refine ⟨_,(zp (zQ (PW.pt (xH (yj (ya (ze ji (zy (pv 0) zw)))) (vZ (yj (rG wK wK zx (pv 0) (yx jz)))))) (zp (fV xc_NoNumber g_NoNumber rfl (pe_fstr rfl jz))) zM)),?_⟩;ext a;refine ⟨v,rfl,sv,_,rfl,?_⟩;cases v with
 | int z =>
   show if true=false then _ else _
   rw [if_neg (by decide)];refine ⟨z,rfl,?_⟩;by_cases z0:0<=z
   . rw [if_pos z0];refine ⟨z,rfl,?_⟩;by_cases z1:z<=65535
     . rw [if_pos z1];rw [show okN (.int z)=true from zK ⟨z0,z1⟩,if_pos rfl] at q;exact q
     . rw [if_neg z1];rw [show okN (.int z)=false from yu λh=>z1 h.2,if_neg (by decide)] at q;exact λ_=>q
   . rw [if_neg z0];rw [show okN (.int z)=false from yu λh=>z0 h.1,if_neg (by decide)] at q;exact λ_=>q
 | bl b=>exact λ_=>q
 | non=>exact λ_=>q
 | str z=>exact λ_=>q
 | _=>exact sv.elim
def wt (ss:List (Nat × Nat)):Nat:=(ss.map λs=>s.2-s.1).sum
theorem xV (a b:List (Nat × Nat)):wt (a++b)=wt a+wt b:=by unfold wt;rw [yX,rV]
theorem lN (s:Nat × Nat)(b:List (Nat × Nat)):wt (s::b)=s.2-s.1+wt b:=rfl
def Win (n:Nat)(ss:List (Nat × Nat)):Prop:=∀ s∈ss,s.1<s.2/\s.2<=n
theorem Win.app {n:Nat}{a b:List (Nat × Nat)}(h:Win n a)(g:Win n b):Win n (a++b):=λs hs=>(zR.mp hs).elim (h s) (g s)
theorem Win.one {n a b:Nat}(h1:a<b)(h2:b<=n):Win n [(a,b)]:=λs hs=>by
 cases zA.mp hs;exact ⟨h1,h2⟩
theorem Win.nil {n:Nat}:Win n []:=λ_ h=>nomatch h
theorem uP {es:List Ent}{p m i:Nat}(h1:p+m<=40)(m0:0<m)(il:i<=es.length):Win (TPe es).length (sPr p m i):=by
 cases i with
 | zero=>exact Win.nil
 | succ j =>
   obtain ⟨e,he⟩:∃ e,es[j]?=some e:=⟨_,zV (by lia)⟩
   have:=(vw he).2.2.2.fit;exact Win.one (by lia) (by lia)
theorem lM {es:List Ent}{i:Nat}(il:i<es.length):Win (TPe es).length [sKy i]:=by
 obtain ⟨e,he⟩:∃ e,es[i]?=some e:=⟨_,zV il⟩
 exact Win.one (by lia) (vw he).1.fit
theorem df (es:List Ent):Win (TPe es).length [(0,9)]:=Win.one (by decide) (dw es).fit
theorem win_fnd (k:Nat)(es:List Ent):Win (TPe es).length (sFnd k es):=by
 unfold sFnd;refine Win.app (λs hs=>?_) ?_;{obtain ⟨i,hi,rfl⟩:=zJ.mp hs;exact lM (pB _ _ _ _ i hi) _ (.head _)}
 . split
   . rename_i c
     exact lM c
   . exact Win.nil
theorem win_wd {es:List Ent}{i:Nat}(o:EsR es)(il:i<es.length):Win (TPe es).length (sWd es i):=by
 obtain ⟨e,he⟩:∃ e,es[i]?=some e:=⟨_,zV il⟩
 have em:=y4 he;have by1:=pE he;obtain ⟨_,lb2,_⟩:=pF (o.ok.ne e em) (o.ok.pup e em);have a:=(dv he).len;rw [pI,<- show lenB (e,kN e.ps)=szB (kN e.ps) e.ps from pH _] at a;unfold sWd;exact ((((Win.one (by lia) (vw he).2.1.fit).app (uP (by decide) (by decide) (xK il))).app (uP (by decide) (by decide) il)).app (Win.one (by lia) (by lia)))
theorem lK (es:List Ent):Win (TPe es).length (sMany es):=(df es).app (uP (by decide) (by decide) (zi _))
theorem lJ {es:List Ent}(o:EsR es)(n:Nat):Win (TPe es).length (sHas n es):=by
 unfold sHas;refine ((df es).app (win_fnd _ es)).app ?_;split
 . rename_i h
   obtain ⟨e,he,_⟩:=(o9 o.ok).2 h;exact win_wd o (yT.mp he).1
 . exact Win.nil
theorem de {es:List Ent}(o:EsR es)(n:Nat):Win (TPe es).length (sBel n es):=(lJ o n).app (uP (by decide) (by decide) (lS _ _))
theorem dc {es:List Ent}(o:EsR es){k:Nat}(h:k<BM.tot es):Win (TPe es).length (sCho k es):=by obtain ⟨n,e,y,p,en,he,_⟩:=qY 0 es k (zS _) (by lia);have il:=(yT.mp he).1;have ec:cutC k es=n+1:=en;unfold sCho;rw [ec,oO];refine (((((lK es).app (λs hs=>?_)).app (win_wd o il)).app (uP (by decide) (by decide) (xK il))).app (lM il));obtain ⟨i,hi,hs⟩:=oI.mp hs;exact uP (by decide) (by decide) (xK (pB _ _ _ _ i hi)) s hs
theorem uO (p m i:Nat):wt (sPr p m i)<=m:=by
 cases i with
 | zero=>exact zS _
 | succ j =>
   show hp j+p+m-(hp j+p)+0<=m;lia
theorem dZ:∀ l:List Nat,wt (l.map sKy)=8*l.length
 | []=>rfl
 | a::l=>by
   rw [yz,lN,dZ l,zZ];show hp a+8-hp a+_=_;lia
theorem wt_fnd {k:Nat}{es:List Ent}(h:es.length<=256):wt (sFnd k es)<=80:=by
 unfold sFnd;rw [xV,dZ];have:=uQ (m:=cutE k es) h;have:wt (if cutE k es<es.length then [sKy (cutE k es)] else [])<=8:=by
   split;{show hp _+8-hp _+0<=8;lia};{exact zS _}
 lia
theorem wt_wd {es:List Ent}{i:Nat}(o:EsR es)(il:i<es.length):wt (sWd es i)<=286:=by
 obtain ⟨e,he⟩:∃ e,es[i]?=some e:=⟨_,zV il⟩
 have em:=y4 he;have by1:=pE he;obtain ⟨_,_,lb3⟩:=pF (o.ok.ne e em) (o.ok.pup e em);unfold sWd;rw [xV,xV,xV];have:=uO 26 14 i;have:=uO 26 14 (i+1);have h1:wt [(hp i+8,hp i+8+2)]<=2:=by show hp i+8+2-(hp i+8)+0<=2;lia
 have h2:wt [(hp es.length+8*byE es i,hp es.length+8*byE es i+8*(byE es (i+1)-byE es i))]<=256:=by show hp es.length+8*byE es i+8*(byE es (i+1)-byE es i)-(hp es.length+8*byE es i)+0<=256;lia
 lia
theorem lI (es:List Ent):wt (sMany es)<=25:=by unfold sMany;rw [xV];have:=uO 10 16 es.length;have h1:wt [(0,9)]=9:=rfl;lia
theorem lH {es:List Ent}(o:EsR es)(n:Nat):wt (sHas n es)<=375:=by
 unfold sHas;rw [xV,xV];have h1:wt [(0,9)]=9:=rfl;have:=wt_fnd (k:=n/256) o.len;have:wt (if thereE (n/256) es=true then sWd es (cutE (n/256) es) else [])<=286:=by
   split
   . rename_i h
     obtain ⟨e,he,_⟩:=(o9 o.ok).2 h;exact wt_wd o (yT.mp he).1
   . exact zS _
 lia
theorem wt_bel {es:List Ent}(o:EsR es)(n:Nat):wt (sBel n es)<=391:=by unfold sBel;rw [xV];have:=lH o n;have:=uO 10 16 (cutE (n/256) es);lia
theorem wt_fm {p m:Nat}:∀ l:List Nat,wt (l.flatMap (sPr p m))<=m*l.length
 | []=>zS _
 | a::l=>by
   rw [xo,xV,zZ,ny];have:=uO p m a;have:=wt_fm (p:=p) (m:=m) l;lia
theorem wt_cho {es:List Ent}(o:EsR es){k:Nat}(h:k<BM.tot es):wt (sCho k es)<=600:=by
 obtain ⟨n,e,y,p,en,he,_⟩:=qY 0 es k (zS _) (by lia);have il:=(yT.mp he).1;have ec:cutC k es=n+1:=en;unfold sCho;rw [ec,oO,xV,xV,xV,xV];have:=lI es;have:=wt_fm (p:=10) (m:=16) (halv 0 es.length (n+1));have:=uQ (m:=n+1) o.len;have:=wt_wd o il;have:=uO 10 16 n;have:wt [sKy n]<=8:=by show hp n+8-hp n+0<=8;lia
 lia
structure Gd (n:Nat)(ss:List (Nat × Nat)):Prop where
 win:Win n ss
 wt:wt ss<=700
def spSps (K:zh):Sp:=λvs H Q _=>∃ (l:Addr) (t:List Bool) (ss:List (Nat × Nat)),vs=[.ref l,.str (tx t)]/\RunsL H l ss/\Gd t.length ss/\t.length<=100000/\Q (.bl true) H
structure SpI (l:Addr)(t:List Bool)(ss:List (Nat × Nat))(H:Hp)(i:Nat)(σ:L2.St)(H':Hp):Prop where
 ex:∃ v,σ=[some (.ref l),some (.str (tx t)),some (.int (wt (ss.take i):Nat)),v]
 hp:H'=H
theorem ok_sps (B:Blt mg)(jA:FnAt P w K mg base "_law_whole" ["_law_found"] 1 spWhole)(d:DefAt K mg "_law_spans" pY ["_law_spans_here","_law_tape"]):FnAt P w K mg base "_law_spans" ["_law_spans_here","_law_tape"] 2 (spSps K):=by
 refine FnAt.of d jbd ?_ ?_;ext c;have nd:=jbd.nd;obtain ⟨l,t,ss,rfl,⟨vs,hv,ht⟩,gd,tl,q⟩:=h;have ts:(tx t).length<=sizeLine:=by rw [x8];exact small5 tl
 refine ⟨_,(zu (zQ (yj (ya (zB (vx K) rfl B.isi vy (zy (pv 0) (zy (vz (v:=.ty "list") rfl B.lst boot_list rfl) zw))))) (zp (zb yJ)) zM) (zu (zd 2 zx) (zu (yW yd rfl (yH K (pv 0)) (zG 3) (zu (zQ (PW.pt (xH (yj (ya (zB (vx K) rfl B.isi vy (zy (pv 3) (zy (vz (v:=.ty "tuple") rfl B.tup boot_tuple rfl) zw))))) (xH (zP op_ne (zB (xh K) rfl B.len yZ (zy (pv 3) zw)) zx) (xH (yj (ya (ze jA (zy (zN (yr K) (pv 3) zx) zw)))) (vZ (yj (ya (ze jA (zy (zN (yr K) (pv 3) zx) zw))))))))) (zp (zb yJ)) zM) (zu (zQ (PW.pt (xH (zP wc (zN (yr K) (pv 3) zx) zx) (xH (zP op_ge (zN (yr K) (pv 3) zx) (zN (yr K) (pv 3) zx)) (vZ (zP tM (zN (yr K) (pv 3) zx) (zB uV rfl B.len yZ (zy (pv 1) zw))))))) (zp (zb yJ)) zM) (zp (zd 2 (zv yI (zv zX (pv 2) (zN (yr K) (pv 3) zx)) (zN (yr K) (pv 3) zx))))))) (zp (zb (xW wK (pv 2) zx)))))),?_⟩
 refine zq λk hk=>?_
 ext a;refine rIsi_lst hv ⟨_,rfl,?_⟩;rw [if_neg (by decide)];refine hk _ _ (zq λk hk=>?_);ext a;refine hk _ _ (zq λk hk=>?_);ext a;refine ⟨⟨_,SqL.of hv⟩,loopL (K:=K) (xs:=vs) (SpI l t ss H) ⟨⟨_,rfl⟩,rfl⟩ (λi σ H3 _ g=>by rw [g.hp];exact SqL.of hv) ?_ ?_⟩
 . rintro i x σ H3 hx ⟨⟨v,rfl⟩,rfl⟩;obtain ⟨u,r,rfl,hr1,hu⟩:=ht.get hx;obtain ⟨w1,w2⟩:=gd.win r (y4 hr1);have tk:ss.take (i+1)=ss.take i++[r]:=by rw [yC,hr1];rfl
   refine zq λk2 hk2=>?_
   ext a;refine my hu ⟨_,rfl,?_⟩;rw [if_neg (by decide)];refine ⟨_,.inr (SqT.of hu),?_⟩;rw [if_pos (show (([V.int (r.1:Nat),V.int (r.2:Nat)].length:Nat):Int)=2 from rfl)];refine ⟨_,SqT.of hu,_,rfl,_,rfl,_,rfl,?_⟩;rw [if_neg (by decide)];refine ⟨_,SqT.of hu,_,rfl,_,rfl,_,rfl,?_⟩;rw [if_neg (by decide)];refine hk2 _ _ (zq λk2 hk2=>?_);ext a;refine ⟨_,SqT.of hu,_,rfl,_,rfl,?_⟩;rw [if_neg (by lia)];refine ⟨_,SqT.of hu,_,rfl,_,SqT.of hu,_,rfl,_,rfl,_,rfl,?_⟩;rw [if_neg (by lia)];refine ⟨_,SqT.of hu,_,rfl,ts,_,rfl,?_⟩;rw [x8,if_neg (by lia)];refine hk2 _ _ ?_;ext a;refine ⟨_,SqT.of hu,_,rfl,_,rfl,_,SqT.of hu,_,rfl,_,rfl,⟨some (.ref u),?_⟩,rfl⟩;rw [tk,xV,lN];refine congrArg (λz=>[some (V.ref l),some (V.str (tx t)),some (V.int z),some (V.ref u)]) ?_;show _=((wt (ss.take i)+(r.2-r.1+0):Nat):Int)
   lia
 . rintro σ H3 ⟨⟨v,rfl⟩,rfl⟩;refine hk _ _ ?_;ext a;rw [ht.length,wM];have:=gd.wt;rw [zK (by lia)];exact q
def spRt (b:Bool):Sp:=λvs H Q _=>∃ (u sp:Addr) (t:List Bool) (ss:List (Nat × Nat)) (v:V),vs=[.ref u,v,.str (tx t)]/\(if b=true then ∃ c,v=.bl c else ∃ z,v=.int z)/\H u=some (.tup [v,.ref sp])/\RunsL H sp ss/\Gd t.length ss/\t.length<=100000/\Q (.bl true) H
theorem ok_right (B:Blt mg)(jA:FnAt P w K mg base "_law_whole" ["_law_found"] 1 spWhole)(jI:FnAt P w K mg base "_law_spans" ["_law_spans_here","_law_tape"] 2 (spSps K))(d:DefAt K mg "_law_right" pX ["_law_found","_law_due","_law_tape"]):FnAt P w K mg base "_law_right" ["_law_found","_law_due","_law_tape"] 3 (spRt false):=by
 refine FnAt.of d jbe ?_ ?_;ext c;have nd:=jbe.nd;obtain ⟨u,sp,t,ss,v,rfl,ev,hu,hR,gd,tl,q⟩:=h;obtain ⟨z,rfl⟩:=(show ∃ z,v=.int z from ev)
 refine ⟨_,(zu (zQ (PW.pt (xH (yj (ya (zB (vx K) rfl B.isi vy (zy (pv 0) (zy (vz (v:=.ty "tuple") rfl B.tup boot_tuple rfl) zw))))) (xH (zP op_ne (zB (xh K) rfl B.len yZ (zy (pv 0) zw)) zx) (vZ (yj (ya (ze jI (zy (zN (yr K) (pv 0) zx) (zy (pv 2) zw))))))))) (zp (zb yJ)) zM) (zp (zb (we (ze jA (zy (zN (yr K) (pv 0) zx) zw)) (vY (xW yo (zN (yr K) (pv 0) zx) (pv 1))))))),?_⟩
 refine zq λk hk=>?_
 ext a;refine my hu ⟨_,rfl,?_⟩;rw [if_neg (by decide)];refine ⟨_,.inr (SqT.of hu),?_⟩;rw [if_pos (show (([V.int z,V.ref sp].length:Nat):Int)=2 from rfl)];refine ⟨_,SqT.of hu,_,rfl,sp,t,ss,rfl,hR,gd,tl,_,rfl,?_⟩;rw [if_neg (by decide)];refine hk _ _ ?_;ext a;refine ⟨_,SqT.of hu,_,rfl,_,rfl,_,rfl,?_⟩;rw [if_pos rfl];refine ⟨_,SqT.of hu,_,rfl,rfl,?_⟩;rw [zK rfl];exact q
theorem aK (B:Blt mg)(jI:FnAt P w K mg base "_law_spans" ["_law_spans_here","_law_tape"] 2 (spSps K))(d:DefAt K mg "_law_there" pW ["_law_found","_law_due","_law_tape"]):FnAt P w K mg base "_law_there" ["_law_found","_law_due","_law_tape"] 3 (spRt true):=by
 refine FnAt.of d jbf ?_ ?_;ext c;have nd:=jbf.nd;obtain ⟨u,sp,t,ss,v,rfl,ev,hu,hR,gd,tl,q⟩:=h;obtain ⟨z,rfl⟩:=(show ∃ c,v=.bl c from ev)
 refine ⟨_,(zu (zQ (PW.pt (xH (yj (ya (zB (vx K) rfl B.isi vy (zy (pv 0) (zy (vz (v:=.ty "tuple") rfl B.tup boot_tuple rfl) zw))))) (xH (zP op_ne (zB (xh K) rfl B.len yZ (zy (pv 0) zw)) zx) (vZ (yj (ya (ze jI (zy (zN (yr K) (pv 0) zx) (zy (pv 2) zw))))))))) (zp (zb yJ)) zM) (zp (zb (we (zB (vx K) rfl B.isi vy (zy (zN (yr K) (pv 0) zx) (zy (vz (v:=.ty "bool") rfl B.bool boot_bool rfl) zw))) (vY (xW yo (zN (yr K) (pv 0) zx) (pv 1))))))),?_⟩
 refine zq λk hk=>?_
 ext a;refine my hu ⟨_,rfl,?_⟩;rw [if_neg (by decide)];refine ⟨_,.inr (SqT.of hu),?_⟩;rw [if_pos (show (([V.bl z,V.ref sp].length:Nat):Int)=2 from rfl)];refine ⟨_,SqT.of hu,_,rfl,sp,t,ss,rfl,hR,gd,tl,_,rfl,?_⟩;rw [if_neg (by decide)];refine hk _ _ ?_;ext a;refine ⟨_,SqT.of hu,_,rfl,rIsi_blb.mpr ⟨_,rfl,?_⟩⟩;rw [if_pos rfl];refine ⟨_,SqT.of hu,_,rfl,rfl,?_⟩;rw [zK rfl];exact q
theorem lay_lst {ds:List PyData}(h:PyData.canLayAll0 ds=true):(PyData.list ds).canLay0=true:=by unfold PyData.canLay0;exact h
theorem lay_cons {d:PyData}{ds:List PyData}(h:d.canLay0=true)(r:PyData.canLayAll0 ds=true):PyData.canLayAll0 (d::ds)=true:=by unfold PyData.canLayAll0;rw [h,r];rfl
theorem lay_nil:PyData.canLayAll0 []=true:=by unfold PyData.canLayAll0;rfl
theorem lG {i:Int}:(PyData.int i).canLay0=true:=by unfold PyData.canLay0;rfl
theorem dep_lst {ds:List PyData}:(PyData.list ds).depth=PyData.depthAll ds+1:=by rw [PyData.depth]
theorem dep_cons {d:PyData}{ds:List PyData}:PyData.depthAll (d::ds)=max d.depth (PyData.depthAll ds):=by rw [PyData.depthAll]
theorem dep_nil:PyData.depthAll []=0:=by rw [PyData.depthAll]
theorem lF {x:Int}:(PyData.int x).depth=0:=by rw [PyData.depth]
theorem rds_of {n:Nat}:∀ {us:List V},(∀ u∈us,∃ d,RdD K H u d/\d.canLay0=true/\d.depth<=n)->∃ ds,RdDs K H us ds/\PyData.canLayAll0 ds=true/\PyData.depthAll ds<=n/\ds.length=us.length
 | [],_=>⟨[],.nil,lay_nil,by rw [dep_nil];exact zS _,rfl⟩
 | u::r,h=>by
   obtain ⟨d,h1,h2,h3⟩:=h u (.head _);obtain ⟨ds,k1,k2,k3,k4⟩:=rds_of λu hu=>h u (.tail _ hu)
   exact ⟨_,.cons h1 k1,lay_cons h2 k2,by rw [dep_cons];exact Nat.max_le.mpr ⟨h3,k3⟩,congrArg (·+1) k4⟩
theorem shp {d:PyData}(h:d.canLay0=true)(l:d.depth<=64):SeqAt.shaped d=true:=by unfold SeqAt.shaped;rw [h,zK l];rfl
theorem nil_cmp {n:Nat}{a b:Addr}{us:List V}(hn:n<=63)(h:∀ u∈us,∃ d,RdD K H u d/\d.canLay0=true/\d.depth<=n)(ha:SqL K H a us)(hb:SqL K H b []):∃ d e,RdD K H (.ref a) d/\RdD K H (.ref b) e/\SeqAt.shaped d=true/\SeqAt.shaped e=true/\SeqAt.noMix d e=true/\PySem.Spec.same d e=us.isEmpty:=by
 obtain ⟨ds,k1,k2,k3,k4⟩:=rds_of h;refine ⟨_,_,.lst ha k1,.lst hb .nil,shp (lay_lst k2) (by rw [dep_lst];lia),by decide +kernel,?_,?_⟩;{unfold SeqAt.noMix;cases ds<;>(unfold SeqAt.noMixAll;rfl)}
 . unfold Spec.same;cases ds with
   | nil =>
     cases us with
     | nil=>unfold Spec.sameAll;rfl
     | cons=>cases k4
   | cons =>
     cases us with
     | nil=>cases k4
     | cons=>unfold Spec.sameAll;rfl
theorem rEqD_nil {n:Nat}{a b:Addr}{us:List V}{Q:VK}(hn:n<=63)(h:∀ u∈us,∃ d,RdD K H u d/\d.canLay0=true/\d.depth<=n)(ha:SqL K H a us)(hb:SqL K H b [])(q:Q (.bl us.isEmpty) H):rEqD K (.ref a) (.ref b) H Q:=by obtain ⟨d,e,h1,h2,h3,h4,h5,h6⟩:=nil_cmp hn h ha hb;exact ⟨d,e,h1,h2,h3,h4,h5,h6 ▸ q⟩
def spNoN:Sp:=λvs H Q _=>∃ (t:List Bool) (v:V),vs=[.str (tx t),v]/\Scal v/\okN v=false/\∀ H',Same H H'->Q (.bl true) H'
def spNoP:Sp:=λvs H Q _=>∃ (t:List Bool) (v:V) (es:List Ent),vs=[.str (tx t),v]/\EsR es/\Scal v/\okP v (BM.tot es)=false/\Ag (TPe es) t (sMany es)/\∀ H',Same H H'->Q (.bl true) H'
section
variable {ts:Tabs}
theorem ok_noN {CN:Addr}(g_NoNumber:mg "NoNumber"=some (.ref CN))(xm:PySem.W.exmOne K (.ref CN) (.ref CN)=some true)(jx:FnR P w K mg base "packed_has" ["tape","n"] 8 (spHas CN ts))(jn:FnR P w K mg base "packed_below" ["tape","n"] 8 (spBel CN ts))(d:DefAt K mg "_law_no_number" pV ["_law_tape","_law_thing"]):FnAt P w K mg base "_law_no_number" ["_law_tape","_law_thing"] 9 spNoN:=by
 refine FnAt.of d jan ?_ ?_;ext c;have nd:=jan.nd;obtain ⟨t,v,rfl,sv,nv,q⟩:=h;refine ⟨_,(zu (zd 2 zx) (zu (mH (mJ (mI (mL jx (hr.mono (by decide)) rfl (zy (pv 0) (zy (pv 1) zw)))) mK) (ph_no K g_NoNumber (λea C dx oe vs hcX hdX hxX=>(zp (zd 2 (zv zX (pv 2) zx)))) mG rfl)) (zu (mH (mJ (mI (mL jn (hr.mono (by decide)) rfl (zy (pv 0) (zy (pv 1) zw)))) mK) (ph_no K g_NoNumber (λea C dx oe vs hcX hdX hxX=>(zp (zd 2 (zv zX (pv 2) zx)))) mG rfl)) (zp (zb (xW yo (pv 2) zx)))))),?_⟩
 refine zq λk hk=>?_
 ext a;refine hk _ _ (zq λk hk=>?_);dsimp only [tTryD,tSeq,tCallX];ext a;refine ⟨t,v,rfl,sv,λ_=>⟨CN,rfl,λea _=>⟨true,xm,?_⟩⟩,λz=>by rw [nv] at z;cases z⟩;rw [if_pos rfl];ext a;refine hk _ _ (zq λk hk=>?_);dsimp only [tTryD,tSeq,tCallX];ext a;refine ⟨t,v,rfl,sv,λ_=>⟨CN,rfl,λea _=>⟨true,xm,?_⟩⟩,λz=>by rw [nv] at z;cases z⟩;rw [if_pos rfl];ext a;refine hk _ _ ?_;ext a;exact q H (Same.refl H)
theorem ok_noP {CP:Addr}(g_NoPlace:mg "NoPlace"=some (.ref CP))(xm:PySem.W.exmOne K (.ref CP) (.ref CP)=some true)(jk:FnR P w K mg base "packed_chosen" ["tape","k"] 8 (spChR CP))(d:DefAt K mg "_law_no_place" pU ["_law_tape","_law_thing"]):FnAt P w K mg base "_law_no_place" ["_law_tape","_law_thing"] 9 spNoP:=by
 refine FnAt.of d jaB ?_ ?_;ext c;have nd:=jaB.nd;obtain ⟨t,v,es,rfl,o,sv,nv,ag,q⟩:=h;refine ⟨_,(zu (mH (mJ (mI (mL jk (hr.mono (by decide)) rfl (zy (pv 0) (zy (pv 1) zw)))) mK) (ph_no K g_NoPlace (λea C dx oe vs hcX hdX hxX=>(zp (zb yJ))) mG rfl)) (zp (zb yJ))),?_⟩
 refine zq λk hk=>?_
 dsimp only [tTryD,tSeq,tCallX];ext a;refine ⟨t,v,es,rfl,o,sv,nv,ag,λH1 s1=>⟨CP,rfl,λea _=>⟨true,xm,?_⟩⟩⟩;rw [if_pos rfl];ext a;exact q H1 s1
def spAsk (K:zh):Sp:=λvs H Q _=>∃ (a b:Addr) (ns:List Int) (zs:List Nat),vs=[.ref a,.ref b]/\SqL K H a (ns.map V.int)/\H b=some (.lst (pint zs))/\zs.length<=1000/\(∀ z∈zs,z<65536)/\∀ l xs H',Same H H'->H l=none->H' l=some (.lst (pint xs))->xs.length=10->(∀ x∈xs,x<65536)->Q (.ref l) H'
structure AkI (a b l:Addr)(H:Hp)(i:Nat)(σ:L2.St)(H':Hp):Prop where
 ex:∃ (xs:List Nat) (v3 v4 v5:Option V),σ=[some (.ref a),some (.ref b),some (.ref l),v3,v4,v5]/\H' l=some (.lst (pint xs))/\xs.length=i+2/\∀ x∈xs,x<65536
 sm:Same H H'
theorem ok_ask (B:Blt mg) (ja:FnAt P w K mg base "_law_mixed" ["_law_cell","_law_k"] 1 spMixed) (jc:FnAt P w K mg base "_law_cell_at" ["_law_script","_law_k"] 1 (spCell K)) (d:DefAt K mg "_law_asked_for" pT ["_law_script","_law_numbers_here"]):FnAt P w K mg base "_law_asked_for" ["_law_script","_law_numbers_here"] 2 (spAsk K):=by
 refine FnAt.of d jao ?_ ?_;ext c;have nd:=jao.nd;obtain ⟨a,b,ns,zs,rfl,hS,hb,zl,z6,q⟩:=h;refine ⟨_,(zu (zd 2 (yi (zy zx (zy zx zw)))) (zu (yW yd rfl (xG rfl B.range (zy zx zw)) (zG 3) (zu (zd 4 (ze ja (zy (ze jc (zy (pv 0) (zy (pv 3) zw))) (zy (zv zX zx (pv 3)) zw)))) (zp (zQ (PW.pt (xH (zP yo (zv zL (pv 4) zx) zx) (vZ (zP (tF K (hu64 hr)) (pv 1) (yi zw))))) (zp (yQ (yg K yN xU xT xY (pv 2) (zy (zv zL (zv xr (pv 4) zx) zx) zw)))) (zu (zd 5 (zv yI (zv zL (ze ja (zy (ze jc (zy (pv 0) (zy (pv 3) zw))) (zy (zv zX zx (pv 3)) zw))) zx) zx)) (zp (yQ (yg K yN xU xT xY (pv 2) (zy (zv zL (zv zX (zN (xE K) (pv 1) (zv zL (zv xr (pv 4) zx) (zB (xh K) rfl B.len yZ (zy (pv 1) zw)))) (pv 5)) zx) zw))))))))) (zp (zb (pv 2))))),?_⟩
 refine zq λk hk=>?_
 ext a;refine ⟨by decide,λl nl=>hk _ _ (zq λk hk=>?_)⟩;have s1:=Same.new (o:=.lst [V.int 0,V.int 65535]) nl;ext a;refine loopR (AkI a b l H) ⟨⟨[0,65535],_,_,_,rfl,zm,rfl,by decide⟩,s1⟩ ?_ ?_
 . rintro i σ H2 hi ⟨⟨xs,v3,v4,v5,rfl,hl,ln,lt⟩,sm⟩;refine zq λk2 hk2=>?_
   ext a;refine ⟨a,ns,i,rfl,sm.seq hS,_,_,rfl,hk2 _ _ ?_⟩;have push:∀ (z:Int) (v3 v4 v5:Option V) H3,Same H2 H3->AkI a b l H (i+1) [some (V.ref a),some (V.ref b),some (V.ref l),v3,v4,v5] (upd H3 l (.lst (pint xs++[V.int (z%65536)]))):=λz v3 v4 v5 H3 s3=>by
     have e1:=wj z (b:=65536) (by decide);have e2:=wD z (b:=65536) (by decide);obtain ⟨y,ey⟩:∃ y:Nat,z%65536=(y:Int):=⟨(z%65536).toNat,by lia⟩
     rw [ey] at e2 ⊢;refine ⟨⟨xs++[y],_,_,_,rfl,?_,by rw [zj];show _+1=_;lia,λx hx=>?_⟩,(sm.trans s3).put nl⟩;{rw [zm];unfold pint;rw [yX];rfl}
     . rcases zR.mp hx with hx | hx
       . exact lt x hx
       . cases zA.mp hx;lia
   have xl:(pint xs).length<sizeLine:=small1000x (by rw [yh];lia);ext a;split;{exact ⟨⟨_,SqL.of hl⟩,_,hl,xl,push _ _ _ _ H2 (Same.refl H2)⟩}
   . refine ⟨by decide,λp np=>?_⟩;have s3:=Same.new (o:=.lst []) np;have hb3:=s3 _ _ (sm _ _ hb);have hl3:=s3 _ _ hl;have hp3:=zm (H:=H2) (a:=p) (o:=.lst []);generalize upd H2 p (.lst [])=H3 at s3 hb3 hl3 hp3;refine rEqD_nil (n:=0) (by decide) (λu hu=>?_) (SqL.of hb3) (SqL.of hp3) ⟨_,rfl,?_⟩
     . obtain ⟨x,_,rfl⟩:=iO hu;exact ⟨_,.int _,lG,by rw [lF];exact zi _⟩
     cases zs with
     | nil =>
       rw [if_pos (show (pint []).isEmpty=true from rfl)];exact ⟨⟨_,SqL.of hl3⟩,_,hl3,xl,push _ _ _ _ H3 s3⟩
     | cons z0 zr =>
       rw [if_neg (show ¬(pint (z0::zr)).isEmpty=true from λz=>nomatch z)];refine ⟨a,ns,i,rfl,(sm.trans s3).seq hS,_,_,rfl,_,rfl,⟨_,SqL.of hl3⟩,_,.inl (SqL.of hb3),by rw [yh,zZ];lia,_,SqL.of hb3,?_⟩;rw [yh];generalize mixI (ns.getD i 0) (320+(i:Int))/3=m;have e1:=wj m (b:=(((z0::zr).length:Nat):Int)) (by rw [zZ];lia);have e2:=wD m (b:=(((z0::zr).length:Nat):Int)) (by rw [zZ];lia);obtain ⟨j,ej⟩:∃ j:Nat,m%(((z0::zr).length:Nat):Int)=(j:Int):=⟨(m%(((z0::zr).length:Nat):Int)).toNat,by lia⟩
       rw [ej] at e2 ⊢;have jl:j<(z0::zr).length:=by lia
       refine ⟨.int ((z0::zr)[j]:Nat),vD (by unfold pint;rw [yR,zV jl];rfl),_,rfl,_,hl3,xl,push _ _ _ _ H3 s3⟩
 . rintro σ H2 ⟨⟨xs,v3,v4,v5,rfl,hl,ln,lt⟩,sm⟩;refine hk _ _ ?_;ext a;exact q l xs H2 sm nl hl ln lt
structure Wy (es:List Ent)(way n:Nat)(v:V)(ss:List (Nat × Nat)):Prop where
 ex:(way=0/\v=.int (BM.tot es:Nat)/\ss=sMany es)\/(way=1/\n<=65535/\v=.bl (hasE n es)/\ss=sHas n es)\/(way=2/\n<=65535/\v=.int (belE n es:Nat)/\ss=sBel n es)\/(way=3/\(∃ x:Nat,(flat es)[n]?=some x/\v=.int (x:Nat))/\ss=sCho n es)
def spAns (ts:Tabs):Sp:=λvs H Q _=>∃ (t:List Bool) (es:List Ent) (way n:Nat) (v:V) (ss:List (Nat × Nat)),vs=[.str (tx t),.int way,.int n]/\EsR es/\Wy es way n v ss/\Ag (TPe es) t ss/\Tbs ts H/\∀ u sp H',An ts H H' u sp v ss->Q (.ref u) H'
theorem ok_ans {CN:Addr}(jV:FnAt P w K mg base "packed_many" ["tape"] 8 (spMany ts))(jbn:FnR P w K mg base "packed_has" ["tape","n"] 8 (spHas CN ts))(jbG:FnR P w K mg base "packed_below" ["tape","n"] 8 (spBel CN ts))(jk:FnAt P w K mg base "packed_chosen" ["tape","k"] 8 (spCho ts))(d:DefAt K mg "_law_answer" pS ["_law_tape","_law_way","_law_n"]):FnAt P w K mg base "_law_answer" ["_law_tape","_law_way","_law_n"] 9 (spAns ts):=by
 have jx:=jbn.calm;have jn:=jbG.calm;refine FnAt.of d ja6 ?_ ?_;ext c;have nd:=ja6.nd;obtain ⟨t,es,way,n,v,ss,rfl,o,wy,ag,tb,q⟩:=h;have okn:n<=65535->okN (.int (n:Nat))=true:=λh=>zK ⟨by lia,by lia⟩
 refine ⟨_,(zu (zQ (zP yo (pv 1) zx) (zp (zb (ze jV (zy (pv 0) zw)))) zM) (zu (zQ (zP yo (pv 1) zx) (zp (zb (ze jx (zy (pv 0) (zy (pv 2) zw))))) zM) (zu (zQ (zP yo (pv 1) zx) (zp (zb (ze jn (zy (pv 0) (zy (pv 2) zw))))) zM) (zp (zb (ze jk (zy (pv 0) (zy (pv 2) zw)))))))),?_⟩
 refine zq λk hk=>?_
 ext a;rcases wy.ex with ⟨rfl,rfl,rfl⟩ | ⟨rfl,n5,rfl,rfl⟩ | ⟨rfl,n5,rfl,rfl⟩ | ⟨rfl,⟨x,hx,rfl⟩,rfl⟩
 . rw [if_pos (show ((0:Nat):Int)=0 from rfl)];exact ⟨t,es,rfl,o,ag,tb,q⟩
 . rw [if_neg (by decide)];refine hk _ _ (zq λk hk=>?_);ext a;refine ⟨t,_,rfl,trivial,(λz=>absurd z (by rw [okn n5];decide)),λ_=>⟨n,es,rfl,o,ag,tb,q⟩⟩
 . rw [if_neg (by decide)];refine hk _ _ (zq λk hk=>?_);ext a;refine hk _ _ (zq λk hk=>?_);ext a;refine ⟨t,_,rfl,trivial,(λz=>absurd z (by rw [okn n5];decide)),λ_=>⟨n,es,rfl,o,ag,tb,q⟩⟩
 . rw [if_neg (by decide)];refine hk _ _ (zq λk hk=>?_);ext a;refine hk _ _ (zq λk hk=>?_);ext a;refine hk _ _ ?_;ext a;exact ⟨t,n,x,es,rfl,o,hx,ag,tb,q⟩
end
def inS (ss:List (Nat × Nat))(p:Nat):Bool:=ss.any λs=>decide (s.1<=p/\p<s.2)
theorem inS_of {s:Nat × Nat}{p:Nat}(h:s∈ss)(h1:s.1<=p)(h2:p<s.2):inS ss p=true:=List.any_eq_true.mpr ⟨s,h,zK ⟨h1,h2⟩⟩
theorem inS_snoc (ss:List (Nat × Nat))(s:Nat × Nat)(p:Nat):inS (ss++[s]) p=(inS ss p||decide (s.1<=p/\p<s.2)):=by unfold inS;rw [List.any_append];simp
def seenL (n:Nat)(f:Nat->Bool):List V:=(List.range n).map λp=>V.bl (f p)
theorem seen_len (n:Nat)(f:Nat->Bool):(seenL n f).length=n:=by unfold seenL;rw [za,yc]
theorem seen_set {n p:Nat}{f g:Nat->Bool}(h:∀ q,g q=if q=p then true else f q):(seenL n f).set p (.bl true)=seenL n g:=by
 unfold seenL;refine wO (by rw [oG,za,za]) λj a1 a2=>?_
 rw [List.getElem_set,w6,w6,ue,h];by_cases c:p=j;{rw [if_pos c,if_pos c.symm]};{rw [if_neg c,if_neg (Ne.symm c)]}
theorem lE {n p:Nat}{f:Nat->Bool}(h:p<n):atI (seenL n f) (p:Int)=some (.bl (f p)):=vD (by
 unfold seenL;rw [yR,List.getElem?_range h];rfl)
def spOth (K:zh):Sp:=λvs H Q _=>∃ (t:List Bool) (l:Addr) (ss:List (Nat × Nat)) (x:Int),vs=[.str (tx t),.ref l,.int x]/\RunsL H l ss/\Win t.length ss/\t.length<=100000/\∀ t' H',Same H H'->Ag t t' ss->Q (.str (tx t')) H'
structure OtI (t:List Bool)(l S:Addr)(x:Int)(ss:List (Nat × Nat))(H:Hp)(i:Nat)(σ:L2.St)(H':Hp):Prop where
 ex:∃ v4 v5 v6 v7 v8:Option V,σ=[some (.str (tx t)),some (.ref l),some (.int x),some (.ref S),v4,v5,v6,v7,v8]
 sm:Same H H'
 hS:H' S=some (.lst (seenL t.length (inS (ss.take i))))
structure OtJ (t:List Bool)(l S:Addr)(x:Int)(v4 v5 v7 v8:Option V)(r:Nat × Nat)(f:Nat->Bool)(H:Hp)(i:Nat)(σ:L2.St)(H':Hp):Prop where
 ex:∃ v6:Option V,σ=[some (.str (tx t)),some (.ref l),some (.int x),some (.ref S),v4,v5,v6,v7,v8]
 sm:Same H H'
 hS:H' S=some (.lst (seenL t.length λp=>f p||decide (r.1<=p/\p<r.1+i)))
structure OtK (t:List Bool)(l S G:Addr)(x:Int)(f:Nat->Bool)(H:Hp)(i:Nat)(σ:L2.St)(H':Hp):Prop where
 ex:∃ v4 v5 v6 v8:Option V,σ=[some (.str (tx t)),some (.ref l),some (.int x),some (.ref S),v4,v5,v6,some (.ref G),v8]
 sm:Same H H'
 hS:H' S=some (.lst (seenL t.length f))
 hG:∃ bs:List Bool,H' G=some (.lst (bs.map λb=>V.str (sg b)))/\bs.length=i/\∀ p,p<i->f p=true->bs[p]?=t[p]?
theorem str2 (z:Int):∃ b:Bool,V.str (Str.ofString (toString (z%2)))=V.str (sg b):=by
 rcases (by lia:z%2=0\/z%2=1) with e | e
 . exact ⟨false,by rw [e];exact congrArg V.str (by decide +kernel)⟩
 . exact ⟨true,by rw [e];exact congrArg V.str (by decide +kernel)⟩
theorem ok_oth (B:Blt mg) (d:DefAt K mg "_law_other" pQ ["_law_tape","_law_spans_here","_law_x"]):FnAt P w K mg base "_law_other" ["_law_tape","_law_spans_here","_law_x"] 1 (spOth K):=by
 refine FnAt.of d jbg ?_ ?_;ext c;have nd:=jbg.nd;obtain ⟨t,l,ss,x,rfl,⟨vs,hv,ht⟩,win,tl,q⟩:=h;have ts:(tx t).length<=sizeLine:=by rw [x8];exact small5 tl
 refine ⟨_,(zu (zd 3 (zv op_rep (yi (zy yJ zw)) (zB uV rfl B.len yZ (zy (pv 0) zw)))) (zu (yW yd rfl (yH K (pv 1)) (vA K rfl (xu (zG 4) (xu (zG 5) vG))) (zp (yW yd rfl (dB rfl B.range (zy (pv 4) (zy (pv 5) zw))) (zG 6) (zp (tO yJ (nX (pv 3) (pv 6) nO)))))) (zu (zd 7 (yi zw)) (zu (yW yd rfl (xG rfl B.range (zy (zB uV rfl B.len yZ (zy (pv 0) zw)) zw)) (zG 6) (zu (zd 8 (zN ix_str (pv 0) (pv 6))) (zu (zQ (PW.pt (rJ (yj (ya (zN (xE K) (pv 3) (pv 6)))) (rK (zP yo (zv zL (pv 2) zx) zx)))) (zp (zd 8 (tK nV rfl B.str boot_str (zy (tK cz rfl B.int boot_int (zy (xW yo (pv 8) xj) zw)) zw)))) (zp (zQ (yj (ya (zN (xE K) (pv 3) (pv 6)))) (zp (zd 8 (tK nV rfl B.str boot_str (zy (zv zL (zv xr (zv zX (zv xt (pv 6) (zv zX zx (zv zL (pv 2) zx))) (zv zL (zv xr (pv 2) zx) zx)) (zv zX zx (zv zL (zv xr (pv 2) zx) zx))) zx) zw)))) zM))) (zp (yQ (yg K yN xU xT xY (pv 7) (zy (pv 8) zw))))))) (zp (zb (yg K uK uI uH (tE K) xj (zy (pv 7) zw)))))))),?_⟩
 refine zq λk hk=>?_
 ext a;refine ⟨by decide,λp1 n1=>⟨ts,_,zm,by lia,by rw [x8];lia,?_,λS nS=>hk _ _ (zq λk hk=>?_)⟩⟩;{rw [x8,yp];show 1*_<=_;rw [Nat.one_mul];exact small5 tl}
 have s1:=Same.new (o:=.lst [V.bl false]) n1;have e0:(List.replicate (((tx t).length:Nat):Int).toNat [V.bl false]).flatten=seenL t.length (inS (ss.take 0)):=by
   rw [x8,yp,kZ];unfold seenL;refine wO (by rw [ug,za,yc]) λi a1 a2=>?_
   rw [kG,w6];rfl
 rw [e0];have s2:=s1.trans (Same.new (o:=.lst (seenL t.length (inS (ss.take 0)))) nS);have nSH:H S=none:=none_of s1 nS;have h2:=zm (H:=upd H p1 (.lst [V.bl false])) (a:=S) (o:=.lst (seenL t.length (inS (ss.take 0))));generalize upd (upd H p1 (.lst [V.bl false])) S (.lst (seenL t.length (inS (ss.take 0))))=H2 at s2 h2;ext a;refine ⟨⟨_,SqL.of (s2 _ _ hv)⟩,loopL (K:=K) (xs:=vs) (OtI t l S x ss H) ⟨⟨_,_,_,_,_,rfl⟩,s2,h2⟩ (λi σ H3 _ g=>SqL.of (g.sm _ _ hv)) ?_ ?_⟩
 . rintro i y σ H3 hx ⟨⟨v4,v5,v6,v7,v8,rfl⟩,sm,hS⟩;obtain ⟨u,r,rfl,hr1,hu⟩:=ht.get hx;obtain ⟨w1,w2⟩:=win r (y4 hr1);have tk:ss.take (i+1)=ss.take i++[r]:=by rw [yC,hr1];rfl
   simp only [gTup,gCons,gName,gNil];refine ⟨u,_,rfl,SqT.of (sm _ _ hu),rfl,_,_,rfl,_,_,rfl,rfl,?_⟩;ext a;refine ⟨_,_,⟨rfl,rfl⟩,⟨by lia,by lia,by lia,by lia⟩,?_⟩;rw [show ((r.2:Int)-(r.1:Int)).toNat=r.2-r.1 by lia];refine loopR (OtJ t l S x (some (.int (r.1:Nat))) (some (.int (r.2:Nat))) v7 v8 r (inS (ss.take i)) H) ⟨⟨_,rfl⟩,sm,?_⟩ ?_ ?_;{rw [hS];refine congrArg (λf=>some (HO.lst (seenL t.length f))) (funext λp=>?_);rw [yu (by lia),Bool.or_false]}
   . rintro j σ H4 hj ⟨⟨v6,rfl⟩,sm4,hS4⟩;rw [show (r.1:Int)+(j:Int)=((r.1+j:Nat):Int) by lia];ext a;refine ⟨_,hS4,r.1+j,by rw [seen_len];exact fA (by lia),⟨_,rfl⟩,sm4.put nSH,?_⟩;rw [zm,seen_set];intro q;by_cases c:q=r.1+j
     . rw [if_pos c,zK (by lia),Bool.or_true]
     . rw [if_neg c];congr 1
       exact wN.mpr (by lia)
   . rintro σ H4 ⟨⟨v6,rfl⟩,sm4,hS4⟩;refine ⟨⟨_,_,_,_,_,rfl⟩,sm4,?_⟩;rw [hS4,tk];refine congrArg (λf=>some (HO.lst (seenL t.length f))) (funext λp=>?_);rw [inS_snoc];congr 1
     exact wN.mpr (by lia)
 . rintro σ H3 ⟨⟨v4,v5,v6,v7,v8,rfl⟩,sm,hS⟩;rw [ht.length,wM] at hS;refine hk _ _ (zq λk hk=>?_);ext a;refine ⟨by decide,λG nG=>hk _ _ (zq λk hk=>?_)⟩;have s4:=sm.trans (Same.new (o:=.lst []) nG);have nGH:H G=none:=none_of sm nG;have SG:S≠G:=λz=>by rw [<- z,hS] at nG;cases nG
   ext a;refine ⟨ts,by lia,by rw [x8];lia,?_⟩;rw [x8,yp];refine loopR (OtK t l S G x (inS ss) H) ⟨⟨_,_,_,_,rfl⟩,s4,by rw [zo SG];exact hS,[],zm,rfl,λp h=>by cases h⟩ ?_ ?_
   . rintro i σ H4 hi ⟨⟨v4,v5,v6,v8,rfl⟩,sm4,hS4,bs,hG,bl,ok⟩;have bG:(bs.map λb=>V.str (sg b)).length<sizeLine:=by
       rw [za];have:=small5 (zi 100000);lia
     have e6:(0:Int)+(i:Int)=((i:Nat):Int):=by lia
     rw [e6];have fin:∀ b:Bool,(inS ss i=true->some b=t[i]?)->∀ k2:L2.St->Hp->Prop,(∀ σ' H',tDrop (tBM K "list" rAppend (tVar 7) (tCons (tVar 8) tNil)) { nx:=OtK t l S G x (inS ss) H (i+1),rt:=Q,ct:=OtK t l S G x (inS ss) H (i+1),bk:=k } σ' H'->k2 σ' H')->k2 [some (V.str (tx t)),some (V.ref l),some (V.int x),some (V.ref S),v4,v5,some (V.int (i:Nat)),some (V.ref G),some (V.str (sg b))] H4:=λb hb k2 hk2=>by
       refine hk2 _ _ ?_;ext a;refine ⟨⟨_,SqL.of hG⟩,_,hG,bG,⟨_,_,_,_,rfl⟩,sm4.put nGH,by rw [zo SG];exact hS4,bs++[b],?_,by rw [zj,bl];rfl,λp hp hp2=>?_⟩;{rw [zm,yX];rfl}
       . by_cases c:p<i
         . rw [xS (by lia)];exact ok p c hp2
         . have:p=i:=by lia
           subst this;rw [y6 (by lia),bl,wg];exact hb hp2
     refine zq λk2 hk2=>?_
     ext a;refine ⟨ts,_,vD (tx_get hi),hk2 _ _ (zq λk2 hk2=>?_)⟩;rw [<- sg_eq];have tg:t[i]?=some (t.getD i false):=by rw [yL,zV hi];rfl
     generalize t.getD i false=c0 at tg;ext a;refine ⟨_,SqL.of hS4,_,lE hi,_,rfl,?_⟩;cases sn:inS ss i with
     | true =>
       rw [if_neg (by decide)];refine ⟨_,SqL.of hS4,_,lE hi,_,rfl,?_⟩;rw [sn,if_neg (by decide)];exact fin c0 (λ_=>tg.symm) _ hk2
     | false =>
       rw [if_pos rfl];by_cases x3:x%3=0
       . rw [if_pos x3];obtain ⟨b,eb⟩:∃ b:Bool,(if sg c0=Str.ofString "0" then (1:Int) else 0)=(if b=true then 1 else 0):=by
           by_cases c:sg c0=Str.ofString "0";{exact ⟨true,by rw [if_pos c,if_pos rfl]⟩};{exact ⟨false,by rw [if_neg c,if_neg (by decide)]⟩}
         rw [eb];refine ⟨by cases b<;>decide,?_⟩;rw [show V.str (Str.ofString (toString (if b=true then (1:Int) else 0)))=V.str (sg b) by cases b<;>exact congrArg V.str (by decide +kernel)];exact fin b (λz=>by rw [sn] at z;cases z) _ hk2
       . rw [if_neg x3];refine ⟨_,SqL.of hS4,_,lE hi,_,rfl,?_⟩;rw [sn,if_pos rfl];have h9:=wj (x/448) (b:=9) (by decide);have h9':=wD (x/448) (b:=9) (by decide);generalize ((i:Nat):Int)*(1+x%7)+x/7%64=m;generalize m/(1+x/448%9)=z;refine ⟨.inl ⟨by lia,by lia⟩,⟨by lia,by lia⟩,?_,?_⟩
         . rcases (by lia:z%2=0\/z%2=1) with e | e<;>rw [e]<;>decide
         . obtain ⟨b,eb⟩:=str2 z;rw [eb];exact fin b (λy=>by rw [sn] at y;cases y) _ hk2
   . rintro σ H4 ⟨⟨v4,v5,v6,v8,rfl⟩,sm4,hS4,bs,hG,bl,ok⟩;refine hk _ _ ?_;ext a;refine ⟨bs.map sg,SqL.of ?_,?_,?_⟩
     . rw [yO];exact hG
     . rw [pK,za,bl,show (Str.ofString "").length=0 by decide +kernel];lia
     . rw [l7];exact q bs H4 sm4 ⟨bl,λs hs p h1 h2=>ok p (by have:=win s hs;lia) (inS_of hs h1 h2)⟩
theorem Wy.sc {es:List Ent}{way n:Nat}(h:Wy es way n v ss):(∃ c,v=.bl c)\/∃ z,v=.int z:=by
 rcases h.ex with ⟨_,rfl,_⟩ | ⟨_,_,rfl,_⟩ | ⟨_,_,rfl,_⟩ | ⟨_,⟨x,_,rfl⟩,_⟩
 . exact .inr ⟨_,rfl⟩
 . exact .inl ⟨_,rfl⟩
 . exact .inr ⟨_,rfl⟩
 . exact .inr ⟨_,rfl⟩
theorem Wy.gd {es:List Ent}{way n:Nat}(o:EsR es)(h:Wy es way n v ss):Gd (TPe es).length ss:=by
 rcases h.ex with ⟨_,_,rfl⟩ | ⟨_,_,_,rfl⟩ | ⟨_,_,_,rfl⟩ | ⟨_,⟨x,hx,_⟩,rfl⟩
 . exact ⟨lK es,zO (lI es) (by decide)⟩
 . exact ⟨lJ o n,zO (lH o n) (by decide)⟩
 . exact ⟨de o n,zO (wt_bel o n) (by decide)⟩
 . have kt:n<BM.tot es:=by
     rw [<- uS];exact (yT.mp hx).1
   exact ⟨dc o kt,zO (wt_cho o kt) (by decide)⟩
theorem dY {Q:VK}(h:(∃ c,v=.bl c)\/∃ z,v=.int z)(q:Q (.bl true) H):rEqD K v v H Q:=by
 rcases h with ⟨c,rfl⟩ | ⟨z,rfl⟩
 . refine ⟨_,_,.bl c,.bl c,?_,?_,?_,?_⟩
   . cases c<;>decide +kernel
   . cases c<;>decide +kernel
   . cases c<;>decide +kernel
   . cases c<;>exact q
 . refine ⟨_,_,.int z,.int z,shp lG (by rw [lF];decide),shp lG (by rw [lF];decide),?_,?_⟩
   . unfold SeqAt.noMix;rfl
   . have:PySem.Spec.same (.int z) (.int z)=true:=by simp [PySem.Spec.same]
     rw [this];exact q
def spAlo (ts:Tabs):Sp:=λvs H Q _=>∃ (es:List Ent) (way n:Nat) (x:Int) (v:V) (ss:List (Nat × Nat)),vs=[.str (tx (TPe es)),.int way,.int n,.int x]/\EsR es/\Wy es way n v ss/\Tbs ts H/\∀ H',Nx ts H H'->Q (.bl true) H'
theorem ss_len {n:Nat}:∀ {ss:List (Nat × Nat)},Win n ss->ss.length<=wt ss
 | [],_=>zi _
 | s::ss,h=>by
   have:=h s (.head _);have:=ss_len λx hx=>h x (.tail _ hx)
   rw [zZ,lN];lia
section
variable {ts:Tabs}
theorem ok_alo (B:Blt mg)(jaF:FnAt P w K mg base "_law_answer" ["_law_tape","_law_way","_law_n"] 9 (spAns ts))(jbK:FnAt P w K mg base "_law_other" ["_law_tape","_law_spans_here","_law_x"] 1 (spOth K))(d:DefAt K mg "_law_alone" pP ["_law_tape","_law_way","_law_n","_law_x"]):FnAt P w K mg base "_law_alone" ["_law_tape","_law_way","_law_n","_law_x"] 10 (spAlo ts):=by
 refine FnAt.of d jbh ?_ ?_;ext c;have nd:=jbh.nd;obtain ⟨es,way,n,x,v,ss,rfl,o,wy,tb,q⟩:=h;have gd:=wy.gd o;have sl:=ss_len gd.win;have sw:=gd.wt;refine ⟨_,(zu (zd 4 (ze jaF (zy (pv 0) (zy (pv 1) (zy (pv 2) zw))))) (zu (zd 5 (zN (yr K) (pv 4) zx)) (zu (zd 6 (tK (cA K) rfl B.lst boot_list (zy (zN (yr K) (pv 4) zx) zw))) (zu (zd 7 (ze jaF (zy (ze jbK (zy (pv 0) (zy (pv 6) (zy (pv 3) zw)))) (zy (pv 1) (zy (pv 2) zw))))) (zu (yQ (yg K yN xU xT xY (zN (yr K) (pv 4) zx) (zy (wz (zy zx (zy zx zw))) zw))) (zu (zd 8 (ze jaF (zy (pv 0) (zy (pv 1) (zy (pv 2) zw))))) (zp (zb (we (xW (tF K (hu64 hr)) (zN (yr K) (pv 7) zx) (pv 5)) (we (xW (tF K (hu64 hr)) (zN (yr K) (pv 7) zx) (pv 6)) (we (xW (tF K (hu64 hr)) (zN (yr K) (pv 8) zx) (pv 5)) (vY (xW (tF K (hu64 hr)) (zN (yr K) (pv 8) zx) (pv 6)))))))))))))),?_⟩
 refine zq λk hk=>?_
 ext a;refine ⟨_,es,way,n,v,ss,rfl,o,wy,Ag.refl,tb,λu sp H1 a1=>hk _ _ (zq λk hk=>?_)⟩;have hu1:=(oT a1.hu)
 ext a;refine ⟨_,SqT.of hu1,_,rfl,hk _ _ (zq λk hk=>?_)⟩;obtain ⟨vs1,hs1,ht1⟩:=id a1.hs;ext a;refine ⟨_,SqT.of hu1,_,rfl,?_⟩;refine ⟨sp,rfl,_,.inl (sL hs1),λl nl=>hk _ _ (zq λk hk=>?_)⟩;have s2:=Same.new (o:=.lst vs1) nl;have R2:RunsL (noT (upd H1 l (.lst vs1))) l ss:=⟨vs1,x9 zm λ_ z=>(by cases z),ht1.same s2.noT⟩
 have n2:Nx ts H (upd H1 l (.lst vs1)):=a1.nx.trans (a1.nx.tb.nx s2);have spl:sp≠l:=λz=>by rw [<- z,(oT hs1)] at nl;cases nl
 have hs2:=s2.noT _ _ hs1;have hu2:=s2.noT _ _ a1.hu;generalize upd H1 l (.lst vs1)=H2 at s2 R2 n2 hs2 hu2;ext a;refine ⟨_,l,ss,x,rfl,?_,gd.win,by have:=o.tl;lia,λt' H3 s3 ag=>⟨t',es,way,n,v,ss,rfl,o,wy,ag,n2.tb.same s3,λu3 sp3 H4 a4=>hk _ _ (zq λk hk=>?_)⟩⟩;{obtain ⟨vs2,h1,h2⟩:=R2;exact ⟨vs2,(oT h1),h2.same noT_sub⟩}
 have n4:Nx ts H H4:=(n2.trans (n2.tb.nx s3)).trans a4.nx;have S4:Same (noT H2) (noT H4):=s3.noT.trans a4.nx.same;have R4:=R2.same S4;have hs4:=S4 _ _ hs2;have hu4:=S4 _ _ hu2;ext a;refine ⟨_,SqT.of (oT hu4),_,rfl,.inl ⟨rfl,_,sL hs4⟩,by decide,λp np=>⟨sp,rfl,vs1,?_,small1000x (by rw [ht1.length];lia),hk _ _ (zq λk hk=>?_)⟩⟩;{exact (Same.new np) _ _ (oT hs4)}
 have s5:=Same.new (o:=.tup [V.int 0,V.int 1]) np;have n5:Nx ts H (upd H4 p (.tup [V.int 0,V.int 1])):=n4.trans (n4.tb.nx s5);have R5:=R4.same s5.noT;have hs5:=s5.noT _ _ hs4;have g5:=s5.noT _ _ a4.hu;have Q5:=a4.hs.same s5.noT;generalize upd H4 p (.tup [V.int 0,V.int 1])=H5 at s5 n5 R5 hs5 g5 Q5;have n6:Nb ts sp H (upd H5 sp (.lst (vs1++[.ref p]))):=(n5.nb (m:=sp)).put (oT hs5) trivial;have e6:noT (upd H5 sp (.lst (vs1++[.ref p])))=upd (noT H5) sp (.lst (vs1++[.ref p])):=noT_upd (λ_ z=>by cases z) (.inr ⟨_,hs5⟩);have nq:sp3≠sp:=λz=>by
   have h1:=s3.noT _ _ hs2;have h2:=a4.nsp;rw [z,h1] at h2;cases h2
 have R6:RunsL (noT (upd H5 sp (.lst (vs1++[.ref p])))) l ss:=by rw [e6];exact R5.put (Ne.symm spl) (.inr ⟨_,hs5⟩)
 have Q6:RunsL (noT (upd H5 sp (.lst (vs1++[.ref p])))) sp3 ss:=by rw [e6];exact Q5.put nq (.inr ⟨_,hs5⟩)
 have g6:noT (upd H5 sp (.lst (vs1++[.ref p]))) u3=some (.tup [v,.ref sp3]):=by rw [e6,zo (λz=>by rw [z,hs5] at g5;cases g5)];exact g5
 generalize upd H5 sp (.lst (vs1++[.ref p]))=H6 at n6 e6 R6 Q6 g6;ext a;refine ⟨_,es,way,n,v,ss,rfl,o,wy,Ag.refl,n6.tb,λu7 sp7 H7 a7=>hk _ _ ?_⟩;have g7:=SqT.of (K:=K) (oT (a7.nx.same _ _ g6));have R7:RunsL H7 l ss:=(R6.same a7.nx.same).same noT_sub;have Q7:RunsL H7 sp3 ss:=(Q6.same a7.nx.same).same noT_sub;have A7:RunsL H7 sp7 ss:=a7.hs.same noT_sub;have k7:=SqT.of (K:=K) (oT a7.hu);have fin:Q (.bl true) H7:=q H7 ((n6.trans a7.nx.nb).of_new a1.nsp);ext a;refine ⟨_,g7,_,rfl,dY wy.sc ⟨_,rfl,?_⟩⟩;rw [if_pos rfl];refine ⟨_,g7,_,rfl,eV Q7 R7 ⟨_,rfl,?_⟩⟩;rw [zK rfl,if_pos rfl];refine ⟨_,k7,_,rfl,dY wy.sc ⟨_,rfl,?_⟩⟩;rw [if_pos rfl];refine ⟨_,k7,_,rfl,eV A7 R7 ?_⟩;rw [zK rfl];exact fin
end
theorem inV_pint {ps:List Nat}{z:Int}(h:0<=z):inV (.int z) (pint ps)=decide (z.toNat∈ps):=by
 unfold inV pint;rw [List.any_map];have:(((λy=>eqV y (V.int z)) ∘ λ(p:Nat)=>V.int (p:Int)):Nat->Bool)=λ(p:Nat)=>decide (p=z.toNat):=by funext p;show ((p:Int)==z)=decide (p=z.toNat);rw [vf];simp;omega
 rw [this,vf];simp
theorem aJ (ps:List Nat):(pint ps).all flatV=true:=by unfold pint;rw [List.all_map];simp;intro x _;rfl
theorem dX:∀ {zs ns:List Nat},zs.Nodup->(∀ z∈zs,z∈ns)->zs.length<=ns.length
 | [],_,_,_=>zS _
 | z::zs,ns,nd,h=>by
   obtain ⟨n1,n2⟩:=vJ.mp nd;have hz:=h z (.head _);have:=dX (ns:=ns.erase z) n2 λy hy=>(List.mem_erase_of_ne (λe=>n1 (by rw [<- e];exact hy))).mpr (h y (.tail _ hy))
   rw [List.length_erase_of_mem hz] at this;have:=List.length_pos_of_mem hz;rw [zZ];lia
theorem aI {α β γ:Type}{F:α->γ->Prop}(g:β->γ){us:List α}{es:List β}(h:Paired (λu e=>F u (g e)) us es):Paired F us (es.map g):=by
 induction h with
 | nil=>exact .nil
 | cons r _ ih=>exact .cons r ih
theorem entsR {zs:List Nat}(up:Up 0 zs)(z65:∀ z∈zs,z<65536)(z700:zs.length<=700):EsR (entsOf zs):=⟨eN up z65,eI up z65,by rw [<- uS,eJ up z65];exact z700⟩
def spLaw47 (K:zh)(ts:Tabs):Sp:=λvs H Q _=>∃ (a:Addr) (ns:List Int),vs=[.ref a]/\SqL K (noT H) a (ns.map V.int)/\ns.length<=63/\Tbs ts H/\∀ H',Q (.bl true) H'
structure LwI (a p:Addr)(es:List Ent)(m:Nat)(ts:Tabs)(H:Hp)(i:Nat)(σ:L2.St)(H':Hp):Prop where
 ex:∃ v4 v5 v6 v7:Option V,σ=[some (.ref a),some (.ref p),some (.str (tx (TPe es))),some (.int (m:Nat)),v4,v5,v6,v7]
 nx:Nx ts H H'
theorem An.rt {ts:Tabs}{u sp:Addr}{Q:VK}{E:XK}(b:Bool)(h:An ts H H' u sp v ss)(hv:if b=true then ∃ c,v=.bl c else ∃ z,v=.int z)(gd:Gd t.length ss)(tl:t.length<=100000)(q:Q (.bl true) H'):spRt b [.ref u,v,.str (tx t)] H' Q E:=⟨u,sp,t,ss,v,rfl,hv,(oT h.hu),h.hs.same noT_sub,gd,tl,q⟩
theorem aH {zs:List Nat}{n:Nat}:((pint zs).filter λv=>match v with | .int i=>decide (i<(n:Int)) | _=>false)=pint (zs.filter λz=>decide (z<n)):=by unfold pint;rw [tW];refine congrArg (List.map _) (rg λz _=>?_);rw [Function.comp_apply];exact wN.mpr (by lia)
section
variable {ts:Tabs}{CN:Addr}
theorem ok_law47 (B:Blt mg)(ja:FnAt P w K mg base "_law_mixed" ["_law_cell","_law_k"] 1 spMixed)(jc:FnAt P w K mg base "_law_cell_at" ["_law_script","_law_k"] 1 (spCell K))(jar:FnAt P w K mg base "_law_numbers" ["_law_script"] 3 (spNumT K))(jbo:FnAt P w K mg base "_law_rows" ["_law_numbers_here"] 2 (spRowsT K))(jaG:FnAt P w K mg base "_law_fields" ["_law_rows_here"] 3 (spFieldsT K))(jV:FnAt P w K mg base "packed_many" ["tape"] 8 (spMany ts))(jbn:FnR P w K mg base "packed_has" ["tape","n"] 8 (spHas CN ts))(jbG:FnR P w K mg base "packed_below" ["tape","n"] 8 (spBel CN ts))(jk:FnAt P w K mg base "packed_chosen" ["tape","k"] 8 (spCho ts))(j9:FnAt P w K mg base "_law_right" ["_law_found","_law_due","_law_tape"] 3 (spRt false))(jaS:FnAt P w K mg base "_law_there" ["_law_found","_law_due","_law_tape"] 3 (spRt true))(jaE:FnAt P w K mg base "_law_asked_for" ["_law_script","_law_numbers_here"] 2 (spAsk K))(jbH:FnAt P w K mg base "_law_no_place" ["_law_tape","_law_thing"] 9 spNoP)(jbx:FnAt P w K mg base "_law_no_number" ["_law_tape","_law_thing"] 9 spNoN)(jJ:FnAt P w K mg base "_law_alone" ["_law_tape","_law_way","_law_n","_law_x"] 10 (spAlo ts))
   {fa:Addr} (FL:Fun K "law" "law" vS fa fd):FnOk P w K mg base CX0 12 fa fd ["_law_script"] (spLaw47 K ts):=by
 have jx:=jbn.calm;have jn:=jbG.calm;refine FL.ok jbL (λvs H Q E h=>?_) (λcdv A outer s H vs Q E hr h=>?_);{obtain ⟨a,ns,rfl,_⟩:=h;rfl}
 have nd:=jbL.nd;obtain ⟨a,ns,rfl,hS0,h63,tb,q⟩:=h;have hS:=hS0.noT;refine ⟨_,(zu (zd 1 (fw K rfl rfl B.sorted rfl B.st (ze jar (zy (pv 0) zw)))) (zu (zd 2 (yg K uK uI uH (tE K) xj (zy (ze jaG (zy (ze jbo (zy (pv 1) zw)) zw)) zw))) (zu (zd 3 (zB (xh K) rfl B.len yZ (zy (pv 1) zw))) (zu (zQ (yj (ya (ze j9 (zy (ze jV (zy (pv 2) zw)) (zy (pv 3) (zy (pv 2) zw)))))) (zp (zb yJ)) zM) (zu (yW yd rfl (yH K (ze jaE (zy (pv 0) (zy (pv 1) zw)))) (zG 4) (zu (zQ (yj (ya (ze jaS (zy (ze jx (zy (pv 2) (zy (pv 4) zw))) (zy (iy (op_inK K) (pv 4) (pv 1) (by with_unfolding_all rfl)) (zy (pv 2) zw)))))) (zp (zb yJ)) zM) (zp (zQ (yj (ya (ze j9 (zy (ze jn (zy (pv 2) (zy (pv 4) zw))) (zy (zB (xh K) rfl B.len yZ (zy (xF ["_law_one"] [4] rfl (yH K (pv 1)) (λ_ _ _ _ _=>yA (i:=0) (by show List.Nodup (["_law_one","_law_n"]:List Str);decide +kernel) rfl (Or.inl rfl)) (λ_ _ _ _ _=>m8 (zP wc (pv 0) (pv 1))) (λ_ _ _ _ _=>(pv 0)) ⟨⟨_,rfl,rfl,.inl rfl⟩,trivial⟩ xi) zw)) (zy (pv 2) zw)))))) (zp (zb yJ)) zM)))) (zu (zQ (zP tM (pv 3) zx) (zp (yW yd rfl (yH K (zv op_cat (yi (zy zx (zy (zv yI (pv 3) zx) zw))) (xF ["_law_j"] [3,0] rfl (xG rfl B.range (zy zx zw)) (λ_ _ _ _ _=>yA (i:=0) (by show List.Nodup (["_law_j","_law_many","_law_script"]:List Str);decide +kernel) rfl (Or.inl rfl)) (λ_ _ _ _ _=>wx) (λ_ _ _ _ _=>(zv zL (ze ja (zy (ze jc (zy (pv 2) (zy (pv 0) zw))) (zy (zv zX zx (pv 0)) zw))) (pv 1))) ⟨⟨_,rfl,rfl,.inl rfl⟩,⟨⟨_,rfl,rfl,.inl rfl⟩,trivial⟩⟩ xi))) (zG 5) (zp (zQ (yj (ya (ze j9 (zy (ze jk (zy (pv 2) (zy (pv 5) zw))) (zy (zN (xE K) (pv 1) (pv 5)) (zy (pv 2) zw)))))) (zp (zb yJ)) zM)))) zM) (zu (yW yd rfl (yH K (yi (zy (pv 3) (zy (vF vE zx) (zy (zv yI (zv yI zx zx) (zv zL (ze jc (zy (pv 0) (zy zx zw))) (zv op_pow zx zx))) (zy yJ (zy nZ (zy xj zw)))))))) (zG 6) (zp (zQ (yj (ya (ze jbH (zy (pv 2) (zy (pv 6) zw))))) (zp (zb yJ)) zM))) (zu (yW yd rfl (yH K (yi (zy zx (zy (vF vE zx) (zy (zv zX zx (zv zL (ze jc (zy (pv 0) (zy zx zw))) (zv op_pow zx zx))) (zy yJ (zy nZ (zy xj zw)))))))) (zG 6) (zp (zQ (yj (ya (ze jbx (zy (pv 2) (zy (pv 6) zw))))) (zp (zb yJ)) zM))) (zu (zd 7 (ze ja (zy (ze jc (zy (pv 0) (zy zx zw))) (zy zx zw)))) (zu (zd 4 (zN (xE K) (ze jaE (zy (pv 0) (zy (pv 1) zw))) zx)) (zu (zQ (PW.pt (rJ (zP tM (pv 3) zx) (rK (yj (ya (ze jJ (zy (pv 2) (zy zx (zy (zv zL (pv 7) (pv 3)) (zy (pv 7) zw)))))))))) (zp (zb yJ)) zM) (zp (zb (we (ze jJ (zy (pv 2) (zy zx (zy zx (zy (pv 7) zw))))) (we (ze jJ (zy (pv 2) (zy zx (zy (pv 4) (zy (zv zX (pv 7) zx) zw))))) (vY (ze jJ (zy (pv 2) (zy zx (zy (pv 4) (zy (zv zX (pv 7) zx) zw))))))))))))))))))))),?_⟩
 refine zq λk hk=>?_
 ext a;refine ⟨a,ns,rfl,hS,λr us0 H1 s1 nr hr1 n700 n65=>⟨r,rfl,us0.map λ(z:Nat)=>(z:Int),SqL.of (by rw [yO];exact hr1),by rw [za];lia,λp ks np pw mm=>hk _ _ (zq λk hk=>?_)⟩⟩;have kn:∀ y∈ks,0<=y:=λy hy=>by
   obtain ⟨n,_,rfl⟩:=zJ.mp ((mm y).mp hy);lia
 obtain ⟨zs,rfl,up⟩:∃ zs:List Nat,ks=zs.map (λ(z:Nat)=>(z:Int))/\Up 0 zs:=⟨ks.map Int.toNat,by
   rw [yO]
   conv=>lhs;rw [<- tQ ks]
   exact vh λy hy=>(Int.toNat_of_nonneg (kn y hy)).symm,lq pw kn⟩
 have mem:∀ z∈zs,z∈us0:=λz hz=>by
   obtain ⟨y,hy,e⟩:=zJ.mp ((mm (z:Int)).mp (zJ.mpr ⟨z,hz,rfl⟩));rw [show z=y by lia];exact hy
 have z65:∀ z∈zs,z<65536:=λz hz=>n65 z (mem z hz)
 have z700:zs.length<=700:=zO (dX (Up.nd' up) mem) n700;have o:=entsR up z65 z700;have ef:=eJ up z65;have et:BM.tot (entsOf zs)=zs.length:=by rw [<- uS,ef]
 rw [show (zs.map λ(z:Nat)=>(z:Int)).map V.int=pint zs from by unfold pint;rw [yO];rfl];have s2:=s1.trans (Same.new (o:=.lst (pint zs)) np);have hz:upd H1 p (.lst (pint zs)) p=some (.lst (pint zs)):=zm;generalize upd H1 p (.lst (pint zs))=H2 at s2 hz;ext a;refine ⟨p,zs,rfl,SqL.of hz,by lia,z65,λR us zs' H3 s3 nR hR pr up' mem'=>?_⟩;have ez:zs'=zs:=Up.ext up' up mem';subst ez;refine ⟨R,us,rwE (entsOf zs'),rfl,hR,aI (F:=RowK H3) (λe=>(e,kN e.ps)) pr,by rw [sV];exact o.len,λx hx=>?_,λr4 H4 s4 n4 hr4=>?_⟩;{obtain ⟨e,he,rfl⟩:=zJ.mp hx;exact ⟨kN_le e.ps,o.ok.ne e he,Up.lt256 (o.ok.pup e he) (o.ok.plt e he),o.ok.plt e he⟩}
 have s04:=(s2.trans s3).trans s4;have tlz9:=o.tl;refine ⟨r4,rfl,(fieldsT (rwE (entsOf zs'))).map tx,by rw [yO];exact SqL.of hr4,?_,hk _ _ (zq λk hk=>?_)⟩;{rw [lY,show (Str.ofString "").length=0 by decide +kernel];have:(fieldsT (rwE (entsOf zs'))).flatten.length<=20000:=tlz9;lia}
 rw [show Txt.join (Str.ofString "") ((fieldsT (rwE (entsOf zs'))).map tx)=tx (TPe (entsOf zs')) from lZ _];have hz4:=(s3.trans s4) _ _ hz;have nx4:Nx ts H H4:=tb.nx s04;have tb4:=nx4.tb;have hz4:=x9 hz4 λ_ z=>(by cases z)
 have hS4:SqL K (noT H4) a (ns.map V.int):=nx4.same.seq hS0;clear hR pr hr4 hz mm pw hr1;have ml:(pint zs').length=zs'.length:=yh _;ext a;refine ⟨_,.inl (sL hz4),hk _ _ (zq λk hk=>?_)⟩;rw [ml];have tl5:(TPe (entsOf zs')).length<=100000:=by lia
 ext a;refine ⟨_,entsOf zs',rfl,o,Ag.refl,tb4,λu sp H5 a5=>?_⟩;rw [et] at a5;refine a5.rt false ⟨_,rfl⟩ ⟨lK _,zO (lI _) (by decide)⟩ tl5 ⟨_,rfl,?_⟩;rw [if_neg (by decide)];refine hk _ _ (zq λk hk=>?_);have tb5:=a5.nx.tb;have hz5:=a5.nx.same _ _ hz4;have hS5:SqL K (noT H5) a (ns.map V.int):=a5.nx.same.seq hS4;clear a5 hz4 hS4 tb4;ext a;refine ⟨a,p,ns,zs',rfl,hS5.noT,(oT hz5),by lia,z65,λl xs H6 s6 nl hl xl x6=>?_⟩;have n6:Nx ts H5 H6:=tb5.nx s6;have hl6:=x9 hl λ_ z=>(by cases z)
 have hz6:=n6.same _ _ hz5;refine ⟨l,rfl,⟨_,SqL.of hl⟩,loopL (K:=K) (xs:=pint xs) (LwI a p (entsOf zs') zs'.length ts H6) ⟨⟨_,_,_,_,rfl⟩,Nx.refl n6.tb⟩ (λi σ H7 _ g=>sL (g.nx.same _ _ hl6)) ?_ ?_⟩
 . rintro i y σ H7 hy ⟨⟨v4,v5,v6,v7,rfl⟩,n7⟩;obtain ⟨n,hn,rfl⟩:=vB hy;have n16:n<65536:=x6 n (y4 hn);have okn:okN (.int (n:Nat))=true:=zK ⟨by lia,by lia⟩;rw [gName];refine zq λk2 hk2=>?_
   ext a;refine ⟨_,_,rfl,trivial,(λz=>absurd z (by rw [okn];decide)),λ_=>⟨n,entsOf zs',rfl,o,Ag.refl,n7.tb,λu8 sp8 H8 a8=>?_⟩⟩;have hz8:=(oT ((n7.trans a8.nx).same _ _ hz6))
   have eh:hasE n (entsOf zs')=decide (n∈zs'):=by unfold hasE;have:=flat_plc (n:=n) o.ok;rw [ef] at this;exact wN.mpr this.symm
   rw [eh] at a8;refine ⟨_,.inl (SqL.of hz8),rfl,aJ zs',?_⟩;rw [inV_pint (xA _),yp];refine a8.rt true ⟨_,rfl⟩ ⟨lJ o n,zO (lH o n) (by decide)⟩ tl5 ⟨_,rfl,?_⟩;rw [if_neg (by decide)];refine hk2 _ _ ?_;have n8:=n7.trans a8.nx;ext a;refine ⟨_,_,rfl,trivial,(λz=>absurd z (by rw [okn];decide)),λ_=>⟨n,entsOf zs',rfl,o,Ag.refl,n8.tb,λu9 sp9 H9 a9=>?_⟩⟩;have hz9:=(oT ((n8.trans a9.nx).same _ _ hz6))
   have eb:belE n (entsOf zs')=(zs'.filter λz=>decide (z<n)).length:=by rw [<- bel_flat o.ok,ef]
   rw [eb] at a9;refine ⟨⟨_,SqL.of hz9⟩,compL (K:=K) (xs:=pint zs') (λv=>match v with | .int i=>decide (i<(n:Int)) | _=>false) id (SqL.of hz9) (by rw [yh];lia) (λv H10 R hv s10 h=>?_) (λv H10 R hv _ s10 h=>?_) (λD nD=>?_)⟩;{obtain ⟨z,_,rfl⟩:=iO hv;ext a;exact h};{ext a;exact h}
   . rw [tQ,aH];have s10:=Same.new (o:=.lst (pint (zs'.filter λz=>decide (z<n)))) nD;have n10:=a9.nx.trans (a9.nx.tb.nx s10);refine ⟨D,rfl,_,.inl (SqL.of zm),?_⟩;rw [yh];have a10:An ts H8 _ u9 sp9 _ _:=⟨n10,a9.nu,a9.nsp,s10.noT _ _ a9.hu,a9.hs.same s10.noT⟩
     refine a10.rt false ⟨_,rfl⟩ ⟨de o n,zO (wt_bel o n) (by decide)⟩ tl5 ⟨_,rfl,?_⟩;rw [if_neg (by decide)];exact ⟨⟨_,_,_,_,rfl⟩,n8.trans n10⟩
 . rintro σ H7 ⟨⟨v4,v5,v6,v7,rfl⟩,n7⟩;have hz7:=n7.same _ _ hz6;have hS7:SqL K (noT H7) a (ns.map V.int):=(n6.trans n7).same.seq hS5;have tb7:=n7.tb;clear n7 hz6 hz5 hS5 hl6 hl n6 s6 nl x6 xl;refine hk _ _ (zq λk hk=>?_);have nxt:∀ (v4 v5 v6 v7:Option V) H8,Nx ts H7 H8->k [some (V.ref a),some (V.ref p),some (V.str (tx (TPe (entsOf zs')))),some (V.int (zs'.length:Nat)),v4,v5,v6,v7] H8:=λv4 v5 v6 v7 H8 n8=>by
     have hz8:=n8.same _ _ hz7;have hS8:SqL K (noT H8) a (ns.map V.int):=n8.same.seq hS7;have tb8:=n8.tb;clear n8;refine hk _ _ (zq λk hk=>?_);have c30:=wj (ns.getD 0 0) (b:=1000000000000000000000000000000) (by decide);have c31:=wj (ns.getD 1 0) (b:=1000000000000000000000000000000) (by decide);ext a;refine ⟨a,ns,0,rfl,hS8.noT,by decide,_,rfl,by decide,λp9 np9=>?_⟩;obtain ⟨xs,exs⟩:∃ xs,xs=[V.int (zs'.length:Nat),V.int (-1),V.int (-1-ns.getD 0 0%1000000000000000000000000000000),V.bl true,V.non,V.str (Str.ofString "0")]:=⟨_,rfl⟩
     rw [<- exs];have ok:∀ x∈xs,Scal x/\okP x (BM.tot (entsOf zs'))=false:=λx hx=>by
       rw [exs] at hx;rw [et];simp only [zW,wm,wq] at hx;rcases hx with rfl | rfl | rfl | rfl | rfl | rfl
       . exact ⟨trivial,yu (by lia)⟩
       . exact ⟨trivial,show decide (0<=(-1:Int)/\(-1:Int)<((zs'.length:Nat):Int))=false from yu (by lia)⟩
       . exact ⟨trivial,yu (by lia)⟩
       . exact ⟨trivial,rfl⟩
       . exact ⟨trivial,rfl⟩
       . exact ⟨trivial,rfl⟩
     clear exs;have s9:=Same.new (o:=.lst xs) np9;have h9:=x9 (zm (H:=H8) (a:=p9) (o:=.lst xs)) λ_ z=>(by cases z)
     have n9:Nx ts H8 (upd H8 p9 (.lst xs)):=tb8.nx s9;generalize upd H8 p9 (.lst xs)=H9 at s9 h9 n9;refine ⟨⟨_,sL h9⟩,loopL (K:=K) (xs:=xs) (LwI a p (entsOf zs') zs'.length ts H9) ⟨⟨_,_,_,_,rfl⟩,Nx.refl n9.tb⟩ (λi σ H10 _ g=>sL (g.nx.same _ _ h9)) ?_ ?_⟩;{rintro i y σ H10 hy ⟨⟨v4,v5,v6,v7,rfl⟩,n10⟩;obtain ⟨sc,nv⟩:=ok y (y4 hy);rw [gName];ext a;refine ⟨_,y,entsOf zs',rfl,o,sc,nv,Ag.refl,λH11 s11=>⟨_,rfl,?_⟩⟩;rw [if_neg (by decide)];exact ⟨⟨_,_,_,_,rfl⟩,n10.trans (n10.tb.nx s11)⟩}
     rintro σ H10 ⟨⟨v4,v5,v6,v7,rfl⟩,n10⟩;have hz10:=(n9.trans n10).same _ _ hz8;have hS10:SqL K (noT H10) a (ns.map V.int):=(n9.trans n10).same.seq hS8;have tb10:=n10.tb;clear n10 n9 h9 s9 ok hz8 hS8 tb8 xs;refine hk _ _ (zq λk hk=>?_);ext a;refine ⟨a,ns,1,rfl,hS10.noT,by decide,_,rfl,by decide,λp9 np9=>?_⟩;obtain ⟨xs,exs⟩:∃ xs,xs=[V.int 65536,V.int (-1),V.int (65536+ns.getD 1 0%1000000000000000000000000000000),V.bl true,V.non,V.str (Str.ofString "0")]:=⟨_,rfl⟩
     rw [<- exs];have ok:∀ x∈xs,Scal x/\okN x=false:=λx hx=>by
       rw [exs] at hx;simp only [zW,wm,wq] at hx;rcases hx with rfl | rfl | rfl | rfl | rfl | rfl
       . exact ⟨trivial,rfl⟩
       . exact ⟨trivial,rfl⟩
       . exact ⟨trivial,yu (by lia)⟩
       . exact ⟨trivial,rfl⟩
       . exact ⟨trivial,rfl⟩
       . exact ⟨trivial,rfl⟩
     clear exs;have s9:=Same.new (o:=.lst xs) np9;have h9:=x9 (zm (H:=H10) (a:=p9) (o:=.lst xs)) λ_ z=>(by cases z)
     have n9:Nx ts H10 (upd H10 p9 (.lst xs)):=tb10.nx s9;generalize upd H10 p9 (.lst xs)=H9 at s9 h9 n9;refine ⟨⟨_,sL h9⟩,loopL (K:=K) (xs:=xs) (LwI a p (entsOf zs') zs'.length ts H9) ⟨⟨_,_,_,_,rfl⟩,Nx.refl n9.tb⟩ (λi σ H10 _ g=>sL (g.nx.same _ _ h9)) ?_ ?_⟩;{rintro i y σ H11 hy ⟨⟨v4,v5,v6,v7,rfl⟩,n11⟩;obtain ⟨sc,nv⟩:=ok y (y4 hy);rw [gName];ext a;refine ⟨_,y,rfl,sc,nv,λH12 s12=>⟨_,rfl,?_⟩⟩;rw [if_neg (by decide)];exact ⟨⟨_,_,_,_,rfl⟩,n11.trans (n11.tb.nx s12)⟩}
     rintro σ H11 ⟨⟨v4,v5,v6,v7,rfl⟩,n11⟩;have hz11:=(n9.trans n11).same _ _ hz10;have hS11:SqL K (noT H11) a (ns.map V.int):=(n9.trans n11).same.seq hS10;have tb11:=n11.tb;clear n11 n9 h9 s9 ok hz10 hS10 tb10 xs;refine hk _ _ (zq λk hk=>?_);ext a;refine ⟨a,ns,0,rfl,hS11.noT,_,_,rfl,hk _ _ (zq λk hk=>?_)⟩;generalize mixI (ns.getD 0 0) 360=x;ext a;refine ⟨a,p,ns,zs',rfl,hS11.noT,(oT hz11),by lia,z65,λl xs H12 s12 nl hl xl x6=>?_⟩;have n12:Nx ts H11 H12:=tb11.nx s12;obtain ⟨n,hn⟩:∃ n,xs[2]?=some n:=⟨_,zV (by lia)⟩
     have n16:n<65536:=x6 n (y4 hn);refine ⟨l,rfl,_,SqL.of hl,.int (n:Nat),vD (j:=2) (by unfold pint;rw [yR,hn];rfl),hk _ _ (zq λk hk=>?_)⟩;have tb12:=n12.tb;have last:∀ H13,Tbs ts H13->k [some (V.ref a),some (V.ref p),some (V.str (tx (TPe (entsOf zs')))),some (V.int (zs'.length:Nat)),some (V.int (n:Nat)),v5,v6,some (V.int x)] H13:=λH13 tb13=>by
       refine hk _ _ ?_;ext a;refine ⟨entsOf zs',0,0,x,_,_,rfl,o,⟨.inl ⟨rfl,rfl,rfl⟩⟩,tb13,λH14 n14=>⟨_,rfl,?_⟩⟩;rw [if_pos rfl];refine ⟨entsOf zs',1,n,x+1,_,_,rfl,o,⟨.inr (.inl ⟨rfl,by lia,rfl,rfl⟩)⟩,n14.tb,λH15 n15=>⟨_,rfl,?_⟩⟩;rw [if_pos rfl];exact ⟨entsOf zs',2,n,x+2,_,_,rfl,o,⟨.inr (.inr (.inl ⟨rfl,by lia,rfl,rfl⟩))⟩,n15.tb,λH16 n16=>q H16⟩
     ext a;by_cases m0:0<zs'.length
     . rw [if_pos (by lia)];have e1:=wj x (b:=((zs'.length:Nat):Int)) (by lia);have e2:=wD x (b:=((zs'.length:Nat):Int)) (by lia);obtain ⟨j,ej⟩:∃ j:Nat,x%((zs'.length:Nat):Int)=(j:Int):=⟨(x%((zs'.length:Nat):Int)).toNat,by lia⟩
       have jl:j<zs'.length:=by lia
       rw [ej];refine ⟨by lia,entsOf zs',3,j,x,.int (zs'[j]:Nat),sCho j (entsOf zs'),rfl,o,⟨.inr (.inr (.inr ⟨rfl,⟨zs'[j],by rw [ef,zV jl],rfl⟩,rfl⟩))⟩,tb12,λH13 n13=>⟨_,rfl,?_⟩⟩;rw [if_neg (by decide)];exact last H13 n13.tb
     . rw [if_neg (by lia)];exact last H12 tb12
   ext a;by_cases m0:0<zs'.length
   . rw [if_pos (by lia)]
     refine ⟨by decide,λp8 np8=>?_⟩;have s8:=Same.new (o:=.lst [V.int 0,V.int ((zs'.length:Nat)-1)]) np8;have h8:=zm (H:=H7) (a:=p8) (o:=.lst [V.int 0,V.int ((zs'.length:Nat)-1)]);generalize upd H7 p8 (.lst [V.int 0,V.int ((zs'.length:Nat)-1)])=H8 at s8 h8;have mo:∀ j:Nat,∃ r:Nat,mixI (ns.getD j 0) (340+(j:Int))%((zs'.length:Nat):Int)=(r:Int)/\r<zs'.length:=λj=>by
       have e1:=wj (mixI (ns.getD j 0) (340+(j:Int))) (b:=((zs'.length:Nat):Int)) (by lia);have e2:=wD (mixI (ns.getD j 0) (340+(j:Int))) (b:=((zs'.length:Nat):Int)) (by lia);exact ⟨(mixI (ns.getD j 0) (340+(j:Int))%((zs'.length:Nat):Int)).toNat,by lia,by lia⟩
     refine compR (λ_=>true) (λj=>.int (mixI (ns.getD j 0) (340+(j:Int))%((zs'.length:Nat):Int))) (by decide) (λj H9 R hj s9 r=>r) (λj H9 R hj _ s9 r=>?_) (λD nD=>?_)
     . have e0:(0:Int)+(j:Int)=((j:Nat):Int):=by lia
       rw [e0];ext a;exact ⟨a,ns,j,rfl,(s8.trans s9).seq hS7.noT,_,_,rfl,_,rfl,by lia,r⟩
     obtain ⟨ks,ek,kl,km⟩:∃ ks:List Nat,((List.range 6).filter λ_=>true).map (λj=>V.int (mixI (ns.getD j 0) (340+(j:Int))%((zs'.length:Nat):Int)))=pint ks/\ks.length=6/\∀ x∈ks,x<zs'.length:=by
       refine ⟨(List.range 6).map λj=>(mo j).choose,?_,rfl,λx hx=>?_⟩
       . rw [vM.mpr λ_ _=>rfl];unfold pint;rw [yO];refine vh λj _=>?_
         rw [(mo j).choose_spec.1];rfl
       . obtain ⟨j,_,rfl⟩:=zJ.mp hx;exact (mo j).choose_spec.2
     rw [ek];have s9:=Same.new (o:=.lst (pint ks)) nD;have h9:=s9 _ _ h8;have g9:=zm (H:=H8) (a:=D) (o:=.lst (pint ks));generalize upd H8 D (.lst (pint ks))=H9 at s9 h9 g9;refine ⟨D,rfl,_,h9,_,g9,by rw [yh,kl];show 2+6<=_;decide,λL nL=>?_⟩;have e10:[V.int 0,V.int ((zs'.length:Nat)-1)]++pint ks=pint (0::(zs'.length-1)::ks):=by show V.int 0::V.int (((zs'.length:Nat):Int)-1)::pint ks=V.int ((0:Nat):Int)::V.int ((zs'.length-1:Nat):Int)::pint ks;rw [show ((zs'.length:Nat):Int)-1=((zs'.length-1:Nat):Int) by lia];rfl
     rw [e10];have kk:∀ x∈0::(zs'.length-1)::ks,x<zs'.length:=λx hx=>by
       rcases zW.mp hx with rfl | hx
       . exact m0
       . rcases zW.mp hx with rfl | hx
         . lia
         . exact km x hx
     have s10:=Same.new (o:=.lst (pint (0::(zs'.length-1)::ks))) nL;have hL:=zm (H:=H9) (a:=L) (o:=.lst (pint (0::(zs'.length-1)::ks)));have n10:Nx ts H7 (upd H9 L (.lst (pint (0::(zs'.length-1)::ks)))):=tb7.nx ((s8.trans s9).trans s10);generalize upd H9 L (.lst (pint (0::(zs'.length-1)::ks)))=H10 at s10 hL n10;generalize 0::(zs'.length-1)::ks=kks at kk hL;have hL:=x9 hL λ_ z=>(by cases z)
     refine ⟨⟨_,sL hL⟩,loopL (K:=K) (xs:=pint kks) (LwI a p (entsOf zs') zs'.length ts H10) ⟨⟨_,_,_,_,rfl⟩,Nx.refl n10.tb⟩ (λi σ H11 _ g=>sL (g.nx.same _ _ hL)) ?_ ?_⟩
     . rintro i y σ H11 hy ⟨⟨v4,v5,v6,v7,rfl⟩,n11⟩;obtain ⟨n,hn,rfl⟩:=vB hy;have nl:=kk n (y4 hn);have hx:(flat (entsOf zs'))[n]?=some zs'[n]:=by rw [ef,zV nl]
       rw [gName];ext a;refine ⟨_,n,zs'[n],entsOf zs',rfl,o,hx,Ag.refl,n11.tb,λu12 sp12 H12 a12=>?_⟩;have hz12:=(oT (((n10.trans n11).trans a12.nx).same _ _ hz7))
       refine ⟨_,SqL.of hz12,.int (zs'[n]:Nat),vD (by unfold pint;rw [yR,zV nl];rfl),?_⟩;have kt:n<BM.tot (entsOf zs'):=by rw [et];exact nl
       refine a12.rt false ⟨_,rfl⟩ ⟨dc o kt,zO (wt_cho o kt) (by decide)⟩ tl5 ⟨_,rfl,?_⟩;rw [if_neg (by decide)];exact ⟨⟨_,_,_,_,rfl⟩,n11.trans a12.nx⟩
     . rintro σ H11 ⟨⟨v4,v5,v6,v7,rfl⟩,n11⟩;exact nxt _ _ _ _ H11 (n10.trans n11)
   . rw [if_neg (by lia)];exact nxt _ _ _ _ H7 (Nx.refl tb7)
end
theorem xf_mk {h:Heap}{x:Str}(X:K.In h)(G:h.Ns mainGlobals mg)(a1:PySem.W.nsIn K mainGlobals x=some (some (.ref C)))(q1:PySem.W.excIn K C bmVal "ValueError.__new__"=true)(q2:PySem.W.keepIn K (.ref C)=true)(m1:PySem.W.exmOne K (.ref C) (.ref C)=some true):∃ C,mg x=some (.ref C)/\XCls K C/\PySem.W.exmOne K (.ref C) (.ref C)=some true:=⟨C,vo X G a1,⟨q1,q2⟩,m1⟩
theorem mtab_of {h:Heap}{x m:Str}{t:Addr × Addr}(X:K.In h)(G:h.Ns mainGlobals mg)(hx:mg x=some (.ref C))(ht:tabQ K (x,some m)=some t):mtabAt K C m=some t:=by
 unfold tabQ at ht;dsimp only at ht;split at ht
 . rename_i C' hC
   have e:=vo X G hC;rw [hx] at e;cases e;exact ht
 . cases ht
def lamQ:List (Str × Option Str):=[("Glance",some "found"),("packed_chosen",none)]
def tsK (K:zh):Tabs:=[((tabQAt K ("Glance",some "found")).2,qF,lpF),((tabQAt K ("packed_chosen",none)).2,qC,lpC)]
def spLawK (K:zh):Sp:=λvs H Q E=>TabsUq (tsK K)/\spLaw47 K (tsK K) vs H Q E
theorem fn_uq {k:Nat}{f:Addr}{U:Prop}(F:U->FnOk P w K mg base CX0 k f fd ps sp):FnOk P w K mg base CX0 k f fd ps (λvs H Q E=>U/\sp vs H Q E) :=
 ⟨λvs H Q E h=>(F h.1).len vs H Q E h.2,λA outer s H args us vs Q E hr he hb hv hs=>(F hs.1).run A outer s H args us vs Q E hr he hb hv hs.2⟩
theorem sql_noT {a:Addr}(h:SqL K H a xs):SqL K (noT H) a xs:=by
 rcases h with h | h
 . rcases h with h | ⟨o,h⟩
   . exact .inl (.inl (x9 h (nl _)))
   . exact .inl (.inr ⟨o,x9 h λ_ z=>by cases z⟩)
 . exact .inr h
theorem aG {K:Params->zh}(w:World)(H:Hp)(a:Addr)(ns:List Int)(h1:ns.length<=63)(h2:∀ z∈ns,Builtin.Int.intBits z<=2^20)(h3:∀ y∈lamQ,H (tabQAt (K w.params) y).2=some (.tbl #[]))(h4:(lamQ.map λx=>(tabQAt (K w.params) x).2).Nodup)(h5:SqL (K w.params) H a (ns.map V.int)):spLawK (K w.params) [.ref a] H (λv _=>v=.bl true) λ_ _ _=>False:=by
 have ne:(tabQAt (K w.params) ("Glance",some "found")).2≠(tabQAt (K w.params) ("packed_chosen",none)).2:=(vJ.mp h4).1 ∘ λz=>zW.mpr (.inl z)
 refine ⟨λt ht u hu e=>?_,a,ns,rfl,sql_noT h5,h1,λt ht=>?_,λ_=>rfl⟩
 . simp only [tsK,zW,wm,wq] at ht hu;rcases ht with rfl | rfl<;>rcases hu with rfl | rfl
   . rfl
   . exact absurd e ne
   . exact absurd e.symm ne
   . rfl
 . simp only [tsK,zW,wm,wq] at ht;rcases ht with rfl | rfl
   . exact .inl (h3 _ (.head _))
   . exact .inl (h3 _ (.tail _ (.head _)))
theorem wire47 {jbp CN CP c1 P1 c2 P2:Addr}{fa:Addr}{ts:Tabs}(B:Blt mg)(g_NoNumber:mg "NoNumber"=some (.ref CN))(xcN:XCls K CN)(xmN:PySem.W.exmOne K (.ref CN) (.ref CN)=some true)(g_NoPlace:mg "NoPlace"=some (.ref CP))(xcP:XCls K CP)(xmP:PySem.W.exmOne K (.ref CP) (.ref CP)=some true)(jaw:∃ a,mg "KINDS"=some (.ref a)/\(∃ o,List.lookup a K=some o/\o.cls=.type "tuple"/\o.dict=none)/\∀ H,SqT K H a [.str (Str.ofString "list"),.str (Str.ofString "bits"),.str (Str.ofString "runs")])(uq:TabsUq ts)(hm1:(P1,qF,lpF)∈ts)(hm2:(P2,qC,lpC)∈ts)(T1:TabIn base mg (c1,P1))(T2:TabIn base mg (c2,P2))(DF:MDefAtC K jbp "found" "Glance.found" sZ ["self","key"] c1)(DC:DefAtC K mg "packed_chosen" u0 ["tape","k"] c2)(jD:∃ t,mg "LOWER_1"=some (.int 38597363079105398474523661669562635951089994888546854679819194669304376546645 t))(jE:∃ t,mg "LOWER_2"=some (.int 23158417847463239084714197001737581570653996933128112807891516801582625927987 t))(jF:∃ t,mg "LOWER_4"=some (.int 6811299366900952671974763824040465167839410862684739061144563765171360567055 t))(jG:∃ t,mg "LOWER_8"=some (.int 450552876409790643671482431940419874915447411150352389258589821042463539455 t))(jh:∃ t,mg "PLACES"=some (.int 256 t))(jz:∃ t,mg "GREATEST"=some (.int 65535 t))(je:∃ t,mg "MANY_SIGNS"=some (.int 9 t))(jr:∃ t,mg "HEAD_SIGNS"=some (.int 40 t))(jB:∃ t,mg "KEY_SIGNS"=some (.int 8 t))(j5:∃ t,mg "LAST_AT"=some (.int 10 t))(ju:∃ t,mg "LAST_SIGNS"=some (.int 16 t))(j6:∃ t,mg "STOP_AT"=some (.int 26 t))(jv:∃ t,mg "STOP_SIGNS"=some (.int 14 t))(j8:∃ t,mg "KIND_AT"=some (.int 8 t))(jw:∃ t,mg "KIND_SIGNS"=some (.int 2 t))(jg:∃ t,mg "BYTE_SIGNS"=some (.int 8 t))(jb:CD_Glance K mg jbp)(jT:DefAt K mg "all_below" qU ["place"])(jC:DefAt K mg "without_first" qT ["word"])(jaT:DefAt K mg "counted" qS ["word"])(jad:DefAt K mg "ones_below" qR ["word","place"])(jbq:DefAt K mg "one_at" qQ ["word","k"])(jas:DefAt K mg "first_one" qP ["word"])(jaH:DefAt K mg "last_one" qO ["word"])(jbr:DefAt K mg "bit_at" qV ["word","place"])(jat:DefAt K mg "span_word" qN ["first","last"])(jaU:DefAt K mg "word_of" qM ["places"])(jO:DefAt K mg "word_of_runs" qL ["runs"])(jU:DefAt K mg "number_of" qK ["text"])(jae:DefAt K mg "head_place" qH ["at"])(jaI:DefAt K mg "is_whole" qW ["thing"])(jP:DefAt K mg "check_number" qI ["thing"])(jbs:DefAt K mg "halved" qJ ["many","goes_on"])(jW:DefAt K mg "packed_many" qG ["tape"])(jaf:DefAt K mg "packed_has" qE ["tape","n"])(jQ:DefAt K mg "packed_below" qD ["tape","n"])(jq:DefAt K mg "packed_chosen" u0 ["tape","k"])(jau:DefAt K mg "_law_cell_at" qB ["_law_script","_law_k"])(jaV:DefAt K mg "_law_whole" qA ["_law_found"])(jaW:DefAt K mg "_law_mixed" p6 ["_law_cell","_law_k"])(jaX:DefAt K mg "_law_piece" p5 ["_law_cell","_law_key"])(jav:DefAt K mg "_law_numbers" p4 ["_law_script"])(jbt:DefAt K mg "_law_bits" px ["_law_number","_law_many"])(jbu:DefAt K mg "_law_runs" pq ["_law_places"])(jbv:DefAt K mg "_law_rows" pk ["_law_numbers_here"])(jbw:DefAt K mg "_law_body" ph ["_law_places","_law_runs_here","_law_kind"])(jaJ:DefAt K mg "_law_fields" pZ ["_law_rows_here"])(jaY:DefAt K mg "_law_spans" pY ["_law_spans_here","_law_tape"])(jaZ:DefAt K mg "_law_right" pX ["_law_found","_law_due","_law_tape"])(ja0:DefAt K mg "_law_there" pW ["_law_found","_law_due","_law_tape"])(jX:DefAt K mg "_law_no_number" pV ["_law_tape","_law_thing"])(jag:DefAt K mg "_law_no_place" pU ["_law_tape","_law_thing"])(jY:DefAt K mg "_law_asked_for" pT ["_law_script","_law_numbers_here"])(jaK:DefAt K mg "_law_answer" pS ["_law_tape","_law_way","_law_n"])(ja1:DefAt K mg "_law_other" pQ ["_law_tape","_law_spans_here","_law_x"])(ja2:DefAt K mg "_law_alone" pP ["_law_tape","_law_way","_law_n","_law_x"])(FL:Fun K "law" "law" vS fa fd):FnOk P w K mg base CX0 40 fa fd ["_law_script"] (spLaw47 K ts):=by
 have ja:=ok_mixed (P:=P) (w:=w) (base:=base) jaW;have jc:=ao (P:=P) (w:=w) (base:=base) B jau;have jA:=ok_whole (P:=P) (w:=w) (base:=base) B jaV;have jap:=aY (P:=P) (w:=w) (base:=base) (dq jT) jat
 have jaq:=aU (P:=P) (w:=w) (base:=base) (aV jaH) jas;have jH:=aW (P:=P) (w:=w) (base:=base) ⟨jD,jE,jF,jG⟩ jaT;have jaR:=aS (P:=P) (w:=w) (base:=base) jaU;have jM:=aR (P:=P) (w:=w) (base:=base) jap jO;have jac:=aO (P:=P) (w:=w) (base:=base) (dq jT) jH jad;have jbl:=aQ (P:=P) (w:=w) (base:=base) jbr;have jbm:=aP (P:=P) (w:=w) (base:=base) B (aX jC) jaq jbq;have ji:=aM (P:=P) (w:=w) (base:=base) B jaI;have jbT:=ok_chkR (P:=P) (w:=w) (base:=base) jz xcN g_NoNumber ji jP;have j7:=λbase=>ok_halvE (P:=P) (w:=w) (base:=base) jbs
 have jbI:=λbase=>ok_nm (ok_sg (P:=P) (w:=w) (base:=base) B jb) (eS jU) jb
 have h_hp:=λbase=>ok_hp (P:=P) (w:=w) (base:=base) je jr jae
 have jbk:=λbase=>ok_ky jB (h_hp base) (jbI base) jb
 have jm:=λbase=>ok_ah j5 ju (h_hp base) (jbI base) jb
 have h_ba:=ok_ba j6 jv (h_hp base) (jbI base) jb;have jax:=ok_fd B uq hm1 T1 j7 jbk jb DF;have jab:=ok_wr B ⟨j8,jw,jg⟩ jaw (h_hp base) (eS jU) jaR jM (ok_sg B jb) (jbI base) h_ba jb;have jd:=ok_iniG je (jbI base) jb;have jbM:=ok_many (ts:=ts) jd (jm base) jb jW;have jbn:=ok_hasP jh jbT jd jax jab jbl jb jaf;have jbN:=ok_belP jh jbT jd jax jab (jm base) jac jb jQ;have jbU:=ok_cho B uq hm2 T2 jh ji jd j7 jm (jbk base) jab jH jbm jb DC;have jbV:=ok_choR B xcP g_NoPlace ji jd (jm base) jb jq;have jaQ:=ok_pcT (P:=P) (w:=w) (base:=base) B ja jaX;have jar:=ok_numT (P:=P) (w:=w) (base:=base) B ja jc jaQ jav;have jj:=ok_bitsL (P:=P) (w:=w) (base:=base) B jbt;have jbi:=ok_runsS (P:=P) (w:=w) (base:=base) jbu;have jbo:=ok_rowsT (P:=P) (w:=w) (base:=base) B jbi jbv;have jbj:=ok_bodyT (P:=P) (w:=w) (base:=base) B jj jbw;have jaG:=af (P:=P) (w:=w) (base:=base) B jj jbj jaJ;have jI:=ok_sps B jA jaY;have j9:=ok_right B jA jI jaZ;have jaS:=aK B jI ja0;have jbP:=ok_noN g_NoNumber xmN jbn jbN jX;have jbQ:=ok_noP g_NoPlace xmP jbV jag;have jbR:=ok_ask B ja jc jY;have jbS:=ok_ans jbM jbn jbN jbU jaK;have jJ:=ok_alo B jbS (ok_oth B ja1) ja2;exact (ok_law47 B ja jc jar jbo jaG jbM jbn jbN jbU j9 jaS jbR jbQ jbP jJ FL).mono (by decide)
theorem law_mk {h:Heap}{fa f:Addr}{oc:Value}{od an:Option Addr}{kV doc pm cdv ct:Value}(X:K.In h)(G:h.Ns mainGlobals mg)(hfa:mg "law"=some (.ref fa))(a:PySem.W.nsIn K mainGlobals "law"=some (some (.ref f)))
   (l:K.lookup f=some ⟨oc,od,.func (PySem.W.fnOf "law" "law" (defArgs vS) (defBody vS) (defScope vS) .none kV doc pm an cdv ct),osl⟩) (c:PySem.W.codeIn K cdv "law"=true) (k:PySem.W.keepIn K (.ref f)=true) :
   ∃ fd,Fun K "law" "law" vS fa fd/\∀ (s:Shared) (v:Value),BindsTo s fd ⟨[v],[]⟩ [("_law_script",v)]:=by
 have e:=hfa.symm.trans (vo X G a);cases e;exact ⟨_,vC l c k,λs v=>.of_eq rfl⟩
theorem walkT {l:PySem.W.OpenLaw}{q:Program}{loose:List Str}{XP:(Str->Option Value)->Heap->Prop}{YP:World->Heap->Prop}{d:DefRec}{K:Params->zh}(hn:l.most=some 63)(hdf:d.params.defaults=[])
   (hY:∀ (w:World) (h:Heap),YP w h->(K w.params).In h) (hY2:∀ (w:World) (h:Heap),YP w h->∀ P∈ts,h.get? P=some (PySem.W.tabObj #[])) (ok:∀ P,tabsQ (K P) ts lamQ=true)
   (F:∀ (w:World) (mg:Str->Option Value) (fa:Addr) (h:Heap),(K w.params).In h->h.Ns mainGlobals mg->mg d.name=some (.ref fa)->(∀ y∈lamQ,tabQ (K w.params) y=some (tabQAt (K w.params) y)) ->
     ∃ fd:FuncData,(∀ (s:Shared) (u:Value),BindsTo s fd ⟨[u],[]⟩ [("_law_script",u)])/\∀ base:Heap,(K w.params).In base->base.Ns mainGlobals mg->(∀ y∈lamQ,TabIn base mg (tabQAt (K w.params) y))->FnOk l.prog w (K w.params) mg base CX0 40 fa fd ["_law_script"] (spLawK (K w.params))) :
   PySem.W.WalkO q loose XP YP l.row.toRowW d [] (λf vs=>PySem.call f vs) :=
 L2.walk_tabsQ (n:=63) (k:=40) (x:="_law_script") (sp:=λw=>spLawK (K w.params)) lamQ hn (by decide) hdf ⟨rfl,by decide,by decide⟩ hY hY2 ok (λw mg fa h KX G m=>F w mg fa h KX G m λy hy=>(mV (ok _) hy).1) aG
theorem ex_cd {h:Heap}{x:Str}{R:Addr->Prop}(X:K.In h)(G:h.Ns mainGlobals mg)(a:PySem.W.nsIn K mainGlobals x=some (some (.ref C)))(r:mg x=some (.ref C)->R C):∃ C,R C:=⟨C,r (vo X G a)⟩
end My
theorem PySem.W.Fast.te11415440370197482769:True:=trivial
def PySem.W.Fast.tw11415440370197482769:Unit:=()
theorem PySem.W.Fast.te1913338657482234121:True:=trivial
def PySem.W.Fast.tw1913338657482234121:Unit:=()
theorem PySem.W.Fast.te15508432371501665189:True:=trivial
def PySem.W.Fast.tw15508432371501665189:Unit:=()
theorem PySem.W.Fast.te8403559534865787773:True:=trivial
def PySem.W.Fast.tw8403559534865787773:Unit:=()
theorem PySem.W.Fast.te13052408679150730464:True:=trivial
def PySem.W.Fast.tw13052408679150730464:Unit:=()
theorem PySem.W.Fast.te16555476440528808052:True:=trivial
def PySem.W.Fast.tw16555476440528808052:Unit:=()
theorem PySem.W.Fast.te4868988410673395695:True:=trivial
def PySem.W.Fast.tw4868988410673395695:Unit:=()
open PySem PySem.W PyProof.Rows My L2
local macro_rules|`(tactic|ext h)=>`(tactic| first | exact λ_ _ _ _ _ _=>all1 λ_=>rfl | exact λ_ _ _ _ _ _=>all2 λ_ _=>rfl | exact λ_ _ _ _ _ _=>all3 λ_ _ _=>rfl | exact λ_ _ _ _ _ _=>all4 λ_ _ _ _=>rfl)
local macro_rules|`(tactic|ext d)=>`(tactic| (dsimp only [L2.KOf]; refine' defAt_mk (by assumption) (by assumption) ?a ?l ?c ?k ?b; (case a=>k_is); (case l=>k_is); (case c=>k_is); (case k=>k_is); ext h))
local macro_rules|`(tactic|ext f)=>`(tactic| (refine' mdef_mk ?a ?b ?c ?d ?e ?f; (case a=>k_is); (case b=>k_is); (case c=>k_is); (case d=>k_is); (case e=>k_is); ext h))
local macro_rules|`(tactic|ext i)=>`(tactic| (show PySem.W.findIn _ _ _ = _; k_is))
local macro_rules|`(tactic|ext e)=>`(tactic| (refine' int_mk (by assumption) (by assumption) ?a; (case a=>k_is)))
local macro_rules | `(tactic| o_head ($_ $k $a $_ $ts))=>`(tactic| o_head Hk.gHook $k $a (λ_=>by kernel_rfl) (by kernel_rfl) $ts)
set_option maxRecDepth 100000 in
set_option maxHeartbeats 0 in
theorem PySem.Challenge.cw_runmarks_k47_packed_answers_holds : PySem.Challenge.rw_runmarks_k47_packed_answers.Holds := by
 w_on;o_law;k_head;(case hw=>w_witness2)
 k_fill
 refine My.walkT (l:=PySem.Challenge.rw_runmarks_k47_packed_answers) rfl rfl (λw h Y=>Hk.g_in Y) (λw h Y=>Hk.g_tabs Y) (λP=>by kernel_rfl) ?F
 case F =>
   intro w mg fa h KX G hmg hTI;have jaI:DefAt (L2.KOf KX) mg "is_whole" qW ["thing"]:=by ext d
   have jbr:DefAt (L2.KOf KX) mg "bit_at" qV ["word","place"]:=by ext d
   have jT:DefAt (L2.KOf KX) mg "all_below" qU ["place"]:=by ext d
   have jC:DefAt (L2.KOf KX) mg "without_first" qT ["word"]:=by ext d
   have jaT:DefAt (L2.KOf KX) mg "counted" qS ["word"]:=by ext d
   have jad:DefAt (L2.KOf KX) mg "ones_below" qR ["word","place"]:=by ext d
   have jbq:DefAt (L2.KOf KX) mg "one_at" qQ ["word","k"]:=by ext d
   have jas:DefAt (L2.KOf KX) mg "first_one" qP ["word"]:=by ext d
   have jaH:DefAt (L2.KOf KX) mg "last_one" qO ["word"]:=by ext d
   have jat:DefAt (L2.KOf KX) mg "span_word" qN ["first","last"]:=by ext d
   have jaU:DefAt (L2.KOf KX) mg "word_of" qM ["places"]:=by ext d
   have jO:DefAt (L2.KOf KX) mg "word_of_runs" qL ["runs"]:=by ext d
   have jU:DefAt (L2.KOf KX) mg "number_of" qK ["text"]:=by ext d
   have jbs:DefAt (L2.KOf KX) mg "halved" qJ ["many","goes_on"]:=by ext d
   have jP:DefAt (L2.KOf KX) mg "check_number" qI ["thing"]:=by ext d
   have jae:DefAt (L2.KOf KX) mg "head_place" qH ["at"]:=by ext d
   have jW:DefAt (L2.KOf KX) mg "packed_many" qG ["tape"]:=by ext d
   have jaf:DefAt (L2.KOf KX) mg "packed_has" qE ["tape","n"]:=by ext d
   have jQ:DefAt (L2.KOf KX) mg "packed_below" qD ["tape","n"]:=by ext d
   have jq:DefAt (L2.KOf KX) mg "packed_chosen" u0 ["tape","k"]:=by ext d
   have jau:DefAt (L2.KOf KX) mg "_law_cell_at" qB ["_law_script","_law_k"]:=by ext d
   have jaV:DefAt (L2.KOf KX) mg "_law_whole" qA ["_law_found"]:=by ext d
   have jaW:DefAt (L2.KOf KX) mg "_law_mixed" p6 ["_law_cell","_law_k"]:=by ext d
   have jaX:DefAt (L2.KOf KX) mg "_law_piece" p5 ["_law_cell","_law_key"]:=by ext d
   have jav:DefAt (L2.KOf KX) mg "_law_numbers" p4 ["_law_script"]:=by ext d
   have jbt:DefAt (L2.KOf KX) mg "_law_bits" px ["_law_number","_law_many"]:=by ext d
   have jbu:DefAt (L2.KOf KX) mg "_law_runs" pq ["_law_places"]:=by ext d
   have jbv:DefAt (L2.KOf KX) mg "_law_rows" pk ["_law_numbers_here"]:=by ext d
   have jbw:DefAt (L2.KOf KX) mg "_law_body" ph ["_law_places","_law_runs_here","_law_kind"]:=by ext d
   have jaJ:DefAt (L2.KOf KX) mg "_law_fields" pZ ["_law_rows_here"]:=by ext d
   have jaY:DefAt (L2.KOf KX) mg "_law_spans" pY ["_law_spans_here","_law_tape"]:=by ext d
   have jaZ:DefAt (L2.KOf KX) mg "_law_right" pX ["_law_found","_law_due","_law_tape"]:=by ext d
   have ja0:DefAt (L2.KOf KX) mg "_law_there" pW ["_law_found","_law_due","_law_tape"]:=by ext d
   have jX:DefAt (L2.KOf KX) mg "_law_no_number" pV ["_law_tape","_law_thing"]:=by ext d
   have jag:DefAt (L2.KOf KX) mg "_law_no_place" pU ["_law_tape","_law_thing"]:=by ext d
   have jY:DefAt (L2.KOf KX) mg "_law_asked_for" pT ["_law_script","_law_numbers_here"]:=by ext d
   have jaK:DefAt (L2.KOf KX) mg "_law_answer" pS ["_law_tape","_law_way","_law_n"]:=by ext d
   have ja1:DefAt (L2.KOf KX) mg "_law_other" pQ ["_law_tape","_law_spans_here","_law_x"]:=by ext d
   have ja2:DefAt (L2.KOf KX) mg "_law_alone" pP ["_law_tape","_law_way","_law_n","_law_x"]:=by ext d
   have jbO:∃ C,CD_Glance (L2.KOf KX) mg C:=by
     dsimp only [L2.KOf];refine' ex_cd (x:="Glance") KX G ?aGlance ?bGlance
     (case aGlance=>k_is)
     intro z;refine' ⟨z,?_,?_,?_,?_,?_,?_,?_,?_,?_,?_,?_,?_⟩;{(refine' ⟨?a72,?b72,?c72,?d72⟩; (case a72=>k_is); (case b72=>k_is); (case c72=>k_is); (case d72=>k_is))};{(refine' maker_mk ?a71 ?b71 ?c71 ?d71 ?e71 ?f71 ?g71 ?h71; (case a71=>k_is); (case b71=>k_is); (case c71=>k_is); (case d71=>k_is); (case e71=>k_is); (case f71=>k_is); (case g71=>k_is); ext h)};{ext f};{ext f};{ext f};{ext f};{ext f};{ext f};{ext f};{ext i};{ext i};{ext i}
   obtain ⟨jbp,jb⟩:=jbO;have jh:∃ t,mg "PLACES"=some (.int 256 t):=by ext e
   have jD:∃ t,mg "LOWER_1"=some (.int 38597363079105398474523661669562635951089994888546854679819194669304376546645 t):=by ext e
   have jE:∃ t,mg "LOWER_2"=some (.int 23158417847463239084714197001737581570653996933128112807891516801582625927987 t):=by ext e
   have jF:∃ t,mg "LOWER_4"=some (.int 6811299366900952671974763824040465167839410862684739061144563765171360567055 t):=by ext e
   have jG:∃ t,mg "LOWER_8"=some (.int 450552876409790643671482431940419874915447411150352389258589821042463539455 t):=by ext e
   have jz:∃ t,mg "GREATEST"=some (.int 65535 t):=by ext e
   have je:∃ t,mg "MANY_SIGNS"=some (.int 9 t):=by ext e
   have jB:∃ t,mg "KEY_SIGNS"=some (.int 8 t):=by ext e
   have jw:∃ t,mg "KIND_SIGNS"=some (.int 2 t):=by ext e
   have ju:∃ t,mg "LAST_SIGNS"=some (.int 16 t):=by ext e
   have jv:∃ t,mg "STOP_SIGNS"=some (.int 14 t):=by ext e
   have jr:∃ t,mg "HEAD_SIGNS"=some (.int 40 t):=by ext e
   have jg:∃ t,mg "BYTE_SIGNS"=some (.int 8 t):=by ext e
   have j8:∃ t,mg "KIND_AT"=some (.int 8 t):=by ext e
   have j5:∃ t,mg "LAST_AT"=some (.int 10 t):=by ext e
   have j6:∃ t,mg "STOP_AT"=some (.int 26 t):=by ext e
   have jaw:∃ a,mg "KINDS"=some (.ref a)/\(∃ o,List.lookup a (L2.KOf KX)=some o/\o.cls=.type "tuple"/\o.dict=none)/\∀ H,SqT (L2.KOf KX) H a [.str (Str.ofString "list"),.str (Str.ofString "bits"),.str (Str.ofString "runs")]:=by
     dsimp only [L2.KOf];refine' tup_mk2 KX G ?eKINDS ?lKINDS ?hKINDS ?dKINDS ?zKINDS ?rKINDS
     (case eKINDS=>k_is);(case lKINDS=>k_is);(case hKINDS=>rfl);(case dKINDS=>rfl);(case zKINDS=>decide);(case rKINDS=>exact .cons ⟨_,rfl⟩ (.cons ⟨_,rfl⟩ (.cons ⟨_,rfl⟩ (.nil))))
   have B:Blt mg:=by
     refine' ⟨xD KX G ?z0,xD KX G ?z1,xD KX G ?z2,xD KX G ?z3,xD KX G ?z4,xD KX G ?z5,xD KX G ?z6,xD KX G ?z7,xD KX G ?z8,xD KX G ?z9,xD KX G ?z10,xD KX G ?z11⟩
     (case z0=>k_is);(case z1=>k_is);(case z2=>k_is);(case z3=>k_is);(case z4=>k_is);(case z5=>k_is);(case z6=>k_is);(case z7=>k_is);(case z8=>k_is);(case z9=>k_is);(case z10=>k_is);(case z11=>k_is)
   have L:∃ fd,Fun (L2.KOf KX) "law" "law" vS fa fd/\∀ (s:Shared) (v:Value),BindsTo s fd ⟨[v],[]⟩ [("_law_script",v)]:=by
     dsimp only [L2.KOf];refine' My.law_mk KX G hmg ?aL ?lL ?cL ?kL
     (case aL=>k_is);(case lL=>k_is);(case cL=>k_is);(case kL=>k_is)
   obtain ⟨fd,FL,bL⟩:=L;refine ⟨fd,bL,λbase _ _ hTB=>?_⟩;refine fn_uq λuq=>?_
   have eX:∃ C,mg "NoNumber"=some (.ref C)/\XCls (L2.KOf KX) C/\PySem.W.exmOne (L2.KOf KX) (.ref C) (.ref C)=some true:=by
     dsimp only [L2.KOf];refine' xf_mk KX G ?xa1 ?xq1 ?xq2 ?xm1
     (case xa1=>k_is);(case xq1=>k_exc);(case xq2=>k_is);(case xm1=>kts_exm)
   obtain ⟨CN,g_NoNumber,xcN,xmN⟩:=eX;have eP:∃ C,mg "NoPlace"=some (.ref C)/\XCls (L2.KOf KX) C/\PySem.W.exmOne (L2.KOf KX) (.ref C) (.ref C)=some true:=by
     dsimp only [L2.KOf];refine' xf_mk KX G ?ya1 ?yq1 ?yq2 ?ym1
     (case ya1=>k_is);(case yq1=>k_exc);(case yq2=>k_is);(case ym1=>kts_exm)
   obtain ⟨CP,g_NoPlace,xcP,xmP⟩:=eP;exact wire47 B g_NoNumber xcN xmN g_NoPlace xcP xmP jaw uq (.head _) (.tail _ (.head _)) (hTB _ (.head _)) (hTB _ (.tail _ (.head _))) (MDefAt.toC KX jb.m_found (mtab_of KX G jb.at_ (hTI _ (.head _)))) (DefAt.toC KX G jq (hTI _ (.tail _ (.head _)))) jD jE jF jG jh jz je jr jB j5 ju j6 jv j8 jw jg jb jT jC jaT jad jbq jas jaH jbr jat jaU jO jU jae jaI jP jbs jW jaf jQ jq jau jaV jaW jaX jav jbt jbu jbv jbw jaJ jaY jaZ ja0 jX jag jY jaK ja1 ja2 FL
#print axioms PySem.Challenge.cw_runmarks_k47_packed_answers_holds
