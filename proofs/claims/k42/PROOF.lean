import PyProof.Rows.All
import Wide.All
import OpenK.AllK
import Wide.FinOn
import Lean
import PyProof.EqAt
import PyProof.EqKinds
import PyProof.TupleCall
import PyProof.Rows.TupIter
import PyProof.ZipIter
import PyProof.Rows.SortShell
import OpenK.KMore
import PyProof.Rows.SetFrom
import KE.KLam
import PySem.SetTable
import KE.KDictSum
import KE.KTryOn
import PyProof.NsDelKeeps
import PyProof.RulesAs
import KE.KDictLaws
import PyProof.SumWalkG
import PyProof.MinMaxWalk
import KE.KMinBuiltin
import PyProof.Rows.CallKwBuiltin
import PyProof.ExcInit
import PyProof.ReprStr
import PyProof.StrLawsRepr
import KE.KNestM
import PySem.Challenge.RW_runmarks_k42_tapes_written
set_option maxHeartbeats 4000000
local macro_rules|`(tactic|ext b)=>`(tactic| exact ⟨rfl,rfl,rfl,by decide +kernel,rfl,by decide +kernel,by decide +kernel⟩)
local macro_rules|`(tactic|ext g)=>`(tactic| first | exact Or.inl rfl | exact Or.inr rfl)
set_option hygiene false in
local macro_rules|`(tactic|ext m)=>`(tactic| first | (obtain ⟨rfl,_⟩:=h; rfl) | (obtain ⟨_,h⟩:=h; ext m))
set_option hygiene false in
local macro_rules|`(tactic|ext c)=>`(tactic| ((focus intro vs H Q E h; ext m); intro f cdv A outer s H vs Q E hr h))
def zt:=@PySem.wpAny_bind
def zU:=@PySem.Heap.get?_push_of_some
def zi:=@PySem.wpAny_pure
def zm:=@PyProof.Rows.wpS_bind
def zW:=@PySem.Heap.lt_size
def ze:=@PyProof.Rows.wpS_pure
def yi:=@PySem.Heap.get?_push_size
def yP:=@PySem.F.plainAttrs_list
def xY:=@PySem.F.slot_list_append
def xX:=@PySem.F.type_list_append
def xw:=@List.Perm.append_left
def yF:=@PySem.PassesOwn.never
def xW:=@PySem.W.mg_none_of
def yE:=@PySem.boot_len
def xV:=@PySem.wpAny_setState_of
def vv:=@PySem.F.plainAttrs_str
def yD:=@PyProof.Rows.wpS_forRange
def vt:=@PySem.F.slot_str_join
def vq:=@PySem.F.type_str_join
def wN:=@PySem.wpAny_Call_Name_kw
def vp:=@PySem.Calls.spliced_cons
def wk:=@PySem.W.kia_one
def xI:=@PySem.wpAny_holding
def vS:=@PySem.mem_of_lookup
def tF:=@PyProof.Rows.callWith_type1
def u0:=@beq_eq_false_iff_ne
def uz:=@PySem.Heap.SameBut.update
def wj:=@PySem.Paired.length
def xn:=@PySem.wpAny_mono
def yO:=@if_false
def tE:=@PySem.F.slot_list_extend
def sv:=@PySem.F.type_list_extend
def vR:=@PySem.wpAny_call_entry
def uy:=@PySem.Value.isInt_shape
def ux:=@PySem.wpAny_storeSet_of
def su:=@PySem.Calls.callWith_builtin
def uM:=@PySem.W.callWith_K
def uL:=@PySem.wpAny_setField_rec
def wg:=@PySem.sizeLine_eq
def so:=@PySem.Around.under_plainId
def uK:=@PySem.wpAny_truthy_bool
def uw:=@PySem.wpAny_passesOwn
def xC:=@beq_iff_eq
def uJ:=@PySem.Calls.spliced_nil
def vo:=@PySem.codeAny_mono
def xv:=@PyProof.Rows.wpS_mono
def qp:=@PySem.wpAny_callSpecial?_slot
def sj:=@PySem.wpAny_setEntries_of
def uv:=@PySem.Heap.size_push
def we:=@PySem.wpAny_rule
def qo:=@PySem.Heap.get?_update_other
def qm:=@PySem.Heap.get?_update_self
def uI:=@PySem.codeAny_builtin
def wM:=@PyProof.Rows.wpS_modify
def sh:=@PySem.wpAny_newObj_type
def bQ:=@List.getElem?_cons_succ
def bP:=@List.getElem?_cons_zero
def xU:=@if_true
def nY:=@PySem.F.plainAttrs_dict
def uH:=@PySem.W.mg_of
def nX:=@PyProof.Rows.F.plain_set_update_loop
def nW:=@Option.some.injEq
def ie:=@PyProof.Rows.callWith_builtin1
def nV:=@PySem.F.slot_dict_get
def nQ:=@PySem.W.methodCall_KW
def nP:=@PySem.hashByValue_scannable
def ql:=@beq_self_eq_true
def nO:=@PySem.Calls.evalArgs_plain
def sf:=@PySem.wpAny_attempt
def se:=@PySem.plainId_quiet
def iZ:=@PySem.F.slot_dict_setdefault
def qk:=@PySem.wpAny_execs_nil
def nN:=@PySem.W.plainGet_of
def xB:=@PyProof.Rows.wpS_get
def vQ:=@PyProof.Rows.boot_list
def bO:=@List.set_cons_succ
def bN:=@List.set_cons_zero
def nM:=@PySem.tupleKind_room_in1
def qj:=@PySem.wpAny_fieldsOf
def qi:=@PyProof.Rows.IntsAre.length
def iY:=@PySem.F.plain_extend_loop
def nK:=@PySem.wpAny_pyIter_list
def uG:=@PySem.wpAny_call
def uF:=@PySem.call_meets
def iX:=@List.Pairwise.imp_of_mem
def nJ:=@bne_self_eq_false
def nI:=@PySem.fits_of_scanBound
def nH:=@PySem.Heap.SameBut.refl
def iW:=@PySem.F.args_dict_get_3
def qh:=@PySem.wpAny_newList
def vP:=@PyProof.Rows.wpS_lift
def iV:=@PySem.F.plain_list_iadd
def iU:=@PySem.F.slot_dict_items
def bM:=@List.cons_append
def nG:=@PySem.wpAny_eqBool_int
def nE:=@PySem.wpAny_execs_cons
def nC:=@PySem.wpAny_askSetting
def iT:=@PyProof.noPylong_small
def iS:=@PySem.W.cellsFrom_some
def iQ:=@PySem.F.entry_dict_get
def bK:=@List.nil_append
def qg:=@PySem.call_meetsIn
def iP:=@PySem.F.plain_set_new
def iO:=@PySem.F.slot_set_iter
def m9:=@PySem.wpAny_ite_split
def sZ:=@PySem.intKind_is
def bJ:=@List.map_cons
def sY:=@or_false
def bI:=@List.map_nil
def zh:=@List.length_append
def zg:=@List.length_map
def zk:=@Nat.le_refl
def zO:=@List.getElem?_eq_getElem
def zX:=@List.append_assoc
def zZ:=@List.length_cons
def zT:=@Array.length_toList
def zY:=@List.mem_append
def zS:=@List.mem_singleton
def yq:=@List.getElem?_append_right
def zA:=@Array.getElem?_toList
def y4:=@List.pairwise_append
def ye:=@List.take_append_drop
def yZ:=@List.take_of_length_le
def zE:=@List.length_take
def zQ:=@List.mem_cons
def y9:=@List.getElem_mem
def yb:=@List.mem_of_getElem?
def zD:=@List.map_append
def zJ:=@decide_eq_true
def zR:=@List.mem_map
def zL:=@bJ
def zV:=@Nat.zero_le
def yp:=@List.getElem?_map
def yo:=@Int.toNat_natCast
def yn:=@List.size_toArray
def ym:=@List.length_range
def xy:=@List.getD_eq_getElem?_getD
def ya:=@Nat.lt_of_lt_of_le
def xx:=@Array.getElem?_eq_getElem
def yx:=@List.append_nil
def yw:=@decide_eq_false
def yv:=@List.mem_filter
def yC:=@List.mem_append_right
def zF:=@List.map_map
def yS:=@Bool.false_ne_true
def xT:=@List.getElem?_eq_some_iff
def zC:=@Nat.ne_of_lt
def yY:=@bK
def y3:=@getElem?_pos
def yI:=@List.flatten_cons
def xA:=@List.getElem?_append_left
def xm:=@List.mem_cons_of_mem
def yl:=@Nat.le_trans
def yH:=@List.length_drop
def xu:=@List.mem_cons_self
def wL:=@Nat.testBit_two_pow_mul_add
def xk:=@Bool.false_eq_true
def xS:=@List.mem_append_left
def xR:=@List.mem_iff_getElem
def xQ:=@List.length_reverse
def xP:=@Array.toList_append
def xO:=@List.flatten_append
def xH:=@List.mem_of_mem_take
def xj:=@List.take_sublist
def xi:=@List.drop_sublist
def yG:=@List.take_succ
def xG:=@List.map_congr_left
def yX:=@Nat.zero_add
def wK:=@List.drop_of_length_le
def w8:=@decide_eq_true_eq
def yd:=@Nat.mod_lt
def w6:=@Int.natCast_nonneg
def yN:=@Nat.pow_succ
def wJ:=@List.eq_nil_or_concat
def wI:=@List.concat_eq_append
def wH:=@List.mem_of_mem_drop
def xF:=@List.length_nil
def w4:=@Nat.lt_succ_of_lt
def wc:=@Nat.lt_of_le_of_lt
def wz:=@List.lookup_cons
def wx:=@Bool.and_eq_true
def vO:=@List.filter_eq_nil_iff
def xh:=@Nat.lt_irrefl
def wu:=@List.foldl_cons
def yB:=@Nat.pow_pos
def xt:=@Nat.add_zero
def vN:=@List.length_filter_le
def vM:=@List.perm_append_comm
def uE:=@Array.getD_eq_getD_getElem?
def xE:=@List.mem_range
def wb:=@Nat.lt_succ_self
def vn:=@bM
def uu:=@List.length_eq_zero_iff
def ur:=@List.filter_cons_of_neg
def uD:=@Array.getElem?_eq_some_iff
def vL:=@Nat.pow_le_pow_right
def wG:=@List.filter_cons
def uC:=@Option.isSome_iff_exists
def vm:=@List.flatMap_cons
def xN:=@Nat.lt_or_ge
def vk:=@List.ext_getElem
def vj:=@List.getElem_map
def vK:=@List.mem_range'_1
def vJ:=@of_decide_eq_true
def sX:=@List.drop_eq_getElem_cons
def wt:=@Nat.sub_self
def vh:=@Nat.not_lt_zero
def uo:=@List.filter_append
def wF:=@Nat.add_assoc
def um:=@List.filter_congr
def vI:=@Bool.eq_iff_iff
def vH:=@List.nodup_cons
def vG:=@List.find?_cons
def uB:=@List.filter_eq_self
def sW:=@Nat.div_div_eq_div_mul
def uk:=@List.range'_succ
def uj:=@Nat.mod_eq_of_lt
def ui:=@List.mem_reverse
def uh:=@List.take_length
def wD:=@Nat.le_of_lt
def wC:=@Nat.ne_of_gt
def sV:=@List.length_replicate
def wB:=@Nat.mul_comm
def uA:=@List.pairwise_cons
def wa:=@Nat.le_succ
def vF:=@List.drop_zero
def qf:=@Array.size_setIfInBounds
def qe:=@List.getElem_append_left
def sU:=@List.replicate_succ
def qd:=@List.filter_cons_of_pos
def m8:=@List.take_append_of_le_length
def m7:=@List.drop_append_of_le_length
def t6:=@List.not_mem_nil
def ug:=@List.drop_drop
def sQ:=@List.getElem?_drop
def sP:=@Int.emod_lt_of_pos
def sO:=@List.getElem_range
def tw:=@List.range_succ
def tq:=@List.filter_map
def tm:=@Int.natCast_add
def iN:=@Array.getElem?_setIfInBounds_self_of_lt
def qc:=@List.getElem?_eq_none
def sN:=@List.foldl_append
def tj:=@Bool.not_true
def sM:=@Array.toList_push
def m6:=@Array.toList_setIfInBounds
def my:=@List.perm_append_singleton
def qZ:=@Array.toList_extract
def qY:=@List.getElem?_of_mem
def mx:=@Nat.shiftRight_eq_div_pow
def mw:=@Nat.add_mul_mod_self_left
def mv:=@List.extract_eq_take_drop
def mq:=@List.pairwise_iff_getElem
def tZ:=@Array.size_map
def qX:=@List.getElem?_range
def ml:=@List.getElem?_take_of_lt
def sJ:=@bI
def uf:=@Nat.add_comm
def ue:=@Nat.lt_trans
def qW:=@List.mem_filterMap
def sI:=@Nat.testBit_and
def sG:=@Nat.min_eq_left
def iM:=@List.findIdx?_eq_some_iff_getElem
def sE:=@Int.emod_nonneg
def iK:=@bO
def bH:=@bQ
def iJ:=@Nat.testBit_eq_decide_div_mod_eq
def mj:=@List.range_succ_eq_map
def mh:=@Array.toList_filterMap
def qV:=@List.nodup_append
def qU:=@Nat.lt_trichotomy
def iI:=@Array.getElem?_setIfInBounds_ne
def qT:=@Bool.not_false
def sC:=@List.drop_left
def md:=@List.length_singleton
def ma:=@List.set_append_right
def mZ:=@List.getElem?_reverse
def tY:=@Nat.pow_zero
def qS:=@List.flatten_nil
def qR:=@decide_eq_decide
def mY:=@Nat.pow_lt_pow_right
def mX:=@Nat.eq_of_testBit_eq
def mW:=@List.getLast?_concat
def iH:=@List.dropLast_concat_getLast
def mV:=@List.filterMap_cons
def qQ:=@Option.map_some
def mU:=@Nat.testBit_two_pow
def tX:=@Nat.pow_add
def qP:=@Bool.or_eq_true
def mT:=@List.toList_toArray
def iG:=@Int.fdiv_eq_ediv_of_nonneg
def iF:=@Option.ne_none_iff_exists'
def r9:=@Nat.le_of_eq
def r8:=@Nat.sub_zero
def bG:=@bN
def mS:=@List.find?_eq_none
def mR:=@List.length_range'
def qO:=@List.drop_take
def qN:=@List.take_zero
def iE:=@List.findIdx?_eq_none_iff
def iD:=@List.mem_of_find?_eq_some
def iC:=@List.rel_of_pairwise_cons
def mQ:=@List.reverse_cons
def iA:=@Bool.not_eq_true'
def mP:=@List.ext_getElem?
def mO:=@Nat.le_succ_of_le
def h9:=@List.filterMap_cons_none
def hZ:=@List.filterMap_cons_some
def hW:=@List.getElem?_replicate
def hV:=@List.pairwise_of_forall
def YA:=@bP
def r6:=@Int.one_mul
def rq:=@List.map_id
def qM:=@List.sum_cons
def mN:=@Option.getD_none
def mM:=@List.all_eq_true
def mL:=@Int.natCast_emod
def mK:=@Nat.succ_le_succ
def hU:=@List.getElem?_set_self
def hO:=@Option.map_eq_some_iff
def hJ:=@List.pairwise_lt_range
def hE:=@Array.getElem?_eq_none
def mJ:=@List.of_mem_zip
def mI:=@Nat.pow_dvd_pow
def mH:=@List.forIn_cons
def mG:=@Nat.le_antisymm
def g9:=@List.getElem?_toArray
def mF:=@List.sum_append
def mE:=@Int.natCast_pow
def mD:=@Bool.false_and
def mC:=@Nat.testBit_or
def mB:=@List.nodup_nil
def qL:=@Nat.add_mod
def l9:=@List.any_cons
def l7:=@Bool.true_and
def ly:=@List.map_take
def lq:=@Int.ediv_one
abbrev zj:=PySem.W.Frag
variable {us:List PySem.Value}{u:PySem.Value}{P prog:PySem.Program}{w:PySem.World}{h' base:PySem.Heap}{pins:List (PySem.Addr × PySem.Obj)}{s:PySem.Shared}{t' ep:Nat}{N:List PySem.Str}{A:PySem.Around}{E Q:PySem.Value->PySem.Shared->Prop}{K:zj}{st:PySem.Stmt}{es:Array (Int × PySem.Value)}{tg:PySem.Expr}{pos':PySem.Pos}{fp:List PySem.Addr}{C CM:PySem.Addr}{g:Nat->List Nat}{mg:PySem.Str->Option PySem.Value}{fd:PySem.FuncData}{ps caps:List Nat}{outer:List PySem.Env}{ks:List Int}{sc scope:PySem.Scope}{qual:PySem.Str}{osl:Array (Option PySem.Value)}{rs:List (Nat × Nat)}{clos:List (PySem.Str × PySem.Addr)}
set_option Elab.async false
set_option linter.all false
set_option maxRecDepth 100000
namespace L2
open PySem PySem.Spec PyProof.Rows
abbrev Key:=Sum Int Str
def keyIs:Key->Value->Bool
 | .inl k,v=>Value.isInt k v
 | .inr x,v=>Value.isStrOf x v
def keyH (w:World):Key->Int
 | .inl k=>hashInt k
 | .inr x=>hashStr w x
theorem wZ:∀ {k:Key} {v:Value},keyIs k v=true->(∃ i t,k=Sum.inl i/\v=Value.int i t)\/(∃ x t,k=Sum.inr x/\v=Value.str x t)
 | .inl i,v,h=>by
   obtain ⟨t,e⟩:=uy (k:=i) (v:=v) h;exact .inl ⟨i,t,rfl,e⟩
 | .inr x,v,h=>by
   obtain ⟨t,e⟩:=Value.isStrOf_shape (x:=x) (v:=v) h;exact .inr ⟨x,t,rfl,e⟩
theorem bF (i:Int)(t:Tok):keyIs (.inl i) (.int i t)=true:=by simp [keyIs,Value.isInt]
theorem bE (x:Str)(t:Tok):keyIs (.inr x) (.str x t)=true:=by simp [keyIs,Value.isStrOf]
theorem key_ll (a b:Int):decide ((Sum.inl a:Key)=Sum.inl b)=(a==b):=by
 by_cases e:a=b;{subst e;simp}
 . have h:¬ (Sum.inl a:Key)=Sum.inl b:=λq=>e (Sum.inl.inj q)
   rw [yw h];exact (u0.mpr e).symm
theorem key_rr (a b:Str):decide ((Sum.inr a:Key)=Sum.inr b)=decide (a=b):=by
 by_cases e:a=b;{subst e;simp}
 . have h:¬ (Sum.inr a:Key)=Sum.inr b:=λq=>e (Sum.inr.inj q)
   rw [yw h,yw e]
theorem key_lr (a:Int)(b:Str):decide ((Sum.inl a:Key)=Sum.inr b)=false:=yw (λq=>nomatch q)
theorem key_rl (a:Str)(b:Int):decide ((Sum.inr a:Key)=Sum.inl b)=false:=yw (λq=>nomatch q)
def mixKind (prog:Program) (w:World):PySem.KeyKind prog w Key where
 is:=keyIs
 hash:=keyH w
 inj := λv a b ha hb=>by
   rcases wZ ha with ⟨i,t,rfl,rfl⟩ | ⟨x,t,rfl,rfl⟩
   . rcases wZ hb with ⟨j,u,rfl,e⟩ | ⟨y,u,rfl,e⟩
     . injection e with e1 _;rw [e1]
     . exact nomatch e
   . rcases wZ hb with ⟨j,u,rfl,e⟩ | ⟨y,u,rfl,e⟩
     . exact nomatch e
     . injection e with e1 _;rw [e1]
 byValue:=λk v h=>by
   rcases wZ h with ⟨i,t,rfl,rfl⟩ | ⟨x,t,rfl,rfl⟩<;>rfl
 pyHash:=λhv h=>by
   rcases wZ hv with ⟨i,t,rfl,rfl⟩ | ⟨x,t,rfl,rfl⟩
   . exact wpAny_pyHash_int h
   . exact wpAny_pyHash_str h
 eqBool:=λhu hv h=>by
   rcases wZ hu with ⟨i,t,rfl,rfl⟩ | ⟨x,t,rfl,rfl⟩
   . rcases wZ hv with ⟨j,u,rfl,rfl⟩ | ⟨y,u,rfl,rfl⟩
     . rw [key_ll] at h;exact nG h
     . rw [key_lr] at h;exact SeqAt.EqAt.int_str i t y u _ _ _ _ h
   . rcases wZ hv with ⟨j,u,rfl,rfl⟩ | ⟨y,u,rfl,rfl⟩
     . rw [key_rl] at h;exact SeqAt.EqAt.str_int x t j u _ _ _ _ h
     . rw [key_rr] at h;exact wpAny_eqBool_str h
 «strs»:=λk x t v h=>by
   rcases wZ h with ⟨i,u,rfl,e⟩ | ⟨y,u,rfl,e⟩
   . exact nomatch e
   . injection e with e1 _
     subst e1;cases v<;>rfl
theorem bD (prog:Program)(w:World)(k:Key)(v:Value):(mixKind prog w).is k v=keyIs k v:=rfl
theorem bC (prog:Program)(w:World)(i:Int)(t:Tok):(mixKind prog w).is (.inl i) (.int i t)=true:=bF i t
theorem bB (prog:Program)(w:World)(x:Str)(t:Tok):(mixKind prog w).is (.inr x) (.str x t)=true:=bE x t
inductive V where
 | non | bl (b:Bool) | int (i:Int) | str (x:Str) | byt (b:Array UInt8) | flt (b:UInt64) | ref (a:Addr) | ty (n:String)
 deriving DecidableEq
def RelV:V->Value->Prop
 | .non,u=>u=Value.none
 | .bl b,u=>u=Value.bool b
 | .int i,u=>∃ t,u=Value.int i t
 | .str x,u=>∃ t,u=Value.str x t
 | .byt b,u=>∃ t,u=Value.bytes b t
 | .flt b,u=>∃ t,u=Value.float b t
 | .ref a,u=>u=Value.ref a
 | .ty n,u=>u=Value.type n
abbrev Vals:List V->List Value->Prop:=Paired RelV
theorem Vals.length {xs:List V}(r:Vals xs us):xs.length=us.length:=wj r
theorem Vals.get:∀ {xs:List V} {us:List Value} {i:Nat} {x:V},Vals xs us->xs[i]?=some x->∃ u,us[i]?=some u/\RelV x u
 | _,_,_,_,.nil,e=>by simp at e
 | _,_,0,_,.cons r _,e=>by simp at e;subst e;exact ⟨_,rfl,r⟩
 | _,_,i+1,x,.cons _ t,e=>by
   obtain ⟨u,h1,h2⟩:=Vals.get (i:=i) (x:=x) t (by simpa using e);exact ⟨u,by simpa using h1,h2⟩
theorem Vals.set {x:V}(r:RelV x u):∀ {xs:List V} {us:List Value} (i:Nat),Vals xs us->Vals (xs.set i x) (us.set i u)
 | _,_,_,.nil=>.nil
 | _,_,0,.cons _ t=>.cons r t
 | _,_,i+1,.cons q t=>.cons q (Vals.set r i t)
theorem Vals.append {xs ys:List V}{ws:List Value}(h:Vals xs us)(s:Vals ys ws):Vals (xs++ys) (us++ws):=by
 induction h with
 | nil=>exact s
 | cons r _ ih=>exact .cons r ih
theorem Vals.take:∀ {xs:List V} {us:List Value} (n:Nat),Vals xs us->Vals (xs.take n) (us.take n)
 | _,_,0,_=>.nil
 | _,_,_+1,.nil=>.nil
 | _,_,n+1,.cons r t=>.cons r (Vals.take n t)
theorem Vals.drop:∀ {xs:List V} {us:List Value} (n:Nat),Vals xs us->Vals (xs.drop n) (us.drop n)
 | _,_,0,r=>r
 | _,_,_+1,.nil=>.nil
 | _,_,n+1,.cons _ t=>Vals.drop n t
def RelO:Option V->Option Value->Prop
 | some v,some u=>RelV v u
 | none,none=>True
 | _,_=>False
def KV {κ:Type}:List (κ × V)->List (κ × Value)->Prop:=Paired λ(p:κ × V) (q:κ × Value)=>p.1=q.1/\RelV p.2 q.2
def kV:Key->V
 | .inl i=>.int i
 | .inr x=>.str x
inductive HO where
 | lst (xs:List V)
 | tup (xs:List V)
 | dK (kvs:List (Key × V)) | dT (kvs:List (List Key × V))
 | set (S:Int->Bool) (n:Nat)
 | ins (C dx:Addr) (fs:List (Str × V))
 | own (x:Addr)
 | xd (fs:List (Str × V))
 | met (f x:Addr)
 | rng (lo hi:Int)
 | frz (o:Obj) (u:HO)
 | tbl (ps:Array Value)
 | ext (φ:Heap->Prop)
abbrev Hp:=Addr->Option HO
def upd (H:Hp)(a:Addr)(o:HO):Hp:=λb=>if b=a then some o else H b
theorem zq {H:Hp}{a:Addr}{o:HO}:upd H a o a=some o:=by unfold upd;rw [if_pos rfl]
theorem zr {H:Hp}{a b:Addr}{o:HO}(h:b≠a):upd H a o b=H b:=by unfold upd;rw [if_neg h]
theorem upd_upd {H:Hp}{a:Addr}{o u:HO}:upd (upd H a o) a u=upd H a u:=by funext b;unfold upd;split<;>rfl
theorem ne_of {H:Hp}{a b:Addr}{o u:HO}(h:H a=some o)(h':H b=some u)(d:o≠u):a≠b:=by intro e;subst e;rw [h] at h';exact d (Option.some.inj h')
theorem zI {H:Hp}{a b:Addr}{o:HO}(h:H a=some o)(h':H b=none):a≠b:=by intro e;subst e;rw [h] at h';cases h'
section
variable (P:Program)(w:World)
def ObjOk (H:Hp)(h:Heap)(a:Addr):HO->Prop
 | .lst xs=>xs.length<=sizeLine/\∃ (its:List Value) (n:Nat),Vals xs its/\h.get? a=some { cls:=.type "list",data:=.seq its.toArray n }
 | .tup xs=>xs.length<=sizeLine/\∃ its:List Value,Vals xs its/\IsTup h a its.toArray
 | .dK kvs=>kvs.length<=sizeLine/\(a==sysModules)=false/\∃ vs,KV kvs vs/\h.DictOf (mixKind P w) a vs
 | .dT kvs=>kvs.length<=sizeLine/\(a==sysModules)=false/\∃ xs:List (List Key × Addr × Value),
     Paired (λ(p:List Key × V) (q:List Key × Addr × Value)=>p.1=q.1/\H q.2.1=some (.tup (p.1.map kV))/\RelV p.2 q.2.2) kvs xs /\
     ∃ o es ep,h.get? a=some o/\o.ExactDict/\o.data=.dict es ep/\es.toList=xs.map (entryOfKey (tupleKind (mixKind P w)))/\(xs.map (·.1)).Nodup
 | .set S n=>h.SetOf (intKind P w) a S n
 | .ins C dx fs=>H dx=some (.own a)/\fs.length<=1000/\dx≠a/\h.get? a=some (PySem.W.instObj C dx) /\
     ∃ mA,h.Ns1 dx mA/\(∀ f,RelO (fs.lookup f) (mA f))/\PySem.Within mA (fs.map (·.1))
 | .own _=>∃ o,h.get? a=some o
 | .xd fs=>∃ mA,h.Ns1 a mA/\∀ f,RelO (fs.lookup f) (mA f)
 | .rng lo hi=>∃ t u v,h.get? a=some { cls:=.type "range",data:=.fields #[.int lo t,.int hi u,.int 1 v] }
 | .frz o u=>h.get? a=some o/\ObjOk H h a u
 | .tbl ps=>h.get? a=some { cls:=.none,data:=.fields ps }
 | .met f x=>h.get? a=some (PySem.W.methodObj (.ref f) (.ref x))
 | .ext φ=>φ h/\(∃ o,h.get? a=some o)/\∀ h1 h2:Heap,φ h1->(∀ o,h1.get? a=some o->h2.get? a=some o)->φ h2
def HOk (H:Hp)(h:Heap):Prop:=∀ a o,H a=some o->ObjOk P w H h a o
end
section
variable {H H':Hp}{h:Heap}{a:Addr}{o:HO}
theorem ObjOk.lt (x:ObjOk P w H h a o):a<h.objs.size:=by
 cases o with
 | lst xs=>obtain ⟨_,_,_,_,e⟩:=x;exact zW e
 | tup xs=>obtain ⟨_,_,_,p⟩:=x;exact p.lt
 | dK kvs=>obtain ⟨_,_,_,_,o,_,_,e,_⟩:=x;exact zW e
 | dT kvs=>obtain ⟨_,_,_,_,o,_,_,e,_⟩:=x;exact zW e
 | set S n=>obtain ⟨o,_,_,_,e,_⟩:=x;exact zW e
 | ins C dx fs=>obtain ⟨_,_,_,e,_⟩:=x;exact zW e
 | own y=>obtain ⟨_,e⟩:=x;exact zW e
 | xd fs=>obtain ⟨_,⟨_,_,_,e,_⟩,_⟩:=x;exact zW e
 | rng lo hi=>obtain ⟨_,_,_,e⟩:=x;exact zW e
 | frz ob u=>obtain ⟨e,_⟩:=x;exact zW e
 | tbl ps=>exact zW (show h.get? a=some _ from x)
 | met f y=>exact zW (show h.get? a=some _ from x)
 | ext φ=>obtain ⟨_,⟨_,e⟩,_⟩:=x;exact zW e
theorem Paired.mapP {α β:Type}{F G:α->β->Prop}{l₁:List α}{l₂:List β}(h:Paired F l₁ l₂)(f:∀ a b,F a b->G a b):Paired G l₁ l₂:=by
 induction h with
 | nil=>exact .nil
 | cons r _ ih=>exact .cons (f _ _ r) ih
theorem ObjOk.stay (x:ObjOk P w H h a o)(k:∀ b u,(b=a\/H b=some (.own a))->h.get? b=some u->h'.get? b=some u)
   (ho:∀ b,H b=some (.own a)->H' b=some (.own a)) (ht:∀ b xs,H b=some (.tup xs)->H' b=some (.tup xs)):ObjOk P w H' h' a o:=by
 induction o with
 | lst xs=>obtain ⟨z,its,n,r,e⟩:=x;exact ⟨z,its,n,r,k _ _ (.inl rfl) e⟩
 | tup xs=>obtain ⟨z,its,r,ob,e,c⟩:=x;exact ⟨z,its,r,ob,k _ _ (.inl rfl) e,c⟩
 | dK kvs=>obtain ⟨z,y,vs,r,ob,es,ep,e,c⟩:=x;exact ⟨z,y,vs,r,ob,es,ep,k _ _ (.inl rfl) e,c⟩
 | dT kvs =>
   obtain ⟨z,y,xs,r,ob,es,ep,e,c⟩:=x;exact ⟨z,y,xs,Paired.mapP r λp q z=>⟨z.1,ht _ _ z.2.1,z.2.2⟩,ob,es,ep,k _ _ (.inl rfl) e,c⟩
 | set S n=>obtain ⟨ob,es,ep,t,e,c⟩:=x;exact ⟨ob,es,ep,t,k _ _ (.inl rfl) e,c⟩
 | ins C dx fs =>
   obtain ⟨d,z,ne,e,mA,⟨od,es,ep,e2,c⟩,r⟩:=x;exact ⟨ho _ d,z,ne,k _ _ (.inl rfl) e,mA,⟨od,es,ep,k _ _ (.inr d) e2,c⟩,r⟩
 | own y=>obtain ⟨ob,e⟩:=x;exact ⟨ob,k _ _ (.inl rfl) e⟩
 | xd fs=>obtain ⟨mA,⟨od,es,ep,e,c⟩,r⟩:=x;exact ⟨mA,⟨od,es,ep,k _ _ (.inl rfl) e,c⟩,r⟩
 | rng lo hi=>obtain ⟨t,u,v,e⟩:=x;exact ⟨t,u,v,k _ _ (.inl rfl) e⟩
 | frz ob u ih=>obtain ⟨e,q⟩:=x;exact ⟨k _ _ (.inl rfl) e,ih q⟩
 | tbl ps =>
   have e:h.get? a=some { cls:=.none,data:=.fields ps }:=x;show h'.get? a=some { cls:=.none,data:=.fields ps };exact k a _ (.inl rfl) e
 | met f y =>
   have e:h.get? a=some (PySem.W.methodObj (.ref f) (.ref y)):=x;show h'.get? a=some (PySem.W.methodObj (.ref f) (.ref y));exact k a _ (.inl rfl) e
 | ext φ=>obtain ⟨p,⟨o,e⟩,st⟩:=x;exact ⟨st _ _ p λo q=>k _ _ (.inl rfl) q,⟨o,k _ _ (.inl rfl) e⟩,st⟩
theorem HOk.lt (x:HOk P w H h)(e:H a=some o):a<h.objs.size:=(x a o e).lt
theorem HOk.fresh (x:HOk P w H h)(e:h.objs.size<=a):H a=none:=by
 cases q:H a with
 | none=>rfl
 | some u=>exact absurd (ya (x.lt q) e) (xh _)
theorem HOk.kept (x:HOk P w H h)(k:∀ b u,h.get? b=some u->h'.get? b=some u):HOk P w H h':=λa o e =>
 (x a o e).stay (λb u _ q=>k b u q) (λ_ q=>q) λ_ _ q=>q
theorem HOk.laid (x:HOk P w H h)(k:∀ b u,h.get? b=some u->h'.get? b=some u)(hp:h.objs.size<=a)(new:ObjOk P w (upd H a o) h' a o):HOk P w (upd H a o) h':=λb u e=>by
 have hn:=x.fresh hp;by_cases hb:b=a;{subst hb;rw [zq] at e;cases e;exact new};{rw [zr hb] at e;exact (x b u e).stay (λc v _ q=>k c v q) (λc q=>by rw [zr (zI q hn)];exact q) λc xs q=>by rw [zr (zI q hn)];exact q}
end
def Rd (H:Hp)(a:Addr)(u:HO):Prop:=H a=some u\/∃ o,H a=some (.frz o u)
theorem Rd.ok {H:Hp}{h:Heap}{a:Addr}{u:HO}(r:Rd H a u)(x:HOk P w H h):ObjOk P w H h a u:=by
 rcases r with r | ⟨o,r⟩
 . exact x a u r
 . obtain ⟨_,q⟩:=x a _ r;exact q
def Mut:Option HO->Prop
 | some (.lst _)=>True
 | some (.dK _)=>True
 | some (.dT _)=>True
 | some (.set _ _)=>True
 | some (.ins _ _ _)=>True
 | some (.ext _)=>True
 | _=>False
section
variable {H:Hp}{h:Heap}{x e:Addr}{o':HO}
theorem HOk.write (ok:HOk P w H h) (mu:Mut (H x)) (he:e=x\/H e=some (.own x)) (k:∀ b u,b≠e->h.get? b=some u->h'.get? b=some u) (heo:∃ u,h'.get? e=some u)
   (new:ObjOk P w (upd H x o') h' x o'):HOk P w (upd H x o') h':=λb u q=>by
 have nown:∀ c y,H c=some (.own y)->c≠x:=λc y r z=>by subst z;rw [r] at mu;exact mu
 have ntup:∀ c xs,H c=some (.tup xs)->c≠x:=λc xs r z=>by subst z;rw [r] at mu;exact mu
 by_cases hb:b=x;{subst hb;rw [zq] at q;cases q;exact new}
 . rw [zr hb] at q
   by_cases hbe:b=e
   . have q':H b=some (.own x):=by
       rcases he with z | z
       . exact absurd (hbe.trans z) hb
       . rw [hbe];exact z
     rw [q] at q';cases q';obtain ⟨v,hv⟩:=heo;exact ⟨v,by rw [hbe];exact hv⟩
   . refine (ok b u q).stay (λc v hc r=>k c v ?_ r) (λc r=>by rw [zr (nown c b r)];exact r) λc xs r=>by rw [zr (ntup c xs r)];exact r
     rcases hc with rfl | hc
     . exact hbe
     . rintro rfl;rcases he with z | z
       . exact nown c b hc z
       . rw [hc] at z;cases z;exact hb rfl
end
structure Un (fs ex:List Addr)(H H':Hp)(h h':Heap):Prop where
 keep:∀ b o,h.get? b=some o->H b=none->b∉fs->b∉ex->h'.get? b=some o
 slot:∀ b o,h.get? b=some o->H b=none->b∈fs->b∉ex->∃ sl,h'.get? b=some { o with slots:=sl }
 free:∀ b o,h.get? b=some o->H b=none->b∉ex->H' b=none
 there:∀ b o,h.get? b=some o->b∉ex->∃ o',h'.get? b=some o'
 tups:∀ b xs,H b=some (.tup xs)->H' b=some (.tup xs)
 frzs:∀ b o u,H b=some (.frz o u)->H' b=some (.frz o u)
 tbls:∀ b ps,H b=some (.tbl ps)->∃ more,H' b=some (.tbl (ps++more))
section
variable {fs fs' ex ex':List Addr}{H H1 H2:Hp}{h h1 h2:Heap}{a x e:Addr}{o:HO}
theorem Un.any (u:Un fs ex H H1 h h1){b:Addr}{ob:Obj}(q:h.get? b=some ob)(n:H b=none)(hx:b∉ex):∃ sl,h1.get? b=some { ob with slots:=sl }:=by
 by_cases hb:b∈fs;{exact u.slot b ob q n hb hx};{exact ⟨ob.slots,u.keep b ob q n hb hx⟩}
theorem Un.trans (a:Un fs ex H H1 h h1)(b:Un fs ex H1 H2 h1 h2):Un fs ex H H2 h h2 where
 keep:=λc ob q n hc hx=>b.keep c ob (a.keep c ob q n hc hx) (a.free c ob q n hx) hc hx
 slot:=λc ob q n hc hx=>by
   obtain ⟨sl,e1⟩:=a.slot c ob q n hc hx;obtain ⟨sl',e2⟩:=b.slot c _ e1 (a.free c ob q n hx) hc hx;exact ⟨sl',e2⟩
 free:=λc ob q n hx=>by
   obtain ⟨o',e1⟩:=a.there c ob q hx;exact b.free c o' e1 (a.free c ob q n hx) hx
 there:=λc ob q hx=>by
   obtain ⟨o',e1⟩:=a.there c ob q hx;exact b.there c o' e1 hx
 tups:=λc xs q=>b.tups c xs (a.tups c xs q)
 frzs:=λc ob xs q=>b.frzs c ob xs (a.frzs c ob xs q)
 tbls:=λc ps q=>by
   obtain ⟨m1,e1⟩:=a.tbls c ps q;obtain ⟨m2,e2⟩:=b.tbls c _ e1;exact ⟨m1++m2,by rw [e2,Array.append_assoc]⟩
theorem Un.kept (k:∀ b u,h.get? b=some u->h'.get? b=some u):Un fs ex H H h h' :=
 ⟨λb ob q _ _ _=>k b ob q,λb ob q _ _ _=>⟨ob.slots,k b ob q⟩,λ_ _ _ n _=>n,λb ob q _=>⟨ob,k b ob q⟩,λ_ _ q=>q,λ_ _ _ q=>q,λ_ ps q=>⟨#[],by rw [q];simp⟩⟩
theorem Un.refl:Un fs ex H H h h:=Un.kept λ_ _ q=>q
theorem Un.laid (k:∀ b u,h.get? b=some u->h'.get? b=some u)(hp:h.objs.size<=a)(hn:H a=none):Un fs ex H (upd H a o) h h' where
 keep:=λb u q _ _ _=>k b u q
 slot:=λb u q _ _ _=>⟨u.slots,k b u q⟩
 free:=λb u q n _=>by rw [zr (zC (ya (zW q) hp))];exact n
 there:=λb u q _=>⟨u,k b u q⟩
 tups:=λb xs q=>by rw [zr (zI q hn)];exact q
 frzs:=λb u xs q=>by rw [zr (zI q hn)];exact q
 tbls:=λb ps q=>⟨#[],by rw [zr (zI q hn),q];simp⟩
theorem Un.write (mu:Mut (H x))(he:e=x\/H e=some (.own x))(k:∀ b u,b≠e->h.get? b=some u->h'.get? b=some u)(heo:∃ u,h'.get? e=some u):Un fs ex H (upd H x o) h h':=by
 have hx:∀ b,H b=none->b≠x:=λb n z=>by subst z;rw [n] at mu;exact mu
 have hb:∀ b,H b=none->b≠e:=λb n z=>by
   subst z;rcases he with r | r
   . exact hx b n r
   . rw [n] at r;cases r
 have hm:∀ b u,H b=some u->¬ Mut (some u)->b≠x:=λb u q nm z=>by subst z;rw [q] at mu;exact nm mu
 refine ⟨λb u q n _ _=>k b u (hb b n) q,λb u q n _ _=>⟨u.slots,k b u (hb b n) q⟩,λb u q n _=>by rw [zr (hx b n)];exact n,λb u q _=>?_,
   λb xs q=>by rw [zr (hm b _ q λz=>z)];exact q,λb u xs q=>by rw [zr (hm b _ q λz=>z)];exact q,λb ps q=>⟨#[],by rw [zr (hm b _ q λz=>z),q];simp⟩⟩
 by_cases hbe:b=e;{subst hbe;exact heo};{exact ⟨u,k b u hbe q⟩}
end
def trk (h:Heap)(H:Hp):List Addr:=(List.range h.objs.size).filter λa=>(H a).isSome
def hidT (h:Heap)(H:Hp):Heap:=PySem.W.hideAll h (trk h H)
theorem g8 (h:Heap)(H:Hp):(hidT h H).objs.size=h.objs.size:=PySem.W.hideAll_size _ _
theorem g7 {h:Heap}{H:Hp}{b:Addr}{o:Obj}(e:h.get? b=some o)(n:H b=none):(hidT h H).get? b=some o :=
 PySem.W.hideAll_get _ e λhm=>by
   have q:(H b).isSome=true:=(yv.mp hm).2;rw [n] at q;simp at q
theorem gz {h:Heap}{H:Hp}{b:Addr}{o:Obj}(e:(hidT h H).get? b=some o):h.get? b=some o/\H b=none:=by
 have e':h.get? b=some o:=PySem.W.of_hideAll (trk h H) e;refine ⟨e',?_⟩;cases q:H b with
 | none=>rfl
 | some x =>
   have hm:b∈trk h H:=yv.mpr ⟨xE.mpr (zW e'),by simp [q]⟩;have z:(hidT h H).get? b=none:=PySem.W.hideAll_none (trk h H) hm;rw [z] at e;cases e
def allNews (g h:Heap)(L:Addr):List (Addr × Obj):=(List.range h.objs.size).filterMap λa=>if a=L\/(g.get? a).isSome=true then none else (h.get? a).map λo=>(a,o)
def rest (g h:Heap)(L d:Addr):List (Addr × Obj):=(allNews g h L).filter λp=>decide (p.1≠d)
structure Mod (K:zj)(mg:Str->Option Value)(base:Heap):Prop where
 kin:K.In base
 glob:base.Ns mainGlobals mg
 blt:∃ mb,base.Ns builtinsNs mb/\∀ x:Str,x≠"__name__"->mb x=bootBuiltins x
 nolimit:base.NoLimit
structure Cx where
 prog:Program
 w:World
 K:zj
 mg:Str->Option Value
 base:Heap
 A:Around
 N:List Str
 s₀:Shared
 H₀:Hp
 env:Env
 outer:List Env
 stack:List Env
 ex:List Addr
 fn:Str->Bool
 calm:Bool
 pn:List (Addr × Obj)
 xe:Value->Shared->Prop
def frs (l:List Env):List Addr:=l.filterMap (·.frame)
abbrev Cx.fs (X:Cx):List Addr:=frs X.outer
def Vis (sc:Scope)(x:Str):Prop:=sc.names.lookup x=some .local\/sc.names.lookup x=some .cell\/sc.names.lookup x=some .free
def Loc (sc:Scope)(x:Str):Prop:=sc.names.lookup x=some .local\/sc.names.lookup x=some .cell
def Look (env:Env)(h:Heap)(m:Str->Option Value)(x:Str)(u:Value):Prop :=
 (env.kindOf x=some .local/\m x=some u)\/((env.kindOf x=some .cell\/env.kindOf x=some .free)/\∃ c,env.cells.lookup x=some c/\h.IsCell c (some u))
structure Cx.Ok (X:Cx):Prop where
 mod:Mod X.K X.mg X.base
 kind:X.env.scope.kind=.function
 glob:X.env.globals=mainGlobals
 blt:X.env.builtins=builtinsNs
 above:X.s₀.heap.objs.size<=X.env.locals
 inj:∀ x y c,X.env.cells.lookup x=some c->X.env.cells.lookup y=some c->x=y
 has:∀ x,(X.env.kindOf x=some .cell\/X.env.kindOf x=some .free)->∃ c,X.env.cells.lookup x=some c
 cab:∀ x c,X.fn x=true->X.env.cells.lookup x=some c->X.s₀.heap.objs.size<=c
 hd:X.calm=true->X.A.handled=none
 frames:X.A.frames=some X.stack
 stk:X.stack=X.outer\/(X.stack=X.env::X.outer/\X.env.frame=some X.env.locals)
 exf:∀ b∈X.ex,b≠X.env.locals/\∀ x c,X.env.cells.lookup x=some c->c≠b
 bs:∀ b o,X.base.get? b=some o->X.s₀.heap.get? b=some o/\X.H₀ b=none
 bsz:X.base.objs.size<=X.s₀.heap.objs.size
 noex:∀ b o,X.base.get? b=some o->b∉X.ex
 exfs:∀ b∈X.ex,b∉X.fs
 funs:X.s₀.heap.FunFrames X.base X.outer
 frf:∀ b∈X.fs,X.H₀ b=none
structure Inv (X:Cx)(pins:List (Addr × Obj))(σ:List (Option V))(H:Hp)(s:Shared):Prop where
 ok:X.Ok
 os:s.os=X.s₀.os
 bare:AllBare s.gens
 base:Un X.fs X.ex X.H₀ H X.s₀.heap s.heap
 loc:∃ m,s.heap.Ns X.env.locals m/\∀ (i:Nat) (x:Str) (v:V),X.N[i]?=some x->σ[i]?=some (some v)->Vis X.env.scope x->∃ u,RelV v u/\Look X.env s.heap m x u
 cell:∀ x c,X.env.cells.lookup x=some c->∃ v,s.heap.IsCell c v
 free:H X.env.locals=none
 freeC:∀ x c,X.env.cells.lookup x=some c->H c=none
 pin:∀ p∈X.pn++pins,s.heap.get? p.1=some p.2/\H p.1=none/\p.1≠X.env.locals/\p.1∉X.fs/\∀ v,p.2.data≠.cell v
 hok:HOk X.prog X.w H s.heap
 len:σ.length=X.N.length
section
variable {X:Cx}{σ:List (Option V)}{H H':Hp}
theorem Cx.Ok.nofr (ok:X.Ok){b:Addr}{o:Obj}(e:X.base.get? b=some o):b∉X.fs:=λhb=>by
 have:=(ok.funs.mem hb).1;rw [e] at this;cases this
theorem Inv.bs (I:Inv X pins σ H s):∀ b o,X.base.get? b=some o->s.heap.get? b=some o/\H b=none:=λb o e =>
 ⟨I.base.keep b o (I.ok.bs b o e).1 (I.ok.bs b o e).2 (I.ok.nofr e) (I.ok.noex b o e),I.base.free b o (I.ok.bs b o e).1 (I.ok.bs b o e).2 (I.ok.noex b o e)⟩
theorem Inv.bk (I:Inv X pins σ H s):∀ b o,X.base.get? b=some o->s.heap.get? b=some o:=λb o e=>(I.bs b o e).1
theorem Inv.mod (I:Inv X pins σ H s):Mod X.K X.mg X.base:=I.ok.mod
theorem Inv.kIn (I:Inv X pins σ H s):X.K.In s.heap:=I.ok.mod.kin.keeps I.bk
theorem Inv.lt (I:Inv X pins σ H s):X.env.locals<s.heap.objs.size:=let ⟨_,hn,_⟩:=I.loc;hn.lt
theorem Inv.sz (I:Inv X pins σ H s):X.s₀.heap.objs.size<=s.heap.objs.size:=yl I.ok.above (wD I.lt)
theorem Inv.nofs (I:Inv X pins σ H s){a:Addr}(h:s.heap.objs.size<=a):a∉X.fs:=λhb=>by
 obtain ⟨_,o,ho,_⟩:=I.ok.funs.mem hb;exact absurd (ya (zW ho) (yl I.sz h)) (xh _)
theorem Inv.cne (I:Inv X pins σ H s):∀ x c,X.env.cells.lookup x=some c->c≠X.env.locals:=λx c e z=>by
 obtain ⟨v,o,ho,hd⟩:=I.cell x c e;obtain ⟨m,⟨o',es,ep,ho',hd',_⟩,_⟩:=I.loc;rw [z,ho'] at ho;cases ho;rw [hd'] at hd;cases hd
theorem Inv.funs (I:Inv X pins σ H s):s.heap.FunFrames X.base X.outer:=by
 have all:∀ (l:List Env),(∀ b∈frs l,b∈X.fs)->X.s₀.heap.FunFrames X.base l->s.heap.FunFrames X.base l:=by
   intro l;induction l with
   | nil=>intro _ _;trivial
   | cons env r ih =>
     intro hs hl;obtain ⟨hk,⟨L,o,hf,hn,ho,hd⟩,hr⟩:=hl;have hL:L∈X.fs:=hs L (by unfold frs;rw [mV,hf];exact xu);obtain ⟨sl,e⟩:=I.base.slot L o ho (I.ok.frf L hL) hL λz=>I.ok.exfs L z hL
     exact ⟨hk,⟨L,_,hf,hn,e,hd⟩,ih (λb hb=>hs b (by unfold frs;rw [mV,hf];exact xm _ hb)) hr⟩
 exact all X.outer (λ_ hb=>hb) I.ok.funs
theorem Inv.stack (I:Inv X pins σ H s):s.heap.FunFrames X.base X.stack:=by
 rcases I.ok.stk with e | ⟨e,hf⟩
 . rw [e];exact I.funs
 . rw [e];obtain ⟨m,hn,_⟩:=I.loc;refine .cons (by rw [I.ok.kind];decide) hf hn ?_ I.funs;exact Heap.get?_none_of_le (yl I.ok.bsz I.ok.above)
theorem Inv.stkSub (I:Inv X pins σ H s):∀ b∈frs X.stack,b∈X.env.locals::X.fs:=λb hb=>by
 rcases I.ok.stk with e | ⟨e,hf⟩
 . rw [e] at hb;exact xm _ hb
 . rw [e] at hb;unfold frs at hb;rw [mV,hf] at hb;exact hb
theorem Inv.stkFree (I:Inv X pins σ H s):∀ b∈frs X.stack,H b=none:=λb hb=>by
 rcases zQ.mp (I.stkSub b hb) with e | hb
 . rw [e];exact I.free
 . obtain ⟨_,o,ho,_⟩:=I.ok.funs.mem hb;exact I.base.free b o ho (I.ok.frf b hb) λz=>I.ok.exfs b z hb
theorem Inv.step {g':Array GenState}{d':Drawn}{ch:List Addr}(I:Inv X pins σ H s)
   (hch:∀ b∈ch,(b∈X.ex\/X.s₀.heap.objs.size<=b)/\b≠X.env.locals/\(∀ x c,X.env.cells.lookup x=some c->c≠b)/\∀ p∈X.pn++pins,p.1≠b)
   (keep:∀ b o,b≠X.env.locals->b∉X.fs->b∉ch->s.heap.get? b=some o->H b=none->h'.get? b=some o)
   (slot:∀ b o,b≠X.env.locals->b∈X.fs->b∉ch->s.heap.get? b=some o->H b=none->∃ sl,h'.get? b=some { o with slots:=sl }) (free:∀ b o,b∉ch->s.heap.get? b=some o->H b=none->H' b=none)
   (there:∀ b o,b∉ch->s.heap.get? b=some o->∃ o',h'.get? b=some o')
   (tups:∀ b xs,H b=some (.tup xs)->H' b=some (.tup xs)) (frzs:∀ b o u,H b=some (.frz o u)->H' b=some (.frz o u)) (tbls:∀ b ps,H b=some (.tbl ps)->∃ more,H' b=some (.tbl (ps++more)))
   (ns:∀ m,s.heap.Ns X.env.locals m->h'.Ns X.env.locals m) (hok:HOk X.prog X.w H' h') (hg:AllBare g') :
   Inv X pins σ H' { s with heap:=h',gens:=g',drawn:=d',toks:=t' }:=by
 have neL:∀ b o,X.s₀.heap.get? b=some o->b≠X.env.locals:=λb o e=>zC (ya (zW e) I.ok.above)
 have neC:∀ b o,X.s₀.heap.get? b=some o->b∉X.ex->b∉ch:=λb o e hx hb=>by
   rcases (hch b hb).1 with z | z
   . exact hx z
   . exact absurd (ya (zW e) z) (xh _)
 have cellK:∀ x c,X.env.cells.lookup x=some c->∀ v,s.heap.IsCell c v->h'.IsCell c v:=λx c e v ⟨o,ho,hd⟩=>by
   have nch:c∉ch:=λz=>(hch c z).2.2.1 x c e rfl
   by_cases hc:c∈X.fs;{obtain ⟨sl,q⟩:=slot c o (I.cne x c e) hc nch ho (I.freeC x c e);exact ⟨_,q,hd⟩};{exact ⟨o,keep c o (I.cne x c e) hc nch ho (I.freeC x c e),hd⟩}
 refine ⟨I.ok,I.os,hg,⟨λb o e n hb hx=>?_,λb o e n hb hx=>?_,λb o e n hx=>?_,λb o e hx=>?_,λb xs e=>tups b xs (I.base.tups b xs e),λb o xs e=>frzs b o xs (I.base.frzs b o xs e),λb ps e=>?_⟩,?_,λx c e=>?_,?_,λx c e=>?_,λp hp=>?_,hok,I.len⟩;{exact keep b o (neL b o e) hb (neC b o e hx) (I.base.keep b o e n hb hx) (I.base.free b o e n hx)};{obtain ⟨sl,e1⟩:=I.base.slot b o e n hb hx;obtain ⟨sl',e2⟩:=slot b _ (neL b o e) hb (neC b o e hx) e1 (I.base.free b o e n hx);exact ⟨sl',e2⟩};{obtain ⟨o',e1⟩:=I.base.there b o e hx;exact free b o' (neC b o e hx) e1 (I.base.free b o e n hx)};{obtain ⟨o',e1⟩:=I.base.there b o e hx;exact there b o' (neC b o e hx) e1};{obtain ⟨m1,e1⟩:=I.base.tbls b ps e;obtain ⟨m2,e2⟩:=tbls b _ e1;exact ⟨m1++m2,by rw [e2,Array.append_assoc]⟩}
 . obtain ⟨m,hn,hl⟩:=I.loc;refine ⟨m,ns m hn,λi x v e1 e2 e3=>?_⟩;obtain ⟨u,r,l⟩:=hl i x v e1 e2 e3;refine ⟨u,r,?_⟩;rcases l with l | ⟨k,c,e,z⟩
   . exact .inl l
   . exact .inr ⟨k,c,e,cellK x c e _ z⟩
 . obtain ⟨v,z⟩:=I.cell x c e;exact ⟨v,cellK x c e v z⟩
 . obtain ⟨m,⟨o,_,_,ho,_⟩,_⟩:=I.loc;exact free _ o (λz=>(hch _ z).2.1 rfl) ho I.free
 . obtain ⟨v,o,ho,hd⟩:=I.cell x c e;exact free c o (λz=>(hch c z).2.2.1 x c e rfl) ho (I.freeC x c e)
 . obtain ⟨e,n,ne,nf,d⟩:=I.pin p hp;have nch:p.1∉ch:=λz=>(hch p.1 z).2.2.2 p hp rfl
   exact ⟨keep p.1 p.2 ne nf nch e n,free p.1 p.2 nch e n,ne,nf,d⟩
theorem Inv.un (I:Inv X pins σ H s)(u:Un X.fs [] H H' s.heap h')(hok:HOk X.prog X.w H' h'):Inv X pins σ H' { s with heap:=h',toks:=t' }:=by
 obtain ⟨m,⟨o,es,ep,ho,r⟩,_⟩:=id I.loc;obtain ⟨sl,hL⟩:=u.any ho I.free (by simp);exact I.step (g':=s.gens) (d':=s.drawn) (ch:=[]) (λ_ z=>nomatch z) (λb o _ hb _ e n=>u.keep b o e n hb (by simp)) (λb o _ hb _ e n=>u.slot b o e n hb (by simp)) (λb o _ e n=>u.free b o e n (by simp)) (λb o _ e=>u.there b o e (by simp)) u.tups u.frzs u.tbls (λm' hm=>by
   obtain ⟨o',es',ep',ho',r'⟩:=hm;rw [ho] at ho';cases ho';exact ⟨_,es',ep',hL,r'⟩) hok I.bare
theorem Inv.call {g':Array GenState}{d':Drawn}{ch:List Addr}(I:Inv X pins σ H s)(u:Un (frs X.stack) ch H H' s.heap h')(hok:HOk X.prog X.w H' h')(hg:AllBare g')
   (hch:∀ b∈ch,(b∈X.ex\/X.s₀.heap.objs.size<=b)/\b≠X.env.locals/\(∀ x c,X.env.cells.lookup x=some c->c≠b)/\∀ p∈X.pn++pins,p.1≠b) :
   Inv X pins σ H' { s with heap:=h',gens:=g',drawn:=d',toks:=t' }:=by
 obtain ⟨m,⟨o,es,ep,ho,r⟩,_⟩:=id I.loc;obtain ⟨sl,hL⟩:=u.any ho I.free λz=>(hch _ z).2.1 rfl
 exact I.step (ch:=ch) hch (λb o hL hb hc e n=>u.keep b o e n (λz=>(zQ.mp (I.stkSub b z)).elim hL hb) hc) (λb o _ _ hc e n=>u.any e n hc) (λb o hc e n=>u.free b o e n hc) (λb o hc e=>u.there b o e hc) u.tups u.frzs u.tbls (λm' hm=>by
   obtain ⟨o',es',ep',ho',r'⟩:=hm;rw [ho] at ho';cases ho';exact ⟨_,es',ep',hL,r'⟩) hok hg
theorem Inv.turned {it:Addr}(I:Inv X pins σ H s)(k:∀ b o,b≠it->s.heap.get? b=some o->h'.get? b=some o)(hn:H it=none)(hL:it≠X.env.locals)
   (h1:it∈X.ex\/X.s₀.heap.objs.size<=it) (h2:∀ x c,X.env.cells.lookup x=some c->c≠it) (h3:∀ p∈X.pn++pins,p.1≠it):Inv X pins σ H { s with heap:=h',toks:=t' }:=by
 have nit:∀ b u,H b=some u->b≠it:=λb u e z=>by rw [z,hn] at e;cases e
 refine I.step (g':=s.gens) (d':=s.drawn) (ch:=[it]) (λb hb=>?_) (λb o _ _ hc e _=>k b o (λz=>hc (by simp [z])) e) (λb o _ _ hc e _=>⟨o.slots,k b o (λz=>hc (by simp [z])) e⟩) (λ_ _ _ _ n=>n)
   (λb o hc e=>⟨o,k b o (λz=>hc (by simp [z])) e⟩) (λ_ _ e=>e) (λ_ _ _ e=>e) (λb ps e=>⟨#[],by rw [e];simp⟩) (λm hm=>?_) (λb u e=>?_) I.bare
 . have e:b=it:=by simpa using hb
   subst e;exact ⟨h1,hL,h2,h3⟩
 . obtain ⟨o,es,ep,ho,r⟩:=hm;exact ⟨o,es,ep,k _ o (Ne.symm hL) ho,r⟩
 . refine (I.hok b u e).stay (λc v hc q=>k c v ?_ q) (λ_ q=>q) λ_ _ q=>q
   rcases hc with z | z
   . rw [z];exact nit b u e
   . exact nit c _ z
theorem Inv.tok (I:Inv X pins σ H s)(t:Nat):Inv X pins σ H { s with toks:=t }:=I.un (h':=s.heap) (t':=t) Un.refl I.hok
theorem Inv.kept (I:Inv X pins σ H s)(k:∀ b u,s.heap.get? b=some u->h'.get? b=some u):Inv X pins σ H { s with heap:=h',toks:=t' }:=I.un (Un.kept k) (I.hok.kept k)
theorem Inv.laid {a:Addr}{o:HO}(I:Inv X pins σ H s)(k:∀ b u,s.heap.get? b=some u->h'.get? b=some u)(hp:s.heap.objs.size<=a)(new:ObjOk X.prog X.w (upd H a o) h' a o) :
   Inv X pins σ (upd H a o) { s with heap:=h',toks:=t' }:=I.un (Un.laid k hp (I.hok.fresh hp)) (I.hok.laid k hp new)
theorem Inv.write {x e:Addr}{o:HO}(I:Inv X pins σ H s)(mu:Mut (H x))(he:e=x\/H e=some (.own x))(k:∀ b u,b≠e->s.heap.get? b=some u->h'.get? b=some u)(heo:∃ u,h'.get? e=some u)
   (new:ObjOk X.prog X.w (upd H x o) h' x o):Inv X pins σ (upd H x o) { s with heap:=h',toks:=t' }:=I.un (Un.write mu he k heo) (I.hok.write mu he k heo new)
theorem Inv.weak {σ':List (Option V)}(I:Inv X pins σ H s)(hl:σ'.length=σ.length)(w:∀ (i:Nat) v,σ'[i]?=some (some v)->σ[i]?=some (some v)):Inv X pins σ' H s :=
 ⟨I.ok,I.os,I.bare,I.base,let ⟨m,hn,hl'⟩:=I.loc;⟨m,hn,λi x v e1 e2 e3=>hl' i x v e1 (w i v e2) e3⟩,I.cell,I.free,I.freeC,I.pin,I.hok,hl.trans I.len⟩
theorem Inv.pins_of {pins':List (Addr × Obj)}(I:Inv X pins σ H s)(h:∀ p∈pins',s.heap.get? p.1=some p.2/\H p.1=none/\p.1≠X.env.locals/\p.1∉X.fs/\∀ v,p.2.data≠.cell v):Inv X pins' σ H s :=
 ⟨I.ok,I.os,I.bare,I.base,I.loc,I.cell,I.free,I.freeC,λp hp=>(zY.mp hp).elim (λz=>I.pin p (xS _ z)) (h p),I.hok,I.len⟩
theorem gy (hN:N.Nodup){i j:Nat}{x:Str}(a:N[i]?=some x)(b:N[j]?=some x):i=j:=by obtain ⟨h1,e1⟩:=xT.mp a;obtain ⟨h2,e2⟩:=xT.mp b;exact (List.getElem_inj hN).mp (e1.trans e2.symm)
theorem bA {M:Model} {i:Nat} {x:Str} {v:V} {Q:Unit->Shared->Prop} (I:Inv X pins σ H s) (hN:X.N.Nodup) (hi:X.N[i]?=some x) (hx:Loc X.env.scope x) (r:RelV v u)
   (h:∀ s',Inv X pins (σ.set i (some v)) H s'->(∃ a,Heap.SameBut a s.heap s'.heap/\(a=X.env.locals\/X.env.cells.lookup x=some a))->Q () s') (hf:X.fn x=true\/X.env.scope.names.lookup x=some .local:=by first | exact .inl rfl | exact .inr rfl | assumption):wpAny M A (storeName X.env x u) Q E s:=by
 obtain ⟨m,hn,hl⟩:=id I.loc;have hcls:(X.env.scope.kind==.class||(X.env.scope.kind==.module&&X.env.locals != X.env.globals))=false:=by rw [I.ok.kind];rfl
 have hiσ:i<σ.length:=by rw [I.len];exact (xT.mp hi).1
 have cne:=I.cne;have tracked:∀ {a:Addr} {h':Heap},(∃ o,s.heap.get? a=some o/\H a=none)->Heap.SameBut a s.heap h'->HOk X.prog X.w H h':=λ{a h'} ha hs b ob e=>by
   obtain ⟨_,_,hfree⟩:=ha;refine (I.hok b ob e).stay (λc w' hc q=>(hs.2 c ?_).trans q) (λ_ q=>q) λ_ _ q=>q
   rintro rfl;rcases hc with rfl | hc
   . rw [hfree] at e;cases e
   . rw [hfree] at hc;cases hc
 rcases hx with hk | hk
 . refine wpAny_storeName_local hk hn (λh' hn' hs=>?_) hcls;obtain ⟨oL,_,_,hoL,_⟩:=id hn;refine h _ ⟨I.ok,I.os,I.bare,⟨λb o e n hb hx=>?_,λb o e n hb hx=>?_,I.base.free,λb o e hx=>?_,I.base.tups,I.base.frzs,I.base.tbls⟩,⟨_,hn',λj y v' e1 e2 e3=>?_⟩,λy c e=>?_,I.free,I.freeC,λp hp=>?_,tracked ⟨oL,hoL,I.free⟩ hs,by simpa using I.len⟩ ⟨_,hs,.inl rfl⟩
   . exact (hs.2 b (zC (ya (zW e) I.ok.above))).trans (I.base.keep b o e n hb hx)
   . obtain ⟨sl,e1⟩:=I.base.slot b o e n hb hx;exact ⟨sl,(hs.2 b (zC (ya (zW e) I.ok.above))).trans e1⟩
   . obtain ⟨o',e1⟩:=I.base.there b o e hx;exact ⟨o',(hs.2 b (zC (ya (zW e) I.ok.above))).trans e1⟩
   . by_cases hj:j=i
     . subst hj;rw [hi] at e1;cases e1;rw [hU hiσ] at e2;cases e2;exact ⟨u,r,.inl ⟨hk,by simp⟩⟩
     . rw [List.getElem?_set_ne (Ne.symm hj)] at e2;obtain ⟨u',r',q⟩:=hl j y v' e1 e2 e3;refine ⟨u',r',?_⟩;rcases q with ⟨k,e⟩ | ⟨k,c,e,z⟩
       . refine .inl ⟨k,?_⟩;have:y≠x:=λe=>hj (gy hN e1 (e ▸ hi))
         simp [this,e]
       . exact .inr ⟨k,c,e,z.sameBut hs (cne y c e)⟩
   . obtain ⟨w',z⟩:=I.cell y c e;exact ⟨w',z.sameBut hs (cne y c e)⟩
   . obtain ⟨e,n,ne,nf,d⟩:=I.pin p hp;exact ⟨(hs.2 p.1 ne).trans e,n,ne,nf,d⟩
 . have hfn:X.fn x=true:=by
     rcases hf with z | z
     . exact z
     . rw [z] at hk;cases hk
   obtain ⟨c,hc⟩:=I.ok.has x (.inl hk);obtain ⟨w',z⟩:=I.cell x c hc;refine wpAny_storeName_cell I.ok.kind hk hc z (λh' hc' hs=>?_);obtain ⟨oc,hoc,hocd⟩:=id z;refine h { s with heap:=h' } ⟨I.ok,I.os,I.bare,⟨λb o e n hb hx=>?_,λb o e n hb hx=>?_,I.base.free,λb o e hx=>?_,I.base.tups,I.base.frzs,I.base.tbls⟩,⟨m,hn.sameBut hs (Ne.symm (cne x c hc)),λj y v' e1 e2 e3=>?_⟩,λy c' e=>?_,I.free,I.freeC,λp hp=>?_,tracked ⟨oc,hoc,I.freeC x c hc⟩ hs,by simpa using I.len⟩ ⟨c,hs,.inr hc⟩;{exact (hs.2 b (zC (ya (zW e) (I.ok.cab x c hfn hc)))).trans (I.base.keep b o e n hb hx)};{obtain ⟨sl,e1⟩:=I.base.slot b o e n hb hx;exact ⟨sl,(hs.2 b (zC (ya (zW e) (I.ok.cab x c hfn hc)))).trans e1⟩};{obtain ⟨o',e1⟩:=I.base.there b o e hx;exact ⟨o',(hs.2 b (zC (ya (zW e) (I.ok.cab x c hfn hc)))).trans e1⟩}
   . by_cases hj:j=i
     . subst hj;rw [hi] at e1;cases e1;rw [hU hiσ] at e2;cases e2;exact ⟨u,r,.inr ⟨.inl hk,c,hc,hc'⟩⟩
     . rw [List.getElem?_set_ne (Ne.symm hj)] at e2;obtain ⟨u',r',q⟩:=hl j y v' e1 e2 e3;refine ⟨u',r',?_⟩;rcases q with q | ⟨k,c',e,z'⟩
       . exact .inl q
       . refine .inr ⟨k,c',e,z'.sameBut hs ?_⟩;rintro rfl;exact hj (gy hN e1 (I.ok.inj _ _ _ e hc ▸ hi))
   . by_cases hcc:c'=c
     . subst hcc;exact ⟨_,hc'⟩
     . obtain ⟨w2,z2⟩:=I.cell y c' e;exact ⟨w2,z2.sameBut hs hcc⟩
   . obtain ⟨e,n,ne,nf,d⟩:=I.pin p hp;refine ⟨(hs.2 p.1 ?_).trans e,n,ne,nf,d⟩;intro q;rw [q,hoc] at e;have q':oc=p.2:=Option.some.inj e;exact d w' (by rw [<- q'];exact hocd)
theorem lj {M:Model}{i:Nat}{x:Str}{v:V}{Q:Unit->Shared->Prop}(I:Inv X pins σ H s)(hN:X.N.Nodup)(hi:X.N[i]?=some x)(hx:Loc X.env.scope x)(r:RelV v u)
   (h:∀ s',Inv X pins (σ.set i (some v)) H s'->Q () s') (hf:X.fn x=true\/X.env.scope.names.lookup x=some .local:=by first | exact .inl rfl | exact .inr rfl | assumption):wpAny M A (storeName X.env x u) Q E s :=
 bA I hN hi hx r (λs' I' _=>h s' I') hf
theorem Inv.call' {s':Shared}{ch:List Addr}(I:Inv X pins σ H s)(ho:s'.os=s.os)(u:Un (frs X.stack) ch H H' s.heap s'.heap)(hok:HOk X.prog X.w H' s'.heap)(hg:AllBare s'.gens)
   (hch:∀ b∈ch,(b∈X.ex\/X.s₀.heap.objs.size<=b)/\b≠X.env.locals/\(∀ x c,X.env.cells.lookup x=some c->c≠b)/\∀ p∈X.pn++pins,p.1≠b):Inv X pins σ H' s':=by
 obtain ⟨h',g',d',t',o'⟩:=s';have e:o'=s.os:=ho;subst e;exact I.call (g':=g') (t':=t') (d':=d') u hok hg hch
end
abbrev XK:=Value->Option Addr->Hp->Prop
abbrev St:=List (Option V)
abbrev VK:=V->Hp->Prop
abbrev TE:=St->Hp->VK->Prop
abbrev TT:=St->Hp->(Bool->Hp->Prop)->Prop
abbrev TA:=St->Hp->(List V->Hp->Prop)->Prop
structure Ends where
 nx:St->Hp->Prop
 rt:VK
 bk:St->Hp->Prop:=λ_ _=>False
 ct:St->Hp->Prop:=λ_ _=>False
abbrev TS:=Ends->St->Hp->Prop
def EP (X:Cx)(pins:List (Addr × Obj))(σ:St)(Q:VK)(u:Value)(s':Shared):Prop:=∃ v H',Inv X pins σ H' s'/\RelV v u/\Q v H'
def TP (X:Cx)(pins:List (Addr × Obj))(σ:St)(Q:Bool->Hp->Prop)(b:Bool)(s':Shared):Prop:=∃ H',Inv X pins σ H' s'/\Q b H'
def AP (X:Cx)(pins:List (Addr × Obj))(σ:St)(Q:List V->Hp->Prop)(us:List Value)(s':Shared):Prop:=∃ vs H',Inv X pins σ H' s'/\Vals vs us/\Q vs H'
def SP (X:Cx)(pins:List (Addr × Obj))(D:Ends)(f:Flow)(s':Shared):Prop :=
 match f with
 | .next=>∃ σ' H',Inv X pins σ' H' s'/\D.nx σ' H'
 | .brk=>∃ σ' H',Inv X pins σ' H' s'/\D.bk σ' H'
 | .cont=>∃ σ' H',Inv X pins σ' H' s'/\D.ct σ' H'
 | .ret u=>∃ v σ' H',Inv X pins σ' H' s'/\RelV v u/\D.rt v H'
def PE (X:Cx)(e:Expr)(t:TE):Prop :=
 ∀ (pins:List (Addr × Obj)) (s:Shared) (σ:St) (H:Hp) (Q:VK),Inv X pins σ H s->t σ H Q->wpAny (model X.prog X.w) X.A (eval e X.env) (EP X pins σ Q) X.xe s
def PT (X:Cx)(e:Expr)(t:TT):Prop :=
 ∀ (pins:List (Addr × Obj)) (s:Shared) (σ:St) (H:Hp) (Q:Bool->Hp->Prop),Inv X pins σ H s->t σ H Q->wpAny (model X.prog X.w) X.A (isTrue e X.env (eval e X.env)) (TP X pins σ Q) X.xe s
def PW (X:Cx)(e:Expr)(t:TT):Prop :=
 ∀ (whole:Sem Value) (pins:List (Addr × Obj)) (s:Shared) (σ:St) (H:Hp) (Q:Bool->Hp->Prop),Inv X pins σ H s->t σ H Q->wpAny (model X.prog X.w) X.A (isTrue e X.env whole) (TP X pins σ Q) X.xe s
theorem PW.pt {X:Cx}{e:Expr}{t:TT}(h:PW X e t):PT X e t:=h _
def PA (X:Cx)(es:List Expr)(t:TA):Prop :=
 ∀ (pos:Pos) (pins:List (Addr × Obj)) (s:Shared) (σ:St) (H:Hp) (Q:List V->Hp->Prop),Inv X pins σ H s->t σ H Q->wpAny (model X.prog X.w) X.A (spliced (backTo pos (starEach es X.env))) (AP X pins σ Q) X.xe s
def PS (X:Cx)(st:Stmt)(t:TS):Prop :=
 ∀ (pins:List (Addr × Obj)) (s:Shared) (σ:St) (H:Hp) (D:Ends),Inv X pins σ H s->t D σ H->wpAny (model X.prog X.w) X.A (exec st X.env) (SP X pins D) X.xe s
def PSs (X:Cx)(st:List Stmt)(t:TS):Prop :=
 ∀ (pins:List (Addr × Obj)) (s:Shared) (σ:St) (H:Hp) (D:Ends),Inv X pins σ H s->t D σ H->wpAny (model X.prog X.w) X.A (execs st X.env) (SP X pins D) X.xe s
theorem thn {α:Type}{t:Sem α}{Q Q':α->Shared->Prop}{M:Model}(h:wpAny M A t Q E s)(hQ:∀ a s,Q a s->Q' a s):wpAny M A t Q' E s:=xn h hQ λ_ _ x=>x
section
variable {X:Cx}
def onV (o:Option (Option V))(Q:V->Prop):Prop:=match o with | some (some v)=>Q v | _=>False
def onI (x:V)(Q:Int->Prop):Prop:=match x with | .int i=>Q i | _=>False
def onB (x:V)(Q:Bool->Prop):Prop:=match x with | .bl k=>Q k | _=>False
def onR (x:V)(Q:Addr->Prop):Prop:=match x with | .ref a=>Q a | _=>False
def onT (b:Bool)(Q:Prop):Prop:=match b with | true=>Q | false=>False
theorem onV_s {v:V}{Q:V->Prop}:onV (some (some v)) Q=Q v:=rfl
theorem onI_i {i:Int}{Q:Int->Prop}:onI (.int i) Q=Q i:=rfl
theorem onB_b {k:Bool}{Q:Bool->Prop}:onB (.bl k) Q=Q k:=rfl
theorem onR_r {a:Addr}{Q:Addr->Prop}:onR (.ref a) Q=Q a:=rfl
theorem onT_t {Q:Prop}:onT true Q=Q:=rfl
theorem onV_x {o:Option (Option V)}{Q:V->Prop}(h:onV o Q):∃ v,o=some (some v)/\Q v:=match o,h with | some (some v),h=>⟨v,rfl,h⟩
theorem ud {x:V}{Q:Int->Prop}(h:onI x Q):∃ i,x=.int i/\Q i:=match x,h with | .int i,h=>⟨i,rfl,h⟩
theorem tW {x:V}{Q:Bool->Prop}(h:onB x Q):∃ k,x=.bl k/\Q k:=match x,h with | .bl k,h=>⟨k,rfl,h⟩
theorem onR_x {x:V}{Q:Addr->Prop}(h:onR x Q):∃ a,x=.ref a/\Q a:=match x,h with | .ref a,h=>⟨a,rfl,h⟩
theorem onT_x {b:Bool}{Q:Prop}(h:onT b Q):b=true/\Q:=match b,h with | true,h=>⟨rfl,h⟩
theorem wA {o:Option (Option V)}{Q:V->Prop}:onV o Q=∃ v,o=some (some v)/\Q v:=propext ⟨onV_x,λ⟨_,e,h⟩=>by subst e;exact h⟩
theorem vg {x:V}{Q:Int->Prop}:onI x Q=∃ i,x=.int i/\Q i:=propext ⟨ud,λ⟨_,e,h⟩=>by subst e;exact h⟩
theorem qJ {x:V}{Q:Bool->Prop}:onB x Q=∃ k,x=.bl k/\Q k:=propext ⟨tW,λ⟨_,e,h⟩=>by subst e;exact h⟩
theorem onR_ap {x:V}{Q:Addr->Prop}:onR x Q=∃ a,x=.ref a/\Q a:=propext ⟨onR_x,λ⟨_,e,h⟩=>by subst e;exact h⟩
theorem onT_ap {b:Bool}{Q:Prop}:onT b Q=(b=true/\Q):=propext ⟨onT_x,λ⟨e,h⟩=>by subst e;exact h⟩
theorem lZ {x y:V}{Q:Int->Int->Prop}(h:onI x λi=>onI y λj=>Q i j):∃ i j,x=.int i/\y=.int j/\Q i j:=let ⟨i,e,h⟩:=ud h;let ⟨j,e2,h⟩:=ud h;⟨i,j,e,e2,h⟩
def tVar (i:Nat):TE:=λσ H Q=>onV σ[i]? λv=>Q v H
def tC (v:V):TE:=λ_ H Q=>Q v H
theorem pe_var {i:Nat}{x:Str}{pos:Pos}(hN:X.N[i]?=some x)(hv:Vis X.env.scope x)(hd:(x==("__debug__":Str))=false:=by decide)(hcd:(x==("__classdict__":Str))=false:=by decide):PE X (.Name x pos) (tVar i):=by
 intro pins s σ H Q I h;obtain ⟨v,e,h⟩:=onV_x h;obtain ⟨m,hn,hl⟩:=I.loc;obtain ⟨u,r,l⟩:=hl i x v hN e hv;have fin:EP X pins σ Q u s:=⟨v,H,I,r,h⟩
 rcases l with ⟨hk,hm⟩ | ⟨hk,c,hc,hcell⟩
 . exact wpAny_Name (wpAny_loadName_local I.ok.kind hk hn hm fin) hd
 . rcases hk with hk | hk
   . exact wpAny_Name (wpAny_loadName_cell I.ok.kind hk hc hcell fin) hd
   . exact wpAny_Name (wpAny_loadName_free I.ok.kind hk hc hcell fin hcd) hd
theorem zu {i j pos}:PE X (.Constant (.int i) j pos) (tC (.int i)):=λ_ _ _ H _ I h=>wpAny_Constant_int ⟨.int i,H,I.tok _,⟨_,rfl⟩,h⟩
theorem rn {b j pos}:PE X (.Constant (.bool b) j pos) (tC (.bl b)):=λ_ _ _ H _ I h=>Constant_bool ⟨.bl b,H,I,rfl,h⟩
theorem vf {j pos}:PE X (.Constant .none j pos) (tC .non):=λ_ _ _ H _ I h=>Constant_none ⟨.non,H,I,rfl,h⟩
theorem xr {x j pos}:PE X (.Constant (.str x) j pos) (tC (.str x)):=λ_ _ _ H _ I h=>Calls.Constant_str ⟨.str x,H,I.tok _,⟨_,rfl⟩,h⟩
def Gl (X:Cx)(x:Str):Prop:=X.env.kindOf x=some .globalImplicit
theorem tV {σ:St}{H:Hp}{x:Str}{pos:Pos}(I:Inv X pins σ H s)(hg:Gl X x)(hm:X.mg x=some u)(h:Q u s)
   (hd:(x==("__debug__":Str))=false:=by decide):wpAny (model X.prog X.w) X.A (eval (.Name x pos) X.env) Q E s :=
 Calls.Name_function_global I.ok.kind hg (Calls.loadGlobal_global (by rw [I.ok.glob];exact I.mod.glob.keeps I.bk) hm h) hd
theorem vE {σ:St}{H:Hp}{x:Str}{pos:Pos}(I:Inv X pins σ H s)(hg:Gl X x)(hm:X.mg x=none)(hv:bootBuiltins x=some u)(h:Q u s)
   (hn:x≠"__name__":=by decide) (hd:(x==("__debug__":Str))=false:=by decide):wpAny (model X.prog X.w) X.A (eval (.Name x pos) X.env) Q E s:=by
 obtain ⟨mb,h1,h2⟩:=I.mod.blt;exact Calls.Name_function_global I.ok.kind hg (Calls.loadGlobal_builtin (by rw [I.ok.glob];exact I.mod.glob.keeps I.bk) hm (by rw [I.ok.blt];exact h1.keeps I.bk) ((h2 x hn).trans hv) h) hd
theorem gx {x:Str}{v:V}{pos:Pos}(hg:Gl X x)(hm:X.mg x=some u)(r:RelV v u)(hd:(x==("__debug__":Str))=false:=by decide):PE X (.Name x pos) (tC v) :=
 λ_ _ _ H _ I h=>tV I hg hm ⟨v,H,I,r,h⟩ hd
theorem rj {x:Str}{v:V}{pos:Pos}(hg:Gl X x)(hm:X.mg x=none)(hv:bootBuiltins x=some u)(r:RelV v u)(hn:x≠"__name__":=by decide)(hd:(x==("__debug__":Str))=false:=by decide):PE X (.Name x pos) (tC v) :=
 λ_ _ _ H _ I h=>vE I hg hm hv ⟨v,H,I,r,h⟩ hn hd
variable {a b:Expr}{ta tb:TE}{pos:Pos}
def tB (t:TE):TT:=λσ H Q=>t σ H λx H1=>onB x λc=>Q c H1
theorem vD {e:Expr}{t:TE}(h:PE X e t)(he:∀ whole,isTrue e X.env whole=(do let v <- whole;standAt e.pos;holding [v] (truthy v)):=by intro _;rfl):PT X e (tB t):=by intro pins s σ H Q I hw;refine isTrue_plain (thn (h pins s σ H _ I hw) λv s1 ⟨x,H1,I1,r1,q1⟩=>?_) (he _);obtain ⟨d,rfl,q⟩:=tW q1;cases r1;exact uK ⟨H1,I1,q⟩
variable {tA tB':TT}{rest:List Expr}
def tAnd (t u:TT):TT:=λσ H Q=>t σ H λc H1=>if c=true then u σ H1 Q else Q false H1
def tOr (t u:TT):TT:=λσ H Q=>t σ H λc H1=>if c=true then Q true H1 else u σ H1 Q
def tNot (t:TT):TT:=λσ H Q=>t σ H λc H1=>Q (!c) H1
theorem lY (ha:PT X a tA):PW X (.BoolOp .And [a] pos) tA:=by
 intro wh pins s σ H Q I h;refine isTrue_and (thn (ha pins s σ H Q I h) λc s1 e=>?_);cases c with
 | true=>exact isTrue_and_nil e
 | false=>exact e
theorem pw_or1 (ha:PT X a tA):PW X (.BoolOp .Or [a] pos) tA:=by
 intro wh pins s σ H Q I h;refine isTrue_or (thn (ha pins s σ H Q I h) λc s1 e=>?_);cases c with
 | false=>exact isTrue_or_nil e
 | true=>exact e
theorem lX (ha:PT X a tA)(hb:PW X (.BoolOp .And (b::rest) pos) tB'):PW X (.BoolOp .And (a::b::rest) pos) (tAnd tA tB'):=by
 intro wh pins s σ H Q I h;refine isTrue_and (thn (ha pins s σ H _ I h) λc s1 ⟨H1,I1,q1⟩=>?_);cases c with
 | true=>exact hb wh pins s1 σ H1 Q I1 q1
 | false=>exact ⟨H1,I1,q1⟩
theorem pw_or (ha:PT X a tA)(hb:PW X (.BoolOp .Or (b::rest) pos) tB'):PW X (.BoolOp .Or (a::b::rest) pos) (tOr tA tB'):=by
 intro wh pins s σ H Q I h;refine isTrue_or (thn (ha pins s σ H _ I h) λc s1 ⟨H1,I1,q1⟩=>?_);cases c with
 | true=>exact ⟨H1,I1,q1⟩
 | false=>exact hb wh pins s1 σ H1 Q I1 q1
theorem rh (ha:PT X a tA):PT X (.UnaryOp .Not a pos) (tNot tA):=by intro pins s σ H Q I h;exact isTrue_not (ha pins s σ H (λc H1=>Q (!c) H1) I h)
def tAndV (ta tb:TE):TE:=λσ H Q=>ta σ H λx H1=>onB x λc=>if c=true then tb σ H1 Q else Q (.bl false) H1
def tNotV (ta:TE):TE:=λσ H Q=>ta σ H λx H1=>onB x λc=>Q (.bl (!c)) H1
theorem tU {op}{t:TE}(h:PE X a t):PE X (.BoolOp op [a] pos) t:=λpins s σ H Q I hw=>BoolOp_one (h pins s σ H Q I hw)
theorem vC (ha:PE X a ta)(hb:PE X (.BoolOp .And (b::rest) pos) tb):PE X (.BoolOp .And (a::b::rest) pos) (tAndV ta tb):=by
 intro pins s σ H Q I h;refine BoolOp_and (thn (ha pins s σ H _ I h) λv s1 ⟨x,H1,I1,r1,q1⟩=>?_);obtain ⟨c,rfl,q1⟩:=tW q1;cases r1;refine uK ?_;cases c with
 | true=>exact hb pins s1 σ H1 Q I1 q1
 | false=>exact ⟨.bl false,H1,I1,rfl,q1⟩
theorem pe_not (ha:PE X a ta):PE X (.UnaryOp .Not a pos) (tNotV ta):=by intro pins s σ H Q I h;refine UnaryOp_ (thn (ha pins s σ H _ I h) λv s1 ⟨x,H1,I1,r1,q1⟩=>?_);obtain ⟨c,rfl,q1⟩:=tW q1;cases r1;exact not_of (uK ⟨.bl (!c),H1,I1,rfl,q1⟩)
def tIf (t:TT)(ta tb:TE):TE:=λσ H Q=>t σ H λc H1=>if c=true then ta σ H1 Q else tb σ H1 Q
theorem uc {c:Expr}(hc:PT X c tA)(ha:PE X a ta)(hb:PE X b tb):PE X (.IfExp c a b pos) (tIf tA ta tb):=by
 intro pins s σ H Q I h;refine wpAny_IfExp (thn (hc pins s σ H _ I h) λd s1 ⟨H1,I1,q1⟩=>?_);cases d with
 | true=>exact ha pins s1 σ H1 Q I1 q1
 | false=>exact hb pins s1 σ H1 Q I1 q1
end
def SqL (K:zj) (H:Hp) (a:Addr) (xs:List V):Prop :=
 Rd H a (.lst xs) \/
   ∃ (o:Obj) (its:Array Value) (n:Nat),K.lookup a=some o/\o.cls=.type "list"/\o.dict=none/\o.data=.seq its n/\its.size<=sizeLine/\Vals xs its.toList
def SqT (K:zj) (H:Hp) (a:Addr) (xs:List V):Prop :=
 Rd H a (.tup xs) \/
   ∃ (o:Obj) (its:Array Value) (n:Nat),K.lookup a=some o/\o.cls=.type "tuple"/\o.data=.seq its n/\its.size<=sizeLine/\Vals xs its.toList
def absV:Value->Option V
 | .none=>some .non
 | .bool b=>some (.bl b)
 | .int i _=>some (.int i)
 | .str x _=>some (.str x)
 | .bytes b _=>some (.byt b)
 | .float b _=>some (.flt b)
 | .ref a=>some (.ref a)
 | .type n=>some (.ty n)
 | _=>none
theorem RelV.abs {x:V}(r:RelV x u):absV u=some x:=by
 cases x with
 | non=>cases r;rfl
 | bl _=>cases r;rfl
 | int _=>obtain ⟨t,rfl⟩:=r;rfl
 | str _=>obtain ⟨t,rfl⟩:=r;rfl
 | byt _=>obtain ⟨t,rfl⟩:=r;rfl
 | flt _=>obtain ⟨t,rfl⟩:=r;rfl
 | ref _=>cases r;rfl
 | ty _=>cases r;rfl
theorem RelV.inj {x y:V}(r:RelV x u)(q:RelV y u):x=y:=Option.some.inj (r.abs.symm.trans q.abs)
theorem Vals.inj {xs ys:List V}(h:Vals xs us)(g:Vals ys us):xs=ys:=by
 induction h generalizing ys with
 | nil=>cases g;rfl
 | cons r _ ih =>
   cases g with
   | cons q t=>rw [r.inj q,ih t]
section
variable {X:Cx}{σ:St}{H:Hp}{a:Addr}{xs ys:List V}
theorem SqL.of (h:H a=some (.lst xs)):SqL K H a xs:=.inl (.inl h)
theorem SqT.of (h:H a=some (.tup xs)):SqT K H a xs:=.inl (.inl h)
theorem Inv.list (I:Inv X pins σ H s)(h:SqL X.K H a xs):∃ its:List Value,Vals xs its/\PlainL s.heap a its.toArray/\xs.length<=sizeLine:=by
 rcases h with h | ⟨o,its,n,hk,hc,hd,hs,hz,r⟩
 . obtain ⟨z,its,n,r,e⟩:=h.ok I.hok;exact ⟨its,r,⟨_,n,e,rfl,rfl,rfl⟩,z⟩
 . refine ⟨its.toList,r,⟨o,n,I.kIn a o hk,hc,hd,by simpa using hs⟩,?_⟩;have e:=r.length;simp only [zT] at e;lia
theorem Inv.tuple (I:Inv X pins σ H s)(h:SqT X.K H a xs):∃ its:List Value,Vals xs its/\IsTup s.heap a its.toArray/\xs.length<=sizeLine:=by
 rcases h with h | ⟨o,its,n,hk,hc,hs,hz,r⟩
 . obtain ⟨z,its,r,p⟩:=h.ok I.hok;exact ⟨its,r,p,z⟩
 . refine ⟨its.toList,r,⟨o,I.kIn a o hk,hc,n,by simpa using hs⟩,?_⟩;have e:=r.length;simp only [zT] at e;lia
theorem Inv.list_inj (I:Inv X pins σ H s)(h:SqL X.K H a xs)(h':SqL X.K H a ys):xs=ys:=by
 obtain ⟨its,r,⟨o,n,e,_,_,d⟩,_⟩:=I.list h;obtain ⟨its',r',⟨o',n',e',_,_,d'⟩,_⟩:=I.list h';rw [e] at e';cases e';rw [d] at d';injection d' with d1 _
 have:its=its':=by simpa using congrArg Array.toList d1
 subst this;exact r.inj r'
end
abbrev Cx.wish (X:Cx)(E:Value->Shared->Prop):Cx:={ X with xe:=E }
abbrev Cx.nox (X:Cx):Cx:=X.wish λ_ _=>False
theorem Cx.Ok.wish {X:Cx}(ok:X.Ok)(E:Value->Shared->Prop):(X.wish E).Ok :=
 ⟨ok.mod,ok.kind,ok.glob,ok.blt,ok.above,ok.inj,ok.has,ok.cab,ok.hd,ok.frames,ok.stk,ok.exf,ok.bs,ok.bsz,ok.noex,ok.exfs,ok.funs,ok.frf⟩
theorem Cx.Ok.unwish {X:Cx}(ok:(X.wish E).Ok):X.Ok :=
 ⟨ok.mod,ok.kind,ok.glob,ok.blt,ok.above,ok.inj,ok.has,ok.cab,ok.hd,ok.frames,ok.stk,ok.exf,ok.bs,ok.bsz,ok.noex,ok.exfs,ok.funs,ok.frf⟩
section
variable {X:Cx}{σ:St}{H:Hp}
theorem Inv.wish (I:Inv X pins σ H s)(E:Value->Shared->Prop):Inv (X.wish E) pins σ H s:=⟨I.ok.wish E,I.os,I.bare,I.base,I.loc,I.cell,I.free,I.freeC,I.pin,I.hok,I.len⟩
theorem Inv.unwish (I:Inv (X.wish E) pins σ H s):Inv X pins σ H s:=⟨I.ok.unwish,I.os,I.bare,I.base,I.loc,I.cell,I.free,I.freeC,I.pin,I.hok,I.len⟩
theorem SP.unwish {D:Ends}{f:Flow}{s':Shared}(h:SP (X.wish E) pins D f s'):SP X pins D f s':=by
 cases f with
 | next=>obtain ⟨σ',H',I,q⟩:=h;exact ⟨σ',H',I.unwish,q⟩
 | brk=>obtain ⟨σ',H',I,q⟩:=h;exact ⟨σ',H',I.unwish,q⟩
 | cont=>obtain ⟨σ',H',I,q⟩:=h;exact ⟨σ',H',I.unwish,q⟩
 | ret u=>obtain ⟨v,σ',H',I,r,q⟩:=h;exact ⟨v,σ',H',I.unwish,r,q⟩
theorem PSs.nox {st:List Stmt}{t:TS}(h:PSs X.nox st t):PSs X st t:=λpins s σ H D I hw =>
 xn (h pins s σ H D (I.wish _) hw) (λ_ _ q=>q.unwish) λ_ _ z=>False.elim z
end
section
variable {X:Cx}{rest:List Stmt}{t u:TS}{e:Expr}{te:TE}{pos:Pos}
def tNext:TS:=λD σ H=>D.nx σ H
def tSeq (t u:TS):TS:=λD σ H=>t { D with nx:=u D } σ H
theorem yh:PSs X [] tNext:=λ_ _ σ H _ I h=>qk ⟨σ,H,I,h⟩
theorem zp (h1:PS X st t)(h2:PSs X rest u):PSs X (st::rest) (tSeq t u):=by
 intro pins s σ H D I h;refine nE (thn (h1 pins s σ H { D with nx:=u D } I h) λf s1 q=>?_);cases f with
 | next =>
   obtain ⟨σ',H',I',q⟩:=q;exact h2 pins s1 σ' H' D I' q
 | ret v=>exact q
 | brk=>exact q
 | cont=>exact q
theorem zo (h1:PS X st t):PSs X [st] t:=by
 intro pins s σ H D I h;refine nE (thn (h1 pins s σ H D I h) λf s1 q=>?_);cases f with
 | next=>exact qk q
 | ret v=>exact q
 | brk=>exact q
 | cont=>exact q
theorem Inv.quiet {σ:St}{H:Hp}(I:Inv X pins σ H s):interactive X.env=false:=by simp [interactive,I.ok.kind]
def tDrop (te:TE):TS:=λD σ H=>te σ H λ_ H1=>D.nx σ H1
theorem yz (he:PE X e te)(hs:swapsWith e none pos.line X.env=pure false:=by rfl):PS X (.Expr e pos) (tDrop te):=by intro pins s σ H D I h;exact wpAny_Expr_any (thn (he pins s σ H _ I h) λv s1 ⟨x,H1,I1,r1,q1⟩=>⟨σ,H1,I1,q1⟩) I.quiet hs
def tRet (te:TE):TS:=λD σ H=>te σ H D.rt
theorem zd (he:PE X e te):PS X (.Return (some e) pos) (tRet te):=by intro pins s σ H D I h;exact wpAny_Return_some (thn (he pins s σ H _ I h) λv s1 ⟨x,H1,I1,r1,q1⟩=>⟨x,σ,H1,I1,r1,q1⟩)
def tIfS (c:TT)(t u:TS):TS:=λD σ H=>c σ H λb H1=>if b=true then t D σ H1 else u D σ H1
theorem yu {c:Expr}{a b:List Stmt}{tc:TT}(hc:PT X c tc)(ha:PSs X a t)(hb:PSs X b u):PS X (.If c a b pos) (tIfS tc t u):=by
 intro pins s σ H D I h;refine wpAny_If (thn (hc pins s σ H _ I h) λd s1 ⟨H1,I1,q1⟩=>?_);cases d with
 | true=>exact ha pins s1 σ H1 D I1 q1
 | false=>exact hb pins s1 σ H1 D I1 q1
def tNever:TS:=λ_ _ _=>False
theorem ps_never:PS X st tNever:=λ_ _ _ _ _ _ h=>h.elim
end
abbrev TG:=V->St->Hp->(St->Hp->Prop)->Prop
abbrev TGs:=List V->St->Hp->(St->Hp->Prop)->Prop
def PG (X:Cx) (target:Expr) (t:TG):Prop :=
 ∀ (pins:List (Addr × Obj)) (s:Shared) (σ:St) (H:Hp) (v:V) (u:Value) (Q:St->Hp->Prop),Inv X pins σ H s->RelV v u->t v σ H Q ->
   wpAny (model X.prog X.w) X.A (assign target X.env u) (λ_ s'=>∃ σ' H',Inv X pins σ' H' s'/\Q σ' H') X.xe s
def PGs (X:Cx) (ts:List Expr) (t:TGs):Prop :=
 ∀ (pins:List (Addr × Obj)) (s:Shared) (σ:St) (H:Hp) (vs:List V) (us:List Value) (Q:St->Hp->Prop),Inv X pins σ H s->Vals vs us->t vs σ H Q ->
   wpAny (model X.prog X.w) X.A (assignInOrder ((assignEach ts X.env).map (·.2)) us) (λ_ s'=>∃ σ' H',Inv X pins σ' H' s'/\Q σ' H') X.xe s
abbrev TSet:=V->V->V->Hp->(Hp->Prop)->Prop
def PSet (X:Cx) (t:TSet):Prop :=
 ∀ (pins:List (Addr × Obj)) (s:Shared) (σ:St) (H:Hp) (o i v:V) (ov iv u:Value) (Q:Hp->Prop),Inv X pins σ H s->RelV o ov->RelV i iv->RelV v u->t o i v H Q ->
   wpAny (model X.prog X.w) X.A (setItem ov iv u) (λ_ s'=>∃ H',Inv X pins σ H' s'/\Q H') X.xe s
abbrev TIp:=V->V->Hp->VK->Prop
def PIp (X:Cx) (op:Operator) (t:TIp):Prop :=
 ∀ (pins:List (Addr × Obj)) (s:Shared) (σ:St) (H:Hp) (x y:V) (v u:Value) (Q:VK),Inv X pins σ H s->RelV x v->RelV y u->t x y H Q ->
   wpAny (model X.prog X.w) X.A (inplaceOp op v u) (EP X pins σ Q) X.xe s
section
variable {X:Cx}{pos:Pos}
def gName (i:Nat):TG:=λv σ H Q=>Q (σ.set i (some v)) H
theorem yM {i:Nat}{x:Str}(hN:X.N.Nodup)(hi:X.N[i]?=some x)(hx:Loc X.env.scope x)(hf:X.fn x=true\/X.env.scope.names.lookup x=some .local:=by first | exact .inl rfl | exact .inr rfl | assumption):PG X (.Name x pos) (gName i):=by intro pins s σ H v u Q I r h;exact wpAny_assign_Name (lj I hN hi hx r (λs' I'=>⟨_,H,I',h⟩) hf)
def gNil:TGs:=λvs σ H Q=>vs=[]/\Q σ H
def gCons (t:TG)(u:TGs):TGs:=λvs σ H Q=>∃ v r,vs=v::r/\t v σ H λσ' H'=>u r σ' H' Q
theorem ve:PGs X [] gNil:=by intro pins s σ H vs us Q I r h;obtain ⟨e,h⟩:=h;subst e;cases r;exact assignInOrder_nil ⟨σ,H,I,h⟩
theorem yR {e:Expr}{es:List Expr}{t:TG}{u:TGs}(h1:PG X e t)(h2:PGs X es u)
   (hs:(assignEach (e::es) X.env).map (·.2)=assign e X.env::(assignEach es X.env).map (·.2):=by rfl):PGs X (e::es) (gCons t u):=by
 intro pins s σ H vs us Q I r h;obtain ⟨v,vr,e1,h⟩:=h;subst e1;cases r with
 | cons r rr =>
   rw [hs];refine assignInOrder_cons (thn (h1 pins s σ H _ _ _ I r h) λ_ s1 ⟨σ1,H1,I1,q1⟩=>?_);exact h2 pins s1 σ1 H1 _ _ Q I1 rr q1
def gTup (K:zj)(n:Nat)(t:TGs):TG:=λv σ H Q=>∃ a xs,v=.ref a/\SqT K H a xs/\xs.length=n/\t xs σ H Q
theorem pg_tup {es:List Expr}{k:Nat}{t:TGs}{n:Nat}(hc:X.calm=true)(h:PGs X es t)
   (hn:(assignEach es X.env).length=n:=by rfl) (hst:(assignEach es X.env).findIdx? (·.1)=none:=by rfl):PG X (.Tuple es k pos) (gTup X.K n t):=by
 intro pins s σ H v u Q I r hw;obtain ⟨a,xs,e1,hq,hl,hw⟩:=hw;subst e1;cases r;obtain ⟨its,rv,ht,hz⟩:=I.tuple hq;refine assign_Tuple_tuple (I.ok.hd hc) ht (by simp [hn,<- hl,rv.length]) hst λh' hx=>?_
 have I1:Inv X pins σ H { s with heap:=h' }:=I.kept (t':=s.toks) λb o e=>hx b o (zC (zW e)) e
 exact h pins _ σ H xs _ Q I1 (by simpa using rv) hw
def gSub (to ti:TE)(t:TSet):TG:=λv σ H Q=>to σ H λo H1=>ti σ H1 λi H2=>t o i v H2 λH3=>Q σ H3
theorem pg_sub {o i:Expr}{to ti:TE}{t:TSet}(ho:PE X o to)(hi:PE X i ti)(hs:PSet X t)
   (ha:∀ v,assign (.Subscript o i pos) X.env v=(do
     let ov <- holding [v] (eval o X.env)
     let iv <- holding [v,ov] (eval i X.env)
     standAt pos
     holding [v,ov,iv] (setItem ov iv v)
     release [v,ov,iv] []):=by intro _;rfl):PG X (.Subscript o i pos) (gSub to ti t):=by
 intro pins s σ H v u Q I r h;rw [ha];refine zt (xI (thn (ho pins s σ H _ I h) λov s1 ⟨x,H1,I1,r1,q1⟩=>?_));refine zt (xI (thn (hi pins s1 σ H1 _ I1 q1) λiv s2 ⟨y,H2,I2,r2,q2⟩=>?_));refine zt (wpAny_standAt (zt (xI (thn (hs pins s2 σ H2 x y v ov iv u _ I2 r1 r2 r q2) λ_ s3 ⟨H3,I3,q3⟩=>?_))));exact wpAny_release ⟨σ,H3,I3,q3⟩
def tAsg (te:TE)(g:TG):TS:=λD σ H=>te σ H λx H1=>g x σ H1 D.nx
theorem qI {e:Expr}{te:TE}{g:TG}(he:PE X e te)(hg:PG X tg g)(hs:swapsWithSole [tg] e pos.line X.env=pure false:=by rfl)(hw:swappedStores [tg] e X.env=pure none:=by rfl)
   (h1:(assignEach [tg] X.env).map (·.2)=[assign tg X.env]:=by rfl):PS X (.Assign [tg] e pos) (tAsg te g):=by
 intro pins s σ H D I h;refine wpAny_Assign_stores (thn (he pins s σ H _ I h) λv s1 ⟨x,H1,I1,r1,q1⟩=>?_) hs hw;rw [h1];exact thn (hg pins s1 σ H1 x v _ I1 r1 q1) λ_ s2 q=>q
theorem ps_set {i:Nat}{x:Str}{e:Expr}{te:TE}(hN:X.N.Nodup)(hi:X.N[i]?=some x)(hx:Loc X.env.scope x)(he:PE X e te)(hs:swapsWith e (some (.Name x pos')) pos.line X.env=pure false:=by rfl)(hf:X.fn x=true\/X.env.scope.names.lookup x=some .local:=by first | exact .inl rfl | exact .inr rfl | assumption) :
   PS X (.Assign [.Name x pos'] e pos) (tAsg te (gName i)):=by
 intro pins s σ H D I h;refine wpAny_Assign_Name (thn (he pins s σ H _ I h) λv s1 ⟨y,H1,I1,r1,q1⟩=>?_) hs;exact lj I1 hN hi hx r1 (λs2 I2=>⟨_,H1,I2,q1⟩) hf
def tPar (i j:Nat)(ta:TA):TS:=λD σ H=>ta σ H λvs H1=>∃ v w,vs=[v,w]/\D.nx ((σ.set i (some v)).set j (some w)) H1
def tAug (i:Nat)(te:TE)(ti:TIp):TS:=λD σ H=>∃ x,σ[i]?=some (some x)/\te σ H λy H1=>ti x y H1 λz H2=>D.nx (σ.set i (some z)) H2
theorem ps_aug {i:Nat} {x:Str} {e:Expr} {te:TE} {op:Operator} {ti:TIp} (hN:X.N.Nodup) (hi:X.N[i]?=some x) (hx:Loc X.env.scope x) (he:PE X e te) (ho:PIp X op ti) (hf:X.fn x=true\/X.env.scope.names.lookup x=some .local:=by first | exact .inl rfl | exact .inr rfl | assumption) :
   PS X (.AugAssign (.Name x pos') op e pos) (tAug i te ti):=by
 intro pins s σ H D I h;obtain ⟨v,e1,h⟩:=h;obtain ⟨m,hn,hl⟩:=I.loc;have vis:Vis X.env.scope x:=by rcases hx with k | k;exact .inl k;exact .inr (.inl k)
 obtain ⟨u,r,l⟩:=hl i x v hi e1 vis;refine wpAny_AugAssign_Name ?_;have go:wpAny (model X.prog X.w) X.A (eval e X.env) (λw s₂=>wpAny (model X.prog X.w) X.A (inplaceOp op u w) (λr s₃=>wpAny (model X.prog X.w) X.A (storeName X.env x r) (λ_=>SP X pins D .next) X.xe s₃) X.xe s₂) X.xe s:=by
   refine thn (he pins s σ H _ I h) λw s1 ⟨y,H1,I1,r1,q1⟩=>?_
   refine thn (ho pins s1 σ H1 v y u w _ I1 r r1 q1) λz s2 ⟨zv,H2,I2,r2,q2⟩=>?_
   exact lj I2 hN hi hx r2 (λs3 I3=>⟨_,H2,I3,q2⟩) hf
 rcases l with ⟨hk,hm⟩ | ⟨hk,c,hc,hcell⟩
 . exact wpAny_loadName_local I.ok.kind hk hn hm go
 . rcases hk with hk | hk
   . exact wpAny_loadName_cell I.ok.kind hk hc hcell go
   . rcases hx with k | k
     . have:X.env.scope.names.lookup x=some .free:=hk;rw [k] at this;cases this
     . have:X.env.scope.names.lookup x=some .free:=hk;rw [k] at this;cases this
def ipI (f:Int->Int->Int):TIp:=λx y H Q=>∃ i j,x=.int i/\y=.int j/\Q (.int (f i j)) H
theorem ip_add:PIp X .Add (ipI λi j=>i+j):=by intro pins s σ H x y v u Q I r1 r2 h;obtain ⟨i,j,e1,e2,q⟩:=h;subst e1;subst e2;obtain ⟨t,rfl⟩:=r1;obtain ⟨t',rfl⟩:=r2;exact iadd_int ⟨.int _,H,I.tok _,⟨_,rfl⟩,q⟩
end
section
variable {X:Cx}{pos:Pos}
def tWhile (c:TT)(tb:TS):TS:=λD σ H=>∃ W:Nat->St->Hp->Prop,(∃ m,W m σ H)/\∀ m σ H,W m σ H ->
 c σ H λb H1=>if b=true then ∃ N:St->Hp->Prop,(∀ σ' H',N σ' H'->∃ m',m'<m/\W m' σ' H')/\tb { D with nx:=N,ct:=N,bk:=D.nx } σ H1 else D.nx σ H1
theorem lW {c:Expr}{body:List Stmt}{tc:TT}{tb:TS}(hp:PassesOwn (model X.prog X.w) X.A X.env X.xe)(hc:PT X c tc)(hb:PSs X body tb):PS X (.While c body [] pos) (tWhile tc tb):=by
 intro pins s σ H D I h;obtain ⟨W,⟨m0,w0⟩,turn⟩:=h;refine wpAny_While (codeAny_whileLoop (λn s'=>∃ σ' H',Inv X pins σ' H' s'/\W n σ' H') ?_ m0 ⟨σ,H,I,w0⟩);rintro n s1 ⟨σ1,H1,I1,w1⟩;refine uw hp (thn (hc pins s1 σ1 H1 _ I1 (turn n σ1 H1 w1)) λb s2 ⟨H2,I2,q2⟩=>?_);cases b with
 | true =>
   obtain ⟨N,hN,q2⟩:=q2;rw [if_pos rfl];refine uw hp (thn (hb pins s2 σ1 H2 _ I2 q2) λf s3 q3=>?_);cases f with
   | next =>
     obtain ⟨σ3,H3,I3,n3⟩:=q3;obtain ⟨m',hm,w3⟩:=hN σ3 H3 n3;exact ⟨m',hm,σ3,H3,I3,w3⟩
   | cont =>
     obtain ⟨σ3,H3,I3,n3⟩:=q3;obtain ⟨m',hm,w3⟩:=hN σ3 H3 n3;exact ⟨m',hm,σ3,H3,I3,w3⟩
   | brk=>exact q3
   | ret v=>exact q3
 | false =>
   rw [if_neg yS];exact qk ⟨σ1,H2,I2,q2⟩
end
structure It where
 go:Nat->Hp->Prop
 yld:Nat->Hp->V->Hp->Prop
 stop:Nat->Hp->Prop
def FpOk (X:Cx)(pins:List (Addr × Obj))(H:Hp)(b:Addr):Prop :=
 H b=none/\b≠X.env.locals/\b∉X.fs/\(b∈X.ex\/X.s₀.heap.objs.size<=b)/\(∀ x c,X.env.cells.lookup x=some c->c≠b)/\∀ p∈X.pn++pins,p.1≠b
theorem Inv.fpOk {X:Cx}{σ:St}{H H':Hp}{b:Addr}(I:Inv X pins σ H s)(hb:s.heap.objs.size<=b)(hn:H' b=none):FpOk X pins H' b:=by
 refine ⟨hn,wC (ya I.lt hb),I.nofs hb,.inr (yl I.sz hb),λx c e z=>?_,λp hp z=>?_⟩;{obtain ⟨v,q⟩:=I.cell x c e;exact absurd (ya q.lt (by rw [z];exact hb)) (xh _)};{exact absurd (ya (zW (I.pin p hp).1) (by rw [z];exact hb)) (xh _)}
structure Turn (P:Program)(w:World)(K:zj)(tg:Expr)(J:It)(fp:List Addr)(it:Addr)(tn:Nat->Heap->Prop):Prop where
 mem:it∈fp
 obj:∀ i h,tn i h->∀ b∈fp,∃ o,h.get? b=some o/\∀ v,o.data≠.cell v
 keep:∀ i h h',tn i h->(∀ b∈fp,∀ o,h.get? b=some o->h'.get? b=some o)->tn i h'
 item:∀ (X:Cx),X.prog=P->X.w=w->X.K=K->X.calm=true->∀ (i:Nat) (pins:List (Addr × Obj)) (s:Shared) (σ:St) (H:Hp) (E:Value->Shared->Prop),Inv X pins σ H s->(∀ b∈fp,FpOk X pins H b)->tn i s.heap->J.go i H ->
   wpAny (model P w) X.A (pyNext (.ref it)) (λr s1=>∃ u,r=some u /\
     wpAny (model P w) X.A (letOwnedTupleGo tg (.ref it) u) (λ_ s2=>∃ x H',Inv X pins σ H' s2/\RelV x u/\J.yld i H x H'/\tn (i+1) s2.heap/\∀ b∈fp,H' b=none) E s1) E s
 done:∀ (X:Cx),X.prog=P->X.w=w->X.K=K->X.calm=true->∀ (i:Nat) (pins:List (Addr × Obj)) (s:Shared) (σ:St) (H:Hp) (E:Value->Shared->Prop),Inv X pins σ H s->(∀ b∈fp,FpOk X pins H b)->tn i s.heap->J.stop i H ->
   wpAny (model P w) X.A (pyNext (.ref it)) (λr s1=>r=none/\Inv X pins σ H s1) E s
 self:∀ (A:Around) (i:Nat) (s:Shared) (Q:Value->Shared->Prop) (E:Value->Shared->Prop),tn i s.heap->Q (.ref it) s->wpAny (model P w) A (pyIter (.ref it)) Q E s
abbrev TI:=St->Hp->(It->Hp->Prop)->Prop
def PIE (X:Cx)(pins:List (Addr × Obj))(σ:St)(tg:Expr)(R:It->Hp->Prop)(itv:Value)(s2:Shared):Prop :=
 ∃ (it:Addr) (fp:List Addr) (tn:Nat->Heap->Prop) (J:It) (H':Hp),itv=.ref it/\Inv X pins σ H' s2/\Turn X.prog X.w X.K tg J fp it tn/\tn 0 s2.heap/\(∀ b∈fp,FpOk X pins H' b)/\R J H'
def PI (X:Cx) (tg iter:Expr) (wi:TI):Prop :=
 ∀ (pins:List (Addr × Obj)) (s:Shared) (σ:St) (H:Hp) (R:It->Hp->Prop),Inv X pins σ H s->wi σ H R ->
   wpAny (model X.prog X.w) X.A (eval iter X.env) (λv s1=>wpAny (model X.prog X.w) X.A (pyIter v) (PIE X pins σ tg R) X.xe s1) X.xe s
theorem go_of {M:Model} {it:Addr} {o:Obj} {n:String} {vs:Array Value} {Q:Unit->Shared->Prop} (ho:s.heap.get? it=some o) (hc:o.cls=.type n) (hd:o.data=.fields vs)
   (hn:["enumerate","zip","dict_itemiterator","dict_reverseitemiterator","odict_iterator","itertools.zip_longest","itertools.pairwise"].contains n=false) (hQ:Q () s):wpAny M A (letOwnedTupleGo tg (.ref it) u) Q E s:=by
 unfold letOwnedTupleGo
 cases tg <;> first
   | exact zi hQ
   | (cases u<;>first
       | exact zi hQ
       | (refine zt (wpAny_load ho ?_)
          rw [hc,hd];show wpAny M A (if (["enumerate","zip","dict_itemiterator","dict_reverseitemiterator","odict_iterator","itertools.zip_longest","itertools.pairwise"].contains n&&vs[0]?==some (rawInt _))=true then _ else _) Q E s;rw [if_neg (by intro h;rw [hn,mD] at h;cases h)];exact zi hQ))
def Itl (K:zj)(a:Addr):It :=
 ⟨λi H=>∃ xs x,SqL K H a xs/\xs[i]?=some x,λi H x H'=>H'=H/\∀ xs,SqL K H a xs->xs[i]?=some x,λi H=>∃ xs,SqL K H a xs/\xs.length<=i⟩
def Itr (lo:Int)(n:Nat):It:=⟨λi _=>i<n,λi H x H'=>H'=H/\x=.int (lo+i),λi _=>n<=i⟩
theorem a9 (a it:Addr):Turn P w K tg (Itl K a) [it] it (λi h=>h.IsListIter it a i) where
 mem:=by simp
 obj:=λi h st b hb=>by
   have e:b=it:=by simpa using hb
   subst e;obtain ⟨o,e,c,d⟩:=st;exact ⟨o,e,λv z=>by rw [d] at z;cases z⟩
 keep:=λi h h' st k=>st.at λo e=>k it (by simp) o e
 item:=by
   intro X hP hw hK hc i pins s σ H E I hf st hg;subst hP hw hK;obtain ⟨xs,x,hq,hx⟩:=hg;obtain ⟨its,rv,p,hz⟩:=I.list hq;obtain ⟨u,hu,ru⟩:=rv.get hx;obtain ⟨f0,f1,f2,f3,f4,f5⟩:=hf it (by simp);refine wpAny_pyNext_list_item st p.isList (x:=u) (by simpa using hu) λh' st' sb=>?_
   have I1:Inv X pins σ H { s with heap:=h' }:=I.turned (t':=s.toks) (λb o hb e=>(sb.2 b hb).trans e) f0 f1 f3 f4 f5;obtain ⟨o,e,c,d⟩:=id st';exact ⟨u,rfl,go_of (s:={ s with heap:=h' }) e c d (by decide) ⟨x,H,I1,ru,⟨rfl,λys hy=>by rw [I.list_inj hy hq];exact hx⟩,st',λb hb=>(hf b hb).1⟩⟩
 done:=by intro X hP hw hK hc i pins s σ H E I hf st hg;subst hP hw hK;obtain ⟨xs,hq,hx⟩:=hg;obtain ⟨its,rv,p,hz⟩:=I.list hq;obtain ⟨f0,f1,f2,f3,f4,f5⟩:=hf it (by simp);have hl:=rv.length;exact wpAny_pyNext_list_end (I.ok.hd hc) st p.isList (by simp;lia) λh' eb=>⟨rfl,I.turned (t':=s.toks) (λb o hb e=>eb b o hb e) f0 f1 f3 f4 f5⟩
 self:=λ_ _ _ _ _ st h=>wpAny_pyIter_listiter st h
theorem a8 (it:Addr)(lo:Int)(n:Nat):Turn P w K tg (Itr lo n) [it] it (λi h=>IsRangeIter h it (lo+(i:Nat)*1) ((n:Int)-(i:Nat)) 1) where
 mem:=by simp
 obj := λi h st b hb=>by
   have e:b=it:=by simpa using hb
   subst e;exact ⟨_,st,λv z=>by
     have z':Data.fields _=Data.cell v:=z;cases z'⟩
 keep:=λi h h' st k=>k it (by simp) _ st
 item:=by
   intro X hP hw hK hc i pins s σ H E I hf st hg;subst hP hw hK;obtain ⟨f0,f1,f2,f3,f4,f5⟩:=hf it (by simp);have W:=Walks.range (prog:=X.prog) (w:=X.w) (I.ok.hd hc) it lo 1 n;refine W.item i s _ _ hg st λv h' tk hv st' kk=>?_
   obtain ⟨t,rfl⟩:=hv;have I1:Inv X pins σ H { s with heap:=h',toks:=tk }:=I.turned (λb o hb e=>kk b o (by simpa using hb) e) f0 f1 f3 f4 f5;refine ⟨_,rfl,go_of (s:={ s with heap:=h',toks:=tk }) (n:="range_iterator") st' rfl rfl (by decide) ⟨.int (lo+i),H,I1,⟨t,?_⟩,⟨rfl,rfl⟩,st',λb hb=>(hf b hb).1⟩⟩;rw [Int.mul_one]
 done:=by intro X hP hw hK hc i pins s σ H E I hf st hg;subst hP hw hK;obtain ⟨f0,f1,f2,f3,f4,f5⟩:=hf it (by simp);exact wpAny_pyNext_range_end (I.ok.hd hc) st (by have:n<=i:=hg;lia) λh' eb=>⟨rfl,I.turned (t':=s.toks) (λb o hb e=>eb b o hb e) f0 f1 f3 f4 f5⟩
 self:=λ_ _ _ _ _ st h=>wpAny_pyIter_rangeiter st h
section
variable {X:Cx}
def iList (K:zj)(tl:TE):TI:=λσ H R=>tl σ H λx H1=>onR x λa=>(∃ xs,SqL K H1 a xs)/\R (Itl K a) H1
theorem pi_list {l:Expr}{tl:TE}(hl:PE X l tl):PI X tg l (iList X.K tl):=by
 intro pins s σ H R I h;refine thn (hl pins s σ H _ I h) λv s1 ⟨x,H1,I1,r1,q1⟩=>?_
 obtain ⟨a,e,⟨xs,hq⟩,q⟩:=onR_x q1;subst e;cases r1;obtain ⟨its,rv,p,hz⟩:=I1.list hq;refine nK p.isList ?_;refine ⟨s1.heap.objs.size,[s1.heap.objs.size],_,_,H1,rfl,I1.kept (t':=s1.toks) λb o e=>zU _ e,a9 a _,⟨_,yi _ rfl,rfl,rfl⟩,λb hb=>?_,q⟩;have e:b=s1.heap.objs.size:=by simpa using hb
 subst e;exact I1.fpOk (zk _) (I1.hok.fresh (zk _))
theorem gu {σ:St}{H:Hp}{R:It->Hp->Prop}{lo hi:Int}{t u v:Tok}{tk:Nat}(I:Inv X pins σ H s)(h1:-(2^62)<=lo)(h2:lo<2^62)(h3:-(2^62)<=hi)(h4:hi<2^62)
   (q:R (Itr lo (hi-lo).toNat) H):wpAny (model X.prog X.w) X.A (pyIter (.ref s.heap.objs.size)) (PIE X pins σ tg R) E { s with heap:=s.heap.push { cls:=.type "range",data:=.fields #[.int lo t,.int hi u,.int 1 v] },toks:=tk }:=by
 refine wpAny_pyIter_range (IsRange.new ..) (small_one h1 h2 h3 h4) ?_;have I1:Inv X pins σ H { s with heap:=s.heap.push { cls:=.type "range",data:=.fields #[.int lo t,.int hi u,.int 1 v] },toks:=tk }:=I.kept λb o e=>zU _ e
 refine ⟨(s.heap.push { cls:=.type "range",data:=.fields #[.int lo t,.int hi u,.int 1 v] }).objs.size,[(s.heap.push { cls:=.type "range",data:=.fields #[.int lo t,.int hi u,.int 1 v] }).objs.size],_,_,H,rfl,
   I1.kept (t':=tk) λb o e=>zU _ e,a8 _ lo (hi-lo).toNat,?_,λb hb=>?_,q⟩
 . have e1:lo+((0:Nat):Int)*1=lo:=by simp
   have e2:(((hi-lo).toNat:Nat):Int)-((0:Nat):Int)=Builtin.Range.rangeSize lo hi 1:=by rw [rangeSize_one];split<;>lia
   show IsRangeIter _ _ (lo+((0:Nat):Int)*1) ((((hi-lo).toNat:Nat):Int)-((0:Nat):Int)) 1;rw [e1,e2];exact yi _ rfl
 . have e:b=(s.heap.push { cls:=.type "range",data:=.fields #[.int lo t,.int hi u,.int 1 v] }).objs.size:=by simpa using hb
   subst e;exact I1.fpOk (zk _) (I1.hok.fresh (zk _))
def iRng1 (ta:TA):TI:=λσ H R=>ta σ H λvs H1=>∃ j:Int,vs=[.int j]/\-(2^62)<=j/\j<2^62/\R (Itr 0 j.toNat) H1
def iRng2 (ta:TA):TI:=λσ H R=>ta σ H λvs H1=>∃ i j:Int,vs=[.int i,.int j]/\(-(2^62)<=i/\i<2^62/\-(2^62)<=j/\j<2^62)/\R (Itr i (j-i).toNat) H1
theorem vd {a:Expr}{ta:TA}{p pos:Pos}(hg:Gl X "range")(hm:X.mg "range"=none)(ha:PA X [a] ta)(hs:starEach [a] X.env=[(false,eval a X.env)]:=by rfl):PI X tg (.Call (.Name "range" p) [a] [] pos) (iRng1 ta):=by
 intro pins s σ H R I h;refine Call_ (vE I hg hm boot_range (tF (thn (ha pos pins s σ H _ I h) λus s1 ⟨vs,H1,I1,r1,q1⟩=>?_) hs rfl));obtain ⟨j,e,q1,q2,q⟩:=q1;subst e;cases r1 with
 | cons r rr =>
   cases rr;obtain ⟨t,rfl⟩:=r;exact call_range_1 (gu I1 (by lia) (by lia) q1 q2 (by simpa using q))
theorem a7 {a b:Expr}{ta:TA}{p pos:Pos}(hg:Gl X "range")(hm:X.mg "range"=none)(ha:PA X [a,b] ta)(hs:starEach [a,b] X.env=[(false,eval a X.env),(false,eval b X.env)]:=by rfl)(hs2:starEach [b] X.env=[(false,eval b X.env)]:=by rfl) :
   PI X tg (.Call (.Name "range" p) [a,b] [] pos) (iRng2 ta):=by
 intro pins s σ H R I h;refine Call_ (vE I hg hm boot_range (tF (thn (ha pos pins s σ H _ I h) λus s1 ⟨vs,H1,I1,r1,q1⟩=>?_) (by rw [hs,hs2]) (by rw [hs2];rfl)));obtain ⟨i,j,e,⟨q1,q2,q3,q4⟩,q⟩:=q1;subst e;cases r1 with
 | cons r rr =>
   cases rr with
   | cons r' rr =>
     cases rr;obtain ⟨t,rfl⟩:=r;obtain ⟨t',rfl⟩:=r';exact call_range_2 (gu I1 q1 q2 q3 q4 q)
def tFor (wi:TI)(g:TG)(tb:TS):TS:=λD σ H=>wi σ H λJ H1=>∃ W:Nat->Nat->St->Hp->Prop,(∃ m,W 0 m σ H1)/\∀ i m σ H,W i m σ H ->
 (J.stop i H/\D.nx σ H)\/(J.go i H/\∃ N:St->Hp->Prop,(∀ σ' H',N σ' H'->∃ m',m'<m/\W (i+1) m' σ' H')/\∀ x H',J.yld i H x H'->g x σ H' λσ2 H2=>tb { D with nx:=N,ct:=N,bk:=D.nx } σ2 H2)
def pinsAt (fp:List Addr)(h:Heap):List (Addr × Obj):=fp.filterMap λb=>(h.get? b).map λo=>(b,o)
theorem lV {h:Heap}{b:Addr}{o:Obj}(hb:b∈fp)(e:h.get? b=some o):(b,o)∈pinsAt fp h:=qW.mpr ⟨b,hb,by rw [e];rfl⟩
theorem az {h:Heap}{p:Addr × Obj}(hp:p∈pinsAt fp h):p.1∈fp/\h.get? p.1=some p.2:=by
 obtain ⟨b,hb,e⟩:=qW.mp hp;cases q:h.get? b with
 | none=>rw [q] at e;cases e
 | some o =>
   rw [q] at e;have e':(b,o)=p:=Option.some.inj e;subst e';exact ⟨hb,q⟩
theorem Inv.pinned {σ:St}{H:Hp}(I:Inv X pins σ H s)(hf:∀ b∈fp,FpOk X pins H b)(ho:∀ b∈fp,∃ o,s.heap.get? b=some o/\∀ v,o.data≠.cell v):Inv X (pins++pinsAt fp s.heap) σ H s :=
 I.pins_of λp hp=>(zY.mp hp).elim (λz=>I.pin p (yC _ z)) λz=>by
   obtain ⟨hb,e⟩:=az z;obtain ⟨f0,f1,f2,_⟩:=hf p.1 hb;obtain ⟨o,e',d⟩:=ho p.1 hb;rw [e] at e';cases e';exact ⟨e,f0,f1,f2,d⟩
theorem Inv.unpinned {pl:List (Addr × Obj)}{σ:St}{H:Hp}(I:Inv X (pins++pl) σ H s):Inv X pins σ H s:=I.pins_of λp hp=>I.pin p (yC _ (xS _ hp))
theorem xg {iter:Expr}{body:List Stmt}{wi:TI}{g:TG}{tb:TS}{pos:Pos}(hp:PassesOwn (model X.prog X.w) X.A X.env X.xe)(hc:X.calm=true)(hi:PI X tg iter wi)(hg:PG X tg g)(hb:PSs X body tb)
   (hs:∀ x,foldedSetIterable iter X.env x=pure x:=by intro _;rfl):PS X (.For tg iter body [] pos) (tFor wi g tb):=by
 intro pins s σ H D I h;refine wpAny_For (thn (hi pins s σ H _ I h) λv s1 h1=>thn h1 λitv s2 h2=>?_) hs;obtain ⟨it,fp,tn,J,H2,e,I2,T,st2,f2,W,⟨m0,w0⟩,turn⟩:=h2;subst e;have stat:∀ {H':Hp},(∀ b∈fp,H' b=none)->∀ b∈fp,FpOk X pins H' b:=λhn b hb=>⟨hn b hb,(f2 b hb).2⟩
 refine codeAny_forLoop_any (λn s'=>∃ i σ' H',Inv X pins σ' H' s'/\tn i s'.heap/\(∀ b∈fp,H' b=none)/\W i n σ' H') ?_ m0 ⟨0,σ,H2,I2,st2,λb hb=>(f2 b hb).1,w0⟩;rintro n s3 ⟨i,σ3,H3,I3,st3,fr3,w3⟩;rcases turn i n σ3 H3 w3 with ⟨stop,qn⟩ | ⟨go,N,hN,step⟩
 . refine uw hp (thn (T.done X rfl rfl rfl hc i pins s3 σ3 H3 X.xe I3 (stat fr3) st3 stop) λr s4 ⟨hr,I4⟩=>?_);subst hr;exact qk ⟨σ3,H3,I4,qn⟩
 . refine uw hp (thn (T.item X rfl rfl rfl hc i pins s3 σ3 H3 X.xe I3 (stat fr3) st3 go) λr s4 ⟨u,hr,h4⟩=>?_);subst hr;refine uw hp (thn h4 λ_ s5 hq=>?_);obtain ⟨x,H5,I5,r5,y5,st5,fr5⟩:=hq;have I5':=I5.pinned (stat fr5) (T.obj _ _ st5);refine uw hp (thn (hg _ s5 σ3 H5 x u _ I5' r5 (step x H5 y5)) λ_ s6 ⟨σ6,H6,I6,q6⟩=>?_);refine uw hp (thn (hb _ s6 σ6 H6 _ I6 q6) λf s7 q7=>?_);have again:∀ {σ7:St} {H7:Hp},Inv X (pins++pinsAt fp s5.heap) σ7 H7 s7->N σ7 H7->∃ m,m<n/\∃ i σ' H',Inv X pins σ' H' s7/\tn i s7.heap/\(∀ b∈fp,H' b=none)/\W i m σ' H':=λ{σ7 H7} I7 n7=>by
     obtain ⟨m',hm,w7⟩:=hN σ7 H7 n7;refine ⟨m',hm,i+1,σ7,H7,I7.unpinned,T.keep _ _ _ st5 λb hb o e=>(I7.pin (b,o) (yC _ (yC _ (lV hb e)))).1,λb hb=>?_,w7⟩;obtain ⟨o,e,d⟩:=T.obj _ _ st5 b hb;exact (I7.pin (b,o) (yC _ (yC _ (lV hb e)))).2.1
   cases f with
   | next=>obtain ⟨σ7,H7,I7,n7⟩:=q7;exact again I7 n7
   | cont=>obtain ⟨σ7,H7,I7,n7⟩:=q7;exact again I7 n7
   | brk=>obtain ⟨σ7,H7,I7,q7⟩:=q7;exact ⟨σ7,H7,I7.unpinned,q7⟩
   | ret v=>obtain ⟨x7,σ7,H7,I7,r7,q7⟩:=q7;exact ⟨x7,σ7,H7,I7.unpinned,r7,q7⟩
end
theorem for_list {a:Addr}{xs:List V}{g:TG}{tb:TS}{D:Ends}{σ:St}{H:Hp}(Pv:Nat->St->Hp->Prop)(h0:Pv 0 σ H)(hl:∀ i σ H,i<=xs.length->Pv i σ H->SqL K H a xs)
   (hs:∀ i x σ H,xs[i]?=some x->Pv i σ H->g x σ H λσ2 H2=>tb { D with nx:=Pv (i+1),ct:=Pv (i+1),bk:=D.nx } σ2 H2) (hd:∀ σ H,Pv xs.length σ H->D.nx σ H) :
   ∃ W:Nat->Nat->St->Hp->Prop,(∃ m,W 0 m σ H)/\∀ i m σ H,W i m σ H ->
     ((Itl K a).stop i H/\D.nx σ H)\/((Itl K a).go i H/\∃ N:St->Hp->Prop,(∀ σ' H',N σ' H'->∃ m',m'<m/\W (i+1) m' σ' H')/\∀ x H',(Itl K a).yld i H x H'->g x σ H' λσ2 H2=>tb { D with nx:=N,ct:=N,bk:=D.nx } σ2 H2):=by
 refine ⟨λi m σ H=>m=xs.length-i/\i<=xs.length/\Pv i σ H,⟨xs.length,by simp,zV _,h0⟩,?_⟩;rintro i m σ H ⟨rfl,hi,p⟩;have q:=hl i σ H hi p;by_cases hlt:i<xs.length;{refine .inr ⟨⟨xs,xs[i],q,by simp [hlt]⟩,Pv (i+1),λσ' H' p'=>⟨xs.length-(i+1),by lia,rfl,hlt,p'⟩,λx H' y=>?_⟩;obtain ⟨e,y⟩:=y;subst e;exact hs i x σ _ (y xs q) p}
 . have e:i=xs.length:=by lia
   subst e;exact .inl ⟨⟨xs,q,zk _⟩,hd σ H p⟩
theorem ay {lo:Int}{n:Nat}{g:TG}{tb:TS}{D:Ends}{σ:St}{H:Hp}(Pv:Nat->St->Hp->Prop)(h0:Pv 0 σ H)
   (hs:∀ i σ H,i<n->Pv i σ H->g (.int (lo+i)) σ H λσ2 H2=>tb { D with nx:=Pv (i+1),ct:=Pv (i+1),bk:=D.nx } σ2 H2) (hd:∀ σ H,Pv n σ H->D.nx σ H) :
   ∃ W:Nat->Nat->St->Hp->Prop,(∃ m,W 0 m σ H)/\∀ i m σ H,W i m σ H ->
     ((Itr lo n).stop i H/\D.nx σ H)\/((Itr lo n).go i H/\∃ N:St->Hp->Prop,(∀ σ' H',N σ' H'->∃ m',m'<m/\W (i+1) m' σ' H')/\∀ x H',(Itr lo n).yld i H x H'->g x σ H' λσ2 H2=>tb { D with nx:=N,ct:=N,bk:=D.nx } σ2 H2):=by
 refine ⟨λi m σ H=>m=n-i/\i<=n/\Pv i σ H,⟨n,by simp,zV _,h0⟩,?_⟩;rintro i m σ H ⟨rfl,hi,p⟩;by_cases hlt:i<n;{refine .inr ⟨hlt,Pv (i+1),λσ' H' p'=>⟨n-(i+1),by lia,rfl,hlt,p'⟩,λx H' y=>?_⟩;obtain ⟨e,y⟩:=y;subst e y;exact hs i σ _ hlt p}
 . have e:i=n:=by lia
   subst e;exact .inl ⟨zk _,hd σ H p⟩
theorem lU {c:TT}{tb:TS}{D:Ends}{σ:St}{H:Hp}(Pv:St->Hp->Prop)(μ:St->Hp->Nat)(h0:Pv σ H)
   (hs:∀ σ H,Pv σ H->c σ H λb H1=>if b=true then tb { D with nx:=λσ' H'=>Pv σ' H'/\μ σ' H'<μ σ H,ct:=λσ' H'=>Pv σ' H'/\μ σ' H'<μ σ H,bk:=D.nx } σ H1 else D.nx σ H1)
   (mono:∀ σ H Q Q',(∀ b H1,Q b H1->Q' b H1)->c σ H Q->c σ H Q'):tWhile c tb D σ H:=by
 refine ⟨λm σ H=>m=μ σ H/\Pv σ H,⟨_,rfl,h0⟩,?_⟩;rintro m σ H ⟨rfl,p⟩;refine mono σ H _ _ (λb H1 q=>?_) (hs σ H p);cases b with
 | true=>exact ⟨_,λσ' H' ⟨p',l⟩=>⟨_,l,rfl,p'⟩,q⟩
 | false=>exact q
abbrev R2:=V->V->Hp->VK->Prop
def OpR (X:Cx) (f:Value->Value->Sem Value) (r:R2):Prop :=
 ∀ (pins:List (Addr × Obj)) (s:Shared) (σ:St) (H:Hp) (x y:V) (v u:Value) (Q:VK),Inv X pins σ H s->RelV x v->RelV y u->r x y H Q ->
   wpAny (model X.prog X.w) X.A (f v u) (EP X pins σ Q) X.xe s
def UnR (X:Cx) (f:Value->Sem Value) (r:V->Hp->VK->Prop):Prop :=
 ∀ (pins:List (Addr × Obj)) (s:Shared) (σ:St) (H:Hp) (x:V) (v:Value) (Q:VK),Inv X pins σ H s->RelV x v->r x H Q ->
   wpAny (model X.prog X.w) X.A (f v) (EP X pins σ Q) X.xe s
def CallR (X:Cx) (f:Value) (r:List V->Hp->VK->Prop):Prop :=
 ∀ (pins:List (Addr × Obj)) (s:Shared) (σ:St) (H:Hp) (xs:List V) (us:List Value) (Q:VK),Inv X pins σ H s->Vals xs us->r xs H Q ->
   wpAny (model X.prog X.w) X.A (call f us) (EP X pins σ Q) X.xe s
def tOp (r:R2)(ta tb:TE):TE:=λσ H Q=>ta σ H λx H1=>tb σ H1 λy H2=>r x y H2 Q
def tUn (r:V->Hp->VK->Prop)(ta:TE):TE:=λσ H Q=>ta σ H λx H1=>r x H1 Q
def rI (C:Int->Int->Prop)(g:Int->Int->V):R2:=λx y H Q=>onI x λi=>onI y λj=>C i j/\Q (g i j) H
def rI0 (g:Int->Int->V):R2:=λx y H Q=>onI x λi=>onI y λj=>Q (g i j) H
def rU (g:Int->V):V->Hp->VK->Prop:=λx H Q=>onI x λi=>Q (g i) H
section
variable {X:Cx}{a b c:Expr}{ta tb tc:TE}{pos:Pos}
theorem binT (ha:PE X a ta)(hb:PE X b tb){σ:St}{H:Hp}{R:V->V->Hp->Prop}(I:Inv X pins σ H s)
   (h:ta σ H λx H1=>tb σ H1 λy H2=>R x y H2) {f:Value->Value->Sem Value}
   (hf:∀ v u s2 x y H2,Inv X pins σ H2 s2->RelV x v->RelV y u->R x y H2->wpAny (model X.prog X.w) X.A (f v u) Q X.xe s2) :
   wpAny (model X.prog X.w) X.A (eval a X.env) (λv s₁=>wpAny (model X.prog X.w) X.A (eval b X.env) (λu s₂=>wpAny (model X.prog X.w) X.A (f v u) Q X.xe s₂) X.xe s₁) X.xe s:=by
 refine thn (ha pins s σ H _ I h) λv s1 ⟨x,H1,I1,r1,q1⟩=>?_
 refine thn (hb pins s1 σ H1 _ I1 q1) λu s2 ⟨y,H2,I2,r2,q2⟩=>?_
 exact hf v u s2 x y H2 I2 r1 r2 q2
theorem zw {op:Operator}{r:R2}(ho:OpR X (binaryOp op) r)(ha:PE X a ta)(hb:PE X b tb):PE X (.BinOp a op b pos) (tOp r ta tb):=by intro pins s σ H Q I h;exact wpAny_BinOp (binT ha hb I h λv u s2 x y H2 I2 rx ry q=>ho pins s2 σ H2 x y v u Q I2 rx ry q)
theorem vb {op:UnaryOp}{r:V->Hp->VK->Prop}(ho:UnR X (unaryOp op) r)(ha:PE X a ta):PE X (.UnaryOp op a pos) (tUn r ta):=by intro pins s σ H Q I h;exact UnaryOp_ (thn (ha pins s σ H _ I h) λv s1 ⟨x,H1,I1,r1,q1⟩=>ho pins s1 σ H1 x v Q I1 r1 q1)
theorem opI {f:Value->Value->Sem Value}{C:Int->Int->Prop}{g:Int->Int->Int}
   (rule:∀ (i j:Int) (t u:Tok) (s:Shared) (Q:Value->Shared->Prop) (E:Value->Shared->Prop),C i j->Q (.int (g i j) s.toks) { s with toks:=s.toks+1 }->wpAny (model X.prog X.w) X.A (f (.int i t) (.int j u)) Q E s) :
   OpR X f (rI C λi j=>.int (g i j)):=by
 intro pins s σ H x y v u Q I rx ry h;obtain ⟨i,j,rfl,rfl,hc,q⟩:=lZ h;obtain ⟨t,rfl⟩:=rx;obtain ⟨t',rfl⟩:=ry;exact rule i j t t' s _ _ hc ⟨.int (g i j),H,I.tok _,⟨_,rfl⟩,q⟩
theorem opI0 {f:Value->Value->Sem Value}{g:Int->Int->Int}
   (rule:∀ (i j:Int) (t u:Tok) (s:Shared) (Q:Value->Shared->Prop) (E:Value->Shared->Prop),Q (.int (g i j) s.toks) { s with toks:=s.toks+1 }->wpAny (model X.prog X.w) X.A (f (.int i t) (.int j u)) Q E s) :
   OpR X f (rI0 λi j=>.int (g i j)):=by
 intro pins s σ H x y v u Q I rx ry h;obtain ⟨i,j,rfl,rfl,q⟩:=lZ h;obtain ⟨t,rfl⟩:=rx;obtain ⟨t',rfl⟩:=ry;exact rule i j t t' s _ _ ⟨.int (g i j),H,I.tok _,⟨_,rfl⟩,q⟩
theorem opB0 {f:Value->Value->Sem Value}{g:Int->Int->Bool}
   (rule:∀ (i j:Int) (t u:Tok) (s:Shared) (Q:Value->Shared->Prop) (E:Value->Shared->Prop),Q (.bool (g i j)) s->wpAny (model X.prog X.w) X.A (f (.int i t) (.int j u)) Q E s) :
   OpR X f (rI0 λi j=>.bl (g i j)):=by
 intro pins s σ H x y v u Q I rx ry h;obtain ⟨i,j,rfl,rfl,q⟩:=lZ h;obtain ⟨t,rfl⟩:=rx;obtain ⟨t',rfl⟩:=ry;exact rule i j t t' s _ _ ⟨.bl (g i j),H,I,rfl,q⟩
def CDiv (i j:Int):Prop:=0<j/\j<1073741824
def CPow (i j:Int):Prop:=0<=j/\j<=1000000/\i.natAbs<2^64
def CMul (i j:Int):Prop:=(-(2^64)<i/\i<2^64)\/(-(2^64)<j/\j<2^64)
theorem CMul.ok {i j:Int}(h:CMul i j):IntMulOk i j:=by
 rcases h with ⟨h1,h2⟩ | ⟨h1,h2⟩
 . exact .of_left (intBits_le_64 h1 h2)
 . exact .of_right (intBits_le_64 h1 h2)
theorem gs (k:Nat):(0:Int)<=2^k:=by rw [two_pow_cast];exact w6 _
theorem zN:OpR X (binaryOp .Add) (rI0 λi j=>.int (i+j)):=opI0 λ_ _ _ _ _ _ _ q=>add_int q
theorem yA:OpR X (binaryOp .Sub) (rI0 λi j=>.int (i-j)):=opI0 λ_ _ _ _ _ _ _ q=>sub_int q
theorem xc:OpR X (binaryOp .Mult) (rI CMul λi j=>.int (i*j)):=opI λ_ _ _ _ _ _ _ hc q=>mul_int q hc.ok
theorem yW:OpR X (binaryOp .FloorDiv) (rI CDiv λi j=>.int (i/j)):=opI λi j _ _ _ _ _ hc q=>by
 have h1:(0:Int)<j:=hc.1;have h2:j<1073741824:=hc.2;exact floordiv_int (by lia) (by rw [iG i (by lia)];exact q) (.inl (iT (by lia)))
theorem zB:OpR X (binaryOp .Mod) (rI (λ_ j=>0<j) λi j=>.int (i%j)):=opI λi j _ _ _ _ _ hc q=>by
 have h1:(0:Int)<j:=hc;exact mod_int' (by lia) (by rw [Int.fmod_eq_emod_of_nonneg i (by lia)];exact q)
theorem rf:OpR X (binaryOp .RShift) (rI (λ_ j=>0<=j) λi j=>.int (i/2^j.toNat)):=opI λi j _ _ _ _ _ hc q =>
 rshift_int hc (by rw [iG i (gs _)];exact q)
theorem xD:OpR X (binaryOp .BitAnd) (rI0 λi j=>.int (Builtin.bitAnd i j)):=opI0 λ_ _ _ _ _ _ _ q=>and_int q
theorem rZ:OpR X (binaryOp .BitOr) (rI0 λi j=>.int (Builtin.bitOr i j)):=opI0 λ_ _ _ _ _ _ _ q=>or_int q
theorem unI {f:Value->Sem Value}{g:Int->Int}
   (rule:∀ (i:Int) (t:Tok) (s:Shared) (Q:Value->Shared->Prop) (E:Value->Shared->Prop),Q (.int (g i) s.toks) { s with toks:=s.toks+1 }->wpAny (model X.prog X.w) X.A (f (.int i t)) Q E s) :
   UnR X f (rU λi=>.int (g i)):=by
 intro pins s σ H x v Q I rx h;obtain ⟨i,rfl,q⟩:=ud h;obtain ⟨t,rfl⟩:=rx;exact rule i t s _ _ ⟨.int (g i),H,I.tok _,⟨_,rfl⟩,q⟩
theorem ua:UnR X (unaryOp .USub) (rU λi=>.int (-i)):=unI λ_ _ _ _ _ q=>neg_int q
theorem un_inv:UnR X (unaryOp .Invert) (rU λi=>.int (Builtin.bitNot i)):=unI λ_ _ _ _ _ q=>invert_int q
end
def scal:V->V->Bool
 | .non,.non=>true | .non,.int _=>true | .int _,.non=>true | .non,.bl _=>true | .bl _,.non=>true | .non,.str _=>true | .str _,.non=>true
 | .int _,.int _=>true | .bl _,.bl _=>true | .str _,.str _=>true | .byt _,.byt _=>true
 | .int _,.str _=>true | .str _,.int _=>true | .bl _,.str _=>true | .str _,.bl _=>true
 | _,_=>false
def rEq:R2:=λx y H Q=>onT (scal x y) (Q (.bl (decide (x=y))) H)
def rNe:R2:=λx y H Q=>onT (scal x y) (Q (.bl (!decide (x=y))) H)
theorem gr {i j:Int}:decide (V.int i=V.int j)=(i==j):=by rw [vI];simp
theorem dec_bl {i j:Bool}:decide (V.bl i=V.bl j)=(i==j):=by rw [vI];simp
theorem gq {i j:Str}:decide (V.str i=V.str j)=(i==j):=by rw [vI];simp
theorem gn {i j:Array UInt8}:decide (V.byt i=V.byt j)=(i.toList==j.toList):=by rw [vI];cases i;cases j;simp
section
variable {X:Cx}{a b c:Expr}{ta tb tc:TE}{pos:Pos}
theorem y6 {σ:St}{H:Hp}{Q:VK}{k k':Bool}(I:Inv X pins σ H s)(q:Q (.bl k) H)(e:k=k'):EP X pins σ Q (.bool k') s:=by subst e;exact ⟨.bl k,H,I,rfl,q⟩
theorem yL:OpR X (compareOp .Eq) rEq:=by
 intro pins s σ H x y v u Q I rx ry h;obtain ⟨hs,q⟩:=onT_x h;cases x with
 | non =>
   cases rx;cases y with
   | non=>cases ry;exact PySem.EqNone.eq_none_none (y6 I q (by simp))
   | bl j=>cases ry;exact PySem.EqNone.eq_none_bool (y6 I q (by simp))
   | int j=>obtain ⟨t',rfl⟩:=ry;exact PySem.EqNone.eq_none_int (y6 I q (by simp))
   | str j=>obtain ⟨t',rfl⟩:=ry;exact PySem.EqNone.eq_none_str (y6 I q (by simp))
   | _=>exact absurd (show false=true from hs) yS
 | bl i =>
   cases rx;cases y with
   | non=>cases ry;exact PySem.EqNone.eq_bool_none (y6 I q (by simp))
   | bl j=>cases ry;exact eq_bool (y6 I q dec_bl)
   | str j=>obtain ⟨t',rfl⟩:=ry;exact PySem.EqMixed.eq_bool_str (y6 I q (by simp))
   | _=>exact absurd (show false=true from hs) yS
 | int i =>
   obtain ⟨t,rfl⟩:=rx;cases y with
   | non=>cases ry;exact PySem.EqNone.eq_int_none (y6 I q (by simp))
   | int j=>obtain ⟨t',rfl⟩:=ry;exact eq_int (y6 I q gr)
   | str j=>obtain ⟨t',rfl⟩:=ry;exact PySem.EqMixed.eq_int_str (y6 I q (by simp))
   | _=>exact absurd (show false=true from hs) yS
 | str i =>
   obtain ⟨t,rfl⟩:=rx;cases y with
   | non=>cases ry;exact PySem.EqNone.eq_str_none (y6 I q (by simp))
   | bl j=>cases ry;exact PySem.EqMixed.eq_str_bool (y6 I q (by simp))
   | int j=>obtain ⟨t',rfl⟩:=ry;exact PySem.EqMixed.eq_str_int (y6 I q (by simp))
   | str j=>obtain ⟨t',rfl⟩:=ry;exact eq_str (y6 I q gq)
   | _=>exact absurd (show false=true from hs) yS
 | byt i =>
   obtain ⟨t,rfl⟩:=rx;cases y with
   | byt j=>obtain ⟨t',rfl⟩:=ry;exact PySem.W.eq_bytes (y6 I q gn)
   | _=>exact absurd (show false=true from hs) yS
 | _=>cases y<;>exact absurd (show false=true from hs) yS
theorem op_ne:OpR X (compareOp .NotEq) rNe:=by
 intro pins s σ H x y v u Q I rx ry h;obtain ⟨hs,q⟩:=onT_x h;cases x with
 | non =>
   cases rx;cases y with
   | non=>cases ry;exact PySem.EqNone.ne_none_none (y6 I q (by simp))
   | bl j=>cases ry;exact PySem.EqNone.ne_none_bool (y6 I q (by simp))
   | int j=>obtain ⟨t',rfl⟩:=ry;exact PySem.EqNone.ne_none_int (y6 I q (by simp))
   | str j=>obtain ⟨t',rfl⟩:=ry;exact PySem.EqNone.ne_none_str (y6 I q (by simp))
   | _=>exact absurd (show false=true from hs) yS
 | bl i =>
   cases rx;cases y with
   | non=>cases ry;exact PySem.EqNone.ne_bool_none (y6 I q (by simp))
   | bl j=>cases ry;exact ne_bool (y6 I q (congrArg not dec_bl))
   | str j=>obtain ⟨t',rfl⟩:=ry;exact PySem.EqMixed.ne_bool_str (y6 I q (by simp))
   | _=>exact absurd (show false=true from hs) yS
 | int i =>
   obtain ⟨t,rfl⟩:=rx;cases y with
   | non=>cases ry;exact PySem.EqNone.ne_int_none (y6 I q (by simp))
   | int j=>obtain ⟨t',rfl⟩:=ry;exact ne_int (y6 I q (congrArg not gr))
   | str j=>obtain ⟨t',rfl⟩:=ry;exact PySem.EqMixed.ne_int_str (y6 I q (by simp))
   | _=>exact absurd (show false=true from hs) yS
 | str i =>
   obtain ⟨t,rfl⟩:=rx;cases y with
   | non=>cases ry;exact PySem.EqNone.ne_str_none (y6 I q (by simp))
   | bl j=>cases ry;exact PySem.EqMixed.ne_str_bool (y6 I q (by simp))
   | int j=>obtain ⟨t',rfl⟩:=ry;exact PySem.EqMixed.ne_str_int (y6 I q (by simp))
   | str j=>obtain ⟨t',rfl⟩:=ry;exact ne_str (y6 I q (congrArg not gq))
   | _=>exact absurd (show false=true from hs) yS
 | byt i =>
   obtain ⟨t,rfl⟩:=rx;cases y with
   | byt j=>obtain ⟨t',rfl⟩:=ry;exact PySem.W.ne_bytes (y6 I q (congrArg not gn))
   | _=>exact absurd (show false=true from hs) yS
 | _=>cases y<;>exact absurd (show false=true from hs) yS
theorem uZ:OpR X (compareOp .Lt) (rI0 λi j=>.bl (decide (i<j))):=opB0 λ_ _ _ _ _ _ _ q=>lt_int q
theorem uY:OpR X (compareOp .LtE) (rI0 λi j=>.bl (decide (i<=j))):=opB0 λ_ _ _ _ _ _ _ q=>le_int q
theorem op_gt:OpR X (compareOp .Gt) (rI0 λi j=>.bl (decide (j<i))):=opB0 λ_ _ _ _ _ _ _ q=>gt_int q
theorem op_ge:OpR X (compareOp .GtE) (rI0 λi j=>.bl (decide (j<=i))):=opB0 λ_ _ _ _ _ _ _ q=>ge_int q
theorem qH:OpR X (compareOp .Is) (λx y H Q=>y=.non/\Q (.bl (decide (x=.non))) H):=by
 intro pins s σ H x y v u Q I rx ry h;obtain ⟨rfl,q⟩:=h;cases ry;refine is_none_gen (y6 I q ?_);cases x<;>first
   | (cases rx;rfl)
   | (obtain ⟨t,rfl⟩:=rx;rfl)
theorem gj:OpR X (compareOp .IsNot) (λx y H Q=>y=.non/\Q (.bl (!decide (x=.non))) H):=by
 intro pins s σ H x y v u Q I rx ry h;obtain ⟨rfl,q⟩:=h;cases ry;refine isnot_none_gen (y6 I q ?_);cases x<;>first
   | (cases rx;rfl)
   | (obtain ⟨t,rfl⟩:=rx;rfl)
theorem nomark (b:Expr){op:CmpOp}(h:op≠.In:=by decide)(h2:op≠.NotIn:=by decide):behindInMarks op b=false:=by
 have e1:(op==CmpOp.In)=false:=by cases op<;>first | rfl | exact absurd rfl h
 have e2:(op==CmpOp.NotIn)=false:=by cases op<;>first | rfl | exact absurd rfl h2
 cases b<;>simp [behindInMarks,e1,e2]
theorem pe_cmpR {op:CmpOp}{r:R2}(ho:OpR X (compareOp op) r)(ha:PE X a ta)(hb:PE X b tb)(hm:behindInMarks op b=false):PE X (.Compare a [op] [b] pos) (tOp r ta tb):=by intro pins s σ H Q I h;exact wpAny_Compare1 (binT ha hb I h λv u s2 x y H2 I2 rx ry q=>ho pins s2 σ H2 x y v u Q I2 rx ry q) hm
def tTest (t:TE):TT:=λσ H Q=>t σ H λx H'=>onB x λk=>Q k H'
theorem pt_cmpR {op:CmpOp}{r:R2}(ho:OpR X (compareOp op) r)(ha:PE X a ta)(hb:PE X b tb)(hm:behindInMarks op b=false):PT X (.Compare a [op] [b] pos) (tTest (tOp r ta tb)):=by
 intro pins s σ H Q I h;refine wpAny_isTrue_Compare1 (thn (ha pins s σ H _ I h) λv s1 ⟨x,H1,I1,r1,q1⟩=>thn (hb pins s1 σ H1 _ I1 q1) λu s2 ⟨y,H2,I2,r2,q2⟩ =>
   thn (ho pins s2 σ H2 x y v u _ I2 r1 r2 q2) λc s3 ⟨z,H3,I3,r3,q3⟩=>?_) hm
 obtain ⟨k,e,q3⟩:=tW q3;subst e;cases r3;exact uK ⟨H3,I3,q3⟩
def tChain (r r':R2)(ta tb tc:TE):TE:=λσ H Q=>ta σ H λx H1=>tb σ H1 λy H2=>r x y H2 λz H3=>∃ k,z=.bl k /\
 (if k=true then tc σ H3 λw' H4=>r' y w' H4 Q else Q (.bl false) H3)
theorem pt_chain {op op':CmpOp}{r r':R2}(ho:OpR X (compareOp op) r)(ho':OpR X (compareOp op') r')(ha:PE X a ta)(hb:PE X b tb)(hc:PE X c tc)
   (hm:lastMarks [op,op'] [b,c]=false:=by with_unfolding_all rfl):PT X (.Compare a [op,op'] [b,c] pos) (tTest (tChain r r' ta tb tc)):=by
 intro pins s σ H Q I h;refine isTrue_chain (thn (ha pins s σ H _ I h) λv s1 ⟨x,H1,I1,r1,q1⟩=>test_link (thn (hb pins s1 σ H1 _ I1 q1) λu s2 ⟨y,H2,I2,r2,q2⟩ =>
   thn (ho pins s2 σ H2 x y v u _ I2 r1 r2 q2) λd s3 ⟨z,H3,I3,r3,k,e,q3⟩=>?_)) hm
 subst e;cases r3;refine uK ?_;cases k with
 | false =>
   have q':Q false H3:=by rw [if_neg (by decide)] at q3;exact q3
   exact ite_ff ⟨H3,I3,q'⟩
 | true =>
   refine ite_tt (test_last (thn (hc pins s3 σ H3 _ I3 q3) λw' s4 ⟨z',H4,I4,r4,q4⟩=>thn (ho' pins s4 σ H4 y z' u w' _ I4 r2 r4 q4) λd' s5 ⟨z2,H5,I5,r5,q5⟩=>?_));obtain ⟨k2,e2,q5⟩:=tW q5;subst e2;cases r5;exact uK ⟨H5,I5,q5⟩
theorem line63:(sizeLine:Nat)<2^63:=by rw [wg];decide
theorem tT:OpR X (binaryOp .Add) (λx y H Q=>∃ i j,x=.str i/\y=.str j/\i.length+j.length<=sizeLine/\Q (.str (i++j)) H):=by intro pins s σ H x y v u Q I rx ry h;obtain ⟨i,j,rfl,rfl,hz,q⟩:=h;obtain ⟨t,rfl⟩:=rx;obtain ⟨t',rfl⟩:=ry;exact add_str (λt' tk=>⟨.str (i++j),H,I.tok _,⟨_,rfl⟩,q⟩) hz
theorem vals1 {x:V}(r:Vals [x] us):∃ u,us=[u]/\RelV x u:=by
 cases r with
 | cons r1 r2=>cases r2;exact ⟨_,rfl,r1⟩
theorem vals2 {x y:V}(r:Vals [x,y] us):∃ u w',us=[u,w']/\RelV x u/\RelV y w':=by
 cases r with
 | cons r1 r2 =>
   cases r2 with
   | cons r3 r4=>cases r4;exact ⟨_,_,rfl,r1,r3⟩
theorem ax (hc:X.calm=true):CallR X (.builtin "max") (λxs H Q=>∃ i j,xs=[.int i,.int j]/\Q (.int (if j > i then j else i)) H):=by
 intro pins s σ H xs us Q I r h;obtain ⟨i,j,rfl,q⟩:=h;obtain ⟨u,w',rfl,⟨t,rfl⟩,⟨t',rfl⟩⟩:=vals2 r;refine max_two_ints (I.ok.hd hc) λh' tk k=>⟨_,H,I.kept k,?_,q⟩
 by_cases hj:j > i;{rw [if_pos hj,if_pos hj];exact ⟨_,rfl⟩};{rw [if_neg hj,if_neg hj];exact ⟨_,rfl⟩}
theorem gh (hc:X.calm=true):CallR X (.builtin "min") (λxs H Q=>∃ i j,xs=[.int i,.int j]/\Q (.int (if j<i then j else i)) H):=by
 intro pins s σ H xs us Q I r h;obtain ⟨i,j,rfl,q⟩:=h;obtain ⟨u,w',rfl,⟨t,rfl⟩,⟨t',rfl⟩⟩:=vals2 r;refine min_two_ints (I.ok.hd hc) λh' tk k=>⟨_,H,I.kept k,?_,q⟩
 by_cases hj:j<i;{rw [if_pos hj,if_pos hj];exact ⟨_,rfl⟩};{rw [if_neg hj,if_neg hj];exact ⟨_,rfl⟩}
theorem gg:CallR X (.type "str") (λxs H Q=>∃ i,xs=[.int i]/\i.natAbs.log2<1920/\Q (.str (toString i)) H):=by intro pins s σ H xs us Q I r h;obtain ⟨i,rfl,hz,q⟩:=h;obtain ⟨u,rfl,t,rfl⟩:=vals1 r;exact PySem.P.str_of_int hz ⟨.str _,H,I.tok _,⟨_,rfl⟩,q⟩
end
structure ObjM (h:Heap)(x dx C:Addr)(mA:Str->Option Value):Prop where
 obj:h.get? x=some (PySem.W.instObj C dx)
 ns:h.Ns1 dx mA
 ne:dx≠x
theorem aw {h:Heap}{dx:Addr}{mA:Str->Option Value}(n:h.Ns1 dx mA):∃ od,h.get? dx=some od/\∀ name,PySem.W.lookIn name od=some (mA name):=by
 obtain ⟨o,es,ep,ho,hd,hk,_,hm⟩:=n;refine ⟨o,ho,λname=>?_⟩;have e:=hm name;unfold nsFind findBy at e;rw [<- Array.find?_toList] at e;unfold PySem.W.lookIn;rw [hd];dsimp only;split
 . rename_i y q
   rw [q] at e;exact congrArg some e
 . rename_i q
   rw [q] at e;have a:es.toList.any (·.refKey)=false:=by rw [List.any_eq_false];intro y hy;obtain ⟨z,t,hkey⟩:=hk y (Array.mem_toList_iff.mp hy);simp [DictEntry.refKey,hkey]
   have a':¬ es.toList.any (·.refKey)=true:=by rw [a];exact yS
   rw [if_neg a'];exact congrArg some e
theorem ObjM.look {h:Heap}{x dx:Addr}{mA:Str->Option Value}(I:ObjM h x dx C mA):∃ od,PySem.W.InstAt h x (PySem.W.instObj C dx) C (some od)/\∀ name,PySem.W.lookIn name od=some (mA name) :=
 let ⟨od,ho,hl⟩:=aw I.ns
 ⟨od,⟨I.obj,rfl,rfl,ho⟩,hl⟩
section
variable {x dx f:Addr}{mA:Str->Option Value}{name:Str}{v:Value}
theorem get_map {expr:Bool}(X:K.In s.heap)(I:ObjM s.heap x dx C mA)(hg:PySem.W.plainGet K C name=true)(hh:PySem.W.hasDictIn K C=true)
   (ha:PySem.W.findIn K (.ref C) name=some none) (hv:mA name=some v) (hv':PySem.W.handedIn v=true) (h:Q v { s with toks:=s.toks+1 }) :
   wpAny (model prog w) A (getAttr (.ref x) name expr) Q E s:=by
 obtain ⟨od,J,hl⟩:=I.look;exact PySem.W.get_value X J (nN hg).1 (PySem.W.findObj_own hh ha rfl (by rw [hl,hv])) hv' h
theorem get_meth {pl:Sem Bool}{Q:Value × List Value->Shared->Prop}(X:K.In s.heap)(I:ObjM s.heap x dx C mA)(hg:PySem.W.plainGet K C name=true)
   (hf:PySem.W.findIn K (.ref C) name=some (some (.ref f))) (ht:PySem.W.isFn K (.ref f)=true) (hv:mA name=none) (h:Q (.ref f,[.ref x]) s) :
   wpAny (model prog w) A (getMethod (.ref x) name pl) Q E s:=by
 obtain ⟨od,J,hl⟩:=I.look;exact PySem.W.method_fn X J (nN hg).1 (nN hg).2 hf (xC.mp ht) (by show (PySem.W.lookIn name od).map (·.isSome)=some false;rw [hl,hv];rfl) h
theorem set_map {ns:List Str}{Q:Unit->Shared->Prop}(X:K.In s.heap)(I:ObjM s.heap x dx C mA)
   (hs:PySem.W.findIn K (.ref C) "__setattr__"=some (some (.builtin "object.__setattr__"))) (hp:PySem.W.plainOver K C=true) (ht:PySem.W.takerIn K C name=some none) (hh:PySem.W.hasDictIn K C=true)
   (hw:PySem.Within mA ns) (hsz:ns.length<=sizeLine)
   (h:∀ h',ObjM h' x dx C (λy=>if y=name then some v else mA y)->Heap.SameBut dx s.heap h'->Q () { s with heap:=h',toks:=s.toks+2 }) :
   wpAny (model prog w) A (setAttr (.ref x) name v) Q E s:=by
 obtain ⟨od,J,hl⟩:=I.look;refine PySem.W.set_plain X J hs (PySem.W.osa_open (s:={ s with toks:=s.toks+1 }) (r:=none) X J hp ht λb=>?_);obtain ⟨cd,hc,hd'⟩:=PySem.W.any_some hh;have hx:s.heap.get? x=some ⟨.ref C,some dx,.plain,#[]⟩:=I.obj;refine zt (zi (zt (zt (wpAny_loadPart hx (zt (PySem.W.Looks.here (s:={ s with toks:=s.toks+1 }) (PySem.W.looks_clsIn X hc) ?_))))));rw [hd'];refine zi (a:=some dx) (zt (zi (zt ?_)));refine wpAny_nsSet1 (s:={ s with toks:=s.toks+1 }) I.ns λh' hn2 hs2=>?_
 obtain ⟨oD,esD,epD,hoD,hdD,hcD⟩:=hn2.count (PySem.Within.cons name v hw);refine zt (wpAny_lookBehind hoD (by rw [hdD];exact pastItsLine_dict (yl hcD (by rw [zZ];lia))) ?_);exact zi (h _ ⟨(hs2.2 _ (Ne.symm I.ne)).trans I.obj,hn2,I.ne⟩ hs2)
theorem make_map {R:Result->Shared->Prop}{vs:List Value}{kw:List (Str × Value)}(X:K.In s.heap)(hm:PySem.W.makesIn K C=true)
   (hi:PySem.W.findIn K (.ref C) "__init__"=some (some (.ref f))) (hf:PySem.W.typeIn K (.ref f)=some (.type "function"))
   (h:codeAny (model prog w) (A.under (.builtin "type.__call__" ⟨.ref C::vs,kw⟩)) (.call (.ref f) ⟨.ref (s.heap.objs.size+1)::vs,kw⟩) (PySem.W.InitBack (s.heap.objs.size+1) R)
     { s with heap:=(s.heap.push PySem.W.emptyDict).push (PySem.W.instObj C s.heap.objs.size) }) :
   codeAny (model prog w) A (.call (.ref C) ⟨vs,kw⟩) R s:=by
 obtain ⟨hh,g,d,t,os⟩:=s;exact PySem.W.make_core (PySem.W.makes_of X hm) (PySem.W.looks_findIn X hi) (λself=>PySem.W.bind_fn X self hf) (.inl rfl) h
end
def putF (f:Str)(v:V):List (Str × V)->List (Str × V)
 | []=>[(f,v)]
 | (g,x)::r=>if g=f then (g,v)::r else (g,x)::putF f v r
theorem gf (f g:Str) (v:V):∀ fs:List (Str × V),(putF f v fs).lookup g=if g=f then some v else fs.lookup g
 | []=>by
   show List.lookup g [(f,v)]=_;by_cases h:g=f;{have hb:(g==f)=true:=xC.mpr h;simp only [List.lookup,hb,if_pos h]}
   . have hb:(g==f)=false:=u0.mpr h;simp only [List.lookup,hb,if_neg h]
 | (k, x)::r=>by
   have ih:=gf f g v r;rw [show putF f v ((k,x)::r)=(if k=f then (k,v)::r else (k,x)::putF f v r) from rfl];by_cases hk:k=f
   . rw [if_pos hk];by_cases h:g=k
     . have hb:(g==k)=true:=xC.mpr h;simp only [List.lookup,hb,if_pos (h.trans hk)]
     . have hb:(g==k)=false:=u0.mpr h;simp only [List.lookup,hb,if_neg (λe:g=f=>h (e.trans hk.symm))]
   . rw [if_neg hk];by_cases h:g=k
     . have hb:(g==k)=true:=xC.mpr h;simp only [List.lookup,hb,if_neg (λe:g=f=>hk (h.symm.trans e))]
     . have hb:(g==k)=false:=u0.mpr h;simp only [List.lookup,hb];exact ih
theorem lS (f:Str) (v:V):∀ fs:List (Str × V),f∈(putF f v fs).map (·.1)/\∀ g,g∈fs.map (·.1)->g∈(putF f v fs).map (·.1)
 | []=>⟨by simp [putF],λg h=>by simp at h⟩
 | (k, x)::r=>by
   obtain ⟨i1,i2⟩:=lS f v r;rw [show putF f v ((k,x)::r)=(if k=f then (k,v)::r else (k,x)::putF f v r) from rfl];by_cases hk:k=f;{rw [if_pos hk];subst hk;exact ⟨by simp,λg h=>by simpa using h⟩}
   . rw [if_neg hk];refine ⟨?_,λg h=>?_⟩
     . rw [zL];exact xm _ i1
     . rw [zL] at h ⊢;rcases zQ.mp h with e | e
       . exact zQ.mpr (.inl e)
       . exact xm _ (i2 g e)
theorem gc (f:Str)(v:V):∀ fs:List (Str × V),(putF f v fs).length<=fs.length+1
 | []=>by simp [putF]
 | (k,x)::r=>by
   have ih:=gc f v r;rw [show putF f v ((k,x)::r)=(if k=f then (k,v)::r else (k,x)::putF f v r) from rfl];by_cases hk:k=f;{rw [if_pos hk,zZ,zZ];lia};{rw [if_neg hk,zZ,zZ];lia}
theorem RelO.some_of {v:V}{o:Option Value}(r:RelO (some v) o):∃ u,o=some u/\RelV v u:=by
 cases o with
 | none=>exact (show False from r).elim
 | some u=>exact ⟨u,rfl,r⟩
theorem RelO.none_of {o:Option Value}(r:RelO none o):o=none:=by
 cases o with
 | none=>rfl
 | some u=>exact (show False from r).elim
theorem av {v:V}(r:RelV v u):PySem.W.handedIn u=true:=by
 cases v with
 | non=>cases (show u=Value.none from r);rfl
 | bl b=>cases (show u=Value.bool b from r);rfl
 | int i=>obtain ⟨t,e⟩:=(show ∃ t,u=Value.int i t from r);cases e;rfl
 | str x=>obtain ⟨t,e⟩:=(show ∃ t,u=Value.str x t from r);cases e;rfl
 | byt b=>obtain ⟨t,e⟩:=(show ∃ t,u=Value.bytes b t from r);cases e;rfl
 | flt b=>obtain ⟨t,e⟩:=(show ∃ t,u=Value.float b t from r);cases e;rfl
 | ref a=>cases (show u=Value.ref a from r);rfl
 | ty n=>cases (show u=Value.type n from r);rfl
section
variable {H H':Hp}{h:Heap}{a dx:Addr}{fs fs':List (Str × V)}
theorem ins_get (hok:HOk P w H h)(e:H a=some (.ins C dx fs)):∃ mA,ObjM h a dx C mA/\(∀ f,RelO (fs.lookup f) (mA f))/\PySem.Within mA (fs.map (·.1))/\fs.length<=1000/\H dx=some (.own a):=by
 obtain ⟨d,z,ne,ob,mA,n,r,q⟩:=(show ObjOk P w H h a (.ins C dx fs) from hok a _ e)
 exact ⟨mA,⟨ob,n,ne⟩,r,q,z,d⟩
end
structure Cls (K:zj)(C:Addr):Prop where
 pg:PySem.W.plainGet K C Str.empty=true
 hd:PySem.W.hasDictIn K C=true
 po:PySem.W.plainOver K C=true
 sa:PySem.W.findIn K (.ref C) "__setattr__"=some (some (.builtin "object.__setattr__"))
theorem Cls.get (c:Cls K C)(f:Str):PySem.W.plainGet K C f=true:=c.pg
def NoAttr (K:zj)(C:Addr)(f:Str):Prop:=PySem.W.findIn K (.ref C) f=some none
theorem NoAttr.taker {f:Str}(n:NoAttr K C f):PySem.W.takerIn K C f=some none:=by unfold PySem.W.takerIn;rw [show PySem.W.findIn K (.ref C) f=some none from n];rfl
structure Meth (K:zj)(C:Addr)(m:Str)(f:Addr):Prop where
 at_:PySem.W.findIn K (.ref C) m=some (some (.ref f))
 fn:PySem.W.isFn K (.ref f)=true
 kp:PySem.W.keepIn K (.ref f)=true
section
variable {X:Cx}{σ:St}{H:Hp}{a dx:Addr}{fs:List (Str × V)}{f:Str}{v:V}
theorem au {b:Bool}(I:Inv X pins σ H s)(e:H a=some (.ins C dx fs))(c:Cls X.K C)(n:NoAttr X.K C f)(l:fs.lookup f=some v)
   (h:∀ u s',Inv X pins σ H s'->RelV v u->Q u s'):wpAny (model X.prog X.w) A (getAttr (.ref a) f b) Q E s:=by
 obtain ⟨mA,O,r,_,_,_⟩:=ins_get I.hok e;obtain ⟨u,hu,ru⟩:=RelO.some_of (v:=v) (o:=mA f) (by rw [<- l];exact r f);exact get_map I.kIn O (c.get f) c.hd n hu (av ru) (h u _ (I.tok _) ru)
theorem lQ {m:Str}{g:Addr}{pl:Sem Bool}{Q:Value × List Value->Shared->Prop}(I:Inv X pins σ H s)(e:H a=some (.ins C dx fs))(c:Cls X.K C)(k:Meth X.K C m g)(l:fs.lookup m=none)
   (h:Q (.ref g,[.ref a]) s):wpAny (model X.prog X.w) A (getMethod (.ref a) m pl) Q E s:=by
 obtain ⟨mA,O,r,_,_,_⟩:=ins_get I.hok e;have hn:mA m=none:=RelO.none_of (by rw [<- l];exact r m);exact get_meth I.kIn O (c.get m) k.at_ k.fn hn h
theorem aq {y:V}{Q:Unit->Shared->Prop}(I:Inv X pins σ H s)(e:H a=some (.ins C dx fs))(c:Cls X.K C)(n:NoAttr X.K C f)(hl:fs.length<1000)(ry:RelV y u)
   (h:∀ s',Inv X pins σ (upd H a (.ins C dx (putF f y fs))) s'->Q () s'):wpAny (model X.prog X.w) A (setAttr (.ref a) f u) Q E s:=by
 obtain ⟨mA,O,r,wi,_,ho⟩:=ins_get I.hok e;have hz:(fs.map (·.1)).length<=sizeLine:=by rw [zg,wg];lia
 refine set_map I.kIn O c.sa c.po n.taker c.hd wi hz λh' O' sb=>h _ ?_
 have hd:∃ o,h'.get? dx=some o:=let ⟨o,_,_,e',_⟩:=O'.ns;⟨o,e'⟩
 refine I.write (x:=a) (e:=dx) (by rw [e];exact True.intro) (.inr ho) (λb q hb z=>(sb.2 b hb).trans z) hd ?_;refine ⟨by rw [zr O.ne];exact ho,?_,O.ne,O'.obj,_,O'.ns,λg=>?_,λg hg=>?_⟩;{have:=gc f y fs;lia}
 . show RelO ((putF f y fs).lookup g) (if g=f then some u else mA g);rw [gf];by_cases q:g=f
   . rw [if_pos q,if_pos q];exact ry
   . rw [if_neg q,if_neg q];exact r g
 . by_cases q:g=f
   . rw [q];exact (lS f y fs).1
   . refine (lS f y fs).2 g (wi g λz=>hg ?_);show (if g=f then some u else mA g)=none;rw [if_neg q];exact z
theorem Inv.made (I:Inv X pins σ H s):Inv X pins σ (upd (upd H s.heap.objs.size (.own (s.heap.objs.size+1))) (s.heap.objs.size+1) (.ins C s.heap.objs.size []))
   { s with heap:=(s.heap.push PySem.W.emptyDict).push (PySem.W.instObj C s.heap.objs.size) }:=by
 have e1:(s.heap.push PySem.W.emptyDict).get? s.heap.objs.size=some PySem.W.emptyDict:=yi s.heap rfl;have e2:((s.heap.push PySem.W.emptyDict).push (PySem.W.instObj C s.heap.objs.size)).get? (s.heap.objs.size+1)=some (PySem.W.instObj C s.heap.objs.size):=by
   have:=yi (s.heap.push PySem.W.emptyDict) (o:=PySem.W.instObj C s.heap.objs.size) rfl
   rwa [uv] at this
 have e3:(s.heap.push PySem.W.emptyDict).Ns s.heap.objs.size (λ_=>none):=⟨PySem.W.emptyDict,#[],_,e1,rfl,(λe he=>absurd he (by simp)),λ_=>rfl⟩
 have I1:=I.laid (a:=s.heap.objs.size) (o:=.own (s.heap.objs.size+1)) (h':=s.heap.push PySem.W.emptyDict) (t':=s.toks) (λb u q=>zU _ q) (zk _) ⟨_,e1⟩;refine I1.laid (a:=s.heap.objs.size+1) (o:=.ins C s.heap.objs.size []) (t':=s.toks) (λb u q=>zU _ q) (r9 (uv _ _)) ?_;have ne:s.heap.objs.size≠s.heap.objs.size+1:=zC (wb _);refine ⟨by rw [zr ne,zq],zV _,ne,e2,λ_=>none,(Heap.Ns1.of_empty e3).at λo q=>zU _ q,λ_=>True.intro,λy hy=>absurd rfl hy⟩
theorem attr_of {env:Env}{e:Expr}{f:Str}{pos:Pos}(hb:attributeBase e f env (eval e env)=eval e env)
   (h:wpAny (model prog w) A (eval e env) (λo s₁=>wpAny (model prog w) A (getAttr o f true) Q E s₁) E s):wpAny (model prog w) A (eval (.Attribute e f pos) env) Q E s :=
 Attribute_any_ h (by rw [arm_eval_Attribute,hb])
end
def tFld (K:zj)(ta:TE)(f:Str):TE:=λσ H Q=>ta σ H λx H1=>∃ a C dx fs v,x=.ref a/\H1 a=some (.ins C dx fs)/\Cls K C/\NoAttr K C f/\fs.lookup f=some v/\Q v H1
def sFld (K:zj)(ta tv:TE)(f:Str):TS:=λD σ H=>tv σ H λy H1=>ta σ H1 λx H2=>∃ a C dx fs,x=.ref a/\H2 a=some (.ins C dx fs)/\Cls K C/\NoAttr K C f/\fs.length<1000 /\
 D.nx σ (upd H2 a (.ins C dx (putF f y fs)))
section
variable {X:Cx}{o e value:Expr}{f:Str}{pos tpos:Pos}{ta tv:TE}
theorem pe_fld (he:PE X e ta)(hb:attributeBase e f X.env (eval e X.env)=eval e X.env):PE X (.Attribute e f pos) (tFld X.K ta f):=by intro pins s σ H Q I h;refine attr_of hb (thn (he pins s σ H _ I h) λu s1 hq=>?_);obtain ⟨x,H1,I1,rx,a,C,dx,fs,v,ex,ea,c,n,l,q⟩:=hq;subst ex;obtain rfl:u=Value.ref a:=rx;exact au I1 ea c n l λu' s2 I2 ru=>⟨v,H1,I2,ru,q⟩
theorem ps_fld (ha:PE X o ta)(hv:PE X value tv)(hs:swapsWith value (some (.Attribute o f pos')) pos.line X.env=pure false):PS X (.Assign [.Attribute o f pos'] value pos) (sFld X.K ta tv f):=by intro pins s σ H D I h;refine plainObj_wpAny_Assign_Attribute (thn (hv pins s σ H _ I h) λu s1 ⟨y,H1,I1,ry,q⟩=>thn (ha pins s1 σ H1 _ I1 q) λov s2 hq=>?_) hs;obtain ⟨x,H2,I2,rx,a,C,dx,fs,ex,ea,c,n,l,q2⟩:=hq;subst ex;obtain rfl:ov=Value.ref a:=rx;exact aq I2 ea c n l ry λs3 I3=>⟨σ,_,I3,q2⟩
end
section
variable {X:Cx}{σ:St}{H:Hp}{c:Value}{b:Bool}
inductive TyOf (K:zj) (H:Hp):V->Value->Prop where
 | non:TyOf K H .non (.type "NoneType")
 | bl (x:Bool):TyOf K H (.bl x) (.type "bool")
 | int (i:Int):TyOf K H (.int i) (.type "int")
 | str (x:Str):TyOf K H (.str x) (.type "str")
 | flt (x:UInt64):TyOf K H (.flt x) (.type "float")
 | lst {a:Addr} {xs:List V} (e:H a=some (.lst xs)):TyOf K H (.ref a) (.type "list")
 | frz {a:Addr} {o:Obj} {xs:List V} (e:H a=some (.frz o (.lst xs))):TyOf K H (.ref a) (.type "list")
 | tup {a:Addr} {xs:List V} (e:H a=some (.tup xs)):TyOf K H (.ref a) (.type "tuple")
 | dK {a:Addr} {kvs:List (Key × V)} (e:H a=some (.dK kvs)):TyOf K H (.ref a) (.type "dict")
 | dT {a:Addr} {kvs:List (List Key × V)} (e:H a=some (.dT kvs)):TyOf K H (.ref a) (.type "dict")
 | ins {a C dx:Addr} {fs:List (Str × V)} (e:H a=some (.ins C dx fs)) (cl:Cls K C) (ha:PySem.W.findIn K (.ref C) "__class__"=some (some (.builtin "object.__class__")))
     (hn:PySem.W.specialIn K (.builtin "object.__class__") "__get__"=some (some (.builtin "getset_descriptor.__get__"))) (htk:PySem.W.takesIn K (.builtin "object.__class__")=some true)
     (hm:PySem.W.mroIn K C (.type "object")=some true):TyOf K H (.ref a) (.ref C)
theorem ao {x:V}{t:Value}(I:Inv X pins σ H s)(rx:RelV x u)(ty:TyOf X.K H x t)(e:PySem.W.kitOne X.K t c=some b)(h:∀ tk,Q (.bool b) { s with toks:=tk }) :
   wpAny (model X.prog X.w) A (call (.builtin "isinstance") [u,c]) Q E s:=by
 cases ty with
 | non=>cases (show u=Value.none from rx);exact wk PySem.W.kitx_none I.kIn True.intro e (λz=>nomatch z) h
 | bl y=>cases (show u=Value.bool y from rx);exact wk PySem.W.kitx_bool I.kIn True.intro e (λz=>nomatch z) h
 | int i=>obtain ⟨t,q⟩:=(show ∃ t,u=Value.int i t from rx);cases q;exact wk PySem.W.kitx_int I.kIn True.intro e (λz=>nomatch z) h
 | str y=>obtain ⟨t,q⟩:=(show ∃ t,u=Value.str y t from rx);cases q;exact wk PySem.W.kitx_str I.kIn True.intro e (λz=>nomatch z) h
 | flt y=>obtain ⟨t,q⟩:=(show ∃ t,u=Value.float y t from rx);cases q;exact wk PySem.W.kitx_float I.kIn True.intro e (λz=>nomatch z) h
 | @lst a xs ea =>
   cases (show u=Value.ref a from rx);obtain ⟨_,_,n,_,h1⟩:=(show ObjOk X.prog X.w H s.heap a (.lst xs) from I.hok a _ ea)
   exact wk PySem.W.kitx_list I.kIn ⟨_,h1,rfl⟩ e (λz=>nomatch z) h
 | @frz a ob xs ea =>
   cases (show u=Value.ref a from rx);obtain ⟨_,_,_,n,_,h1⟩:=(show ObjOk X.prog X.w H s.heap a (.frz ob (.lst xs)) from I.hok a _ ea)
   exact wk PySem.W.kitx_list I.kIn ⟨_,h1,rfl⟩ e (λz=>nomatch z) h
 | @tup a xs ea =>
   cases (show u=Value.ref a from rx);obtain ⟨_,_,_,p⟩:=(show ObjOk X.prog X.w H s.heap a (.tup xs) from I.hok a _ ea)
   obtain ⟨o,h1,h2,_⟩:=p;exact wk PySem.W.kitx_tuple I.kIn ⟨o,h1,h2⟩ e (λz=>nomatch z) h
 | @dK a kvs ea =>
   cases (show u=Value.ref a from rx);obtain ⟨_,_,vs,_,p⟩:=(show ObjOk X.prog X.w H s.heap a (.dK kvs) from I.hok a _ ea)
   obtain ⟨o,es,ep,h1,h2,_⟩:=p;exact wk PySem.W.kitx_dict I.kIn ⟨o,h1,h2.1⟩ e (λz=>nomatch z) h
 | @dT a kvs ea =>
   cases (show u=Value.ref a from rx);obtain ⟨_,_,xs,_,o,es,ep,h1,h2,_⟩:=(show ObjOk X.prog X.w H s.heap a (.dT kvs) from I.hok a _ ea)
   exact wk PySem.W.kitx_dict I.kIn ⟨o,h1,h2.1⟩ e (λz=>nomatch z) h
 | @ins a C dx fs ea cl ha hn htk hm =>
   cases (show u=Value.ref a from rx);obtain ⟨mA,O,_⟩:=ins_get I.hok ea;obtain ⟨od,J,_⟩:=O.look;exact wk (PySem.W.kitx_own (cl.get _) cl.hd ha hn htk hm) I.kIn J e (λz=>nomatch z) h
end
structure Room (k:Nat)(A:Around):Prop where
 hd:A.handled=none
 dp:A.depth+3*k+5<recursionLimit
 un:A.units+16*k+200<cLine
theorem Room.mono {j k:Nat}(r:Room k A)(h:j<=k):Room j A:=⟨r.hd,by have:=r.dp;lia,by have:=r.un;lia⟩
theorem Room.deeper {k:Nat}(r:Room (k+1) A)(env:Env):Room k (A.deeper env) :=
 ⟨r.hd,by have:=r.dp;show A.depth+1+3*k+5<_;lia,by have:=r.un;show A.units+3+16*k+200<_;lia⟩
theorem ak {kw:List (Str × Value)}:(A.under (.builtin "type.__call__" ⟨.ref C::us,kw⟩)).depth=A.depth+1:=by
 first | rfl | simp [Around.under,Code.weight,Code.isCreation,Code.isGuard,Code.isCaller,Code.frames,Code.isFrame,guardIds]
theorem aj {kw:List (Str × Value)}:(A.under (.builtin "type.__call__" ⟨.ref C::us,kw⟩)).units=A.units+1:=by
 first | rfl | simp [Around.under,Code.cUnits,Code.frames,Code.isFrame]
theorem Room.make {k:Nat}(r:Room (k+1) A)(C:Addr)(us:List Value)(kw:List (Str × Value)):Room k (A.under (.builtin "type.__call__" ⟨.ref C::us,kw⟩)) :=
 ⟨r.hd,by have:=r.dp;rw [ak];lia,by have:=r.un;rw [aj];lia⟩
theorem Room.depth {k:Nat}(r:Room k A):A.depth<recursionLimit:=by have:=r.dp;lia
def tNil:TA:=λ_ H Q=>Q [] H
def tCons (ta:TE)(tr:TA):TA:=λσ H Q=>ta σ H λx H1=>tr σ H1 λxs H2=>Q (x::xs) H2
section
variable {X:Cx}{e:Expr}{es:List Expr}{te:TE}{t:TA}{pos:Pos}
theorem zx:PA X [] tNil:=λ_ _ _ _ H Q I h=>uJ ⟨[],H,I,.nil,h⟩
theorem zy (ha:PE X e te)(hr:PA X es t)(hs:starEach (e::es) X.env=(false,eval e X.env)::starEach es X.env:=by rfl):PA X (e::es) (tCons te t):=by intro pos pins s σ H Q I h;rw [hs];show wpAny _ _ (spliced ((false,eval e X.env)::backTo pos (starEach es X.env))) _ _ s;refine vp (thn (ha pins s σ H _ I h) λu s1 ⟨x,H1,I1,r1,q1⟩=>?_);exact thn (hr pos pins s1 σ H1 _ I1 q1) λus s2 ⟨xs,H2,I2,r2,q2⟩=>⟨x::xs,H2,I2,.cons r1 r2,q2⟩
def tTup (t:TA):TE:=λσ H Q=>t σ H λxs H1=>xs.length<=sizeLine/\∀ p,H1 p=none->Q (.ref p) (upd H1 p (.tup xs))
def tLst (t:TA):TE:=λσ H Q=>t σ H λxs H1=>xs.length<=sizeLine/\∀ p,H1 p=none->Q (.ref p) (upd H1 p (.lst xs))
theorem va {x1}(h:PA X es t):PE X (.Tuple es x1 pos) (tTup t):=by intro pins s σ H Q I hq;refine wpAny_Tuple_spliced (thn (h pos pins s σ H _ I hq) λus s1 ⟨xs,H1,I1,r,z,q⟩=>⟨by rw [<- r.length];exact z,?_⟩);have hf:H1 s1.heap.objs.size=none:=I1.hok.fresh (zk _);refine ⟨.ref s1.heap.objs.size,upd H1 s1.heap.objs.size (.tup xs),I1.laid (t':=s1.toks) (λb u e=>zU _ e) (zk _) ?_,rfl,q _ hf⟩;exact ⟨z,us,r,⟨_,yi _ rfl,rfl,_,rfl⟩⟩
theorem yg (h:PA X es t):PE X (.List es pos) (tLst t):=by intro pins s σ H Q I hq;refine wpAny_List_spliced (thn (h pos pins s σ H _ I hq) λus s1 ⟨xs,H1,I1,r,z,q⟩=>⟨by rw [<- r.length];exact z,?_⟩);have hf:H1 s1.heap.objs.size=none:=I1.hok.fresh (zk _);refine ⟨.ref s1.heap.objs.size,upd H1 s1.heap.objs.size (.lst xs),I1.laid (t':=s1.toks) (λb u e=>zU _ e) (zk _) ?_,rfl,q _ hf⟩;exact ⟨z,us,0,r,yi _ rfl⟩
end
abbrev Sp:=List V->Hp->VK->XK->Prop
abbrev CXT:=List Env->Hp->Shared->XK->Value->Shared->Prop
structure Env0 (P:Program)(w:World)(K:zj)(mg:Str->Option Value)(base:Heap)(A:Around)(outer:List Env)(s:Shared)(H:Hp):Prop where
 frames:A.frames=some outer
 mod:Mod K mg base
 bs:∀ b o,base.get? b=some o->s.heap.get? b=some o/\H b=none
 bsz:base.objs.size<=s.heap.objs.size
 funs:s.heap.FunFrames base outer
 frf:∀ b∈frs outer,H b=none
 hok:HOk P w H s.heap
 bare:AllBare s.gens
def CE (outer:List Env)(P:Program)(w:World)(H:Hp)(s:Shared)(Q:VK)(u:Value)(s':Shared):Prop :=
 ∃ v H',s'.os=s.os/\AllBare s'.gens/\Un (frs outer) [] H H' s.heap s'.heap/\HOk P w H' s'.heap/\RelV v u/\Q v H'
def CR (CX:CXT)(outer:List Env)(P:Program)(w:World)(H:Hp)(s:Shared)(Q:VK)(E:XK)(r:Result)(s':Shared):Prop :=
 match r with
 | .ok (.ret u)=>CE outer P w H s Q u s'
 | .ok _=>False
 | .error e=>CX outer H s E e s'
structure FnOk (P:Program)(w:World)(K:zj)(mg:Str->Option Value)(base:Heap)(CX:CXT)(k:Nat)(f:Addr)(fd:FuncData)(ps:List Str)(sp:Sp):Prop where
 len:∀ vs H Q E,sp vs H Q E->vs.length=ps.length
 run:∀ (A:Around) (outer:List Env) (s:Shared) (H:Hp) (args:Args) (us:List Value) (vs:List V) (Q:VK) (E:XK),Room k A->Env0 P w K mg base A outer s H->BindsTo s fd args (ps.zip us)->Vals vs us->sp vs H Q E ->
   codeAny (model P w) A (.call (.ref f) args) (CR CX outer P w H s Q E) s
theorem FnOk.mono {CX:CXT}{j k:Nat}{f:Addr}{ps:List Str}{sp:Sp}(F:FnOk P w K mg base CX j f fd ps sp)(h:j<=k) :
   FnOk P w K mg base CX k f fd ps sp:=⟨F.len,λA outer s H args us vs Q E hr=>F.run A outer s H args us vs Q E (hr.mono h)⟩
theorem FnOk.imp {CX:CXT}{k:Nat}{f:Addr}{ps:List Str}{sp sp':Sp}(F:FnOk P w K mg base CX k f fd ps sp)
   (h:∀ vs H Q E,sp' vs H Q E->sp vs H Q E):FnOk P w K mg base CX k f fd ps sp' :=
 ⟨λvs H Q E q=>F.len vs H Q E (h _ _ _ _ q),λA outer s H args us vs Q E hr he hb hv hs=>F.run A outer s H args us vs Q E hr he hb hv (h _ _ _ _ hs)⟩
theorem Env0.make {H:Hp}(e:Env0 P w K mg base A outer s H)(C:Addr)(us:List Value)(kw:List (Str × Value)) :
   Env0 P w K mg base (A.under (.builtin "type.__call__" ⟨.ref C::us,kw⟩)) outer s H:=⟨by first | exact e.frames | (simpa [Around.under,Code.envs,Code.isFrame,pushEnvs] using e.frames),e.mod,e.bs,e.bsz,e.funs,e.frf,e.hok,e.bare⟩
section
variable {X:Cx}{σ:St}{H:Hp}{s':Shared}
theorem Inv.env0 (I:Inv X pins σ H s):Env0 X.prog X.w X.K X.mg X.base X.A X.stack s H :=
 ⟨I.ok.frames,I.ok.mod,I.bs,yl I.ok.bsz I.sz,I.stack,I.stkFree,I.hok,I.bare⟩
theorem Inv.after {Q:VK}(I:Inv X pins σ H s)(h:CE X.stack X.prog X.w H s Q u s'):EP X pins σ Q u s':=by obtain ⟨v,H',os,bare,un,hok,r,q⟩:=h;obtain ⟨hh,g,d,t,os'⟩:=s';obtain rfl:os'=s.os:=os;exact ⟨v,H',I.call (h':=hh) (g':=g) (d':=d) (t':=t) (ch:=[]) un hok bare (λb z=>absurd z (by simp)),r,q⟩
end
def tCall (sp:Sp)(dvs:List V)(E:XK)(t:TA):TE:=λσ H Q=>t σ H λvs H1=>sp (vs++dvs) H1 Q E
def tMake (C:Addr)(sp:Sp)(dvs:List V)(E:XK)(t:TA):TE:=λσ H Q=>t σ H λvs H1=>∀ x dx,H1 x=none->H1 dx=none->dx≠x ->
 sp (.ref x::(vs++dvs)) (upd (upd H1 dx (.own x)) x (.ins C dx [])) (λv H2=>v=.non/\Q (.ref x) H2) E
def Binds (K:zj)(fd:FuncData)(ps:List Str)(ds:List Value):Prop :=
 ∀ (s:Shared) (us:List Value),K.In s.heap->(us++ds).length=ps.length->BindsTo s fd ⟨us,[]⟩ (ps.zip (us++ds))
theorem Binds.all {ps:List Str}(h:∀ us:List Value,us.length=ps.length->bindArgs fd ⟨us,[]⟩=pure (ps.zip us)):Binds K fd ps []:=λs us _ hl=>by
 rw [yx] at hl ⊢;exact .of_eq (h us hl)
def Passes (CX:CXT)(X:Cx)(E:XK):Prop:=∀ (pins:List (Addr × Obj)) (σ:St) (H:Hp) (s:Shared) (e:Value) (s':Shared),Inv X pins σ H s->CX X.stack H s E e s'->X.xe e s'
section
variable {X:Cx}{CX:CXT}{k:Nat}{f:Addr}{ps:List Str}{sp:Sp}{dvs:List V}{ds:List Value}{E:XK}{x m:Str}{p pos apos:Pos}{e o:Expr}{es:List Expr}{ta:TE}{t:TA}
theorem qG {σ:St}{H:Hp}{Q:VK}{vs:List V}(F:FnOk X.prog X.w X.K X.mg X.base CX k f fd ps sp)(hr:Room k X.A)(hb:Binds X.K fd ps ds)(hd:Vals dvs ds)(hx:Passes CX X E)
   (I:Inv X pins σ H s) (r:Vals vs us) (h:sp (vs++dvs) H Q E):wpAny (model X.prog X.w) X.A (call (.ref f) us) (EP X pins σ Q) X.xe s:=by
 have r2:Vals (vs++dvs) (us++ds):=r.append hd;have hl:(us++ds).length=ps.length:=by rw [<- r2.length];exact F.len _ _ _ _ h
 refine uG (vo (F.run X.A X.stack s H ⟨us,[]⟩ (us++ds) (vs++dvs) Q E hr I.env0 (hb s us I.kIn hl) r2 h) λr s' hq=>?_);cases r with
 | error e=>exact hx pins σ H s e s' I hq
 | ok fl =>
   cases fl with
   | ret u=>exact I.after hq
   | next=>exact False.elim hq
   | brk=>exact False.elim hq
   | cont=>exact False.elim hq
theorem pe_call (F:FnOk X.prog X.w X.K X.mg X.base CX k f fd ps sp)(hr:Room k X.A)(hg:Gl X x)(hm:X.mg x=some (.ref f))(hk:PySem.W.keepIn X.K (.ref f)=true)(hb:Binds X.K fd ps ds)(hd:Vals dvs ds)(hx:Passes CX X E)
   (ha:PA X (e::es) t) (hdb:(x==("__debug__":Str))=false:=by decide) (he:starEach (e::es) X.env=(false,eval e X.env)::starEach es X.env:=by rfl) (hpl:(backTo pos (starEach es X.env)).any (·.1)=false:=by rfl) :
   PE X (.Call (.Name x p) (e::es) [] pos) (tCall sp dvs E t):=by
 intro pins s σ H Q I h;refine wN (tV I hg hm ?_ hdb);refine uM (h₀:=X.base) I.ok.mod.kin hk (thn (ha pos pins s σ H _ I h) λus s1 ⟨vs,H1,I1,r,q⟩=>⟨I1.kIn,?_⟩) he hpl;exact qG F hr hb hd hx I1 r q
structure Mk (K:zj)(C f:Addr):Prop where
 makes:PySem.W.makesIn K C=true
 init:PySem.W.findIn K (.ref C) "__init__"=some (some (.ref f))
 fn:PySem.W.isFn K (.ref f)=true
 kp:PySem.W.keepIn K (.ref C)=true
theorem gZ {σ:St}{H:Hp}{Q:VK}{vs:List V}(M:Mk X.K C f)(F:FnOk X.prog X.w X.K X.mg X.base CX k f fd ps sp)(hr:Room (k+1) X.A)(hb:Binds X.K fd ps ds)(hd:Vals dvs ds)
   (hx:Passes CX X E) (I:Inv X pins σ H s) (r:Vals vs us)
   (h:∀ x dx,H x=none->H dx=none->dx≠x->sp (.ref x::(vs++dvs)) (upd (upd H dx (.own x)) x (.ins C dx [])) (λv H2=>v=.non/\Q (.ref x) H2) E) :
   wpAny (model X.prog X.w) X.A (call (.ref C) us) (EP X pins σ Q) X.xe s:=by
 have hq:=h (s.heap.objs.size+1) s.heap.objs.size (I.hok.fresh (wa _)) (I.hok.fresh (zk _)) (zC (wb _));have I2:=Inv.made (C:=C) I;have r2:Vals (V.ref (s.heap.objs.size+1)::(vs++dvs)) (Value.ref (s.heap.objs.size+1)::(us++ds)):=.cons rfl (r.append hd);have hl:(Value.ref (s.heap.objs.size+1)::us++ds).length=ps.length:=by have e:=r2.length;rw [F.len _ _ _ _ hq] at e;exact e.symm
 refine uG (make_map (f:=f) I.kIn M.makes M.init (xC.mp M.fn) (vo (F.run _ X.stack _ _ ⟨Value.ref (s.heap.objs.size+1)::us,[]⟩ (Value.ref (s.heap.objs.size+1)::(us++ds)) _ _ E (hr.make C us [])
   (I2.env0.make C us []) (hb _ (Value.ref (s.heap.objs.size+1)::us) I2.kIn hl) r2 hq) λr s' hq'=>?_))
 cases r with
 | error e=>exact hx pins σ _ _ e s' I2 hq'
 | ok fl =>
   cases fl with
   | ret u =>
     obtain ⟨v,H',I3,rv,ev,q3⟩:=I2.after hq';subst ev;exact ⟨rv,⟨V.ref (s.heap.objs.size+1),H',I3,rfl,q3⟩⟩
   | next=>exact False.elim hq'
   | brk=>exact False.elim hq'
   | cont=>exact False.elim hq'
theorem pe_make (M:Mk X.K C f)(F:FnOk X.prog X.w X.K X.mg X.base CX k f fd ps sp)(hr:Room (k+1) X.A)(hg:Gl X x)(hm:X.mg x=some (.ref C))(hb:Binds X.K fd ps ds)(hd:Vals dvs ds)(hx:Passes CX X E)
   (ha:PA X (e::es) t) (hdb:(x==("__debug__":Str))=false:=by decide) (he:starEach (e::es) X.env=(false,eval e X.env)::starEach es X.env:=by rfl) (hpl:(backTo pos (starEach es X.env)).any (·.1)=false:=by rfl) :
   PE X (.Call (.Name x p) (e::es) [] pos) (tMake C sp dvs E t):=by
 intro pins s σ H Q I h;refine wN (tV I hg hm ?_ hdb);refine uM (h₀:=X.base) I.ok.mod.kin M.kp (thn (ha pos pins s σ H _ I h) λus s1 ⟨vs,H1,I1,r,q⟩=>⟨I1.kIn,?_⟩) he hpl;exact gZ M F hr hb hd hx I1 r q
theorem pe_make0 (M:Mk X.K C f)(F:FnOk X.prog X.w X.K X.mg X.base CX k f fd ps sp)(hr:Room (k+1) X.A)(hg:Gl X x)(hm:X.mg x=some (.ref C))(hb:Binds X.K fd ps ds)(hd:Vals dvs ds)(hx:Passes CX X E)
   (hdb:(x==("__debug__":Str))=false:=by decide):PE X (.Call (.Name x p) [] [] pos) (tMake C sp dvs E tNil):=by
 intro pins s σ H Q I h;refine wN (tV I hg hm ?_ hdb);exact PySem.W.callWith_K0 I.kIn M.kp (gZ (us:=[]) M F hr hb hd hx I .nil h)
end
section
variable {X:Cx}{CX:CXT}{k:Nat}{f:Addr}{ps ks:List Str}{sp:Sp}{E:XK}{x m:Str}{p pos apos kpos:Pos}{e o:Expr}{es:List Expr}{kws:List Keyword}{te ta:TE}{t tk:TA}{nm:Option Str}
variable {g:List Value->List Value->List Value}{gV:List V->List V->List V}
end
structure FnScope (N P:List Str)(sc:Scope):Prop where
 kind:sc.kind=.function
 co:sc.isCoroutine=false
 gen:sc.isGenerator=false
 nd:N.Nodup
 pre:N.take P.length=P
 par:∀ x∈P,sc.names.lookup x=some .local\/sc.names.lookup x=some .cell
 nofree:∀ y∈sc.names,y.2≠.free
theorem gY {kindOf:Str->Option NameKind}{x:Str}:∀ {binds:List (Str × Value)} {m:Str->Option Value},(∀ v,(x,v)∉binds)->bindL kindOf binds m x=m x
 | [],_,_=>rfl
 | (n,v)::r,m,h=>by
   unfold bindL;rw [gY λw hw=>h w (xm _ hw)];split
   . have:x≠n:=by rintro rfl;exact h v xu
     simp [this]
   . rfl
theorem gX {kindOf:Str->Option NameKind}{x:Str}:∀ {binds:List (Str × Value)} {m:Str->Option Value},(∀ v,(x,v)∉binds)->bindC kindOf binds m x=m x
 | [],_,_=>rfl
 | (n,v)::r,m,h=>by
   unfold bindC;rw [gX λw hw=>h w (xm _ hw)];split;{rfl}
   . have:x≠n:=by rintro rfl;exact h v xu
     simp [this]
theorem gW {kindOf:Str->Option NameKind}{x:Str}{v:Value}:∀ {P:List Str} {vs:List Value} {i:Nat} {m:Str->Option Value},P.Nodup->P[i]?=some x->vs[i]?=some v->kindOf x=some .local ->
   bindL kindOf (P.zip vs) m x=some v
 | [],_,_,_,_,h,_,_=>by simp at h
 | _::_,[],_,_,_,_,h,_=>by simp at h
 | p::P,w::vs,0,m,nd,h1,h2,hk=>by
   simp at h1 h2;subst h1;subst h2;show bindL kindOf ((p,w)::P.zip vs) m p=_;unfold bindL;rw [gY λv hv=>(vH.mp nd).1 (mJ hv).1,if_pos hk];simp
 | p::P,w::vs,i+1,m,nd,h1,h2,hk=>by
   show bindL kindOf ((p,w)::P.zip vs) m x=_;unfold bindL;exact gW (i:=i) (vH.mp nd).2 (by simpa using h1) (by simpa using h2) hk
theorem gU {kindOf:Str->Option NameKind}{x:Str}{v:Value}:∀ {P:List Str} {vs:List Value} {i:Nat} {m:Str->Option Value},P.Nodup->P[i]?=some x->vs[i]?=some v->kindOf x≠some .local ->
   bindC kindOf (P.zip vs) m x=some v
 | [],_,_,_,_,h,_,_=>by simp at h
 | _::_,[],_,_,_,_,h,_=>by simp at h
 | p::P,w::vs,0,m,nd,h1,h2,hk=>by
   simp at h1 h2;subst h1;subst h2;show bindC kindOf ((p,w)::P.zip vs) m p=_;unfold bindC;rw [gX λv hv=>(vH.mp nd).1 (mJ hv).1,if_neg hk];simp
 | p::P,w::vs,i+1,m,nd,h1,h2,hk=>by
   show bindC kindOf ((p,w)::P.zip vs) m x=_;unfold bindC;exact gU (i:=i) (vH.mp nd).2 (by simpa using h1) (by simpa using h2) hk
def start (N:List Str)(vs:List V):St:=vs.map some++List.replicate (N.length-vs.length) none
def cxOf (CX:CXT)(P:Program)(w:World)(K:zj)(mg:Str->Option Value)(base:Heap)(N:List Str)(qual:Str)(scope:Scope)(f:Addr)(cd:Value)(A:Around)(outer:List Env)(s:Shared)(H:Hp)(E:XK):Cx where
 prog:=P
 w:=w
 K:=K
 mg:=mg
 base:=base
 A:=A.deeper (envOfC qual scope s.heap.objs.size f cd)
 N:=N
 s₀:=s
 H₀:=H
 env:=envOfC qual scope s.heap.objs.size f cd
 outer:=outer
 stack:=envOfC qual scope s.heap.objs.size f cd::outer
 ex:=[]
 calm:=true
 fn:=λ_=>true
 pn:=[]
 xe:=λe s'=>wpAny (model P w) (A.deeper (envOfC qual scope s.heap.objs.size f cd)) (leaving (envOfC qual scope s.heap.objs.size f cd) e) (λ_ s''=>CX outer H s E e s'') (λe' s''=>CX outer H s E e' s'') s'
theorem gT {n:Nat}{x:Str}(h:sc.names.lookup x=some .cell):∃ c,(cellsFrom n sc.names []).lookup x=some c:=by have q:=iS sc.names n [] (.inl h);exact uC.mp q
theorem ai {CX:CXT} {ps:List Str} {f:Addr} {cd:Value} {s1:Shared} {H:Hp} {E:XK} {vs:List V}
   (S:FnScope N ps scope) (hd:A.handled=none) (e0:Env0 P w K mg base A outer s H) (hl:vs.length=ps.length) (r:Vals vs us)
   (x:InCallC s s.heap.objs.size (bindL (envOfC qual scope s.heap.objs.size f cd).kindOf (ps.zip us) λ_=>none) (cellsFrom (s.heap.objs.size+1) scope.names []) (bindC (envOfC qual scope s.heap.objs.size f cd).kindOf (ps.zip us) λ_=>none) s1) :
   Inv (cxOf CX P w K mg base N qual scope f cd A outer s H E) [] (start N vs) H s1:=by
 have hpl:ps.length<=N.length:=by have:=congrArg List.length S.pre;rw [zE] at this;lia
 obtain ⟨h1,tk,rfl,hk⟩:=x.done;have noA:∀ b:Addr,b∉(cxOf CX P w K mg base N qual scope f cd A outer s H E).ex:=λb z=>absurd (show b∈([]:List Addr) from z) (by simp)
 refine ⟨⟨e0.mod,S.kind,rfl,rfl,zk _,λy z c h1 h2=>?_,λy hy=>?_,λy c _ h=>?_,λ_=>hd,Around.frames_deeper e0.frames,.inr ⟨rfl,rfl⟩,λb z=>absurd z (noA b),e0.bs,e0.bsz,λb _ _=>noA b,λb z=>absurd z (noA b),e0.funs,e0.frf⟩,
   rfl,e0.bare,Un.kept hk,⟨_,x.toInCall.ns,λi y v h1 h2 h3=>?_⟩,λy c h=>⟨_,x.cell y c h⟩,e0.hok.fresh (zk _),λy c h=>?_,λp hp=>absurd (show p∈([]:List (Addr × Obj)) from hp) (by simp),e0.hok.kept hk,?_⟩
 . exact name_of_addr x.apart (vS h1) (vS h2)
 . have hy:scope.names.lookup y=some .cell\/scope.names.lookup y=some .free:=hy;rcases hy with hy | hy
   . exact gT hy
   . exact absurd rfl (S.nofree _ (vS hy))
 . exact wD (x.above y c (vS h))
 . have hi:i<vs.length:=by
     unfold start at h2;by_cases hi:i<vs.length;{exact hi};{rw [yq (by simpa using hi)] at h2;rw [hW] at h2;split at h2<;>cases h2}
   have ha:vs[i]?=some v:=by
     unfold start at h2;rw [xA (by simpa using hi),yp] at h2;cases e:vs[i]? with
     | none=>rw [e] at h2;cases h2
     | some a=>rw [e] at h2;cases h2;rfl
   obtain ⟨u,hu,rv⟩:=r.get ha;have hp:ps[i]?=some y:=by rw [<- S.pre,ml (by lia)];exact h1
   have ndP:ps.Nodup:=by rw [<- S.pre];exact S.nd.sublist (xj _ _)
   refine ⟨u,rv,?_⟩;rcases S.par y (yb hp) with k | k
   . exact .inl ⟨k,gW ndP hp hu k⟩
   . obtain ⟨c,e⟩:=gT (n:=s.heap.objs.size+1) k;refine .inr ⟨.inl k,c,e,?_⟩;have q:=x.cell y c e;rw [gU ndP hp hu (by show scope.names.lookup y≠_;rw [k];decide)] at q;exact q
 . exact e0.hok.fresh (wD (x.above y c (vS h)))
 . unfold start;show _=N.length;rw [zh,zg,sV];lia
theorem fn_of {CX:CXT}{k:Nat}{f:Addr}{name:Str}{params:Arguments}{body:List Stmt}{dV kV doc pm cdv ct oc:Value}{an od:Option Addr}{ps:List Str}{sp:Sp}(lk:K.lookup f=some ⟨oc,od,.func (PySem.W.fnOf name qual params body scope dV kV doc pm an cdv ct),osl⟩)(hcd:PySem.W.codeIn K cdv qual=true)(S:FnScope N ps scope)
   (len:∀ vs H Q E,sp vs H Q E->vs.length=ps.length)
   (hbody:∀ (A:Around) (outer:List Env) (s:Shared) (H:Hp) (vs:List V) (Q:VK) (E:XK),Room k (A.deeper (envOfC qual scope s.heap.objs.size f cdv))->sp vs H Q E ->
     ∃ t,PSs (cxOf CX P w K mg base N qual scope f cdv A outer s H E) body t/\t { nx:=λ_ H'=>Q .non H',rt:=Q } (start N vs) H) :
   FnOk P w K mg base CX (k+1) f (PySem.W.fnOf name qual params body scope dV kV doc pm an cdv ct) ps sp:=by
 refine ⟨len,λA outer s H args us vs Q E hr e0 hb r hsp=>?_⟩;have hl:=len _ _ _ _ hsp;have KX:K.In s.heap:=e0.mod.kin.keeps λb o e=>(e0.bs b o e).1
 have lim:s.heap.NoLimit:=e0.mod.nolimit.keeps λb o e=>(e0.bs b o e).1
 have hkind:∀ y∈ps.zip us,scope.names.lookup y.1=some .local\/(scope.names.lookup y.1=some .cell/\((cellsFrom (s.heap.objs.size+1) scope.names []).lookup y.1).isSome=true):=λ⟨n,v⟩ hy=>by
   rcases S.par n (mJ hy).1 with q | q
   . exact .inl q
   . exact .inr ⟨q,iS _ _ _ (.inl q)⟩
 refine codeAny_call_function hr.depth (KX _ _ lk) rfl S.co S.gen rfl (PySem.W.codeRec_of KX hcd) (hb _ _ _ _ ?_);refine wpAny_newFunctionEnv_cells S.kind hkind λenv he s1 x=>?_
 subst he;refine ⟨lim.keeps x.toInCall.keep,codeAny_func ?_⟩;obtain ⟨t,ht,hq⟩:=hbody A outer s H vs Q E (hr.deeper _) hsp;have I:Inv (cxOf CX P w K mg base N qual scope f cdv A outer s H E) [] (start N vs) H s1:=ai S hr.hd e0 hl r x;refine xn (ht [] s1 (start N vs) H _ I hq) (λfl s' hs=>?_) λe s' hs=>hs
 have fin:∀ {σ':St} {H':Hp} {v:V} {u:Value},Inv (cxOf CX P w K mg base N qual scope f cdv A outer s H E) [] σ' H' s'->RelV v u->Q v H'->CE outer P w H s Q u s' :=
   λ{σ' H' v u} J rv q=>⟨v,H',J.os,J.bare,J.base,J.hok,rv,q⟩
 cases fl with
 | ret u =>
   obtain ⟨v,σ',H',J,rv,q⟩:=hs;exact fin J rv q
 | next =>
   obtain ⟨σ',H',J,q⟩:=hs;exact fin (v:=V.non) (u:=Value.none) J rfl q
 | brk =>
   obtain ⟨_,_,_,q⟩:=hs;exact False.elim q
 | cont =>
   obtain ⟨_,_,_,q⟩:=hs;exact False.elim q
end L2
variable {vs xs ys:List L2.V}{t:L2.TA}{X:L2.Cx}{te:L2.TE}{σ:L2.St}{H H1 H':L2.Hp}{sp:L2.Sp}{kvs:List (L2.Key × L2.V)}{tt:L2.TT}{D:L2.Ends}
namespace L2
open PySem PySem.Spec PyProof.Rows
section
variable {x:Str}{p pos:Pos}{e:Expr}{es:List Expr}{id T:String}{r:List V->Hp->VK->Prop}
def tCB (r:List V->Hp->VK->Prop)(t:TA):TE:=λσ H Q=>t σ H λvs H1=>r vs H1 Q
theorem yk (hc:CallR X (.builtin id) r)(hg:Gl X x)(hm:X.mg x=none)(hv:bootBuiltins x=some (.builtin id))(ha:PA X (e::es) t)(hn:x≠"__name__":=by decide)(hdb:(x==("__debug__":Str))=false:=by decide)
   (he:starEach (e::es) X.env=(false,eval e X.env)::starEach es X.env:=by rfl) (hpl:(backTo pos (starEach es X.env)).any (·.1)=false:=by rfl):PE X (.Call (.Name x p) (e::es) [] pos) (tCB r t):=by
 intro pins s σ H Q I h;refine wN (vE I hg hm hv ?_ hn hdb);exact ie (thn (ha pos pins s σ H _ I h) λus s1 ⟨vs,H1,I1,r1,q1⟩=>hc pins s1 σ H1 vs us Q I1 r1 q1) he hpl
theorem wY (hc:CallR X (.type T) r)(hg:Gl X x)(hm:X.mg x=none)(hv:bootBuiltins x=some (.type T))(ha:PA X (e::es) t)(hn:x≠"__name__":=by decide)(hdb:(x==("__debug__":Str))=false:=by decide)
   (he:starEach (e::es) X.env=(false,eval e X.env)::starEach es X.env:=by rfl) (hpl:(backTo pos (starEach es X.env)).any (·.1)=false:=by rfl):PE X (.Call (.Name x p) (e::es) [] pos) (tCB r t):=by
 intro pins s σ H Q I h;refine wN (vE I hg hm hv ?_ hn hdb);exact tF (thn (ha pos pins s σ H _ I h) λus s1 ⟨vs,H1,I1,r1,q1⟩=>hc pins s1 σ H1 vs us Q I1 r1 q1) he hpl
end
end L2
namespace HT
open PySem PyProof.Rows
section
open PySem.SeqAt
open PySem.AutoSeq1 (wpAny_loadPart')
open PySem.MeetsSeq PySem.MeetsSeq2 PySem.MeetsSeq3
end
def sIx (n d:Nat):Option Int->Nat
 | none=>d
 | some v=>if v<0 then (v+(n:Int)).toNat else min v.toNat n
theorem sIx_none (n d:Nat):sIx n d none=d:=rfl
theorem sIx_nat (n d k:Nat):sIx n d (some (k:Int))=min k n:=by show (if (k:Int)<0 then ((k:Int)+(n:Int)).toNat else min (k:Int).toNat n)=min k n;rw [if_neg (by lia),yo]
end HT
namespace L2
open PySem PySem.Spec PyProof.Rows
abbrev TO:=St->Hp->(Option Int->Hp->Prop)->Prop
def PO (X:Cx) (e:Option Expr) (t:TO):Prop :=
 ∀ (pins:List (Addr × Obj)) (s:Shared) (σ:St) (H:Hp) (Q:Option Int->Hp->Prop),Inv X pins σ H s->t σ H Q ->
   wpAny (model X.prog X.w) X.A (evalPart e X.env) (λu s'=>∃ o H',Inv X pins σ H' s'/\IsPart u o/\Q o H') X.xe s
def tNoPart:TO:=λ_ H Q=>Q none H
def tPart (t:TE):TO:=λσ H Q=>t σ H λx H1=>onI x λi=>Q (some i) H1
theorem ag {ns:List Int}:∀ {us:List Value},Vals (ns.map V.int) us->IntsAre us ns:=by
 induction ns with
 | nil=>intro us r;rw [sJ] at r;cases r;exact .nil
 | cons n ns ih =>
   intro us r;rw [zL] at r;cases r with
   | cons r1 r2 =>
     obtain ⟨t,e⟩:=r1;subst e;exact .cons n t (ih r2)
section
variable {e:Expr}{lo hi:Option Expr}{tl th:TO}{pos p2:Pos}
theorem vZ:PO X none tNoPart:=by intro pins s σ H Q I h;rw [evalPart_none];exact zi ⟨none,H,I,.none,h⟩
theorem vY (h:PE X e te):PO X (some e) (tPart te):=by
 intro pins s σ H Q I hw;rw [evalPart_some];refine thn (h pins s σ H _ I hw) λu s1 ⟨x,H1,I1,r1,q1⟩=>?_
 obtain ⟨i,rfl,q⟩:=ud q1;obtain ⟨t,rfl⟩:=r1;exact ⟨some i,H1,I1,.int i t,q⟩
def SlR (X:Cx) (r:V->Option Int->Option Int->Hp->VK->Prop):Prop :=
 ∀ (pins:List (Addr × Obj)) (s:Shared) (σ:St) (H:Hp) (x:V) (v vl vu:Value) (lo hi:Option Int) (sl:Addr) (Q:VK),Inv X pins σ H s->RelV x v->s.heap.IsSliceOf sl vl vu .none->IsPart vl lo->IsPart vu hi->r x lo hi H Q ->
   ∃ T id,typeLookup (.type T) "__getitem__"=pure (some (.builtin id))/\s.TypeIs v T/\wpAny (model X.prog X.w) X.A (getItem v (.ref sl)) (EP X pins σ Q) X.xe s
def tSl (r:V->Option Int->Option Int->Hp->VK->Prop)(te:TE)(tl th:TO):TE:=λσ H Q=>te σ H λx H1=>tl σ H1 λl H2=>th σ H2 λu H3=>r x l u H3 Q
theorem vX {r:V->Option Int->Option Int->Hp->VK->Prop}(hr:SlR X r)(he:PE X e te)(hl:PO X lo tl)(hu:PO X hi th):PE X (.Subscript e (.Slice lo hi none p2) pos) (tSl r te tl th):=by
 intro pins s σ H Q I h;refine Subscript_ (thn (he pins s σ H _ I h) λv s1 ⟨x,H1,I1,r1,q1⟩=>?_);refine wpAny_Slice (thn (hl pins s1 σ H1 _ I1 q1) λvl s2 ⟨l,H2,I2,pl,q2⟩=>thn (hu pins s2 σ H2 _ I2 q2) λvu s3 ⟨u,H3,I3,pu,q3⟩=>?_);rw [evalPart_none];refine zi ?_;have I4:Inv X pins σ H3 { s3 with heap:=s3.heap.push { cls:=.type "slice",data:=.fields #[vl,vu,.none] } }:=I3.kept (t':=s3.toks) λb ob q=>zU _ q
 obtain ⟨T,id,hT,ht,hg⟩:=hr pins { s3 with heap:=s3.heap.push { cls:=.type "slice",data:=.fields #[vl,vu,.none] } } σ H3 x v vl vu l u s3.heap.objs.size Q I4 r1 (Heap.IsSliceOf.new ..) pl pu q3;show wpAny (model X.prog X.w) X.A (subscriptTail e (.Slice lo hi none p2) v (.ref s3.heap.objs.size)) (EP X pins σ Q) X.xe { s3 with heap:=s3.heap.push { cls:=.type "slice",data:=.fields #[vl,vu,.none] } };exact tail_any (ops:=[.ref s3.heap.objs.size,v]) ht hT hg (by with_unfolding_all rfl)
def cutV (xs:List V)(lo hi:Option Int):List V:=(xs.drop (HT.sIx xs.length 0 lo)).take (HT.sIx xs.length xs.length hi-HT.sIx xs.length 0 lo)
theorem af (xs:List V)(lo hi:Option Int):(cutV xs lo hi).length<=xs.length:=by unfold cutV;rw [zE,yH];lia
def rSlT (K:zj):V->Option Int->Option Int->Hp->VK->Prop:=λx lo hi H Q=>∃ a xs,x=.ref a/\SqT K H a xs /\
 ¬ (HT.sIx xs.length 0 lo=0/\HT.sIx xs.length xs.length hi=xs.length)/\∀ p,H p=none->Q (.ref p) (upd H p (.tup (cutV xs lo hi)))
def rCatT (K:zj):R2:=λx y H Q=>∃ a b xs ys,x=.ref a/\y=.ref b/\SqT K H a xs/\SqT K H b ys/\xs≠[]/\xs.length+ys.length<=sizeLine /\
 (ys=[]->Q (.ref a) H)/\(ys≠[]->∀ p,H p=none->Q (.ref p) (upd H p (.tup (xs++ys))))
end
def ixN (n:Nat)(i:Int):Option Nat:=if 0<=i then (if i<n then some i.toNat else none) else if -(n:Int)<=i then some (i+n).toNat else none
def atI {α:Type}(xs:List α)(i:Int):Option α:=(ixN xs.length i).bind λj=>xs[j]?
theorem gS {n:Nat}{i:Int}{j:Nat}(h:ixN n i=some j):seqIndex? i n=some j/\j<n/\-(n:Int)<=i/\i<n:=by
 unfold ixN at h;by_cases h0:0<=i
 . rw [if_pos h0] at h;by_cases h1:i<n
   . rw [if_pos h1] at h;have e:i.toNat=j:=Option.some.inj h;exact ⟨by rw [seqIndex_of h0 h1,e],by lia,by lia,h1⟩
   . rw [if_neg h1] at h;cases h
 . rw [if_neg h0] at h;by_cases h1:-(n:Int)<=i
   . rw [if_pos h1] at h;have e:(i+n).toNat=j:=Option.some.inj h;exact ⟨by rw [seqIndex_neg (by lia) h1,e],by lia,h1,by lia⟩
   . rw [if_neg h1] at h;cases h
theorem gR {α:Type}{xs:List α}{i:Int}{v:α}(h:atI xs i=some v):∃ j,seqIndex? i xs.length=some j/\xs[j]?=some v/\j<xs.length/\-(xs.length:Int)<=i/\i<xs.length:=by
 unfold atI at h;cases e:ixN xs.length i with
 | none=>rw [e] at h;cases h
 | some j =>
   rw [e] at h;obtain ⟨h1,h2,h3,h4⟩:=gS e;exact ⟨j,h1,h,h2,h3,h4⟩
theorem qF {α:Type}{xs:List α}{j:Nat}{v:α}(h:xs[j]?=some v):atI xs (j:Int)=some v:=by
 have hj:j<xs.length:=(xT.mp h).1;have e:ixN xs.length (j:Int)=some j:=by unfold ixN;rw [if_pos (by lia),if_pos (by lia)];simp
 unfold atI;rw [e];exact h
theorem gQ {α:Type}(xs:List α)(v:α):atI (xs++[v]) (-1)=some v:=by
 have hl:(xs++[v]).length=xs.length+1:=by simp
 have e:ixN (xs++[v]).length (-1)=some xs.length:=by
   unfold ixN;rw [hl,if_neg (by decide),if_pos (by lia)];congr 1
   lia
 unfold atI;rw [e];show (xs++[v])[xs.length]?=some v;simp
def PlainIx (b:Expr):Prop:=∀ o i,subscripted b false o i=operate [o,i] (getItem o i)
def IxR (X:Cx) (r:R2):Prop :=
 ∀ (value slice:Expr) (pins:List (Addr × Obj)) (s:Shared) (σ:St) (H:Hp) (x y:V) (v u:Value) (Q:VK),Inv X pins σ H s->RelV x v->RelV y u->r x y H Q ->
   subscripted slice false v u=operate [v,u] (getItem v u)->wpAny (model X.prog X.w) X.A (subscriptTail value slice v u) (EP X pins σ Q) X.xe s
def MtR (X:Cx) (id:String) (r:V->List V->Hp->VK->Prop):Prop :=
 ∀ (pins:List (Addr × Obj)) (s:Shared) (σ:St) (H:Hp) (x:V) (xs:List V) (v:Value) (us:List Value) (Q:VK),Inv X pins σ H s->RelV x v->Vals xs us->r x xs H Q ->
   wpAny (model X.prog X.w) X.A (call (.builtin id) (v::us)) (EP X pins σ Q) X.xe s
section
variable {a b:Expr}{ta tb:TE}{pos:Pos}
theorem pe_ix {r:R2}(hr:IxR X r)(ha:PE X a ta)(hb:PE X b tb)(hs:PlainIx b):PE X (.Subscript a b pos) (tOp r ta tb):=by intro pins s σ H Q I h;exact Subscript_ (binT ha hb I h λv u s2 x y H2 I2 rx ry q=>hr a b pins s2 σ H2 x y v u Q I2 rx ry q (hs _ _))
def rIxL (K:zj):R2:=λx y H Q=>onR x λp=>onI y λi=>∃ xs,SqL K H p xs/\∃ v,atI xs i=some v/\Q v H
def rIxT (K:zj):R2:=λx y H Q=>onR x λp=>onI y λi=>∃ xs,SqT K H p xs/\∃ v,atI xs i=some v/\Q v H
theorem ix_list:IxR X (rIxL X.K):=by
 intro value slice pins s σ H x y v u Q I rx ry h hs;obtain ⟨p,rfl,h⟩:=onR_x h;obtain ⟨i,rfl,xs,hq,z,he,q⟩:=ud h;cases rx;obtain ⟨t,rfl⟩:=ry;obtain ⟨its,r,pl,hz⟩:=I.list hq;obtain ⟨j,h1,h2,h3,h4,h5⟩:=gR he;obtain ⟨w,ew,rw'⟩:=r.get h2;have hl:=r.length;have hn:=line63;have fin:EP X pins σ Q w s:=⟨z,H,I,rw',q⟩
 by_cases h0:0<=i
 . have hj:i.toNat=j:=by
     rw [seqIndex_of h0 h5] at h1;exact Option.some.inj h1
   exact item_listR pl.isList h0 (by lia) (by rw [hj];simpa using ew) fin hs
 . have hj:(i+(its.toArray.size:Int)).toNat=j:=by
     rw [seqIndex_neg (by lia) h4] at h1;rw [yn,<- hl];exact Option.some.inj h1
   exact subscriptTail_builtinR (x:=w) pl.isList.typeIs slot_list_getitem.lookup
     (wpAny_getItem_list_neg (Q:=λr s'=>r=w/\EP X pins σ Q r s') pl.isList (by lia) (by rw [yn]<;>lia) (by lia) (by rw [hj];simpa using ew) ⟨rfl,fin⟩) hs
theorem ix_tup:IxR X (rIxT X.K):=by
 intro value slice pins s σ H x y v u Q I rx ry h hs;obtain ⟨p,rfl,h⟩:=onR_x h;obtain ⟨i,rfl,xs,hq,z,he,q⟩:=ud h;cases rx;obtain ⟨t,rfl⟩:=ry;obtain ⟨its,r,pl,hz⟩:=I.tuple hq;obtain ⟨j,h1,h2,h3,h4,h5⟩:=gR he;obtain ⟨w,ew,rw'⟩:=r.get h2;have hl:=r.length;have hn:=line63;have fin:EP X pins σ Q w s:=⟨z,H,I,rw',q⟩
 exact subscriptTail_builtinR (x:=w) pl.typeIs slot_tuple_getitem.lookup
   (getItem_tuple (j:=j) (Q:=λr s'=>r=w/\EP X pins σ Q r s') pl (by lia) (by lia) (by rw [yn,<- hl];exact h1) (by simpa using ew) ⟨rfl,fin⟩) hs
theorem ae (its:List Value)(n j:Nat)(u:Value):Obj.mapSeq (·.setIfInBounds j u) { cls:=.type "list",data:=.seq its.toArray n }={ cls:=.type "list",data:=.seq (its.set j u).toArray n }:=by simp [Obj.mapSeq]
theorem Inv.lst {p:Addr}(I:Inv X pins σ H s)(h:H p=some (.lst xs)) :
   ∃ (its:List Value) (n:Nat),Vals xs its/\s.heap.get? p=some { cls:=.type "list",data:=.seq its.toArray n }/\xs.length<=sizeLine:=by
 obtain ⟨z,its,n,r,e⟩:=I.hok p _ h;exact ⟨its,n,r,e,z⟩
theorem Inv.lstUpd {p:Addr}{its its':List Value}{n n':Nat}{f:Obj->Obj}(I:Inv X pins σ H s)(h:H p=some (.lst xs))
   (ho:s.heap.get? p=some { cls:=.type "list",data:=.seq its.toArray n }) (hf:f { cls:=.type "list",data:=.seq its.toArray n }={ cls:=.type "list",data:=.seq its'.toArray n' }) (r:Vals ys its') (hz:ys.length<=sizeLine) (t:Nat) :
   Inv X pins σ (upd H p (.lst ys)) { s with heap:=s.heap.update p f,toks:=t }:=by
 have e:(s.heap.update p f).get? p=some { cls:=.type "list",data:=.seq its'.toArray n' }:=by rw [qm f ho (by rw [hf]<;>rfl),hf]
 refine I.write (x:=p) (e:=p) (by rw [h];trivial) (.inl rfl) (λb u hb q=>(qo _ _ (Ne.symm hb)).trans q) ⟨_,e⟩ ?_;exact ⟨hz,its',n',r,e⟩
def rSetL:V->V->V->Hp->(Hp->Prop)->Prop:=λo i v H Q=>∃ p xs k j,o=.ref p/\i=.int k/\H p=some (.lst xs)/\ixN xs.length k=some j/\Q (upd H p (.lst (xs.set j v)))
theorem gP:PSet X rSetL:=by
 intro pins s σ H o i v ov iv u Q I ro ri rv h;obtain ⟨p,xs,k,j,rfl,rfl,hp,hj,q⟩:=h;cases ro;obtain ⟨t,rfl⟩:=ri;obtain ⟨its,n,r,ho,hz⟩:=I.lst hp;obtain ⟨h1,h2,h3,h4⟩:=gS hj;have hl:=r.length;have hn:=line63;have I':Inv X pins σ (upd H p (.lst (xs.set j v))) { s with heap:=s.heap.update p (Obj.mapSeq (·.setIfInBounds j u)) } :=
   I.lstUpd hp ho (ae its n j u) (r.set rv j) (by rw [List.length_set];exact hz) s.toks
 by_cases h0:0<=k
 . have hk:k.toNat=j:=by
     rw [seqIndex_of h0 h4] at h1;exact Option.some.inj h1
   exact PySem.W.ki_setAt ho h0 (by lia) (by rw [yn,<- hl];exact h4) (by rw [hk];exact ⟨_,I',q⟩)
 . have hk:(k+(its.toArray.size:Int)).toNat=j:=by
     rw [seqIndex_neg (by lia) h3] at h1;rw [yn,<- hl];exact Option.some.inj h1
   exact PySem.W.ki_setBack ho (by lia) (by rw [yn,<- hl];exact h3) (by lia) (by rw [hk];exact ⟨_,I',q⟩)
theorem aa (lo hi:Option Int)(n:Nat):(sliceBounds lo hi none n).1=((HT.sIx n 0 lo:Nat):Int)/\(sliceBounds lo hi none n).2.1=((HT.sIx n n hi:Nat):Int)/\(sliceBounds lo hi none n).2.2=1:=by
 refine ⟨?_,?_,rfl⟩
 . cases lo with
   | none=>simp [sliceBounds,HT.sIx]
   | some i =>
     simp only [sliceBounds,HT.sIx,mN,show (1:Int) > 0 by decide,xU];by_cases h:i<0;{simp only [h,xU]<;>lia};{simp only [h,yO]<;>lia}
 . cases hi with
   | none=>simp [sliceBounds,HT.sIx]
   | some i =>
     simp only [sliceBounds,HT.sIx,mN,show (1:Int) > 0 by decide,xU];by_cases h:i<0;{simp only [h,xU]<;>lia};{simp only [h,yO]<;>lia}
theorem aZ (its:List Value)(lo hi:Option Int):slicePick its.toArray lo hi none=((its.drop (HT.sIx its.length 0 lo)).take (HT.sIx its.length its.length hi-HT.sIx its.length 0 lo)).toArray:=by obtain ⟨h1,h2,h3⟩:=aa lo hi its.toArray.size;unfold slicePick;rw [h1,h2,h3];simp only [sliceRange_one,pick_run,yn]<;>rfl
def rSlL (K:zj):V->Option Int->Option Int->Hp->VK->Prop:=λx lo hi H Q=>∃ a xs,x=.ref a/\SqL K H a xs/\∀ p,H p=none->Q (.ref p) (upd H p (.lst (cutV xs lo hi)))
theorem sl_list:SlR X (rSlL X.K):=by intro pins s σ H x v vl vu lo hi sl Q I rx hs pl pu h;obtain ⟨a,xs,rfl,hx,q⟩:=h;cases rx;obtain ⟨its,r,ht,hz⟩:=I.list hx;have hlen:=r.length;refine ⟨"list",_,slot_list_getitem.lookup,ht.isList.typeIs,?_⟩;refine wpAny_getItem_list_slice ht.isList hs pl pu .none (by simp) ?_ (by rw [yn]<;>lia);rw [aZ,<- hlen];refine ⟨.ref s.heap.objs.size,_,I.laid (t':=s.toks) (o:=.lst (cutV xs lo hi)) (λb ob q=>zU _ q) (zk _) ?_,rfl,q _ (I.hok.fresh (zk _))⟩;exact ⟨yl (af xs lo hi) hz,_,0,(r.drop (HT.sIx xs.length 0 lo)).take (HT.sIx xs.length xs.length hi-HT.sIx xs.length 0 lo),yi _ rfl⟩
theorem aY:CallR X (.builtin "len") (λxs H Q=>∃ p ys,xs=[.ref p]/\(SqL X.K H p ys\/SqT X.K H p ys)/\Q (.int ys.length) H):=by
 intro pins s σ H xs us Q I r h;obtain ⟨p,ys,rfl,hq,q⟩:=h;obtain ⟨u,rfl,rx⟩:=vals1 r;cases rx;have hn:=line63;rcases hq with hq | hq
 . obtain ⟨its,r',pl,hz⟩:=I.list hq;have hlen:=r'.length;exact Calls.call_len_list pl.isList (by simp only [yn]<;>lia) ⟨.int ys.length,H,I.tok _,⟨s.toks+1,by rw [yn,hlen]⟩,q⟩
 . obtain ⟨its,r',pl,hz⟩:=I.tuple hq;have hlen:=r'.length;exact len_tuple pl (by simp only [yn]<;>lia) ⟨.int ys.length,H,I.tok _,⟨s.toks+1,by rw [yn,hlen]⟩,q⟩
theorem gO:CallR X (.builtin "len") (λxs H Q=>∃ z,xs=[.str z]/\z.length<=sizeLine/\Q (.int z.length) H):=by intro pins s σ H xs us Q I r h;obtain ⟨z,rfl,hz,q⟩:=h;obtain ⟨u,rfl,t,rfl⟩:=vals1 r;have hn:=line63;exact len_str (by lia) ⟨.int z.length,H,I.tok _,⟨_,rfl⟩,q⟩
theorem aX:CallR X (.type "list") (λxs H Q=>∃ p ys,xs=[.ref p]/\(SqL X.K H p ys\/SqT X.K H p ys)/\∀ l,H l=none->Q (.ref l) (upd H l (.lst ys))):=by
 intro pins s σ H xs us Q I r h;obtain ⟨p,ys,rfl,hq,q⟩:=h;obtain ⟨u,rfl,rx⟩:=vals1 r;cases rx;have fin:∀ (its:List Value),Vals ys its->ys.length<=sizeLine->∀ (h':Heap) (c':Nat),(∀ b o',s.heap.get? b=some o'->h'.get? b=some o') ->
     h'.get? s.heap.objs.size=some { cls:=.type "list",dict:=none,data:=.seq its.toArray c',slots:=#[] }->EP X pins σ Q (.ref s.heap.objs.size) { s with heap:=h' }:=λits r' hz h' c' kp e =>
   ⟨.ref s.heap.objs.size,_,I.laid (t':=s.toks) kp (zk _) (show ObjOk X.prog X.w _ h' _ (.lst ys) from ⟨hz,its,c',r',e⟩),rfl,q _ (I.hok.fresh (zk _))⟩
 rcases hq with hq | hq
 . obtain ⟨its,r',pl,hz⟩:=I.list hq;have hlen:=r'.length;obtain ⟨o,ho,hc,n,hd⟩:=pl.isList;exact call_list_seq p (.inl rfl) ho hc hd (λh' c' kp e=>fin its r' hz h' c' kp e) (by simp only [yn]<;>lia)
 . obtain ⟨its,r',pl,hz⟩:=I.tuple hq;have hlen:=r'.length;obtain ⟨o,ho,hc,n,hd⟩:=pl;exact call_list_seq p (.inr rfl) ho hc hd (λh' c' kp e=>fin its r' hz h' c' kp e) (by simp only [yn]<;>lia)
def tyV (K:zj)(T:String)(x:V)(H:Hp):Prop:=match x with
 | .str _=>T="str"
 | .int _=>T="int"
 | .ref p=>(T="list"/\∃ xs,SqL K H p xs)\/(T="tuple"/\∃ o,K.lookup p=some o/\o.cls=.type "tuple"/\o.dict=none) \/
     (T="dict"/\((∃ kvs,H p=some (.dK kvs))\/∃ kvs,H p=some (.dT kvs)))\/(T="set"/\∃ S n,H p=some (.set S n))
 | _=>False
theorem tyV_is {T:String} {x:V} {v:Value} (I:Inv X pins σ H s) (r:RelV x v) (ty:tyV X.K T x H) :
   s.TypeIs v T/\∀ a,v=.ref a->∃ ob,s.heap.get? a=some ob/\ob.dict=none:=by
 cases x with
 | str z =>
   obtain ⟨t,rfl⟩:=r;cases (show T="str" from ty);exact ⟨typeIs_str s z t,λ_ e=>nomatch e⟩
 | int i =>
   obtain ⟨t,rfl⟩:=r;cases (show T="int" from ty);exact ⟨typeIs_int s i t,λ_ e=>nomatch e⟩
 | ref p =>
   cases r;rcases ty with ⟨rfl,xs,hq⟩ | ⟨rfl,o,hk,hc,hd⟩ | ⟨rfl,hk⟩ | ⟨rfl,S,n,hk⟩
   . obtain ⟨its,_,pl,_⟩:=I.list hq;refine ⟨pl.isList.typeIs,λa e=>?_⟩;cases e;obtain ⟨o,n,e,c,hd,_⟩:=pl;exact ⟨o,e,hd⟩
   . refine ⟨⟨o,I.kIn p o hk,hc⟩,λa e=>?_⟩;cases e;exact ⟨o,I.kIn _ o hk,hd⟩
   . have z:∃ o,s.heap.get? p=some o/\o.ExactDict:=by
       rcases hk with ⟨kvs,hk⟩ | ⟨kvs,hk⟩
       . obtain ⟨_,_,_,_,o,_,_,e,ex,_⟩:=I.hok p _ hk;exact ⟨o,e,ex⟩
       . obtain ⟨_,_,_,_,o,_,_,e,ex,_⟩:=I.hok p _ hk;exact ⟨o,e,ex⟩
     obtain ⟨o,e,ex⟩:=z;refine ⟨⟨o,e,ex.1⟩,λa e2=>?_⟩;cases e2;exact ⟨o,e,ex.2.1⟩
   . obtain ⟨o,_,_,_,e,ex,_⟩:=I.hok p _ hk;refine ⟨⟨o,e,ex.1⟩,λa e2=>?_⟩;cases e2;exact ⟨o,e,ex.2.1⟩
 | _=>exact False.elim ty
def tBM0 (K:zj)(T:String)(r:V->List V->Hp->VK->Prop)(to:TE):TE:=λσ H Q=>to σ H λx H1=>tyV K T x H1/\r x [] H1 Q
def tBM (K:zj)(T:String)(r:V->List V->Hp->VK->Prop)(to:TE)(t:TA):TE:=λσ H Q=>to σ H λx H1=>tyV K T x H1/\t σ H1 λxs H2=>r x xs H2 Q
variable {o e:Expr}{es:List Expr}{to:TE}{name:Str}{apos cpos:Pos}{T id:String}{r:V->List V->Hp->VK->Prop}
theorem pe_bm0 (pa:PlainAttrs T)(slot:Slot T name id)(hty:typeOf (.builtin id)=pure (.type "method_descriptor"))(hm:MtR X id r)(ho:PE X o to)
   (hbase:attributeBase o name X.env (eval o X.env)=eval o X.env:=by rfl) (hline:(apos.endLine==cpos.line)=true:=by rfl):PE X (.Call (.Attribute o name apos) [] [] cpos) (tBM0 X.K T r to):=by
 intro pins s σ H Q I h;refine wpAny_Call_method0_late hbase hline (thn (ho pins s σ H _ I h) λv s1 ⟨x,H1,I1,r1,ty,q1⟩=>?_);obtain ⟨h1,h2⟩:=tyV_is I1 r1 ty;exact ⟨T,id,pa,slot,hty,h1,h2,su rfl (PySem.evalArgs_none (hm pins s1 σ H1 x [] v [] Q I1 r1 .nil q1))⟩
theorem pe_bm (pa:PlainAttrs T)(slot:Slot T name id)(hty:typeOf (.builtin id)=pure (.type "method_descriptor"))(hm:MtR X id r)(ho:PE X o to)(ha:PA X (e::es) t)
   (hbase:attributeBase o name X.env (eval o X.env)=eval o X.env:=by rfl)
   (hfew:((backTo cpos (starEach (e::es) X.env)).all (λx=>!x.1)&&(backToKw cpos (keywordEach [] X.env)).all (λx=>x.1.isSome)
     && decide ((e::es).length+([]:List Keyword).length+(if ([]:List Keyword).isEmpty then 0 else 1)<30))=true:=by rfl)
   (hline:(apos.endLine==cpos.line)=true:=by rfl) (hs:starEach (e::es) X.env=(false,eval e X.env)::starEach es X.env:=by rfl) (hplain:(backTo cpos (starEach es X.env)).any (·.1)=false:=by rfl) :
   PE X (.Call (.Attribute o name apos) (e::es) [] cpos) (tBM X.K T r to t):=by
 intro pins s σ H Q I h;refine wpAny_Call_method_late hbase hfew hline rfl (thn (ho pins s σ H _ I h) λv s1 ⟨x,H1,I1,r1,ty,q1⟩=>?_);obtain ⟨h1,h2⟩:=tyV_is I1 r1 ty;refine ⟨T,id,pa,slot,hty,h1,h2,?_⟩;have hA:=ha cpos pins s1 σ H1 _ I1 q1;rw [hs] at hA ⊢;refine su (by show (false||(backTo cpos (starEach es X.env)).any (·.1))=false;rw [hplain]<;>rfl) (nO ?_);exact thn hA λus s2 ⟨vs,H2,I2,r2,q2⟩=>hm pins s2 σ H2 x vs v us Q I2 r1 r2 q2
end
def MtM (X:Cx) (id:String) (r:V->List V->Hp->VK->Prop):Prop :=
 ∀ (pins:List (Addr × Obj)) (s:Shared) (σ:St) (H:Hp) (x:V) (xs:List V) (v:Value) (us:List Value) (Q:VK),Inv X pins σ H s->RelV x v->Vals xs us->r x xs H Q ->
   wpAny (model X.prog X.w) X.A (call (.builtin id) (v::us)) (EP X pins σ Q) X.xe s
theorem Vals.one {x:V}(h:Vals [x] us):∃ u,us=[u]/\RelV x u:=by
 cases h with
 | cons r t =>
   cases t;exact ⟨_,rfl,r⟩
theorem Vals.two {x y:V}(h:Vals [x,y] us):∃ u v,us=[u,v]/\RelV x u/\RelV y v:=by
 cases h with
 | cons r t =>
   obtain ⟨v,rfl,q⟩:=Vals.one t;exact ⟨_,_,rfl,r,q⟩
theorem Vals.zero:∀ {us:List Value},Vals [] us->us=[]
 | _,.nil=>rfl
theorem Vals.reverse (h:Vals xs us):Vals xs.reverse us.reverse:=by
 induction h with
 | nil=>exact .nil
 | cons r t ih=>rw [mQ,mQ];exact Vals.append ih (.cons r .nil)
theorem Vals.rep (h:Vals xs us):∀ k:Nat,Vals (List.replicate k xs).flatten (List.replicate k us).flatten
 | 0=>.nil
 | k+1=>by
   rw [sU,sU,yI,yI];exact Vals.append h (Vals.rep h k)
theorem gN (its:List Value):∀ (k:Nat) (acc:List Value),
   List.foldl (λx1 x2=>x1++x2) acc.toArray (List.replicate k its.toArray)=(acc++(List.replicate k its).flatten).toArray
 | 0,acc=>by simp
 | k + 1,acc=>by
   have e:acc.toArray++its.toArray=(acc++its).toArray:=by simp
   have e2:(acc++its)++(List.replicate k its).flatten=acc++(List.replicate (k+1) its).flatten:=by rw [sU,yI,zX]
   rw [<- e2,<- gN its k (acc++its),<- e,sU,wu]
section
variable {l b:Addr}{zs:List V}
theorem Inv.lset {its its':List Value}{n:Nat}{f:Array Value->Array Value}(I:Inv X pins σ H s)(hH:H l=some (.lst xs))
   (e:s.heap.get? l=some { cls:=.type "list",data:=.seq its.toArray n }) (hf:f its.toArray=its'.toArray) (hv:Vals ys its') (hz:ys.length<=sizeLine) :
   Inv X pins σ (upd H l (.lst ys)) { s with heap:=s.heap.update l (Obj.mapSeq f),toks:=t' }:=by
 have q:=PySem.IsL.update e f;rw [hf] at q;refine I.write (x:=l) (e:=l) (by rw [hH];exact trivial) (.inl rfl) (λb' u hb hu=>(qo s.heap (Obj.mapSeq f) (Ne.symm hb)).trans hu) ⟨_,q⟩ ?_;exact ⟨hz,its',_,hv,q⟩
theorem Inv.lnew {its:List Value}(I:Inv X pins σ H s)(hv:Vals ys its)(hz:ys.length<=sizeLine) :
   Inv X pins σ (upd H s.heap.objs.size (.lst ys)) { s with heap:=s.heap.push { cls:=.type "list",data:=.seq its.toArray },toks:=t' } :=
 I.laid (λ_ _ q=>zU _ q) (zk _) ⟨hz,its,0,hv,yi _ rfl⟩
theorem Inv.fresh (I:Inv X pins σ H s):H s.heap.objs.size=none:=I.hok.fresh (zk _)
theorem Inv.lstM (I:Inv X pins σ H s)(hH:H l=some (.lst xs)):xs.length<=sizeLine/\∃ (its:List Value) (n:Nat),Vals xs its/\xs.length=its.length/\s.heap.get? l=some { cls:=.type "list",data:=.seq its.toArray n }:=by obtain ⟨z,its,n,r,e⟩:=I.hok l _ hH;exact ⟨z,its,n,r,r.length,e⟩
theorem notLongL {n:Nat}(h:n<=sizeLine):Builtin.List.listTooLong n=false:=by unfold Builtin.List.listTooLong;exact yw (by lia)
end
def rAppend:V->List V->Hp->VK->Prop:=λx vs H Q=>∃ l xs y,x=.ref l/\vs=[y]/\H l=some (.lst xs)/\xs.length<sizeLine/\Q .non (upd H l (.lst (xs++[y])))
theorem xb:MtM X "list.append" rAppend:=by intro pins s σ H x vs v us Q I rx rv h;obtain ⟨l,xs,y,rfl,rfl,hH,hz,q⟩:=h;cases rx;obtain ⟨u,rfl,ru⟩:=rv.one;obtain ⟨z,its,n,r,hl,e⟩:=I.lstM hH;refine uF F.slot_list_append ⟨_,e,rfl⟩ F.entry_list_append (F.args_list_append_2 _ _) (PySem.list_append l its.toArray n u (by rw [yn];lia)) ⟨e,?_⟩;refine ⟨.non,_,I.lset (its':=its++[u]) hH e (by simp) (r.append (.cons ru .nil)) ?_,rfl,q⟩;rw [zh,md];lia
def rExtend:V->List V->Hp->VK->Prop:=λx vs H Q=>∃ l b xs zs,x=.ref l/\vs=[.ref b]/\H l=some (.lst xs)/\H b=some (.lst zs)/\xs.length+zs.length<=sizeLine/\Q .non (upd H l (.lst (xs++zs)))
theorem rY:MtM X "list.extend" rExtend:=by
 intro pins s σ H x vs v us Q I rx rv h;obtain ⟨l,b,xs,zs,rfl,rfl,hH,hB,hz,q⟩:=h;cases rx;obtain ⟨u,rfl,ru⟩:=rv.one;cases ru;obtain ⟨z,its,n,r,hl,e⟩:=I.lstM hH;obtain ⟨z2,its2,n2,r2,hl2,e2⟩:=I.lstM hB;have hsz:its.toArray.size+its2.toArray.size<=sizeLine:=by rw [yn,yn];lia
 have hlong:¬ (!its.toArray.isEmpty&&Builtin.List.listTooLong (its.toArray.size+its2.toArray.size))=true:=by rw [notLongL hsz,Bool.and_false];exact yS
 refine uF F.slot_list_extend ⟨_,e,rfl⟩ F.entry_list_extend (F.args_list_extend_2 _ _)
   (AutoSeq1.list_extend_list_list_0 l its.toArray n b its2.toArray n2 hlong (by rw [yn];lia) (by lia)) ⟨e,e2,?_⟩
 refine ⟨.non,_,I.lset (its':=its++its2) hH e (by simp) (r.append r2) ?_,rfl,q⟩;rw [zh];lia
def rReverse:V->List V->Hp->VK->Prop:=λx vs H Q=>∃ l xs,x=.ref l/\vs=[]/\H l=some (.lst xs)/\Q .non (upd H l (.lst xs.reverse))
theorem aW:MtM X "list.reverse" rReverse:=by intro pins s σ H x vs v us Q I rx rv h;obtain ⟨l,xs,rfl,rfl,hH,q⟩:=h;cases rx;have hus:=rv.zero;subst hus;obtain ⟨z,its,n,r,hl,e⟩:=I.lstM hH;refine uF F.slot_list_reverse ⟨_,e,rfl⟩ F.entry_list_reverse (F.args_list_reverse_1 _) (AutoSeq1.list_reverse_list_0 l its.toArray n (by rw [yn];lia)) ⟨e,?_⟩;refine ⟨.non,_,I.lset (its':=its.reverse) hH e (by simp) r.reverse ?_,rfl,q⟩;rw [xQ];lia
def rCat:R2:=λx y H Q=>∃ l b xs zs,x=.ref l/\y=.ref b/\H l=some (.lst xs)/\H b=some (.lst zs)/\xs.length+zs.length<=sizeLine/\∀ p,H p=none->Q (.ref p) (upd H p (.lst (xs++zs)))
theorem uX:OpR X (binaryOp .Add) rCat:=by
 intro pins s σ H x y v u Q I rx ry h;obtain ⟨l,b,xs,zs,rfl,rfl,hH,hB,hz,q⟩:=h;cases rx;cases ry;obtain ⟨z,its,n,r,hl,e⟩:=I.lstM hH;obtain ⟨z2,its2,n2,r2,hl2,e2⟩:=I.lstM hB;refine PySem.P.add_list e e2 ?_ (by rw [yn,yn];lia);have ea:its.toArray++its2.toArray=(its++its2).toArray:=by simp
 rw [ea];exact ⟨.ref _,_,I.lnew (t':=s.toks) (r.append r2) (by rw [zh];lia),rfl,q _ I.fresh⟩
def rRep:R2:=λx y H Q=>∃ l k xs,x=.ref l/\y=.int k/\H l=some (.lst xs)/\-(2^63)<=k/\k<2^63/\xs.length*k.toNat<=sizeLine /\
 ∀ p,H p=none->Q (.ref p) (upd H p (.lst (List.replicate k.toNat xs).flatten))
theorem len_rep {α:Type}(xs:List α)(k:Nat):(List.replicate k xs).flatten.length=k*xs.length:=by
 induction k with
 | zero=>simp
 | succ k ih=>rw [sU,yI,zh,ih,Nat.succ_mul,uf]
theorem qE:OpR X (binaryOp .Mult) rRep:=by
 intro pins s σ H x y v u Q I rx ry h;obtain ⟨l,k,xs,rfl,rfl,hH,h1,h2,hz,q⟩:=h;cases rx;obtain ⟨t,rfl⟩:=ry;obtain ⟨z,its,n,r,hl,e⟩:=I.lstM hH;have hlen:its.toArray.size*k.toNat<=sizeLine:=by rw [yn,<- hl];exact hz
 have hcap:¬ its.toArray.size*k.toNat > (2^63-1)/8:=by
   have:(sizeLine:Nat)<=(2^63-1)/8:=by decide
   lia
 have hfit:¬ (!Builtin.List.listFitsIndex k)=true:=by rw [fitsIndex_both h1 h2];exact yS
 have hlong:¬ Builtin.List.listTooLong (its.toArray.size*k.toNat)=true:=by rw [notLongL hlen];exact yS
 have hnew:List.foldl (λx1 x2=>x1++x2) #[] (List.replicate (if its.toArray.isEmpty=true then 0 else k.toNat) its.toArray)=(List.replicate k.toNat its).flatten.toArray:=by
   have f0:∀ m:Nat,List.foldl (λx1 x2=>x1++x2) #[] (List.replicate m its.toArray)=(List.replicate m its).flatten.toArray:=λm=>by
     have:=gN its m [];rw [yY] at this;exact this
   rw [f0];cases its with
   | nil=>simp
   | cons a r'=>rw [if_neg (by simp)]
 refine wpAny_binaryOp_repeat_ref (T:="list") (U:="int") (by decide) ⟨_,e,rfl⟩ (λs'=>typeIs_int s' k t) noFill_list_mul F.fills_int_mul F.slot_int_rmul repeat_list F.slot_int_index.lookup
   (uF F.slot_int_rmul (typeIs_int s k t) F.entry_int_rmul (F.args_int_rmul_2 _ _) (int___rmul___int_list k t l its.toArray n)
     ⟨e,rfl,⟨_,e,rfl⟩,uF F.slot_list_mul ⟨_,e,rfl⟩ F.entry_list_mul (F.args_list_mul_2 _ _) (AutoListH.list___mul___list_int_3 l its.toArray n k t hfit hcap hlong) ⟨e,?_⟩⟩)
 rw [hnew];exact ⟨.ref _,_,I.lnew (t':=s.toks) (r.rep k.toNat) (by rw [len_rep,wB];exact hz),rfl,q _ I.fresh⟩
section
set_option maxRecDepth 100000 in
end
end L2
namespace Att
open PySem PySem.W PySem.Calls PyProof.Rows
theorem aV {P:Params}{h:Heap}:∀ (ns:List Int) (vs:List Value),WellAll P h vs (ns.map WData.int)->IntsAre vs ns:=by
 intro ns;induction ns with
 | nil =>
   intro vs w;rw [sJ] at w;cases w;exact .nil
 | cons n ns ih =>
   intro vs w;rw [zL] at w;cases w with
   | cons a b =>
     cases a;exact .cons _ _ (ih _ b)
theorem aU {l:OpenLaw}{n:Nat}(hn:l.most=some n){P:Params}{h:Heap}{args:List WData}{vals:List Value}
   (hpre:l.row.toRowW.claim.pre args=true) (hwl:WellAll P h vals args) :
   ∃ a vs ns,vals=[Value.ref a]/\args=[WData.list (ns.map WData.int)]/\h.get? a=some { cls:=.type "list",data:=.seq vs.toArray }/\IntsAre vs ns/\ns.length<=n:=by
 have hsh:WShape.hasAll [] args [.list .int]=true:=(pre_splitW hpre).1;have hc:l.pre.holds [] { args:=args }=true:=(pre_splitW hpre).2;obtain ⟨d,r,rfl,h1,h2⟩:=hasAllW_cons hsh;obtain rfl:=hasAllW_nil h2;obtain ⟨xs,rfl,h3⟩:=hasW_list h1;obtain ⟨ns,rfl⟩:=items_int h3;have hlen:ns.length<=n:=by
   unfold OpenLaw.pre at hc;have h4:(WTm.not (.lt (.lit (.int (n:Int))) (.len (.arg 0)))).holds [] { args:=[.list (ns.map .int)] }=true:=by have h4:=(holds_andW hc).1;rw [hn] at h4;exact h4
   have h5:=condW_of h4 (w_not (w_lt w_lit (w_len_list (w_arg rfl))));rw [zg] at h5;refine Nat.le_of_not_lt λq=>?_
   have q':(n:Int)<((ns.length:Nat):Int):=by lia
   first
     | (rw [zJ q'] at h5;exact absurd h5 (by decide))
     | (simp at h5;lia)
 cases hwl with
 | cons w1 w2 =>
   cases w2;cases w1 with
   | list ho hall=>exact ⟨_,_,ns,rfl,rfl,ho,aV ns _ hall,hlen⟩
theorem aS (l:OpenLaw)(args:List WData):l.row.toRowW.claim.post args (.bool true) args=true :=
 postW_of (r:=l.row.toRowW) (X:=(true==true))
   (show WShape.has [] (.bool true) .bool=true by first | rfl | decide | simp [WShape.has,WShape.arms,WShape.armsAll])
   (show (WTm.eq .res (.lit (.bool true))).value [] { args:=args,res:=some (.bool true),after:=args }=some (.bool (true==true)) from w_eq_bool (w_res rfl) w_lit) rfl
section
variable {K:Frag}
end
end Att
namespace L2
open PySem PySem.Spec PyProof.Rows
theorem qD:∀ {vs:List Value} {ns:List Int},IntsAre vs ns->Vals (ns.map V.int) vs
 | _,_,.nil=>.nil
 | _,_,.cons n t h=>.cons ⟨t,rfl⟩ (qD h)
abbrev KOf {K:zj}{h:Heap}(_:K.In h):zj:=K
def inClass (s:Stmt)(j:Nat):Stmt:=match s with
 | .ClassDef _ _ _ body _ _ _ _ _ _ _=>body.getD j (.Pass ⟨0,0,0,0⟩)
 | _=>.Pass ⟨0,0,0,0⟩
def defArgs (s:Stmt):Arguments:=match s with
 | .FunctionDef _ a _ _ _ _ _ _ _ _=>a
 | _=>{ posonlyargs:=[],args:=[],vararg:=none,kwonlyargs:=[],kw_defaults:=[],kwarg:=none,defaults:=[] }
def defBody (s:Stmt):List Stmt:=match s with
 | .FunctionDef _ _ b _ _ _ _ _ _ _=>b
 | _=>[]
def defScope (s:Stmt):Scope:=match s with
 | .FunctionDef _ _ _ _ _ _ sc _ _ _=>sc
 | _=>{ kind:=.function,names:=[],isGenerator:=false,isCoroutine:=false }
abbrev CX0:CXT:=λ_ _ _ _ _ _=>False
abbrev E0:XK:=λ_ _ _=>False
theorem pass0:Passes CX0 X E0:=λ_ _ _ _ _ _ _ h=>h.elim
structure Fun (K:zj)(x qual:Str)(st:Stmt)(f:Addr)(fd:FuncData):Prop where
 ex:∃ (oc:Value) (od:Option Addr) (kV doc pm:Value) (an:Option Addr) (cdv ct:Value) (osl:Array (Option Value)),
   fd=PySem.W.fnOf x qual (defArgs st) (defBody st) (defScope st) .none kV doc pm an cdv ct/\K.lookup f=some ⟨oc,od,.func fd,osl⟩/\PySem.W.codeIn K cdv qual=true
 kp:PySem.W.keepIn K (.ref f)=true
theorem Fun.ok {x:Str}{f:Addr}{ps:List Str}{k:Nat}(F:Fun K x qual st f fd)(S:FnScope N ps (defScope st))(len:∀ vs H Q E,sp vs H Q E->vs.length=ps.length)
   (hbody:∀ (cdv:Value) (A:Around) (outer:List Env) (s:Shared) (H:Hp) (vs:List V) (Q:VK) (E:XK),Room k (A.deeper (envOfC qual (defScope st) s.heap.objs.size f cdv))->sp vs H Q E ->
     ∃ t,PSs (cxOf CX0 P w K mg base N qual (defScope st) f cdv A outer s H E).nox (defBody st) t/\t { nx:=λ_ H'=>Q .non H',rt:=Q } (start N vs) H):FnOk P w K mg base CX0 (k+1) f fd ps sp:=by
 obtain ⟨oc,od,kV,doc,pm,an,cdv,ct,osl,rfl,lk,hcd⟩:=F.ex;refine fn_of lk hcd S len λA outer s H vs Q E hr hsp=>?_
 obtain ⟨t,h,q⟩:=hbody cdv A outer s H vs Q E hr hsp;exact ⟨t,h.nox,q⟩
theorem Fun.binds {x:Str}{f:Addr}{ps:List Str}(F:Fun K x qual st f fd)
   (h:∀ (kV doc pm:Value) (an:Option Addr) (cdv ct:Value) (us:List Value),us.length=ps.length->bindArgs (PySem.W.fnOf x qual (defArgs st) (defBody st) (defScope st) .none kV doc pm an cdv ct) ⟨us,[]⟩=pure (ps.zip us)):Binds K fd ps []:=by
 obtain ⟨oc,od,kV,doc,pm,an,cdv,ct,osl,rfl,lk,hcd⟩:=F.ex;exact .all (h kV doc pm an cdv ct)
theorem uW {x:Str}{f:Addr}{oc:Value}{od an:Option Addr}{kV doc pm cdv ct:Value}(l:K.lookup f=some ⟨oc,od,.func (PySem.W.fnOf x qual (defArgs st) (defBody st) (defScope st) .none kV doc pm an cdv ct),osl⟩)
   (c:PySem.W.codeIn K cdv qual=true) (k:PySem.W.keepIn K (.ref f)=true):Fun K x qual st f (PySem.W.fnOf x qual (defArgs st) (defBody st) (defScope st) .none kV doc pm an cdv ct):=⟨⟨oc,od,kV,doc,pm,an,cdv,ct,osl,rfl,l,c⟩,k⟩
theorem small1000 {n:Nat}(h:n<=1000):n<sizeLine:=wc h (by decide)
theorem pv (i:Nat){x:Str}{pos:Pos}(hN:X.N[i]?=some x:=by rfl)(hv:Vis X.env.scope x:=by first | exact Or.inl rfl | exact Or.inr (Or.inl rfl) | exact Or.inr (Or.inr rfl))(hd:(x==("__debug__":Str))=false:=by decide)
   (hcd:(x==("__classdict__":Str))=false:=by decide):PE X (.Name x pos) (tVar i):=pe_var hN hv hd hcd
def Same (H H':Hp):Prop:=∀ b o,H b=some o->H' b=some o
theorem Same.refl (H:Hp):Same H H:=λ_ _ h=>h
theorem Same.trans {H2:Hp}(a:Same H H1)(b:Same H1 H2):Same H H2:=λc o h=>b c o (a c o h)
theorem Same.free (e:Same H H'){l:Addr}(h:H' l=Option.none):H l=Option.none:=by
 cases q:H l with
 | none=>rfl
 | some o =>
   rw [e l o q] at h;cases h
theorem Same.seq {a:Addr}(e:Same H H')(h:SqL K H a xs):SqL K H' a xs:=by
 rcases h with (h | ⟨o,h⟩) | h
 . exact .inl (.inl (e _ _ h))
 . exact .inl (.inr ⟨o,e _ _ h⟩)
 . exact .inr h
section
variable {κ:Type}[DecidableEq κ]
def valV (kvs:List (κ × V))(k:κ):Option V:=(kvs.find? λkv=>decide (kv.1=k)).map (·.2)
def putK (kvs:List (κ × V))(k:κ)(v:V):List (κ × V) :=
 if (kvs.any λkv=>decide (kv.1=k))=true then kvs.map (λkv=>if kv.1=k then (kv.1,v) else kv) else kvs++[(k,v)]
theorem wX {p:κ × V}{r:List (κ × V)}{k:κ}(e:p.1=k):valV (p::r) k=some p.2:=by simp [valV,vG,e]
theorem wW {p:κ × V}{r:List (κ × V)}{k:κ}(e:¬ p.1=k):valV (p::r) k=valV r k:=by simp [valV,vG,e]
theorem tR (k:κ):∀ kvs:List (κ × V),(kvs.any λkv=>decide (kv.1=k))=(valV kvs k).isSome
 | []=>rfl
 | p::r=>by
   rw [l9];by_cases e:p.1=k;{simp only [wX e,zJ e,Bool.true_or,Option.isSome_some]};{rw [wW e,yw e,Bool.false_or];exact tR k r}
theorem gM (k j:κ)(y:V):∀ kvs:List (κ × V),valV (kvs.map λkv=>if kv.1=k then (kv.1,y) else kv) j=(valV kvs j).map λx=>if j=k then y else x
 | []=>rfl
 | p :: r=>by
   have ih:=gM k j y r;rw [zL];by_cases h:p.1=k
   . rw [if_pos h];by_cases e:p.1=j
     . rw [wX (p:=(p.1,y)) e,wX e,qQ,if_pos (e.symm.trans h)]
     . rw [wW (p:=(p.1,y)) e,wW e,ih]
   . rw [if_neg h];by_cases e:p.1=j
     . rw [wX (p:=p) e,wX e,qQ,if_neg (λz=>h (e.trans z))]
     . rw [wW (p:=p) e,wW e,ih]
theorem gL (k j:κ)(y:V):∀ kvs:List (κ × V),valV kvs k=none->valV (kvs++[(k,y)]) j=if j=k then some y else valV kvs j
 | [],_=>by
   by_cases e:k=j;{rw [if_pos e.symm];exact wX (p:=(k,y)) e}
   . rw [if_neg (λz=>e z.symm)];exact wW (p:=(k,y)) e
 | p::r,hn=>by
   rw [vn];have hk:¬ p.1=k:=λz=>by rw [wX z] at hn;cases hn
   rw [wW hk] at hn;have ih:=gL k j y r hn;by_cases e:p.1=j;{rw [wX e,wX e,if_neg (λz=>hk (e.trans z))]};{rw [wW e,wW e,ih]}
theorem valV_put (kvs:List (κ × V))(k j:κ)(y:V):valV (putK kvs k y) j=if j=k then some y else valV kvs j:=by
 unfold putK;by_cases a:(kvs.any λkv=>decide (kv.1=k))=true
 . rw [if_pos a,gM];rw [tR] at a;by_cases e:j=k
   . obtain ⟨x,hx⟩:=uC.mp a;rw [if_pos e,e,hx,qQ,if_pos rfl]
   . rw [if_neg e];cases valV kvs j with
     | none=>rfl
     | some x=>rw [qQ,if_neg e]
 . rw [if_neg a];refine gL k j y kvs ?_;rw [tR] at a;cases q:valV kvs k with
   | none=>rfl
   | some x=>rw [q] at a;exact (a rfl).elim
theorem lO (kvs:List (κ × V))(k:κ)(v:V):(putK kvs k v).length<=kvs.length+1:=by
 unfold putK;split;{rw [zg];lia};{rw [zh,zZ,xF];lia}
theorem putK_new {kvs:List (κ × V)}{k:κ}(v:V)(h:valV kvs k=none):putK kvs k v=kvs++[(k,v)]:=by unfold putK;rw [tR,h];exact if_neg (by decide)
theorem RelO.isSome_eq {o:Option V}{u:Option Value}(r:RelO o u):o.isSome=u.isSome:=by
 cases o with
 | none=>cases u with
   | none=>rfl
   | some _=>exact (show False from r).elim
 | some _=>cases u with
   | none=>exact (show False from r).elim
   | some _=>rfl
theorem RelO.getD {o:Option V}{u:Option Value}{d:V}{d':Value}(r:RelO o u)(rd:RelV d d'):RelV (o.getD d) (u.getD d'):=by
 cases o with
 | none=>cases u with
   | none=>exact rd
   | some _=>exact (show False from r).elim
 | some _=>cases u with
   | none=>exact (show False from r).elim
   | some _=>exact r
theorem KV.val {kvs:List (κ × V)}{vs:List (κ × Value)}(r:KV kvs vs)(k:κ):RelO (valV kvs k) (valueAt vs k):=by
 unfold KV at r;induction r with
 | nil=>exact True.intro
 | @cons p q ps qs h t ih =>
   obtain ⟨h1,h2⟩:=h;by_cases e:p.1=k
   . have e':q.1=k:=h1.symm.trans e;have b:valueAt (q::qs) k=some q.2:=by simp [valueAt,vG,e']
     rw [wX e,b];exact h2
   . have e':¬ q.1=k:=λz=>e (h1.trans z)
     have b:valueAt (q::qs) k=valueAt qs k:=by simp [valueAt,vG,e']
     rw [wW e,b];exact ih
theorem KV.any {kvs:List (κ × V)}{vs:List (κ × Value)}(r:KV kvs vs)(k:κ):(kvs.any λkv=>decide (kv.1=k))=vs.any λkv=>decide (kv.1=k):=by
 unfold KV at r;induction r with
 | nil=>rfl
 | cons h t ih=>rw [l9,l9,ih,h.1]
theorem KV.repl {kvs:List (κ × V)}{vs:List (κ × Value)}(r:KV kvs vs)(k:κ){y:V}(ry:RelV y u) :
   KV (kvs.map λkv=>if kv.1=k then (kv.1,y) else kv) (vs.map λkv=>if kv.1=k then (kv.1,u) else kv):=by
 unfold KV at r ⊢;induction r with
 | nil=>exact .nil
 | @cons p q ps qs h t ih =>
   rw [zL,zL];refine .cons ?_ ih;obtain ⟨h1,h2⟩:=h;by_cases e:p.1=k;{rw [if_pos e,if_pos (h1.symm.trans e)];exact ⟨h1,ry⟩};{rw [if_neg e,if_neg (λz=>e (h1.trans z))];exact ⟨h1,h2⟩}
theorem KV.put {kvs:List (κ × V)}{vs:List (κ × Value)}(r:KV kvs vs)(k:κ){y:V}(ry:RelV y u):KV (putK kvs k y) (stored vs k u):=by
 unfold putK stored;rw [r.any k];by_cases e:(vs.any λkv=>decide (kv.1=k))=true;{rw [if_pos e,if_pos e];exact r.repl k ry};{rw [if_neg e,if_neg e];exact Paired.snoc r ⟨rfl,ry⟩}
theorem KV.keys {kvs:List (κ × V)}{vs:List (κ × Value)}(r:KV kvs vs):kvs.map (·.1)=vs.map (·.1):=by
 unfold KV at r;induction r with
 | nil=>rfl
 | cons h t ih=>rw [zL,zL,ih,h.1]
theorem KV.length {kvs:List (κ × V)}{vs:List (κ × Value)}(r:KV kvs vs):kvs.length=vs.length:=wj r
end
theorem rX {k:Key}(r:RelV (kV k) u):(mixKind P w).is k u=true:=by
 cases k with
 | inl i=>obtain ⟨t,e⟩:=(show ∃ t,u=Value.int i t from r);subst e;exact bC P w i t
 | inr x=>obtain ⟨t,e⟩:=(show ∃ t,u=Value.str x t from r);subst e;exact bB P w x t
theorem gK {P:Program}{w:World}:∀ {ks:List Key} {us:List Value},Vals (ks.map kV) us->ItemsAre (mixKind P w) ks us
 | [],_,r=>by rw [sJ] at r;cases r;exact .nil
 | k::ks,_,r=>by
   rw [zL] at r;cases r with
   | cons h t=>exact .cons (rX h) (gK t)
abbrev KT (H:Hp):List (List Key × V)->List (List Key × Addr × Value)->Prop:=Paired λp q=>p.1=q.1/\H q.2.1=some (.tup (p.1.map kV))/\RelV p.2 q.2.2
theorem KT.val {kvs:List (List Key × V)}{xs:List (List Key × Addr × Value)}(r:KT H kvs xs)(k:List Key):RelO (valV kvs k) ((atKey xs k).map (·.2)):=by
 induction r with
 | nil=>exact True.intro
 | @cons p q ps qs h t ih =>
   obtain ⟨h1,_,h2⟩:=h;by_cases e:p.1=k
   . have e':q.1=k:=h1.symm.trans e;have b:atKey (q::qs) k=some q.2:=by simp [atKey,vG,e']
     rw [wX e,b];exact h2
   . have e':¬ q.1=k:=λz=>e (h1.trans z)
     have b:atKey (q::qs) k=atKey qs k:=by simp [atKey,vG,e']
     rw [wW e,b];exact ih
theorem KT.repl {kvs:List (List Key × V)}{xs:List (List Key × Addr × Value)}(r:KT H kvs xs)(k:List Key){y:V}(ry:RelV y u) :
   KT H (kvs.map λkv=>if kv.1=k then (kv.1,y) else kv) (xs.map (putAt k u)):=by
 induction r with
 | nil=>exact .nil
 | @cons p q ps qs h t ih =>
   rw [zL,zL];refine .cons ?_ ih;obtain ⟨h1,h2,h3⟩:=h;unfold putAt;by_cases e:p.1=k;{rw [if_pos e,if_pos (h1.symm.trans e)];exact ⟨h1,h2,ry⟩};{rw [if_neg e,if_neg (λz=>e (h1.trans z))];exact ⟨h1,h2,h3⟩}
theorem KT.put {kvs:List (List Key × V)}{xs:List (List Key × Addr × Value)}(r:KT H kvs xs)(k:List Key){b:Addr}{y:V}(hb:H b=some (.tup (k.map kV)))(ry:RelV y u) :
   KT H (putK kvs k y) (storedH xs k b u):=by
 have e:(kvs.any λkv=>decide (kv.1=k))=(atKey xs k).isSome:=by rw [tR,(r.val k).isSome_eq,Option.isSome_map]
 unfold putK storedH;rw [e];by_cases q:(atKey xs k).isSome=true;{rw [if_pos q,if_pos q];exact r.repl k ry};{rw [if_neg q,if_neg q];exact Paired.snoc r ⟨rfl,hb,ry⟩}
theorem KT.keeps {kvs:List (List Key × V)}{xs:List (List Key × Addr × Value)}(r:KT H kvs xs)(ht:∀ b ys,H b=some (.tup ys)->H' b=some (.tup ys)):KT H' kvs xs :=
 Paired.mapP r λ_ _ z=>⟨z.1,ht _ _ z.2.1,z.2.2⟩
section
variable {h:Heap}{a:Addr}
theorem rd_of {u:HO}(ok:HOk P w H h)(e:Rd H a u):ObjOk P w H h a u:=e.ok ok
theorem rW (ok:HOk P w H h)(e:Rd H a (.dK kvs)):kvs.length<=sizeLine/\(a==sysModules)=false/\∃ vs,KV kvs vs/\h.DictOf (mixKind P w) a vs :=
 show ObjOk P w H h a (.dK kvs) from rd_of ok e
theorem dk_of (ok:HOk P w H h)(e:H a=some (.dK kvs)):kvs.length<=sizeLine/\(a==sysModules)=false/\∃ vs,KV kvs vs/\h.DictOf (mixKind P w) a vs:=rW ok (.inl e)
theorem qC {ks:List Key}(ok:HOk P w H h)(e:H a=some (.tup (ks.map kV))):(tupleKind (mixKind P w)).is h ks a:=by
 obtain ⟨_,its,r,o,h1,h2,n,h3⟩:=(show ObjOk P w H h a (.tup (ks.map kV)) from ok a _ e)
 exact ⟨o,its.toArray,n,h1,h2,h3,by simpa using gK r⟩
theorem rV {kvs:List (List Key × V)} (ok:HOk P w H h) (e:Rd H a (.dT kvs)):kvs.length<=sizeLine/\(a==sysModules)=false /\
   ∃ xs,KT H kvs xs/\h.DictOfH (tupleKind (mixKind P w)) a xs:=by
 obtain ⟨z,y,xs,r,o,es,ep,h1,h2,h3,h4,h5⟩:=(show ObjOk P w H h a (.dT kvs) from rd_of ok e)
 refine ⟨z,y,xs,r,o,es,ep,h1,h2,h3,h4,λx hx=>?_,h5⟩;have all:∀ {l:List (List Key × V)} {m:List (List Key × Addr × Value)},KT H l m->∀ x∈m,(tupleKind (mixKind P w)).is h x.1 x.2.1:=by
   intro l m q;induction q with
   | nil=>intro x hx;exact nomatch hx
   | @cons p q ps qs hq t ih =>
     intro x hx;rcases zQ.mp hx with e | hx
     . subst e;exact qC ok (by rw [<- hq.1];exact hq.2.1)
     . exact ih x hx
 exact all r x hx
theorem dt_of {kvs:List (List Key × V)}(ok:HOk P w H h)(e:H a=some (.dT kvs)):kvs.length<=sizeLine/\(a==sysModules)=false /\
   ∃ xs,KT H kvs xs/\h.DictOfH (tupleKind (mixKind P w)) a xs:=rV ok (.inl e)
end
def DGet (H:Hp)(a:Addr)(y:V)(r:Option V):Prop :=
 (∃ kvs k,Rd H a (.dK kvs)/\y=kV k/\r=valV kvs k)\/∃ kvs k b,Rd H a (.dT kvs)/\y=.ref b/\H b=some (.tup (k.map kV))/\r=valV kvs k
def DPut (H:Hp)(a:Addr)(y v:V)(H':Hp):Prop :=
 (∃ kvs k,H a=some (.dK kvs)/\y=kV k/\kvs.length<sizeLine/\H'=upd H a (.dK (putK kvs k v))) \/
 ∃ kvs k b,H a=some (.dT kvs)/\y=.ref b/\H b=some (.tup (k.map kV))/\kvs.length<sizeLine/\H'=upd H a (.dT (putK kvs k v))
theorem DGet.k {H:Hp}{a:Addr}{kvs:List (Key × V)}{k:Key}(e:H a=some (.dK kvs)):DGet H a (kV k) (valV kvs k):=.inl ⟨kvs,k,.inl e,rfl,rfl⟩
theorem DPut.k {H:Hp}{a:Addr}{kvs:List (Key × V)}{k:Key}{v:V}(e:H a=some (.dK kvs))(hl:kvs.length<sizeLine):DPut H a (kV k) v (upd H a (.dK (putK kvs k v))):=.inl ⟨kvs,k,e,rfl,hl,rfl⟩
section
variable {a:Addr}{y v:V}{r:Value}{o:Option V}
theorem Inv.big (I:Inv X pins σ H s):sysModules<s.heap.objs.size:=by have h:mainGlobals<s.heap.objs.size:=(I.mod.glob.keeps I.bk).lt;exact ue (by decide) h
theorem aR (hu:A.units+1<cLine)(I:Inv X pins σ H s)(g:DGet H a y (some v))(ry:RelV y u)(h:∀ w' s',Inv X pins σ H s'->RelV v w'->Q w' s') :
   wpAny (model X.prog X.w) A (getItem (.ref a) u) Q E s:=by
 rcases g with ⟨kvs,k,e,ey,l⟩ | ⟨kvs,k,b,e,ey,eb,l⟩
 . subst ey;obtain ⟨z,hd,vs,rel,dd⟩:=rW I.hok e;obtain ⟨w',hw,rw'⟩:=RelO.some_of (v:=v) (o:=valueAt vs k) (by rw [l];exact rel.val k);exact wpAny_getItem_of (rX ry) dd.mapOf hw (h w' _ (I.tok _) rw')
 . subst ey;cases (show u=Value.ref b from ry);obtain ⟨z,hd,xs,rel,dd⟩:=rV I.hok e;obtain ⟨w',hw,rw'⟩:=RelO.some_of (v:=v) (o:=(atKey xs k).map (·.2)) (by rw [l];exact rel.val k);obtain ⟨p,hp,hp2⟩:=hO.mp hw;refine wpAny_getItem_heap (nM hu) (qC I.hok eb) dd hp ?_;rw [hp2];exact h w' _ (I.tok _) rw'
theorem lN {ob:HO}(I:Inv X pins σ H s)(mu:Mut (H a))(hs:Heap.SameBut a s.heap h')(he:∃ q,h'.get? a=some q)(new:ObjOk X.prog X.w (upd H a ob) h' a ob) :
   Inv X pins σ (upd H a ob) { s with heap:=h',toks:=t' } :=
 I.write (x:=a) (e:=a) mu (.inl rfl) (λb q hb z=>(hs.2 b hb).trans z) he new
theorem dk_new {vs:List (Key × Value)}(z:kvs.length<=sizeLine)(hd:(a==sysModules)=false)(rel:KV kvs vs)(dd:h'.DictOf (mixKind P w) a vs) :
   ObjOk P w H' h' a (.dK kvs):=⟨z,hd,vs,rel,dd⟩
theorem aQ {Q:Unit->Shared->Prop}(hu:A.units+1<cLine)(I:Inv X pins σ H s)(g:DPut H a y v H')(ry:RelV y u)(rv:RelV v r)(h:∀ s',Inv X pins σ H' s'->Q () s') :
   wpAny (model X.prog X.w) A (setItem (.ref a) u r) Q E s:=by
 rcases g with ⟨kvs,k,e,ey,l,eH⟩ | ⟨kvs,k,b,e,ey,eb,l,eH⟩
 . subst ey eH;obtain ⟨z,hd,vs,rel,dd⟩:=dk_of I.hok e;have hz:vs.length<=sizeLine:=by rw [<- rel.length];exact z
   have hl:(putK kvs k v).length<=sizeLine:=by have:=lO kvs k v;lia
   refine wpAny_setItem_pairs (hsz:=hz) (rX ry) dd λh' dd' hs=>h _ ?_
   have he:∃ q,h'.get? a=some q:=let ⟨q,_,_,hq,_⟩:=dd';⟨q,hq⟩
   exact lN I (by rw [e];exact True.intro) hs he (dk_new hl hd (rel.put k rv) dd')
 . subst ey eH;cases (show u=Value.ref b from ry);obtain ⟨z,hd,xs,rel,dd⟩:=dt_of I.hok e;have hz:xs.length<=sizeLine:=by rw [<- wj rel];exact z
   have hl:(putK kvs k v).length<=sizeLine:=by have:=lO kvs k v;lia
   refine wpAny_setItem_heap (hsz:=hz) (nM hu) (qC I.hok eb) dd λh' dd' hs=>h _ ?_
   obtain ⟨q,es,ep,hq,h2,h3,h4,_,h5⟩:=dd';refine lN I (by rw [e];exact True.intro) hs ⟨q,hq⟩ ⟨hl,hd,_,(rel.put k eb rv).keeps λc ys ec=>?_,q,es,ep,hq,h2,h3,h4,h5⟩;rw [zr (ne_of ec e (λz=>nomatch z))];exact ec
end
section
variable {a:Addr}{k:Key}
end
def NoSl (i:Expr):Prop:=∀ ov iv,subscripted i false ov iv=operate [ov,iv] (getItem ov iv)
theorem subD_of {env:Env}{value slice:Expr}{pos:Pos}{T id:String}
   (hl:typeLookup (.type T) "__getitem__"=pure (some (.builtin id))) (hs:NoSl slice)
   (h:wpAny (model prog w) A (eval value env) (λo s₁=>wpAny (model prog w) A (eval slice env) (λi s₂=>s₂.TypeIs o T/\wpAny (model prog w) A (getItem o i) Q E s₂) E s₁) E s) :
   wpAny (model prog w) A (eval (.Subscript value slice pos) env) Q E s:=by
 refine Subscript_ (xn h (λo s₁ h₁=>xn h₁ (λi s₂ h₂=>?_) λ_ _ x=>x) λ_ _ x=>x);obtain ⟨hT,h₂⟩:=h₂;unfold subscriptTail;refine zt ?_;rw [getitemInPython_of_ne hT.not_modules];refine zt (wpAny_specialOf hT hl ?_);have fin:wpAny (model prog w) A (subscripted slice false o i) (λr s₃=>wpAny (model prog w) A (letTemporaryGo value o r >>= λ_=>pure r) Q E s₃) E s₂:=by rw [hs o i];exact wpAny_operating (xn h₂ (λr s₃ h₃=>zt (wpAny_letTemporaryGo (zi h₃))) λ_ _ x=>x)
 first
   | exact zi (zt fin)
   | exact zt (zi (zt fin))
   | exact zt fin
theorem aP {a:Addr}{y:V}{o:Option V}(I:Inv X pins σ H s)(g:DGet H a y o):s.TypeIs (.ref a) "dict":=by
 rcases g with ⟨kvs,k,e,_,_⟩ | ⟨kvs,k,b,e,_,_,_⟩
 . obtain ⟨_,_,vs,_,dd⟩:=rW I.hok e;exact dd.typeIs
 . obtain ⟨_,_,xs,_,dd⟩:=rV I.hok e;exact dd.typeIs
def tDGet (td ty:TE):TE:=λσ H Q=>td σ H λx H1=>ty σ H1 λy H2=>∃ a v,x=.ref a/\DGet H2 a y (some v)/\Q v H2
def sDPut (td ty tv:TE):TS:=λD σ H=>tv σ H λv H1=>td σ H1 λx H2=>ty σ H2 λy H3=>∃ a H4,x=.ref a/\DPut H3 a y v H4/\D.nx σ H4
section
variable {o i e value:Expr}{pos tpos:Pos}{td ty tv:TE}
theorem pe_dget (hu:X.A.units+1<cLine)(ho:PE X o td)(hi:PE X i ty)(hs:NoSl i):PE X (.Subscript o i pos) (tDGet td ty):=by intro pins s σ H Q I h;refine subD_of PySem.F.slot_dict_getitem.lookup hs (thn (ho pins s σ H _ I h) λu s1 ⟨x,H1,I1,rx,q1⟩=>thn (hi pins s1 σ H1 _ I1 q1) λiv s2 hq=>?_);obtain ⟨y,H2,I2,ry,a,v,ex,g,q2⟩:=hq;subst ex;obtain rfl:u=Value.ref a:=rx;exact ⟨aP I2 g,aR hu I2 g ry λw' s3 I3 rw'=>⟨v,H2,I3,rw',q2⟩⟩
theorem ps_dput (hu:X.A.units+1<cLine)(ho:PE X o td)(hi:PE X i ty)(hv:PE X value tv)(hs:swapsWith value (some (.Subscript o i pos')) pos.line X.env=pure false) :
   PS X (.Assign [.Subscript o i pos'] value pos) (sDPut td ty tv):=by
 intro pins s σ H D I h;refine wpAny_Assign_Subscript (thn (hv pins s σ H _ I h) λr s1 ⟨v,H1,I1,rv,q1⟩=>thn (ho pins s1 σ H1 _ I1 q1) λu s2 ⟨x,H2,I2,rx,q2⟩=>thn (hi pins s2 σ H2 _ I2 q2) λiv s3 hq=>?_) hs;obtain ⟨y,H3,I3,ry,a,H4,ex,g,q3⟩:=hq;subst ex;obtain rfl:u=Value.ref a:=rx;exact aQ hu I3 g ry rv λs4 I4=>⟨σ,H4,I4,q3⟩
end
theorem dk_empty (h:Heap)(hb:sysModules<h.objs.size):ObjOk P w H (h.push { cls:=.type "dict",data:=.dict #[] }) h.objs.size (.dK []) :=
 ⟨zV _,u0.mpr (Ne.symm (zC hb)),[],.nil,Heap.DictOf.new h⟩
def tDNewK:TE:=λ_ H Q=>∀ p,H p=none->Q (.ref p) (upd H p (.dK []))
section
variable {pos:Pos}
theorem gJ:PE X (.Dict [] [] pos) tDNewK:=λpins s σ H Q I h =>
 wpAny_Dict_empty ⟨.ref s.heap.objs.size,_,I.laid (a:=s.heap.objs.size) (o:=.dK []) (t':=s.toks) (λ_ _ q=>zU _ q) (zk _) (dk_empty s.heap I.big),rfl,h _ (I.hok.fresh (zk _))⟩
end
structure M2 (X:Cx)(o:Expr)(m:Str)(apos:Pos)(e f:Expr)(cpos:Pos):Prop where
 base:attributeBase o m X.env (eval o X.env)=eval o X.env
 few:((backTo cpos (starEach [e,f] X.env)).all (λx=>!x.1)&&(backToKw cpos (keywordEach [] X.env)).all (λx=>x.1.isSome)
   && decide (([e,f]:List Expr).length+([]:List Keyword).length+(if ([]:List Keyword).isEmpty then 0 else 1)<30))=true
 line:(apos.endLine==cpos.line)=true
 trees:backTo cpos (starEach [e,f] X.env)=[(false,eval e X.env),(false,eval f X.env)]
def IsD (H:Hp)(a:Addr):Prop:=(∃ kvs,Rd H a (.dK kvs))\/∃ kvs,Rd H a (.dT kvs)
theorem lM {a:Addr}(I:Inv X pins σ H s)(d:IsD H a) :
   s.TypeIs (.ref a) "dict"/\(∀ b,Value.ref a=.ref b->∃ ob,s.heap.get? b=some ob/\ob.dict=none)/\(a==sysModules)=false:=by
 rcases d with ⟨kvs,e⟩ | ⟨kvs,e⟩
 . obtain ⟨_,hd,vs,_,dd⟩:=rW I.hok e;refine ⟨dd.typeIs,λb q=>?_,hd⟩;cases q;obtain ⟨ob,_,_,h1,h2,_⟩:=dd;exact ⟨ob,h1,h2.2.1⟩
 . obtain ⟨_,hd,xs,_,dd⟩:=rV I.hok e;refine ⟨dd.typeIs,λb q=>?_,hd⟩;cases q;obtain ⟨ob,_,_,h1,h2,_⟩:=dd;exact ⟨ob,h1,h2.2.1⟩
section
variable {a:Addr}{y d:V}{r:Value}{o:Option V}
theorem d_get2 (hu:A.units+1<cLine)(I:Inv X pins σ H s)(g:DGet H a y o)(ry:RelV y u)(rd:RelV d r)(h:∀ w' s',Inv X pins σ H s'->RelV (o.getD d) w'->Q w' s') :
   wpAny (model X.prog X.w) A (call (.builtin "dict.get") [.ref a,u,r]) Q E s:=by
 rcases g with ⟨kvs,k,e,ey,l⟩ | ⟨kvs,k,b,e,ey,eb,l⟩
 . subst ey;obtain ⟨z,hd,vs,rel,dd⟩:=rW I.hok e;refine qg nV dd.typeIs iQ (iW _ _ _) (meets_dict_get_default (mixKind X.prog X.w) a (rX ry) hd r) ⟨_,dd.mapOf,h _ _ (I.tok _) ?_⟩;rw [l];exact (rel.val k).getD rd
 . subst ey;cases (show u=Value.ref b from ry);obtain ⟨z,hd,xs,rel,dd⟩:=rV I.hok e;refine qg nV dd.typeIs iQ (iW _ _ _) (meetsH_dict_get_default (tupleKind (mixKind X.prog X.w)) a b hd r) ⟨nM hu,k,xs,qC I.hok eb,dd,h _ _ (I.tok _) ?_⟩;rw [l];exact (rel.val k).getD rd
end
def tDGet1 (td ty:TE):TE:=λσ H Q=>td σ H λx H1=>∃ a,x=.ref a/\IsD H1 a/\ty σ H1 λy H2=>∃ o,DGet H2 a y o/\Q (o.getD .non) H2
def tDGet2 (td ty tx:TE):TE:=λσ H Q=>td σ H λx H1=>∃ a,x=.ref a/\IsD H1 a/\ty σ H1 λy H2=>tx σ H2 λz H3=>∃ o,DGet H3 a y o/\Q (o.getD z) H3
section
variable {o e f:Expr}{apos cpos:Pos}{td ty tx:TE}
theorem pe_dget2 (hu:X.A.units+1<cLine)(ho:PE X o td)(he:PE X e ty)(hf:PE X f tx)(m:M2 X o "get" apos e f cpos):PE X (.Call (.Attribute o "get" apos) [e,f] [] cpos) (tDGet2 td ty tx):=by
 intro pins s σ H Q I h;refine wpAny_Call_method m.base m.few m.line nY nV PySem.F.type_dict_get (thn (ho pins s σ H _ I h) λu s1 hq=>?_);obtain ⟨x,H1,I1,rx,a,ex,d,q1⟩:=hq;subst ex;obtain rfl:u=Value.ref a:=rx;obtain ⟨t1,t2,_⟩:=lM I1 d;refine ⟨t1,t2,?_⟩;rw [m.trees];refine su rfl (nO (vp (thn (he pins s1 σ H1 _ I1 q1) λiv s2 ⟨y,H2,I2,ry,q2⟩ =>
   vp (thn (hf pins s2 σ H2 _ I2 q2) λfv s3 ⟨z,H3,I3,rz,ov,g,q3⟩=>uJ ?_))))
 exact d_get2 hu I3 g ry rz λw' s4 I4 rw'=>⟨_,H3,I4,rw',q3⟩
end
section
variable {a:Addr}
end
section
variable {a:Addr}{y:V}
end
section
variable {κ:Type}[DecidableEq κ]
theorem gI:∀ {l:List κ} {k:κ},l.Nodup->¬ k∈l->(l++[k]).Nodup
 | [],k,_,_=>by simp
 | a::r,k,h,hk=>by
   obtain ⟨h1,h2⟩:=vH.mp h;show (a::(r++[k])).Nodup;refine vH.mpr ⟨λm=>?_,gI h2 λm=>hk (zQ.mpr (Or.inr m))⟩;rcases zY.mp m with q | q
   . exact h1 q
   . exact hk (zQ.mpr (Or.inl (zS.mp q).symm))
end
end L2
namespace BM
open PySem L2 PyProof.Rows
def wd:List Nat->Nat
 | []=>0
 | p::r=>2^p+wd r
def Up:Nat->List Nat->Prop
 | _,[]=>True
 | a,p::r=>a<=p/\Up (p+1) r
theorem Up.mono:∀ {a b:Nat} {ps:List Nat},Up b ps->a<=b->Up a ps
 | _,_,[],_,_=>trivial
 | _,_,_::_,h,e=>⟨yl e h.1,h.2⟩
theorem Up.filter {p:Nat->Bool}:∀ {a:Nat} {ps:List Nat},Up a ps->Up a (ps.filter p)
 | _,[],_=>trivial
 | a,q::r,h=>by
   rw [wG];split;{exact ⟨h.1,Up.filter h.2⟩};{exact (Up.filter h.2).mono (yl h.1 (wa _))}
theorem Up.dvd:∀ {a:Nat} {ps:List Nat},Up a ps->2^a ∣ wd ps
 | _,[],_=>Nat.dvd_zero _
 | a,p::r,h=>Nat.dvd_add (mI 2 h.1) (Nat.dvd_trans (mI 2 (yl h.1 (wa _))) (Up.dvd h.2))
theorem Up.lt:∀ {a k:Nat} {ps:List Nat},Up a ps->(∀ p∈ps,p<k)->a<=k->wd ps+2^a<=2^k
 | _,_,[],_,_,e=>by
   show 0+_<=_;rw [yX];exact vL (by decide) e
 | a,k,p::r,h,hk,_=>by
   have h1:p<k:=hk p xu;have ih:=Up.lt (a:=p+1) (k:=k) h.2 (λq hq=>hk q (xm _ hq)) h1;have h2:2^a<=2^p:=vL (by decide) h.1;rw [yN] at ih;show 2^p+wd r+2^a<=2^k;lia
theorem Up.lt' {k:Nat}(h:Up 0 ps)(hk:∀ p∈ps,p<k):wd ps<2^k:=by have:=Up.lt h hk (zV _);lia
theorem and_pred (x p:Nat):(2^(p+1)*x+2^p) &&& (2^(p+1)*x+2^p-1)=2^(p+1)*x:=by
 have hp:0<2^p:=yB (by decide);have e1:2^(p+1)*x+2^p-1=2^(p+1)*x+(2^p-1):=by lia
 have l1:2^p<2^(p+1):=mY (by decide) (wb _);rw [e1];apply mX
 intro i;have q:=wL x (b:=0) (i:=p+1) (yB (by decide)) i;rw [xt] at q;rw [sI,wL x l1 i,wL x (b:=2^p-1) (i:=p+1) (by lia) i,q];split
 . rw [mU,Nat.testBit_two_pow_sub_one,Nat.zero_testBit];by_cases e:p=i
   . subst e;simp
   . simp [e]
 . simp
theorem lK {p:Nat}{r:List Nat}(h:Up (p+1) r):wd (p::r) &&& (wd (p::r)-1)=wd r:=by obtain ⟨x,hx⟩:=h.dvd;show (2^p+wd r) &&& (2^p+wd r-1)=wd r;rw [hx,uf (2^p)];exact and_pred x p
theorem qB {p:Nat}{r:List Nat}:0<wd (p::r):=by have:0<2^p:=yB (by decide);show 0<2^p+wd r;lia
theorem uV:∀ (xs ys:List Nat),wd (xs++ys)=wd xs+wd ys
 | [],ys=>(yX _).symm
 | x::xs,ys=>by
   show 2^x+wd (xs++ys)=2^x+wd xs+wd ys;rw [uV xs ys,wF]
theorem Up.left:∀ {a:Nat} {xs ys:List Nat},Up a (xs++ys)->Up a xs
 | _,[],_,_=>trivial
 | _,_::_,_,h=>⟨h.1,Up.left h.2⟩
theorem Up.last:∀ {a p:Nat} {xs ys:List Nat},Up a (xs++p::ys)->∀ q∈xs,q<p
 | _,_,[],_,_,_,hq=>by simp at hq
 | a,p,x::xs,ys,h,q,hq=>by
   have h2:Up (x+1) (xs++p::ys):=h.2;rcases zQ.mp hq with e | e
   . subst e;have:∀ {b:Nat} {zs:List Nat},Up b (zs++p::ys)->b<=p:=by
       intro b zs;induction zs generalizing b with
       | nil=>exact λz=>z.1
       | cons z zs ih=>exact λw=>yl w.1 (Nat.le_of_succ_le (ih w.2))
     exact this h2
   . exact Up.last h2 q e
theorem lJ {x y:Int}(hx:0<=x)(hy:0<=y):Builtin.bitOr x y=((x.toNat ||| y.toNat:Nat):Int):=by
 have nn:∀ z:Int,Builtin.bitNot (Builtin.bitNot z)=z:=λz=>by unfold Builtin.bitNot;lia
 have e:Builtin.bitOr x y=Builtin.bitNot (Builtin.bitAnd (Builtin.bitNot x) (Builtin.bitNot y)):=rfl;rw [e,bitAnd_nn (by unfold Builtin.bitNot;lia) (by unfold Builtin.bitNot;lia),nn,nn,nn]
def pint (ps:List Nat):List V:=ps.map λ(p:Nat)=>V.int (p:Int)
theorem vW {i:Nat}{x:V}(hi:(pint ps)[i]?=some x):∃ p:Nat,ps[i]?=some p/\x=.int p:=by
 unfold pint at hi;rw [yp] at hi;cases e:ps[i]? with
 | none=>rw [e] at hi;cases hi
 | some p=>rw [e] at hi;exact ⟨p,rfl,(Option.some.inj hi).symm⟩
theorem gH {x:V}(hx:x∈pint ps):∃ p:Nat,p∈ps/\x=.int p:=by obtain ⟨p,h,e⟩:=zR.mp hx;exact ⟨p,h,e.symm⟩
theorem zH (ps:List Nat):(pint ps).length=ps.length:=zg _
def onI (p:Int->Bool):V->Bool
 | .int z=>p z
 | _=>false
theorem vz:∀ {a:Nat} {ps:List Nat},Up a ps->∀ i,(wd ps).testBit i=decide (i∈ps)
 | _,[],_,i=>by simp [wd]
 | a,p :: r,h,i=>by
   obtain ⟨x,hx⟩:=Up.dvd h.2;have ih:=vz h.2 i;have l1:2^p<2^(p+1):=mY (by decide) (wb _);have e:wd (p::r)=2^(p+1)*x+2^p:=by show 2^p+wd r=_;rw [hx];lia
   have q:=wL x (b:=0) (i:=p+1) (yB (by decide)) i;rw [xt,<- hx,ih] at q;rw [e,wL x l1 i];split
   . rename_i hlt
     rw [if_pos hlt] at q;have nm:i∉r:=by simpa using q
     rw [mU];by_cases hp:p=i;{subst hp;simp}
     . have:¬ i=p:=λz=>hp z.symm
       simp [hp,nm,this]
   . rename_i hge
     rw [if_neg hge] at q;rw [<- q];have:¬ i=p:=by lia
     simp [this]
theorem Up.of_lt:∀ {a:Nat} {ps:List Nat},Up a ps->∀ p∈ps,a<=p
 | _,[],_,_,h=>by simp at h
 | a,q::r,h,p,hp=>by
   rcases zQ.mp hp with e | e
   . subst e;exact h.1
   . have:=Up.of_lt h.2 p e;have:=h.1;lia
theorem Up.ext:∀ {a:Nat} {ps qs:List Nat},Up a ps->Up a qs->(∀ i,i∈ps↔i∈qs)->ps=qs
 | _,[],[],_,_,_=>rfl
 | _,[],q::_,_,_,h=>by have:=(h q).mpr xu;simp at this
 | _,p::_,[],_,_,h=>by have:=(h p).mp xu;simp at this
 | a,p :: r,q::s,hp,hq,h=>by
   have e:p=q:=by
     have h1:=(h p).mp xu;have h2:=(h q).mpr xu;rcases zQ.mp h1 with z | z
     . exact z
     . rcases zQ.mp h2 with y | y
       . exact y.symm
       . have:=Up.of_lt hq.2 p z;have:=Up.of_lt hp.2 q y;lia
   subst e;have:r=s:=Up.ext hp.2 hq.2 λi=>by
     have:=h i;constructor
     . intro m;have l:=Up.of_lt hp.2 i m;rcases zQ.mp (this.mp (xm _ m)) with z | z
       . lia
       . exact z
     . intro m;have l:=Up.of_lt hq.2 i m;rcases zQ.mp (this.mpr (xm _ m)) with z | z
       . lia
       . exact z
   rw [this]
theorem rT {w:Nat}(h:Up 0 ps)(hw:∀ i,w.testBit i=decide (i∈ps)):w=wd ps :=
 mX λi=>by rw [hw,vz h]
theorem vB (p:Nat->Bool)(n:Nat):Up 0 ((List.range n).filter p):=by
 have:∀ a,Up a ((List.range' a n).filter p):=by
   induction n with
   | zero=>exact λa=>trivial
   | succ n ih =>
     intro a;rw [uk,wG];split;{exact ⟨zk _,ih (a+1)⟩};{exact (ih (a+1)).mono (wa _)}
 rw [List.range_eq_range'];exact this 0
theorem qA:∀ (n a:Nat),Up a (List.range' a n)
 | 0,_=>trivial
 | n+1,a=>by rw [uk];exact ⟨zk _,qA n (a+1)⟩
def pl (n w:Nat):List Nat:=(List.range n).filter w.testBit
theorem up_pl (n w:Nat):Up 0 (pl n w):=vB _ _
theorem mem_pl {n w i:Nat}:i∈pl n w↔i<n/\w.testBit i=true:=by unfold pl;simp
theorem pl_wd {n:Nat}(h:Up 0 ps)(hn:∀ p∈ps,p<n):pl n (wd ps)=ps :=
 Up.ext (up_pl _ _) h λi=>by
   rw [mem_pl,vz h];simp;exact hn i
theorem Up.shift (k:Nat):∀ {a:Nat} {ps:List Nat},Up a ps->Up (a+k) (ps.map (·+k))
 | _,[],_=>trivial
 | a,p::r,h=>by
   have:=Up.shift k h.2;rw [zL];refine ⟨Nat.add_le_add_right h.1 k,?_⟩;have e:p+1+k=p+k+1:=by lia
   rw [e] at this;exact this
theorem gG (k:Nat):∀ (ps:List Nat),wd (ps.map (·+k))=wd ps*2^k
 | []=>by simp [wd]
 | p::r=>by
   rw [zL];show 2^(p+k)+wd _=(2^p+wd r)*2^k;rw [gG k r,tX,Nat.add_mul]
theorem up_from {k:Nat}:∀ {a:Nat} {ps:List Nat},Up a ps->(∀ p∈ps,k<=p)->Up k ps
 | _,[],_,_=>trivial
 | a,p::r,h,hk=>⟨hk p xu,h.2⟩
theorem log2_wd {p:Nat}(h:Up 0 (ps++[p])):(wd (ps++[p])).log2=p:=by
 have hl:wd ps<2^p:=Up.lt' (h.left) h.last;rw [uV];have e:wd [p]=2^p:=by show 2^p+0=2^p;lia
 rw [e];have h0:wd ps+2^p≠0:=by have:0<2^p:=yB (by decide);lia
 have a1:=(Nat.le_log2 h0 (k:=p)).mpr (by lia);have a2:=(Nat.log2_lt h0 (k:=p+1)).mpr (by rw [yN];lia);lia
theorem p6:∀ (n a:Nat),wd (List.range' a n)+2^a=2^(a+n)
 | 0,a=>by simp [wd]
 | n+1,a=>by
   rw [uk];have:=p6 n (a+1);show 2^a+wd _+2^a=_;have e:a+(n+1)=a+1+n:=by lia
   rw [e,<- this,yN];lia
def numA (n:Nat):List Bool->Nat
 | []=>n
 | b::r=>numA (2*n+b.toNat) r
theorem gF (b:Bool):∀ (bs:List Bool) (n:Nat),numA n (bs++[b])=2*numA n bs+b.toNat
 | [],_=>rfl
 | c::r,n=>gF b r (2*n+c.toNat)
theorem lI:∀ (bs:List Bool) (n:Nat),numA n bs=n*2^bs.length+numA 0 bs
 | [],n=>by simp [numA]
 | c::r,n=>by
   show numA (2*n+c.toNat) r=n*2^(r.length+1)+numA (2*0+c.toNat) r;rw [lI r (2*n+c.toNat),lI r (2*0+c.toNat),yN,Nat.add_mul,Nat.mul_zero,yX,wB 2 n,Nat.mul_assoc,wB 2 (2^r.length)];lia
theorem lH (b:Bool)(r:List Bool):numA 0 (b::r)=b.toNat*2^r.length+numA 0 r:=by show numA (2*0+b.toNat) r=_;rw [lI,Nat.mul_zero,yX]
theorem rS:∀ (bs:List Bool),numA 0 bs<2^bs.length
 | []=>by simp [numA]
 | b::r=>by
   rw [lH,zZ,yN];have:=rS r;have:b.toNat*2^r.length<=1*2^r.length:=Nat.mul_le_mul_right _ (by cases b<;>decide);lia
theorem lG:∀ (bs:List Bool) (i:Nat),i<bs.length->(numA 0 bs).testBit (bs.length-1-i)=bs.getD i false
 | [],i,h=>by simp at h
 | b::r,0,_=>by
   rw [lH,List.getD_cons_zero,zZ];have e:r.length+1-1-0=r.length:=by lia
   rw [e,wB];have:=wL b.toNat (rS r) r.length;rw [this,if_neg (xh _),wt];cases b<;>rfl
 | b::r,i+1,h=>by
   have h':i<r.length:=by simpa using h
   rw [lH,List.getD_cons_succ,zZ];have e:r.length+1-1-(i+1)=r.length-1-i:=by lia
   rw [e,wB];rw [wL b.toNat (rS r),if_pos (by lia)];exact lG r i h'
def orW (ps:List Nat):Nat:=ps.foldl (λw p=>w ||| 2^p) 0
theorem orW_snoc (ps:List Nat)(p:Nat):orW (ps++[p])=orW ps ||| 2^p:=by unfold orW;rw [sN];rfl
theorem aO (ps:List Nat) (i:Nat):(orW ps).testBit i=decide (i∈ps):=by
 have:∀ (qs:List Nat) (w:Nat),(qs.foldl (λw p=>w ||| 2^p) w).testBit i=(w.testBit i||decide (i∈qs)):=by
   intro qs;induction qs with
   | nil=>intro w;simp
   | cons p r ih =>
     intro w;rw [wu,ih,mC,mU];by_cases h:p=i;{subst h;simp}
     . have:¬ i=p:=λz=>h z.symm
       simp [h,this]
 unfold orW;rw [this];simp
theorem orW_up (h:Up 0 ps):orW ps=wd ps:=rT h (aO ps)
def orR (rs:List (Nat × Nat)):Nat:=rs.foldl (λw r=>w ||| wd (List.range' r.1 (r.2+1-r.1))) 0
theorem orR_snoc (rs:List (Nat × Nat))(r:Nat × Nat):orR (rs++[r])=orR rs ||| wd (List.range' r.1 (r.2+1-r.1)):=by unfold orR;rw [sN];rfl
def cov (rs:List (Nat × Nat))(i:Nat):Prop:=∃ r∈rs,r.1<=i/\i<=r.2
theorem aN (rs:List (Nat × Nat)) (i:Nat):(orR rs).testBit i=true↔cov rs i:=by
 have:∀ (qs:List (Nat × Nat)) (w:Nat),(qs.foldl (λw r=>w ||| wd (List.range' r.1 (r.2+1-r.1))) w).testBit i=true↔(w.testBit i=true\/cov qs i):=by
   intro qs;induction qs with
   | nil=>intro w;simp [cov]
   | cons r q ih =>
     intro w;rw [wu,ih,mC,qP,vz (qA _ _)];have e:(decide (i∈List.range' r.1 (r.2+1-r.1))=true)↔(r.1<=i/\i<=r.2):=by rw [w8,vK];lia
     rw [e];unfold cov;constructor
     . rintro ((h | h) | ⟨z,hz,h⟩)
       . exact .inl h
       . exact .inr ⟨r,xu,h⟩
       . exact .inr ⟨z,xm _ hz,h⟩
     . rintro (h | ⟨z,hz,h⟩)
       . exact .inl (.inl h)
       . rcases zQ.mp hz with e2 | e2
         . subst e2;exact .inl (.inr h)
         . exact .inr ⟨z,e2,h⟩
 unfold orR;rw [this];simp
def addP (rs:List (Nat × Nat))(p:Nat):List (Nat × Nat):=match rs.getLast? with
 | some (a,b)=>if b+1=p then rs.dropLast++[(a,p)] else rs++[(p,p)]
 | none=>[(p,p)]
def runsOf (ps:List Nat):List (Nat × Nat):=ps.foldl addP []
theorem rQ (p:Nat):addP [] p=[(p,p)]:=rfl
theorem vy {a b p:Nat}(h:b+1=p):addP (rs++[(a,b)]) p=rs++[(a,p)]:=by unfold addP;rw [mW];show (if b+1=p then _ else _)=_;rw [if_pos h,List.dropLast_concat]
theorem vx {a b p:Nat}(h:b+1≠p):addP (rs++[(a,b)]) p=rs++[(a,b)]++[(p,p)]:=by unfold addP;rw [mW];show (if b+1=p then _ else _)=_;rw [if_neg h]
theorem tQ (ps:List Nat)(p:Nat):runsOf (ps++[p])=addP (runsOf ps) p:=by unfold runsOf;rw [sN];rfl
theorem runs_le:∀ {rs:List (Nat × Nat)} {p:Nat},(∀ r∈rs,r.1<=r.2)->∀ r∈addP rs p,r.1<=r.2:=by
 intro rs p h r hr;rcases wJ rs with e | ⟨q,⟨a,b⟩,e⟩
 . subst e;rw [rQ] at hr;have:r=(p,p):=by simpa using hr
   subst this;exact zk _
 . rw [wI] at e
   subst e;have hab:=h (a,b) (by simp);by_cases e:b+1=p
   . rw [vy e] at hr;rcases zY.mp hr with z | z
     . exact h r (zY.mpr (.inl z))
     . have:r=(a,p):=by simpa using z
       subst this;show a<=p;have hab:a<=b:=hab;lia
   . rw [vx e] at hr;rcases zY.mp hr with z | z
     . exact h r z
     . have:r=(p,p):=by simpa using z
       subst this;exact zk _
theorem lE (rs qs:List (Nat × Nat))(i:Nat):cov (rs++qs) i↔cov rs i\/cov qs i:=by
 unfold cov;simp only [zY];constructor
 . rintro ⟨r,h | h,z⟩
   . exact .inl ⟨r,h,z⟩
   . exact .inr ⟨r,h,z⟩
 . rintro (⟨r,h,z⟩ | ⟨r,h,z⟩)
   . exact ⟨r,.inl h,z⟩
   . exact ⟨r,.inr h,z⟩
theorem p5 (a b i:Nat):cov [(a,b)] i↔a<=i/\i<=b:=by unfold cov;simp
theorem cov_addP (p i:Nat) (h:∀ r∈rs,r.1<=r.2):cov (addP rs p) i↔cov rs i\/i=p:=by
 rcases wJ rs with e | ⟨q,⟨a,b⟩,e⟩
 . subst e;rw [rQ,p5];unfold cov;simp;lia
 . rw [wI] at e
   subst e;have hab:a<=b:=h (a,b) (by simp);by_cases e:b+1=p
   . rw [vy e,lE,lE,p5,p5]
     constructor
     . rintro (z | z)
       . exact .inl (.inl z)
       . by_cases hp:i=p
         . exact .inr hp
         . exact .inl (.inr (by lia))
     . rintro ((z | z) | z)
       . exact .inl z
       . exact .inr (by lia)
       . exact .inr (by lia)
   . rw [vx e,lE,p5];constructor
     . rintro (z | z)
       . exact .inl z
       . exact .inr (by lia)
     . rintro (z | z)
       . exact .inl z
       . exact .inr (by lia)
theorem snocInd {α:Type} {motive:List α->Prop} (nil:motive []) (snoc:∀ xs x,motive xs->motive (xs++[x])):∀ xs,motive xs:=by
 have:∀ n xs,xs.length=n->motive xs:=by
   intro n;induction n with
   | zero=>intro xs h;cases xs with
     | nil=>exact nil
     | cons _ _=>cases h
   | succ n ih =>
     intro xs h;rcases wJ xs with e | ⟨ys,y,e⟩
     . subst e;exact nil
     . rw [wI] at e;subst e;rw [zh] at h;exact snoc ys y (ih ys (by simpa using h))
 exact λxs=>this _ xs rfl
theorem px (ps:List Nat):∀ r∈runsOf ps,r.1<=r.2:=by
 induction ps using snocInd with
 | nil=>intro r h;simp [runsOf] at h
 | snoc ps p ih=>rw [tQ];exact runs_le ih
theorem gE (ps:List Nat)(i:Nat):cov (runsOf ps) i↔i∈ps:=by
 induction ps using snocInd with
 | nil=>unfold cov runsOf;simp
 | snoc ps p ih=>rw [tQ,cov_addP p i (px ps),ih];simp
theorem aM (h:Up 0 ps):orR (runsOf ps)=wd ps:=rT h λi=>by
 rw [vI,aN,gE];simp
theorem gD {n:Nat}(h:∀ p∈ps,p<n):∀ r∈runsOf ps,r.2<n:=λr hr=>by
 have h1:=px ps r hr;exact h _ ((gE ps r.2).mp ⟨r,hr,h1,zk _⟩)
theorem addP_len (rs:List (Nat × Nat))(p:Nat):(addP rs p).length<=rs.length+1:=by
 rcases wJ rs with e | ⟨q,⟨a,b⟩,e⟩
 . subst e;exact zk _
 . rw [wI] at e;subst e;by_cases e:b+1=p
   . rw [vy e];simp
   . rw [vx e];simp
theorem pq (ps:List Nat):(runsOf ps).length<=ps.length:=by
 induction ps using snocInd with
 | nil=>exact zk _
 | snoc ps p ih =>
   rw [tQ,zh];have:=addP_len (runsOf ps) p;show _<=ps.length+1;lia
inductive Dec:List Nat->List (Nat × Nat)->Prop
 | nil:Dec [] []
 | cons {p n:Nat} {rest:List Nat} {rs:List (Nat × Nat)} (u:Up (p+n+2) rest) (h:Dec rest rs):Dec (List.range' p (n+1)++rest) ((p,p+n)::rs)
theorem lC:∀ (r:List Nat) (p:Nat),Up (p+1) r->∃ n rest,p::r=List.range' p (n+1)++rest/\Up (p+n+2) rest/\rest.length<=r.length
 | [],p,_=>⟨0,[],rfl,trivial,zk _⟩
 | q :: r,p,u=>by
   by_cases e:q=p+1
   . subst e;obtain ⟨n,rest,h1,h2,h3⟩:=lC r (p+1) u.2;refine ⟨n+1,rest,?_,?_,?_⟩
     . rw [uk,vn,<- h1]
     . have e:p+(n+1)+2=p+1+n+2:=by lia
       rw [e];exact h2
     . rw [zZ];lia
   . exact ⟨0,q::r,rfl,⟨by have:=u.1;lia,u.2⟩,zk _⟩
theorem lA:∀ (m:Nat) (ps:List Nat) {a:Nat},ps.length<=m->Up a ps->∃ rs,Dec ps rs
 | _,[],_,_,_=>⟨[],.nil⟩
 | 0,_::_,_,h,_=>by simp at h
 | m+1,p::r,_,h,u=>by
   obtain ⟨n,rest,h1,h2,h3⟩:=lC r p u.2;obtain ⟨rs,hd⟩:=lA m rest (by rw [zZ] at h;lia) h2;exact ⟨_,by rw [h1];exact .cons h2 hd⟩
theorem aK {rs0 q:List (Nat × Nat)}(p:Nat)(h:q≠[]):addP (rs0++q) p=rs0++addP q p:=by
 rcases wJ q with e | ⟨q0,⟨a,b⟩,e⟩
 . exact absurd e h
 . rw [wI] at e;subst e;by_cases e:b+1=p
   . rw [vy e,<- zX,vy e,zX]
   . rw [vx e,<- zX,vx e,zX,zX,zX]
theorem addP_ne (q:List (Nat × Nat))(p:Nat):addP q p≠[]:=by
 rcases wJ q with e | ⟨q0,⟨a,b⟩,e⟩
 . subst e;rw [rQ];simp
 . rw [wI] at e;subst e;by_cases e:b+1=p
   . rw [vy e];simp
   . rw [vx e];simp
theorem gC:∀ (ys:List Nat) {rs0 q:List (Nat × Nat)},q≠[]->ys.foldl addP (rs0++q)=rs0++ys.foldl addP q
 | [],_,_,_=>rfl
 | y::ys,rs0,q,h=>by rw [wu,aK y h,wu,gC ys (addP_ne q y)]
theorem fold_gap {b:Nat}{a:Nat}:∀ {ys:List Nat},Up (b+2) ys->ys.foldl addP [(a,b)]=(a,b)::ys.foldl addP []
 | [],_=>rfl
 | y :: ys,u=>by
   have e:addP [(a,b)] y=[(a,b)]++[(y,y)]:=by have:=vx (rs:=[]) (a:=a) (b:=b) (p:=y) (by have:=u.1;lia);simpa using this
   rw [wu,e,gC ys (by simp),wu,rQ];rfl
theorem gB:∀ (n p a b:Nat),b+1=p->(List.range' p n).foldl addP [(a,b)]=[(a,b+n)]
 | 0,_,_,_,_=>rfl
 | n+1,p,a,b,e=>by
   rw [uk,wu];have:=vy (rs:=[]) (a:=a) (b:=b) e;rw [show addP [(a,b)] p=[(a,p)] by simpa using this,gB n (p+1) a p rfl];congr 2
   lia
theorem aJ (p n:Nat):runsOf (List.range' p (n+1))=[(p,p+n)]:=by unfold runsOf;rw [uk,wu,rQ,gB n (p+1) p p rfl]
theorem Dec.runs:∀ {ps:List Nat} {rs:List (Nat × Nat)},Dec ps rs->runsOf ps=rs
 | _,_,.nil=>rfl
 | _,_,.cons (p:=p) (n:=n) (rest:=rest) u h=>by
   have ih:=Dec.runs h;unfold runsOf;rw [sN];show rest.foldl addP (runsOf (List.range' p (n+1)))=_;rw [aJ,fold_gap u];show _::runsOf rest=_;rw [ih]
def expand (rs:List (Nat × Nat)):List Nat:=rs.flatMap λr=>List.range' r.1 (r.2+1-r.1)
theorem Dec.expand:∀ {ps:List Nat} {rs:List (Nat × Nat)},Dec ps rs->expand rs=ps
 | _,_,.nil=>rfl
 | _,_,.cons (p:=p) (n:=n) u h=>by
   have ih:=Dec.expand h;unfold BM.expand at ih ⊢;rw [vm,ih];congr 2
   show p+n+1-p=n+1;lia
def Apart:Nat->List (Nat × Nat)->Prop
 | _,[]=>True
 | a,r::rs=>a<=r.1/\r.1<=r.2/\Apart (r.2+2) rs
theorem Dec.apart:∀ {ps:List Nat} {rs:List (Nat × Nat)} {a:Nat},Dec ps rs->Up a ps->Apart a rs
 | _,_,_,.nil,_=>trivial
 | _,_,_,.cons (p:=p) (n:=n) u h,w=>by
   refine ⟨?_,Nat.le_add_right _ _,Dec.apart h u⟩;rw [uk] at w;exact w.1
theorem gA (u:Up 0 ps):expand (runsOf ps)=ps/\Apart 0 (runsOf ps):=by obtain ⟨rs,h⟩:=lA _ ps (zk _) u;rw [h.runs];exact ⟨h.expand,h.apart u⟩
theorem aI {p n:Nat}{rest:List Nat}(u:Up (p+n+2) rest):wd (List.range' p (n+1)++rest)+2^p=wd ((p+n+1)::rest)/\wd (List.range' p (n+1)++rest)-wd (List.range' p (n+1))=wd rest:=by
 have h:=p6 (n+1) p;rw [uV];refine ⟨?_,by lia⟩;show _=2^(p+n+1)+wd rest;have e:p+(n+1)=p+n+1:=by lia
 rw [e] at h;lia
theorem aH {p n:Nat}{rest:List Nat}(u:Up (p+n+2) rest):runsOf (List.range' p (n+1)++rest)=(p,p+n)::runsOf rest:=by obtain ⟨rs,h⟩:=lA _ rest (zk _) u;rw [(Dec.cons u h).runs,h.runs]
end BM
namespace L2
open PySem PySem.Spec PyProof.Rows
section
variable {R:Result->Shared->Prop}
theorem aG  {elt target iter:Expr}{ifs:List Expr}{pos:Pos}{it acc:Value}{env:Env}(I:Nat->Shared->Prop)(Ee:Value->Shared->Prop)(hx:∀ e s,Ee e s->notedBy (model prog w) A env (λe' s'=>R (.error e') s') e s)
   (turn : ∀ n s,I n s->wpAny (model prog w) A (pyNext it) (λr s₁=>match r with
     | none=>R (.ok .next) s₁
     | some v=>wpAny (model prog w) A (letOwnedTupleGo target it v) (λ_ s₀=>wpAny (model prog w) A (assign target env v) (λ_ s₂ =>
         wpAny (model prog w) A (forIn ifs true λc r=>if r=true then do let ok <- isTrue c env (eval c env);pure (ForInStep.yield ok) else pure (ForInStep.yield r)) (λok s₃ =>
           if ok=true then wpAny (model prog w) A (eval elt env) (λx s₄ =>
             wpAny (model prog w) A (call (.builtin "list.append") [acc,x]) (λ_ s₅=>∃ m,m<n/\I m s₅) Ee s₄) Ee s₃
           else ∃ m,m<n/\I m s₃) Ee s₂) Ee s₀) Ee s₁) Ee s)
   (n:Nat) (h:I n s):codeAny (model prog w) A (.compLoop (.ListComp elt [⟨target,iter,ifs,0⟩] scope pos) 0 it acc env) R s:=by
 refine codeAny_loop rfl I (λn s hI=>?_) n h;show wpAny _ A ((compTurn (.ListComp elt [⟨target,iter,ifs,0⟩] scope pos) 0 it acc env).onRaise (λx=>do noteFrame x env;theTreesLotGoes x)) _ _ s;refine wpAny_noted ?_;rw [compTurn_list];refine zt (wpAny_standAt (zt (xn (turn n s hI) (λr s₁ h₁=>?_) hx)));cases r with
 | none=>exact zi h₁
 | some v =>
   refine zt (xn h₁ (λ_ s₀ h₀=>?_) hx);refine zt (xn h₀ (λ_ s₂ h₂=>zt (xn h₂ (λok s₃ h₃=>?_) hx)) hx);cases ok with
   | false=>exact zi ⟨rfl,h₃⟩
   | true=>exact zt (zt (xn h₃ (λx s₄ h₄=>zt (xn h₄ (λ_ s₅ h₅=>zi (zi ⟨rfl,h₅⟩)) hx)) hx))
end
theorem k9 {env:Env}:∀ (names:List (Str × NameKind)) (acc:List (Str × Addr)),(∀ z∈names,z.2=.free->∃ c,env.cells.lookup z.1=some c) ->
   ∃ cl,(forIn names acc λx r=>if (x.2==NameKind.free)=true then do let a <- cellOf env x.1;pure (ForInStep.yield ((x.1,a)::r)) else pure (ForInStep.yield r):Sem (List (Str × Addr)))=pure cl /\
     (∀ y c,cl.lookup y=some c->acc.lookup y=some c\/env.cells.lookup y=some c)/\(∀ y,((∃ c,acc.lookup y=some c)\/(y,NameKind.free)∈names)->∃ c,cl.lookup y=some c)
 | [],acc,_=>⟨acc,by rw [List.forIn_nil],λ_ _ h=>.inl h,λy h=>by
     rcases h with h | h
     . exact h
     . simp at h⟩
 | (n, k)::r,acc,h=>by
   have hr:∀ z∈r,z.2=.free->∃ c,env.cells.lookup z.1=some c:=λz hz=>h z (xm _ hz)
   by_cases hk:k=.free
   . subst hk
     obtain ⟨c,hc⟩:=h (n,.free) xu rfl;obtain ⟨cl,e,h1,h2⟩:=k9 r ((n,c)::acc) hr;refine ⟨cl,?_,λy d hd=>?_,λy hy=>?_⟩
     . rw [mH];have e1:cellOf env n=pure c:=by unfold cellOf;rw [hc]
       simp only [ql,xU,e1,pure_bind];exact e
     . rcases h1 y d hd with z | z
       . rw [wz] at z;cases hy:y==n with
         | true =>
           rw [hy] at z;have:y=n:=by simpa using hy
           subst this;cases z;exact .inr hc
         | false=>rw [hy] at z;exact .inl z
       . exact .inr z
     . refine h2 y ?_;rcases hy with ⟨d,hd⟩ | hy
       . cases q:y==n with
         | true=>exact .inl ⟨c,by rw [wz,q]⟩
         | false=>exact .inl ⟨d,by rw [wz,q];exact hd⟩
       . rcases zQ.mp hy with z | z
         . cases z;exact .inl ⟨c,by rw [wz,ql]⟩
         . exact .inr z
   . obtain ⟨cl,e,h1,h2⟩:=k9 r acc hr;refine ⟨cl,?_,h1,λy hy=>h2 y ?_⟩
     . rw [mH];have:(k==NameKind.free)=false:=by simpa using hk
       simp only [this,xk,yO,pure_bind];exact e
     . rcases hy with z | z
       . exact .inl z
       . rcases zQ.mp z with q | q
         . cases q;exact absurd rfl hk
         . exact .inr q
theorem aF {env:Env}(h:∀ z∈scope.names,z.2=.free->∃ c,env.cells.lookup z.1=some c) :
   ∃ cl,closureFor scope env=pure cl/\(∀ y c,cl.lookup y=some c->env.cells.lookup y=some c)/\∀ y,(y,NameKind.free)∈scope.names->∃ c,cl.lookup y=some c:=by
 obtain ⟨cl,e,h1,h2⟩:=k9 (env:=env) scope.names [] h;refine ⟨cl,?_,λy c hc=>?_,λy hy=>h2 y (.inr hy)⟩;{unfold closureFor;exact (congrArg (λm:Sem (List (Str × Addr))=>m >>= λcs=>pure cs) e).trans (pure_bind _ _)}
 . rcases h1 y c hc with z | z
   . cases z
   . exact z
def compX (X:Cx)(scope:Scope)(own:List Str)(caps:List Nat)(cl:List (Str × Addr))(C:Addr)(s₃:Shared)(H₃:Hp)(fp:List Addr):Cx :=
 { X with env:=compEnvC scope cl C X.env,N:=own++caps.map λj=>X.N.getD j Str.empty,s₀:=s₃,H₀:=H₃,outer:=X.stack,stack:=X.stack,ex:=fp,fn:=λ_=>false,pn:=[],xe:=λ_ _=>False }
def capSt (n:Nat)(caps:List Nat)(σ:St):St:=List.replicate n none++caps.map λj=>σ.getD j none
def compOk (sc osc:Scope):Bool :=
 (sc.kind==.function)&&sc.names.all λz=>match z.2 with
   | .cell=>false
   | .local=>sc.names.lookup z.1==some .local
   | .free=>osc.names.lookup z.1==some .cell||osc.names.lookup z.1==some .free
   | _=>true
def capOk (X:Cx)(sc:Scope):List Nat->Prop
 | []=>True
 | j::r=>(∃ y,X.N[j]?=some y/\sc.names.lookup y=some .free/\(X.env.scope.names.lookup y=some .cell\/X.env.scope.names.lookup y=some .free))/\capOk X sc r
def gOwn (n:Nat)(g:TG):Prop:=∀ v σ H Q,g v σ H Q->g v σ H λσ' H'=>(σ'.length=σ.length/\σ'.drop n=σ.drop n)/\Q σ' H'
theorem xq:gOwn 1 (gName 0):=λv σ H Q h=>⟨⟨by simp,by cases σ<;>simp⟩,h⟩
def tNoTest:TT:=λ_ H Q=>Q true H
def tComp (n:Nat) (caps:List Nat) (wi:TI) (g:TG) (tt:TT) (te:TE):TE:=λσ H Q=>wi σ H λJ H1=>∀ D,H1 D=none->∃ W:Nat->Nat->Hp->Prop,(∃ m,W 0 m (upd H1 D (.lst [])))/\∀ i m H2,W i m H2 ->
 (J.stop i H2/\Q (.ref D) H2)\/(J.go i H2/\∀ x H3,J.yld i H2 x H3->g x (capSt n caps σ) H3 λσ4 H4=>tt σ4 H4 λb H5 =>
   if b=true then te σ4 H5 λy H6=>∃ xs,H6 D=some (.lst xs)/\xs.length<sizeLine/\∃ m',m'<m/\W (i+1) m' (upd H6 D (.lst (xs++[y]))) else ∃ m',m'<m/\W (i+1) m' H5)
def PTs (X:Cx) (ifs:List Expr) (t:TT):Prop :=
 ∀ (pins:List (Addr × Obj)) (s:Shared) (σ:St) (H:Hp) (Q:Bool->Hp->Prop),Inv X pins σ H s->t σ H Q ->
   wpAny (model X.prog X.w) X.A (forIn ifs true λc r=>if r=true then do let ok <- isTrue c X.env (eval c X.env);pure (ForInStep.yield ok) else pure (ForInStep.yield r)) (TP X pins σ Q) X.xe s
theorem xa:PTs X [] tNoTest:=λ_ _ _ H _ I h=>wpAny_tests_nil ⟨H,I,h⟩
theorem f9 {c:Expr}{t:TT}(h:PT X c t):PTs X [c] t:=λpins s σ H Q I q=>wpAny_tests_one (h pins s σ H Q I q)
theorem f7 {env:Env}:∀ {names:List (Str × NameKind)} {x:Str} {k:NameKind},names.lookup x=some k ->
   (names.map λ(n,k)=>if (k==NameKind.free&&env.scope.kind==.function&&env.kindOf n==some .cell) then (n,NameKind.cell) else (n,k)).lookup x=some (if (k==NameKind.free&&env.scope.kind==.function&&env.kindOf x==some .cell) then NameKind.cell else k)
 | [],_,_,h=>by simp at h
 | (n,k')::r,x,k,h=>by
   have ih:=@f7 env r x k;show List.lookup x ((if (k'==NameKind.free&&env.scope.kind==.function&&env.kindOf n==some .cell)=true then (n,NameKind.cell) else (n,k'))::_)=_;cases hx:x==n with
   | true =>
     simp only [wz,hx] at h;cases h;have:x=n:=by simpa using hx
     subst this;split<;>simp [wz]
   | false =>
     simp only [wz,hx] at h;split;{simp only [wz,hx];exact ih h};{simp only [wz,hx];exact ih h}
theorem k8 {env:Env}:∀ {names:List (Str × NameKind)} {x:Str} {k:NameKind},
   (names.map λ(n,k)=>if (k==NameKind.free&&env.scope.kind==.function&&env.kindOf n==some .cell) then (n,NameKind.cell) else (n,k)).lookup x=some k ->
   ∃ k',(x,k')∈names/\(k=k'\/(k'=.free/\k=.cell))
 | [],_,_,h=>by simp at h
 | (n, k')::r,x,k,h=>by
   have ih:=@k8 env r x k;rw [zL] at h;cases hc:(k'==NameKind.free&&env.scope.kind==.function&&env.kindOf n==some .cell) with
   | true =>
     simp only [hc,xU,wz] at h;cases hx:x==n with
     | true =>
       simp only [hx,nW] at h;have e:x=n:=by simpa using hx
       have:k'=.free:=by simp only [wx,xC] at hc;exact hc.1.1
       exact ⟨.free,by rw [e,<- this];exact xu,.inr ⟨rfl,h.symm⟩⟩
     | false =>
       simp only [hx] at h;obtain ⟨q,m,z⟩:=ih h;exact ⟨q,xm _ m,z⟩
   | false =>
     simp only [hc,xk,yO,wz] at h;cases hx:x==n with
     | true =>
       simp only [hx,nW] at h;have e:x=n:=by simpa using hx
       exact ⟨k',by rw [e];exact xu,.inl h.symm⟩
     | false =>
       simp only [hx] at h;obtain ⟨q,m,z⟩:=ih h;exact ⟨q,xm _ m,z⟩
theorem ph {osc:Scope}(h:compOk sc osc=true):sc.kind=.function:=by unfold compOk at h;simp only [wx,xC] at h;exact h.1
theorem k7 {osc:Scope}(h:compOk sc osc=true):∀ z∈sc.names,(match z.2 with
   | .cell=>false
   | .local=>sc.names.lookup z.1==some .local
   | .free=>osc.names.lookup z.1==some .cell||osc.names.lookup z.1==some .free
   | _=>true)=true:=by
 unfold compOk at h;simp only [wx] at h;exact mM.mp h.2
theorem fw {osc:Scope}(h:compOk sc osc=true):∀ z∈sc.names,z.2≠.cell:=λz hz e=>by
 have:=k7 h z hz;rw [e] at this;cases this
theorem fu {osc:Scope}(h:compOk sc osc=true):∀ z∈sc.names,z.2=.local->sc.names.lookup z.1=some .local:=λz hz e=>by
 have:=k7 h z hz;rw [e] at this;simpa using this
theorem cok_free {osc:Scope}(h:compOk sc osc=true):∀ z∈sc.names,z.2=.free->osc.names.lookup z.1=some .cell\/osc.names.lookup z.1=some .free:=λz hz e=>by
 have:=k7 h z hz;rw [e] at this;simpa using this
theorem capOk.get:∀ {caps:List Nat} {j:Nat},capOk X sc caps->j∈caps->∃ y,X.N[j]?=some y/\sc.names.lookup y=some .free/\(X.env.scope.names.lookup y=some .cell\/X.env.scope.names.lookup y=some .free)
 | [],_,_,h=>by simp at h
 | i::r,j,h,hj=>by
   rcases zQ.mp hj with e | e
   . subst e;exact h.1
   . exact h.2.get e
theorem fq {x:Str}{k:NameKind}:∀ {l:List (Str × NameKind)},l.lookup x=some k->(x,k)∈l
 | [],h=>by simp at h
 | (n,k')::r,h=>by
   rw [wz] at h;cases hx:x==n with
   | true =>
     simp only [hx,nW] at h;have e:x=n:=by simpa using hx
     rw [e,h];exact xu
   | false =>
     simp only [hx] at h;exact xm _ (fq h)
section
variable {H2:Hp}{s2:Shared}{own:List Str}
theorem fk {n:Nat}{i:Nat}{v:V}(h:(capSt n caps σ)[i]?=some (some v)):n<=i/\∃ j,caps[i-n]?=some j/\σ[j]?=some (some v):=by
 unfold capSt at h;rw [List.getElem?_append] at h;split at h
 . rename_i hl
   rw [sV] at hl;rw [hW,if_pos hl] at h;cases h
 . rename_i hl
   rw [sV] at h hl;refine ⟨by lia,?_⟩;rw [yp] at h;cases q:caps[i-n]? with
   | none=>rw [q] at h;cases h
   | some j =>
     rw [q] at h;refine ⟨j,rfl,?_⟩;have h:σ.getD j none=some v:=Option.some.inj h;rw [xy] at h;cases z:σ[j]? with
     | none=>rw [z] at h;cases h
     | some o=>rw [z] at h;exact congrArg some h
theorem Inv.comp {n:Nat} {cl:List (Str × Addr)} {h4:Heap} {tk:Nat}
   (I2:Inv X pins σ H2 s2) (hok:compOk scope X.env.scope=true) (hcap:capOk X scope caps) (hown:own.length=n)
   (cl1:∀ y c,cl.lookup y=some c->X.env.cells.lookup y=some c) (cl2:∀ y,(y,NameKind.free)∈scope.names->∃ c,cl.lookup y=some c)
   (hfp:∀ b∈fp,FpOk X pins H2 b) (hobj:∀ b∈fp,b<s2.heap.objs.size) (hC:C=s2.heap.objs.size) (hn:h4.Ns C λ_=>none)
   (hsb:∀ b o,s2.heap.get? b=some o->h4.get? b=some o) :
   Inv (compX X scope own caps cl C s2 H2 fp) [] (capSt n caps σ) H2 { s2 with heap:=h4,toks:=tk }:=by
 have hkind:=ph hok;have ok':(compX X scope own caps cl C s2 H2 fp).Ok:=by
   refine ⟨I2.ok.mod,hkind,I2.ok.glob,I2.ok.blt,by rw [hC];exact zk _,λx y c h1 h2=>I2.ok.inj x y c (cl1 x c h1) (cl1 y c h2),λx hx=>?_,λx c h=>(by cases h),I2.ok.hd,I2.ok.frames,.inl rfl,λb hb=>⟨?_,λx c h=>(hfp b hb).2.2.2.2.1 x c (cl1 x c h)⟩,I2.bs,?_,λb o e hb=>?_,λb hb hf=>?_,I2.stack,I2.stkFree⟩
   . have:∃ k',(x,k')∈scope.names/\(k'=.cell\/k'=.free):=by
       rcases hx with hx | hx
       . obtain ⟨k',m,z⟩:=k8 (env:=X.env) (names:=scope.names) (x:=x) (k:=.cell) hx;rcases z with z | z
         . exact ⟨k',m,.inl z.symm⟩
         . exact ⟨k',m,.inr z.1⟩
       . obtain ⟨k',m,z⟩:=k8 (env:=X.env) (names:=scope.names) (x:=x) (k:=.free) hx;rcases z with z | z
         . exact ⟨k',m,.inr z.symm⟩
         . cases z.2
     obtain ⟨k',m,z | z⟩:=this;{subst z;exact absurd rfl (fw hok _ m)};{subst z;exact cl2 x m}
   . show b≠C;rw [hC];exact zC (hobj b hb)
   . exact yl I2.ok.bsz (yl I2.ok.above (wD I2.lt))
   . rcases (hfp b hb).2.2.2.1 with z | z
     . exact I2.ok.noex b o e z
     . exact absurd (ya (zW e) (yl I2.ok.bsz z)) (xh _)
   . rcases zQ.mp (I2.stkSub b hf) with z | z
     . exact (hfp b hb).2.1 z
     . exact (hfp b hb).2.2.1 z
 have hCn:H2 C=none:=I2.hok.fresh (by rw [hC];exact zk _);refine ⟨ok',rfl,I2.bare,Un.kept hsb,⟨_,hn,λi x v e1 e2 e3=>?_⟩,λx c e=>?_,hCn,λx c e=>I2.freeC x c (cl1 x c e),λp hp=>(by cases hp),I2.hok.kept hsb,?_⟩
 . obtain ⟨hi,j,hj,hv⟩:=fk e2;have e1:(own++caps.map λj=>X.N.getD j Str.empty)[i]?=some x:=e1;rw [yq (by rw [hown];exact hi),yp,hown,hj] at e1;have e1:X.N.getD j Str.empty=x:=Option.some.inj e1;obtain ⟨y,hy,hfree,hout⟩:=hcap.get (yb hj);rw [xy,hy] at e1;have e1:y=x:=e1;subst e1;obtain ⟨m,hm,hl⟩:=I2.loc;obtain ⟨u,r,l⟩:=hl j y v hy hv (.inr hout);refine ⟨u,r,.inr ⟨?_,?_⟩⟩
   . have:=f7 (env:=X.env) hfree;show (relabel scope X.env).names.lookup y=some .cell\/(relabel scope X.env).names.lookup y=some .free;unfold relabel;rw [this];split
     . exact .inl rfl
     . exact .inr rfl
   . obtain ⟨c,hc⟩:=cl2 y (fq hfree);refine ⟨c,hc,?_⟩;rcases l with ⟨k,_⟩ | ⟨_,c',hc',hcell⟩
     . have k:X.env.scope.names.lookup y=some .local:=k;rcases hout with z | z<;>(rw [k] at z;cases z)
     . rw [cl1 y c hc] at hc';cases hc';obtain ⟨o,ho,hd⟩:=hcell;exact ⟨o,hsb _ _ ho,hd⟩
 . obtain ⟨v,o,ho,hd⟩:=I2.cell x c (cl1 x c e);exact ⟨v,o,hsb _ _ ho,hd⟩
 . show (capSt n caps σ).length=(own++caps.map λj=>X.N.getD j Str.empty).length;unfold capSt;rw [zh,zh,sV,zg,zg,hown]
theorem fj {Xe:Addr->Shared->Hp->Value->Shared->Prop} {n:Nat} {iter elt:Expr} {ifs:List Expr} {pos:Pos} {it:Addr} {tn:Nat->Heap->Prop} {J:It} {cl:List (Str × Addr)} {g:TG} {RR:Value->Env->Result->Shared->Prop} {Q:VK}
   (hc:X.calm=true) (I2:Inv X pins σ H2 s2) (T:Turn X.prog X.w X.K tg J fp it tn) (st2:tn 0 s2.heap) (f2:∀ b∈fp,FpOk X pins H2 b)
   (hok:compOk scope X.env.scope=true) (hcap:capOk X scope caps) (hown:own.length=n) (hgo:gOwn n g)
   (cl1:∀ y c,cl.lookup y=some c->X.env.cells.lookup y=some c) (cl2:∀ y,(y,NameKind.free)∈scope.names->∃ c,cl.lookup y=some c)
   (hg:∀ C s₃ H₃,PG ((compX X scope own caps cl C s₃ H₃ fp).wish (Xe C s₃ H₃)) tg g) (ht:∀ C s₃ H₃,PTs ((compX X scope own caps cl C s₃ H₃ fp).wish (Xe C s₃ H₃)) ifs tt) (he:∀ C s₃ H₃,PE ((compX X scope own caps cl C s₃ H₃ fp).wish (Xe C s₃ H₃)) elt te)
   (h:∀ D,H2 D=none->∃ W:Nat->Nat->Hp->Prop,(∃ m,W 0 m (upd H2 D (.lst [])))/\∀ i m H2,W i m H2 ->
     (J.stop i H2/\Q (.ref D) H2)\/(J.go i H2/\∀ x H3,J.yld i H2 x H3->g x (capSt n caps σ) H3 λσ4 H4=>tt σ4 H4 λb H5 =>
       if b=true then te σ4 H5 λy H6=>∃ xs,H6 D=some (.lst xs)/\xs.length<sizeLine/\∃ m',m'<m/\W (i+1) m' (upd H6 D (.lst (xs++[y]))) else ∃ m',m'<m/\W (i+1) m' H5))
   (hRR:∀ D C s' H' m,s'.heap.Ns C m->Inv X pins σ H' s'->FpOk X pins H' C->Q (.ref D) H'->RR (.ref D) (compEnvC scope cl C X.env) (.ok .next) s')
   (hRX:∀ s₃,Inv X pins σ (upd H2 s2.heap.objs.size (.lst [])) s₃->(∀ b o,s2.heap.get? b=some o->s₃.heap.get? b=some o)->s₃.os=s2.os->∀ e s',Xe s₃.heap.objs.size s₃ (upd H2 s2.heap.objs.size (.lst [])) e s'->notedBy (model X.prog X.w) X.A (compEnvC scope cl s₃.heap.objs.size X.env) (λe z=>RR (.ref s2.heap.objs.size) (compEnvC scope cl s₃.heap.objs.size X.env) (.error e) z) e s') :
   wpAny (model X.prog X.w) X.A (newList []) (λacc s₃=>wpAny (model X.prog X.w) X.A (newFunctionEnv scope X.env.globals cl [] X.env.qual none .none (some X.env)) (λcenv s₄ =>
     codeAny (model X.prog X.w) X.A (.compStart (.ListComp elt [⟨tg,iter,ifs,0⟩] scope pos) 0 (.ref it) acc { cenv with scope:=relabel scope X.env }) (RR acc { cenv with scope:=relabel scope X.env }) s₄) E s₃) E s2:=by
 refine qh (items:=[]) (wpAny_newFunctionEnv (fw hok) (by intro y hy;simp at hy) (λh₁ hns₁ hsb₁=>?_) (ph hok)) (by show 0<=sizeLine;decide);obtain ⟨W,⟨m0,w0⟩,turn⟩:=h s2.heap.objs.size I2.fresh;have I3:Inv X pins σ (upd H2 s2.heap.objs.size (.lst [])) { s2 with heap:=s2.heap.push { cls:=.type "list",data:=.seq ([]:List Value).toArray } }:=I2.lnew (t':=s2.toks) .nil (by show 0<=sizeLine;decide);generalize hs3:({ s2 with heap:=s2.heap.push { cls:=.type "list",data:=.seq ([]:List Value).toArray } }:Shared)=s₃ at *;have e3:s₃.heap.objs.size=s2.heap.objs.size+1:=by rw [<- hs3];exact uv _ _
 have k23:∀ b o,s2.heap.get? b=some o->s₃.heap.get? b=some o:=λb o e=>by rw [<- hs3];exact zU _ e
 have hold:∀ b o,s₃.heap.get? b=some o->h₁.get? b=some o:=λb o e=>(hsb₁.2 b (zC (zW e))).trans (zU _ e)
 have lt2:∀ b∈fp,b<s2.heap.objs.size:=λb hb=>by
   obtain ⟨o,e,_⟩:=T.obj _ _ st2 b hb;exact zW e
 have f3:∀ b∈fp,FpOk X pins (upd H2 s2.heap.objs.size (.lst [])) b:=λb hb=>by
   obtain ⟨z,r⟩:=f2 b hb;exact ⟨by rw [zr (zC (lt2 b hb))];exact z,r⟩
 have tn1:tn 0 h₁:=T.keep _ _ _ st2 λb hb o e=>hold b o (k23 b o e)
 have I4:=Inv.comp (own:=own) (caps:=caps) (n:=n) (fp:=fp) (cl:=cl) (h4:=h₁) (tk:=s₃.toks+([]:List (Str × Value)).length) I3 hok hcap hown cl1 cl2 f3 (λb hb=>by rw [e3];exact w4 (lt2 b hb)) rfl (by simpa using hns₁) hold;have hXok:=I4.ok;have loop:codeAny (model X.prog X.w) X.A (.compLoop (.ListComp elt [⟨tg,iter,ifs,0⟩] scope pos) 0 (.ref it) (.ref s2.heap.objs.size) (compEnvC scope cl s₃.heap.objs.size X.env)) (RR (.ref s2.heap.objs.size) (compEnvC scope cl s₃.heap.objs.size X.env)) { s₃ with heap:=h₁,toks:=s₃.toks+([]:List (Str × Value)).length }:=by
   have I4:=I4.wish (Xe s₃.heap.objs.size s₃ (upd H2 s2.heap.objs.size (.lst [])));have hxe:=hRX s₃ I3 k23 (by rw [<- hs3]);generalize hY:Xe s₃.heap.objs.size s₃ (upd H2 s2.heap.objs.size (.lst []))=Ee at I4 hxe;generalize hX:(compX X scope own caps cl s₃.heap.objs.size s₃ (upd H2 s2.heap.objs.size (.lst [])) fp).wish Ee=X' at I4;have hXok:=I4.ok;have eP:X'.prog=X.prog:=by rw [<- hX];rfl
   have eW:X'.w=X.w:=by rw [<- hX];rfl
   have eK:X'.K=X.K:=by rw [<- hX];rfl
   have eA:X'.A=X.A:=by rw [<- hX];rfl
   have eC:X'.calm=true:=by rw [<- hX];exact hc
   have eE:X'.env=compEnvC scope cl s₃.heap.objs.size X.env:=by rw [<- hX];rfl
   have eL:X'.env.locals=s₃.heap.objs.size:=by rw [eE];rfl
   have eX:X'.xe=Ee:=by rw [<- hX]
   have ePn:X'.pn=[]:=by rw [<- hX];rfl
   have eEx:X'.ex=fp:=by rw [<- hX];rfl
   have eFs:X'.fs=frs X.stack:=by rw [<- hX];rfl
   have hg':=hg s₃.heap.objs.size s₃ (upd H2 s2.heap.objs.size (.lst []));have ht':=ht s₃.heap.objs.size s₃ (upd H2 s2.heap.objs.size (.lst []));have he':=he s₃.heap.objs.size s₃ (upd H2 s2.heap.objs.size (.lst []));have eS0:X'.s₀=s₃:=by rw [<- hX];rfl
   have eH0:X'.H₀=upd H2 s2.heap.objs.size (.lst []):=by rw [<- hX];rfl
   rw [hY,hX] at hg' ht' he';have fpOk:∀ {H':Hp} (b:Addr),b∈fp->H' b=none->FpOk X' [] H' b:=λb hb hn=>by
     refine ⟨hn,(hXok.exf b (eEx ▸ hb)).1,hXok.exfs b (eEx ▸ hb),.inl (eEx ▸ hb),(hXok.exf b (eEx ▸ hb)).2,λp hp=>?_⟩;rw [ePn] at hp;cases hp
   rw [<- eP,<- eW,<- eA,<- eE] at hxe;rw [<- eP,<- eW,<- eA,<- eE];refine aG (Ee:=Ee) (hx:=hxe) (λn' s'=>∃ i H',Inv X' [] (capSt n caps σ) H' s'/\tn i s'.heap/\(∀ b∈fp,H' b=none)/\W i n' H') ?_ m0 ⟨0,_,I4,tn1,λb hb=>(f3 b hb).1,w0⟩;rintro k s5 ⟨i,H5,I5,t5,fr5,w5⟩;have weaken:∀ {σ':St} {H':Hp} {s':Shared} {pl:List (Addr × Obj)},Inv X' pl σ' H' s'->σ'.length=(capSt n caps σ).length->σ'.drop n=(capSt n caps σ).drop n->Inv X' [] (capSt n caps σ) H' s':=λ{σ' H' s' pl} I' hl hd=>by
     have I'':Inv X' [] σ' H' s':=I'.pins_of λp hp=>by cases hp
     refine I''.weak hl.symm λj v e=>?_
     have hj:=(fk e).1;have q1:(σ'.drop n)[j-n]?=σ'[j]?:=by rw [sQ];congr 1;lia
     have q2:((capSt n caps σ).drop n)[j-n]?=(capSt n caps σ)[j]?:=by rw [sQ];congr 1;lia
     rw [<- q1,hd,q2];exact e
   rcases turn i k H5 w5 with ⟨stop,qn⟩ | ⟨go,step⟩
   . have z:=T.done X' eP eW eK eC i [] s5 (capSt n caps σ) H5 Ee I5 (λb hb=>fpOk b hb (fr5 b hb)) t5 stop;rw [<- eP,<- eW] at z;refine thn z λr s6 ⟨hr,I6⟩=>?_
     subst hr;obtain ⟨m,hm,_⟩:=I6.loc;have ub:Un (frs X.stack) fp (upd H2 s2.heap.objs.size (.lst [])) H5 s₃.heap s6.heap:=by have z:=I6.base;rw [eFs,eEx,eS0,eH0] at z;exact z
     have u23:Un (frs X.stack) fp H2 (upd H2 s2.heap.objs.size (.lst [])) s2.heap s₃.heap:=Un.laid k23 (zk _) I2.fresh;have os6:s6.os=s2.os:=by rw [I6.os,eS0,<- hs3]
     have hokk:HOk X.prog X.w H5 s6.heap:=by have z:=I6.hok;rw [eP,eW] at z;exact z
     have Iend:Inv X pins σ H5 s6:=I2.call' os6 (u23.trans ub) hokk I6.bare λb hb=>⟨(f2 b hb).2.2.2.1,(f2 b hb).2.1,(f2 b hb).2.2.2.2.1,(f2 b hb).2.2.2.2.2⟩
     have hCn:H5 s₃.heap.objs.size=none:=by have z:=I6.free;rw [eL] at z;exact z
     rw [eL] at hm;rw [eE];exact hRR _ _ s6 H5 m hm Iend (I3.fpOk (zk _) hCn) qn
   . have z:=T.item X' eP eW eK eC i [] s5 (capSt n caps σ) H5 Ee I5 (λb hb=>fpOk b hb (fr5 b hb)) t5 go;rw [<- eP,<- eW] at z;refine thn z λr s6 ⟨u,hr,h6⟩=>?_
     subst hr;refine thn h6 λ_ s7 hq=>?_
     obtain ⟨x,H7,I7,r7,y7,t7,fr7⟩:=hq;have I7':=I7.pinned (λb hb=>fpOk b hb (fr7 b hb)) (T.obj _ _ t7);have pinD:∀ {σ':St} {H':Hp} {s':Shared},Inv X' ([]++pinsAt fp s7.heap) σ' H' s'->tn (i+1) s'.heap/\∀ b∈fp,H' b=none:=λ{σ' H' s'} I'=>by
       have pin:∀ b∈fp,∀ o,s7.heap.get? b=some o->s'.heap.get? b=some o/\H' b=none:=λb hb o e=>by
         have z:=I'.pin (b,o) (yC _ (yC _ (lV hb e)));exact ⟨z.1,z.2.1⟩
       refine ⟨T.keep _ _ _ t7 λb hb o e=>(pin b hb o e).1,λb hb=>?_⟩;obtain ⟨o,e,_⟩:=T.obj _ _ t7 b hb;exact (pin b hb o e).2
     have xf:∀ {α:Type} {t:Sem α} {Q':α->Shared->Prop} {s':Shared},wpAny (model X'.prog X'.w) X'.A t Q' X'.xe s'->wpAny (model X'.prog X'.w) X'.A t Q' Ee s':=λz=>by rw [eX] at z;exact z
     refine thn (xf (hg' _ s7 (capSt n caps σ) H7 x u _ I7' r7 (hgo _ _ _ _ (step x H7 y7)))) λ_ s8 ⟨σ8,H8,I8,⟨l8,d8⟩,q8⟩=>?_
     refine thn (xf (ht' _ s8 σ8 H8 _ I8 q8)) λb s9 ⟨H9,I9,q9⟩=>?_
     cases b with
     | false =>
       rw [if_neg yS];obtain ⟨m',hm,w9⟩:=(show ∃ m',m'<k/\W (i+1) m' H9 by simpa using q9)
       obtain ⟨t9,fr9⟩:=pinD I9;exact ⟨m',hm,i+1,H9,weaken I9 l8 d8,t9,fr9,w9⟩
     | true =>
       rw [if_pos rfl];rw [if_pos rfl] at q9;refine thn (xf (he' _ s9 σ8 H9 _ I9 q9)) λv s10 hq=>?_
       obtain ⟨y,H10,I10,r10,xs,hD,hlen,m',hm,w10⟩:=hq;refine thn (xf (xb _ s10 σ8 H10 (.ref s2.heap.objs.size) [y] (.ref s2.heap.objs.size) [v] (λ_ H'=>H'=upd H10 s2.heap.objs.size (.lst (xs++[y]))) I10 rfl (.cons r10 .nil) ⟨_,xs,y,rfl,rfl,hD,hlen,rfl⟩)) λ_ s11 ⟨_,H11,I11,_,e11⟩=>?_
       subst e11;obtain ⟨t11,fr11⟩:=pinD I11;exact ⟨m',hm,i+1,_,weaken I11 l8 d8,t11,fr11,w10⟩
 exact codeAny_compStart_list loop (T.self _ 0 _ _ _ tn1 loop)
theorem Inv.closure (I:Inv X pins σ H2 s2)(hok:compOk scope X.env.scope=true):∃ cl,closureFor scope X.env=pure cl/\(∀ y c,cl.lookup y=some c->X.env.cells.lookup y=some c)/\∀ y,(y,NameKind.free)∈scope.names->∃ c,cl.lookup y=some c :=
 aF λz hz e=>I.ok.has z.1 (cok_free hok z hz e)
end
section
variable {iter elt:Expr}{ifs:List Expr}{pos:Pos}{wi:TI}{g:TG}{n:Nat}
theorem xZ (own:List Str)(caps:List Nat)(hc:X.calm=true)(hi:PI X tg iter wi)(hg:∀ cl C s₃ H₃ fp,PG (compX X scope own caps cl C s₃ H₃ fp) tg g)(ht:∀ cl C s₃ H₃ fp,PTs (compX X scope own caps cl C s₃ H₃ fp) ifs tt)
   (he:∀ cl C s₃ H₃ fp,PE (compX X scope own caps cl C s₃ H₃ fp) elt te) (hcap:capOk X scope caps) (hgo:gOwn own.length g) (hok:compOk scope X.env.scope=true:=by rfl)
   (hs:∀ x,foldedSetIterable iter X.env x=pure x:=by intro _;rfl):PE X (.ListComp elt [⟨tg,iter,ifs,0⟩] scope pos) (tComp own.length caps wi g tt te):=by
 intro pins s σ H Q I h;obtain ⟨cl,hcl,cl1,cl2⟩:=I.closure hok;rw [eval_ListComp];refine wpAny_comprehension_free (use:=none) rfl hs hcl (ph hok) (fu hok) (thn (hi pins s σ H _ I h) λv s1 h1=>thn h1 λitv s2 h2=>?_);obtain ⟨it,fp,tn,J,H2,e,I2,T,st2,f2,h3⟩:=h2;subst e;refine fj (Xe:=λ_ _ _ _ _=>False) (RR:=λacc en=>compPost (model X.prog X.w) X.A X.xe none (EP X pins σ Q) acc en.locals) (own:=own) (caps:=caps) (n:=own.length) (Q:=Q) hc I2 T st2 f2 hok hcap rfl hgo cl1 cl2 (λC s₃ H₃=>hg cl C s₃ H₃ fp) (λC s₃ H₃=>ht cl C s₃ H₃ fp) (λC s₃ H₃=>he cl C s₃ H₃ fp) h3 ?_ (λ_ _ _ _ _ _ z=>z.elim);intro D C s' H' m hm I' hC q;refine ⟨m,hm,λh' hsb=>⟨.ref D,H',?_,rfl,q⟩⟩;exact I'.turned (it:=C) (t':=s'.toks) (λb o hb e=>(hsb.2 b hb).trans e) hC.1 hC.2.1 hC.2.2.2.1 hC.2.2.2.2.1 hC.2.2.2.2.2
theorem fi {i:Nat}{x:Str}{spos:Pos}(own:List Str)(caps:List Nat)(hN:X.N.Nodup)(hx0:X.N[i]?=some x)(hx:Loc X.env.scope x)(hc:X.calm=true)(hi:PI X tg iter wi)(hg:∀ cl C s₃ H₃ fp,PG (compX X scope own caps cl C s₃ H₃ fp) tg g)(ht:∀ cl C s₃ H₃ fp,PTs (compX X scope own caps cl C s₃ H₃ fp) ifs tt)
   (he:∀ cl C s₃ H₃ fp,PE (compX X scope own caps cl C s₃ H₃ fp) elt te) (hcap:capOk X scope caps) (hgo:gOwn own.length g) (hok:compOk scope X.env.scope=true:=by rfl)
   (hs:∀ x,foldedSetIterable iter X.env x=pure x:=by intro _;rfl) (hsw:swapsWith (.ListComp elt [⟨tg,iter,ifs,0⟩] scope pos) (some (.Name x pos')) spos.line X.env=pure true:=by rfl)
   (hf:X.fn x=true\/X.env.scope.names.lookup x=some .local:=by first | exact .inl rfl | exact .inr rfl | assumption):PS X (.Assign [.Name x pos'] (.ListComp elt [⟨tg,iter,ifs,0⟩] scope pos) spos) (tAsg (tComp own.length caps wi g tt te) (gName i)):=by
 intro pins s σ H D I h;obtain ⟨cl,hcl,cl1,cl2⟩:=I.closure hok;rw [exec_Assign_Name_used _ _ _ _ hsw];refine zt (wpAny_standAt (zt ?_));show wpAny _ _ (do let _ <- comprehension (.ListComp elt [⟨tg,iter,ifs,0⟩] scope pos) scope X.env _ (newList []) false (eval iter X.env) (some (assign (.Name x pos') X.env))) _ _ s;refine zt (xn (wpAny_comprehension_free (use:=some (assign (.Name x pos') X.env)) (Q:=λ_ s'=>SP X pins D .next s') rfl hs hcl (ph hok) (fu hok)
   (thn (hi pins s σ H _ I h) λv s1 h1=>thn h1 λitv s2 h2=>?_)) (λ_ s' hq=>zi (zi hq)) λ_ _ e=>e)
 obtain ⟨it,fp,tn,J,H2,e,I2,T,st2,f2,h3⟩:=h2;subst e;refine fj (Xe:=λ_ _ _ _ _=>False) (RR:=λacc en=>compPost (model X.prog X.w) X.A X.xe (some (assign (.Name x pos') X.env)) (λ_ s'=>SP X pins D .next s') acc en.locals) (own:=own) (caps:=caps) (n:=own.length) (Q:=λx H1=>gName i x σ H1 D.nx) hc I2 T st2 f2 hok hcap rfl hgo cl1 cl2 (λC s₃ H₃=>hg cl C s₃ H₃ fp) (λC s₃ H₃=>ht cl C s₃ H₃ fp) (λC s₃ H₃=>he cl C s₃ H₃ fp) h3 ?_ (λ_ _ _ _ _ _ z=>z.elim);intro A' C s' H' m hm I' hC q;obtain ⟨o,es,ep,ho,hd,r⟩:=id hm;have I'':Inv X (pins++[(C,o)]) σ H' s':=I'.pins_of λp hp=>by
   rcases zY.mp hp with z | z
   . exact I'.pin p (yC _ z)
   . have e:p=(C,o):=by simpa using z
     subst e;exact ⟨ho,hC.1,hC.2.1,hC.2.2.1,λv e=>by rw [hd] at e;cases e⟩
 refine thn (yM hN hx0 hx hf _ s' σ H' (.ref A') (.ref A') _ I'' rfl q) λ_ s2' ⟨σ2,H3',I3,q3⟩=>?_
 have p3:=I3.pin (C,o) (yC _ (yC _ (by simp)));refine ⟨m,⟨o,es,ep,p3.1,hd,r⟩,λh' hsb=>⟨σ2,H3',?_,q3⟩⟩;exact (I3.unpinned (pl:=[(C,o)])).turned (it:=C) (t':=s2'.toks) (λb o hb e=>(hsb.2 b hb).trans e) p3.2.1 p3.2.2.1 hC.2.2.2.1 hC.2.2.2.2.1 hC.2.2.2.2.2
end
theorem rP:bootBuiltins "isinstance"=some (.builtin "isinstance"):=by decide +kernel
theorem fh:bootBuiltins "min"=some (.builtin "min"):=by decide +kernel
theorem aE:bootBuiltins "max"=some (.builtin "max"):=by decide +kernel
def vOf:V->Option Value
 | .ty n=>some (.type n)
 | .ref a=>some (.ref a)
 | _=>none
def rIsi (K:zj):List V->Hp->VK->Prop:=λxs H Q=>∃ x y c t b,xs=[x,y]/\vOf y=some c/\TyOf K H x t/\PySem.W.kitOne K t c=some b/\Q (.bl b) H
theorem call_isi:CallR X (.builtin "isinstance") (rIsi X.K):=by
 intro pins s σ H xs us Q I r h;obtain ⟨x,y,c,t,b,rfl,hy,ht,hk,q⟩:=h;obtain ⟨u,v,rfl,ru,rv⟩:=r.two;have ev:v=c:=by
   cases y with
   | ty n=>cases (show v=Value.type n from rv);exact Option.some.inj hy
   | ref a=>cases (show v=Value.ref a from rv);exact Option.some.inj hy
   | _=>cases hy
 subst ev;exact ao I ru ht hk λtk=>⟨.bl b,H,I.tok _,rfl,q⟩
theorem aD {a:Int}{k:Nat}(h:a.natAbs<2^k):Builtin.Int.intBits a<=k:=by
 unfold Builtin.Int.intBits;split;{exact zV _}
 . rename_i hz
   have h0:a.natAbs≠0:=by
     intro e;have:a=0:=by lia
     subst this;exact hz rfl
   have:=(Nat.log2_lt h0).mpr h;lia
def CShl (i j:Int):Prop:=0<=j/\j<=1000000/\i.natAbs<2^1000
theorem vA:OpR X (binaryOp .LShift) (rI CShl λi j=>.int (i*2^j.toNat)):=opI λi j _ _ _ _ _ hc q=>by
 have h1:=aD hc.2.2;have h2:=hc.2.1;exact lshift_int hc.1 (by lia) q
def rBitLen:V->List V->Hp->VK->Prop:=λx vs H Q=>∃ i,x=.int i/\vs=[]/\Q (.int (Builtin.Int.intBits i)) H
theorem aC:MtR X "int.bit_length" rBitLen:=by intro pins s σ H x vs v us Q I rx rv h;obtain ⟨i,rfl,rfl,q⟩:=h;obtain ⟨t,rfl⟩:=rx;cases rv.zero;exact call_int_bit_length ⟨.int _,H,I.tok _,⟨_,rfl⟩,q⟩
def LoopJ (J:It)(g:TG)(tb:TS)(D:Ends)(σ:St)(H:Hp):Prop:=∃ W:Nat->Nat->St->Hp->Prop,(∃ m,W 0 m σ H)/\∀ i m σ H,W i m σ H ->
 (J.stop i H/\D.nx σ H)\/(J.go i H/\∃ N:St->Hp->Prop,(∀ σ' H',N σ' H'->∃ m',m'<m/\W (i+1) m' σ' H')/\∀ x H',J.yld i H x H'->g x σ H' λσ2 H2=>tb { D with nx:=N,ct:=N,bk:=D.nx } σ2 H2)
theorem fg {wi:TI}{g:TG}{tb:TS}:tFor wi g tb D σ H=wi σ H λJ H1=>LoopJ J g tb D σ H1:=rfl
theorem loopR {lo:Int}{n:Nat}{g:TG}{tb:TS}(Pv:Nat->St->Hp->Prop)(h0:Pv 0 σ H)
   (hs:∀ i σ H,i<n->Pv i σ H->g (.int (lo+i)) σ H λσ2 H2=>tb { D with nx:=Pv (i+1),ct:=Pv (i+1),bk:=D.nx } σ2 H2) (hd:∀ σ H,Pv n σ H->D.nx σ H):LoopJ (Itr lo n) g tb D σ H:=ay Pv h0 hs hd
theorem loopL {a:Addr}{g:TG}{tb:TS}(Pv:Nat->St->Hp->Prop)(h0:Pv 0 σ H)(hl:∀ i σ H,i<=xs.length->Pv i σ H->SqL K H a xs)
   (hs:∀ i x σ H,xs[i]?=some x->Pv i σ H->g x σ H λσ2 H2=>tb { D with nx:=Pv (i+1),ct:=Pv (i+1),bk:=D.nx } σ2 H2) (hd:∀ σ H,Pv xs.length σ H->D.nx σ H):LoopJ (Itl K a) g tb D σ H:=for_list Pv h0 hl hs hd
def CompJ (J:It) (n:Nat) (caps:List Nat) (g:TG) (tt:TT) (te:TE) (σ:St) (H1:Hp) (Q:VK):Prop:=∀ D,H1 D=none->∃ W:Nat->Nat->Hp->Prop,(∃ m,W 0 m (upd H1 D (.lst [])))/\∀ i m H2,W i m H2 ->
 (J.stop i H2/\Q (.ref D) H2)\/(J.go i H2/\∀ x H3,J.yld i H2 x H3->g x (capSt n caps σ) H3 λσ4 H4=>tt σ4 H4 λb H5 =>
   if b=true then te σ4 H5 λy H6=>∃ xs,H6 D=some (.lst xs)/\xs.length<sizeLine/\∃ m',m'<m/\W (i+1) m' (upd H6 D (.lst (xs++[y]))) else ∃ m',m'<m/\W (i+1) m' H5)
theorem fc {n:Nat}{wi:TI}{g:TG}{Q:VK}:tComp n caps wi g tt te σ H Q=wi σ H λJ H1=>CompJ J n caps g tt te σ H1 Q:=rfl
theorem compPure {J:It} {m n:Nat} {g:TG} {Q:VK} (x:Nat->V) (p:Nat->Bool) (f:Nat->V) (hn:n<=1000000)
   (hstop:∀ H2,Same H1 H2->J.stop n H2) (hgo:∀ i H2,i<n->Same H1 H2->J.go i H2) (hy:∀ i H2 v H3,i<n->Same H1 H2->J.yld i H2 v H3->v=x i/\H3=H2)
   (hg:∀ i H2 R,i<n->Same H1 H2->(∀ σ4,σ4=(capSt m caps σ).set 0 (some (x i))->R σ4 H2)->g (x i) (capSt m caps σ) H2 R)
   (ht:∀ i H2 R,i<n->Same H1 H2->R (p i) H2->tt ((capSt m caps σ).set 0 (some (x i))) H2 R)
   (he:∀ i H2 R,i<n->p i=true->Same H1 H2->R (f i) H2->te ((capSt m caps σ).set 0 (some (x i))) H2 R)
   (hq:∀ D,H1 D=none->Q (.ref D) (upd H1 D (.lst (((List.range n).filter p).map f)))):CompJ J m caps g tt te σ H1 Q:=by
 intro D hD;have same:∀ l,Same H1 (upd H1 D (.lst l)):=λl b o e=>by rw [zr (zI e hD)];exact e
 refine ⟨λi k H2=>k=n-i/\i<=n/\H2=upd H1 D (.lst (((List.range i).filter p).map f)),⟨n,rfl,zV _,rfl⟩,?_⟩;rintro i k H2 ⟨rfl,hi,rfl⟩;by_cases hlt:i<n
 . refine .inr ⟨hgo i _ hlt (same _),λv H3 y=>?_⟩;obtain ⟨rfl,rfl⟩:=hy i _ v H3 hlt (same _) y;refine hg i _ _ hlt (same _) λσ4 e4=>?_
   subst e4;refine ht i _ _ hlt (same _) ?_;have step:(List.range (i+1)).filter p=(List.range i).filter p++if p i=true then [i] else []:=by
     rw [tw,uo];congr 1
     cases hp:p i<;>simp [hp]
   cases hp:p i with
   | true =>
     rw [if_pos rfl];refine he i _ _ hlt hp (same _) ⟨_,zq,?_,n-(i+1),by lia,rfl,hlt,?_⟩;{rw [zg];refine wc (vN _ _) ?_;rw [ym,wg];lia}
     . rw [upd_upd,step,hp,if_pos rfl,zD];rfl
   | false =>
     rw [if_neg yS];refine ⟨n-(i+1),by lia,rfl,hlt,?_⟩;rw [step,hp,if_neg yS,yx]
 . have e:i=n:=by lia
   subst e;exact .inl ⟨hstop _ (same _),hq D hD⟩
theorem compR {lo:Int}{m n:Nat}{Q:VK}(p:Nat->Bool)(f:Nat->V)(hn:n<=1000000)
   (ht:∀ i H2 R,i<n->Same H1 H2->R (p i) H2->tt ((capSt m caps σ).set 0 (some (.int (lo+i)))) H2 R)
   (he:∀ i H2 R,i<n->p i=true->Same H1 H2->R (f i) H2->te ((capSt m caps σ).set 0 (some (.int (lo+i)))) H2 R)
   (hq:∀ D,H1 D=none->Q (.ref D) (upd H1 D (.lst (((List.range n).filter p).map f)))):CompJ (Itr lo n) m caps (gName 0) tt te σ H1 Q :=
 compPure (λi=>.int (lo+i)) p f hn (λ_ _=>zk _) (λ_ _ h _=>h) (λ_ _ _ _ _ _ h=>⟨h.2,h.1⟩) (λ_ _ _ _ _ h=>h _ rfl) ht he hq
theorem fb {α β:Type}(p:α->Bool)(f:α->β):∀ (xs:List α) (P:Nat->Bool) (F:Nat->β),(∀ i x,xs[i]?=some x->P i=p x/\F i=f x)->((List.range xs.length).filter P).map F=(xs.filter p).map f
 | [],_,_,_=>rfl
 | x::r,P,F,h=>by
   have e:List.range (x::r).length=0::(List.range r.length).map Nat.succ:=by rw [zZ,mj]
   have ih:=fb p f r (P ∘ Nat.succ) (F ∘ Nat.succ) λi y hy=>h (i+1) y (by simpa using hy)
   obtain ⟨h1,h2⟩:=h 0 x rfl;rw [e,wG,wG,h1,tq];split;{rw [zL,zL,h2,zF,ih]};{rw [zF,ih]}
theorem compL {a:Addr}{m:Nat}{Q:VK}(p:V->Bool)(f:V->V)(hS:SqL K H1 a xs)(hn:xs.length<=1000000)
   (ht:∀ x H2 R,x∈xs->Same H1 H2->R (p x) H2->tt ((capSt m caps σ).set 0 (some x)) H2 R)
   (he:∀ x H2 R,x∈xs->p x=true->Same H1 H2->R (f x) H2->te ((capSt m caps σ).set 0 (some x)) H2 R)
   (hq:∀ D,H1 D=none->Q (.ref D) (upd H1 D (.lst ((xs.filter p).map f)))):CompJ (Itl K a) m caps (gName 0) tt te σ H1 Q:=by
 have get:∀ i,i<xs.length->xs[i]?=some (xs.getD i .non):=λi hi=>by rw [xy,zO hi];rfl
 have mem:∀ i,i<xs.length->xs.getD i .non∈xs:=λi hi=>yb (get i hi)
 refine compPure (λi=>xs.getD i .non) (λi=>p (xs.getD i .non)) (λi=>f (xs.getD i .non)) hn (λH2 s=>⟨xs,s.seq hS,zk _⟩) (λi H2 hi s=>⟨xs,_,s.seq hS,get i hi⟩)
   (λi H2 v H3 hi s y=>⟨?_,y.1⟩) (λi H2 R hi _ h=>h _ rfl) (λi H2 R hi s h=>ht _ H2 R (mem i hi) s h) (λi H2 R hi hp s h=>he _ H2 R (mem i hi) hp s h) (λD hD=>?_)
 . have:=y.2 xs (s.seq hS);rw [get i hi] at this;exact (Option.some.inj this).symm
 . have:=fb p f xs (λi=>p (xs.getD i .non)) (λi=>f (xs.getD i .non)) λi x hx=>by
     have:xs.getD i .non=x:=by rw [xy,hx];rfl
     rw [this];exact ⟨rfl,rfl⟩
   rw [this];exact hq D hD
section
variable {Q:VK}{QT:Bool->Hp->Prop}{QA:List V->Hp->Prop}{ta tb tc:TE}{t u:TS}{tA tB':TT}{tl:TA}{r r':R2}
theorem fZ {i j:Int}:scal (.int i) (.int j)=true:=rfl
theorem fY {i j:Bool}:scal (.bl i) (.bl j)=true:=rfl
theorem fX {i j:Str}:scal (.str i) (.str j)=true:=rfl
theorem tyV_int {i:Int}:tyV K "int" (.int i) H:=rfl
theorem tyV_list {p:Addr}:tyV K "list" (.ref p) H↔∃ xs,SqL K H p xs:=by unfold tyV;simp
theorem rIsi_int {i:Int}:rIsi K [.int i,.ty "int"] H Q↔Q (.bl true) H :=
 ⟨λh=>by
   obtain ⟨x,y,c,t,b,e,hy,ht,hk,q⟩:=h;cases e;cases hy;cases ht;cases hk;exact q,λq=>⟨_,_,_,_,true,rfl,rfl,.int i,rfl,q⟩⟩
theorem aB {i:Int}:rIsi K [.int i,.ty "bool"] H Q↔Q (.bl false) H :=
 ⟨λh=>by
   obtain ⟨x,y,c,t,b,e,hy,ht,hk,q⟩:=h;cases e;cases hy;cases ht;cases hk;exact q,λq=>⟨_,_,_,_,false,rfl,rfl,.int i,rfl,q⟩⟩
end
def FnAt (P:Program)(w:World)(K:zj)(mg:Str->Option Value)(base:Heap)(x:Str)(ps:List Str)(k:Nat)(sp:Sp):Prop :=
 ∃ f fd,FnOk P w K mg base CX0 k f fd ps sp/\mg x=some (.ref f)/\PySem.W.keepIn K (.ref f)=true/\Binds K fd ps []
def DefAt (K:zj)(mg:Str->Option Value)(x:Str)(st:Stmt)(ps:List Str):Prop:=∃ f fd,Fun K x x st f fd/\mg x=some (.ref f)/\Binds K fd ps []
theorem FnAt.of {x:Str}{ps:List Str}{k:Nat}(d:DefAt K mg x st ps)(S:FnScope N ps (defScope st))(len:∀ vs H Q E,sp vs H Q E->vs.length=ps.length)
   (hbody:∀ (f:Addr) (cdv:Value) (A:Around) (outer:List Env) (s:Shared) (H:Hp) (vs:List V) (Q:VK) (E:XK),Room k (A.deeper (envOfC x (defScope st) s.heap.objs.size f cdv))->sp vs H Q E ->
     ∃ t,PSs (cxOf CX0 P w K mg base N x (defScope st) f cdv A outer s H E).nox (defBody st) t/\t { nx:=λ_ H'=>Q .non H',rt:=Q } (start N vs) H):FnAt P w K mg base x ps (k+1) sp:=by
 obtain ⟨f,fd,F,m,b⟩:=d;exact ⟨f,fd,F.ok S len (hbody f),m,F.kp,b⟩
theorem defAt_mk {h:Heap}{x:Str}{ps:List Str}{f:Addr}{oc:Value}{od an:Option Addr}{kV doc pm cdv ct:Value}(X:K.In h)(G:h.Ns mainGlobals mg)(a:PySem.W.nsIn K mainGlobals x=some (some (.ref f)))
   (l:K.lookup f=some ⟨oc,od,.func (PySem.W.fnOf x x (defArgs st) (defBody st) (defScope st) .none kV doc pm an cdv ct),osl⟩) (c:PySem.W.codeIn K cdv x=true) (k:PySem.W.keepIn K (.ref f)=true)
   (hb:∀ (kV doc pm:Value) (an:Option Addr) (cdv ct:Value) (us:List Value),us.length=ps.length->bindArgs (PySem.W.fnOf x x (defArgs st) (defBody st) (defScope st) .none kV doc pm an cdv ct) ⟨us,[]⟩=pure (ps.zip us)):DefAt K mg x st ps :=
 ⟨f,_,uW l c k,uH X G a,(uW l c k).binds hb⟩
section
variable {x:Str}{ps:List Str}{k:Nat}{e:Expr}{es:List Expr}{p pos:Pos}
theorem zc (F:FnAt X.prog X.w X.K X.mg X.base x ps k sp)(ha:PA X (e::es) t)(hr:Room k X.A:=by ext k)(hg:Gl X x:=by rfl)
   (he:starEach (e::es) X.env=(false,eval e X.env)::starEach es X.env:=by rfl) (hdb:(x==("__debug__":Str))=false:=by decide) (hpl:(backTo pos (starEach es X.env)).any (·.1)=false:=by rfl):PE X (.Call (.Name x p) (e::es) [] pos) (tCall sp [] E0 t):=by
 obtain ⟨f,fd,G,m,kp,b⟩:=F;exact pe_call G hr hg m kp b .nil pass0 ha hdb he hpl
end
def rLen (K:zj):List V->Hp->VK->Prop:=λxs H Q=>∃ p ys,xs=[.ref p]/\(SqL K H p ys\/SqT K H p ys)/\Q (.int ys.length) H
def rListOf (K:zj):List V->Hp->VK->Prop:=λxs H Q=>∃ p ys,xs=[.ref p]/\(SqL K H p ys\/SqT K H p ys)/\∀ l,H l=none->Q (.ref l) (upd H l (.lst ys))
theorem wV (K:zj)(h:X.K=K:=by rfl):IxR X (rIxL K):=h ▸ ix_list
theorem k6 (K:zj)(h:X.K=K:=by rfl):IxR X (rIxT K):=h ▸ ix_tup
theorem rO (K:zj)(h:X.K=K:=by rfl):CallR X (.builtin "isinstance") (rIsi K):=h ▸ call_isi
theorem xp (K:zj)(h:X.K=K:=by rfl):CallR X (.builtin "len") (rLen K):=by subst h;exact aY
theorem uU (K:zj)(h:X.K=K:=by rfl):CallR X (.type "list") (rListOf K):=by subst h;exact aX
section
variable {l o e:Expr}{es:List Expr}{tl to:TE}{name:Str}{apos cpos:Pos}{T id:String}{r:V->List V->Hp->VK->Prop}
theorem yK (K:zj)(hl:PE X l tl)(h:X.K=K:=by rfl):PI X tg l (iList K tl):=h ▸ pi_list hl
theorem yt (K:zj)(pa:PlainAttrs T)(slot:Slot T name id)(hty:typeOf (.builtin id)=pure (.type "method_descriptor"))(hm:MtR X id r)(ho:PE X o to)(ha:PA X (e::es) t)(hK:X.K=K:=by rfl)
   (hbase:attributeBase o name X.env (eval o X.env)=eval o X.env:=by rfl)
   (hfew:((backTo cpos (starEach (e::es) X.env)).all (λx=>!x.1)&&(backToKw cpos (keywordEach [] X.env)).all (λx=>x.1.isSome)
     && decide ((e::es).length+([]:List Keyword).length+(if ([]:List Keyword).isEmpty then 0 else 1)<30))=true:=by rfl)
   (hline:(apos.endLine==cpos.line)=true:=by rfl) (hs:starEach (e::es) X.env=(false,eval e X.env)::starEach es X.env:=by rfl) (hplain:(backTo cpos (starEach es X.env)).any (·.1)=false:=by rfl) :
   PE X (.Call (.Attribute o name apos) (e::es) [] cpos) (tBM K T r to t):=hK ▸ pe_bm pa slot hty hm ho ha hbase hfew hline hs hplain
theorem fW (K:zj)(pa:PlainAttrs T)(slot:Slot T name id)(hty:typeOf (.builtin id)=pure (.type "method_descriptor"))(hm:MtR X id r)(ho:PE X o to)(hK:X.K=K:=by rfl)
   (hbase:attributeBase o name X.env (eval o X.env)=eval o X.env:=by rfl) (hline:(apos.endLine==cpos.line)=true:=by rfl):PE X (.Call (.Attribute o name apos) [] [] cpos) (tBM0 K T r to):=hK ▸ pe_bm0 pa slot hty hm ho hbase hline
end
section
variable {rest:List Stmt}{t u:TS}
def tCut (t u:TS):TS:=λD σ H=>∃ Mid:St->Hp->Prop,t { D with nx:=Mid } σ H/\∀ σ' H',Mid σ' H'->u D σ' H'
theorem tO (h1:PS X st t)(h2:PSs X rest u):PSs X (st::rest) (tCut t u):=by
 intro pins s σ H D I h;obtain ⟨Mid,h,hm⟩:=h;refine nE (thn (h1 pins s σ H _ I h) λf s1 q=>?_);cases f with
 | next =>
   obtain ⟨σ1,H1,I1,q1⟩:=q;exact h2 pins s1 σ1 H1 D I1 (hm σ1 H1 q1)
 | brk=>exact q
 | cont=>exact q
 | ret v=>exact q
end
theorem rep0:List.replicate 0 (none:Option V)=[]:=rfl
theorem rep1:List.replicate 1 (none:Option V)=[none]:=rfl
theorem rep2:List.replicate 2 (none:Option V)=[none,none]:=rfl
theorem rep3:List.replicate 3 (none:Option V)=[none,none,none]:=rfl
theorem rep4:List.replicate 4 (none:Option V)=[none,none,none,none]:=rfl
theorem rep5:List.replicate 5 (none:Option V)=[none,none,none,none,none]:=rfl
theorem rep6:List.replicate 6 (none:Option V)=[none,none,none,none,none,none]:=rfl
theorem rep7:List.replicate 7 (none:Option V)=[none,none,none,none,none,none,none]:=rfl
theorem rep9:List.replicate 9 (none:Option V)=[none,none,none,none,none,none,none,none,none]:=rfl
mutual
inductive RdD (K:zj) (H:Hp):V->PyData->Prop
 | non:RdD K H .non .none
 | bl (b:Bool):RdD K H (.bl b) (.bool b)
 | int (i:Int):RdD K H (.int i) (.int i)
 | str (x:Str):RdD K H (.str x) (.str x)
 | lst {a:Addr} {xs:List V} {ds:List PyData} (h:SqL K H a xs) (r:RdDs K H xs ds):RdD K H (.ref a) (.list ds)
 | tup {a:Addr} {xs:List V} {ds:List PyData} (h:SqT K H a xs) (r:RdDs K H xs ds):RdD K H (.ref a) (.tuple ds)
inductive RdDs (K:zj) (H:Hp):List V->List PyData->Prop
 | nil:RdDs K H [] []
 | cons {x:V} {d:PyData} {xs:List V} {ds:List PyData} (h:RdD K H x d) (r:RdDs K H xs ds):RdDs K H (x::xs) (d::ds)
end
theorem Inv.rd (I:Inv X pins σ H s){x:V}{d:PyData}(h:RdD X.K H x d):∀ {u:Value},RelV x u->∃ as,Reads s.heap u d as:=by
 refine RdD.rec (motive_1:=λx d _=>∀ u:Value,RelV x u->∃ as,Reads s.heap u d as) (motive_2:=λxs ds _=>∀ us:List Value,Vals xs us->∃ as,ReadsAll s.heap us ds as) ?_ ?_ ?_ ?_ ?_ ?_ ?_ ?_ h _;{intro _ r;cases r;exact ⟨_,.none⟩};{intro b _ r;cases r;exact ⟨_,.bool b⟩};{intro i _ r;obtain ⟨t,rfl⟩:=r;exact ⟨_,.int i t⟩};{intro x _ r;obtain ⟨t,rfl⟩:=r;exact ⟨_,.str x t⟩};{intro _ _ _ h _ ih _ r;cases r;obtain ⟨its,rv,pl,_⟩:=I.list h;obtain ⟨as,q⟩:=ih _ rv;obtain ⟨o,ho,hc,n,hd⟩:=pl.isList;exact ⟨_,.list ho hc hd (by simpa using q)⟩};{intro _ _ _ h _ ih _ r;cases r;obtain ⟨its,rv,pl,_⟩:=I.tuple h;obtain ⟨as,q⟩:=ih _ rv;obtain ⟨o,ho,hc,n,hd⟩:=pl;exact ⟨_,.tuple ho hc hd (by simpa using q)⟩};{intro _ r;cases r;exact ⟨_,.nil⟩}
 . intro _ _ _ _ _ _ i1 i2 _ r;cases r with
   | cons r1 r2 =>
     obtain ⟨as,q⟩:=i1 _ r1;obtain ⟨bs,p⟩:=i2 _ r2;exact ⟨_,.cons q p⟩
def rNeD (K:zj):R2:=λx y H Q=>∃ d e,RdD K H x d/\RdD K H y e/\SeqAt.shaped d=true/\SeqAt.shaped e=true/\SeqAt.noMix d e=true/\Q (.bl (!PySem.Spec.same d e)) H
theorem op_neD (K:zj)(hu:X.A.units+64<cLine)(h:X.K=K:=by rfl):OpR X (compareOp .NotEq) (rNeD K):=by subst h;intro pins s σ H x y v u Q I rx ry h;obtain ⟨d,e,h1,h2,s1,s2,nm,q⟩:=h;obtain ⟨as,r1⟩:=I.rd h1 rx;obtain ⟨bs,r2⟩:=I.rd h2 ry;exact ne_dataH_same r1 r2 s1 s2 hu nm ⟨.bl _,H,I,rfl,q⟩
theorem hu64 {k:Nat}(hr:Room k A):A.units+64<cLine:=wc (by lia) hr.un
section
variable {Q:VK}{a b:Addr}
end
section
variable {Q:VK}{a b:Addr}
end
def rRng2:List V->Hp->VK->Prop:=λxs H Q=>∃ i j:Int,xs=[.int i,.int j]/\∀ p,H p=none->Q (.ref p) (upd H p (.rng i j))
theorem aA:CallR X (.type "range") rRng2:=by intro pins s σ H xs us Q I r h;obtain ⟨i,j,rfl,q⟩:=h;obtain ⟨u,v,rfl,⟨t,rfl⟩,⟨t',rfl⟩⟩:=r.two;exact call_range_2 ⟨.ref s.heap.objs.size,_,I.laid (o:=.rng i j) (λ_ _ q=>zU _ q) (zk _) ⟨_,_,_,yi _ rfl⟩,rfl,q _ I.fresh⟩
def rngV (a:Int)(n:Nat):List V:=(List.range n).map λ(i:Nat)=>.int (a+i)
def rListRng:List V->Hp->VK->Prop:=λxs H Q=>∃ p lo hi,xs=[.ref p]/\H p=some (.rng lo hi)/\(-(2^62)<=lo/\lo<2^62/\-(2^62)<=hi/\hi<2^62)/\(hi-lo).toNat<=1000000/\∀ l,H l=none->Q (.ref l) (upd H l (.lst (rngV lo (hi-lo).toNat)))
theorem Z9 (hc:X.calm=true):CallR X (.type "list") rListRng:=by
 intro pins s σ H xs us Q I r h;obtain ⟨p,lo,hi,rfl,hp,⟨b1,b2,b3,b4⟩,hn,q⟩:=h;obtain ⟨u,rfl,rx⟩:=vals1 r;cases rx;obtain ⟨t,u,v,e⟩:=I.hok p _ hp;have esz:Builtin.Range.rangeSize lo hi 1=(((hi-lo).toNat:Nat):Int):=by rw [rangeSize_one];split<;>lia
 refine call_list_range (I.ok.hd hc) e (small_one b1 b2 b3 b4) esz (by lia) λh' tk acc' c' hk hS' hacc=>?_
 have hv : Vals (rngV lo (hi-lo).toNat) acc'.toList:=by
   have:∀ (n:Nat) (ws:List Value) (a:Nat),ws.length=n->(∀ j w,ws[j]?=some w->∃ t,w=Value.int (lo+((a+j:Nat):Int)) t)->Vals ((List.range n).map λ(i:Nat)=>V.int (lo+((a+i:Nat):Int))) ws:=by
     intro n;induction n with
     | zero=>intro ws a hl _;cases ws with
       | nil=>exact .nil
       | cons _ _=>cases hl
     | succ n ih =>
       intro ws a hl hw;cases ws with
       | nil=>cases hl
       | cons w0 ws =>
         rw [mj,zL,zF];refine .cons (by obtain ⟨t,e⟩:=hw 0 w0 rfl;exact ⟨t,e⟩) ?_;have:=ih ws (a+1) (by simpa using hl) λj w hj=>by
           obtain ⟨t,e⟩:=hw (j+1) w (by simpa using hj);exact ⟨t,by rw [e];congr 2;lia⟩
         have e2:((λ(i:Nat)=>V.int (lo+((a+i:Nat):Int))) ∘ Nat.succ)=λ(i:Nat)=>V.int (lo+((a+1+i:Nat):Int)):=by funext i;show V.int (lo+((a+(i+1):Nat):Int))=V.int (lo+((a+1+i:Nat):Int));congr 2;lia
         rw [e2];exact this
   have:=this (hi-lo).toNat acc'.toList 0 (by rw [zT];exact hacc.1) λj w hj=>by
     obtain ⟨t,e⟩:=hacc.2 j w (by simpa using hj);exact ⟨t,by rw [e,Int.mul_one,yX]⟩
   unfold rngV;have e3:(λ(i:Nat)=>V.int (lo+((0+i:Nat):Int)))=λ(i:Nat)=>V.int (lo+(i:Int)):=by funext i;rw [yX]
   rw [e3] at this;exact this
 have hz:(rngV lo (hi-lo).toNat).length<=sizeLine:=by unfold rngV;rw [zg,ym,wg];lia
 exact ⟨.ref s.heap.objs.size,_,I.laid (t':=tk) hk (zk _) (show ObjOk X.prog X.w _ h' _ (.lst (rngV lo (hi-lo).toNat)) from ⟨hz,acc'.toList,c',hv,by simpa using hS'⟩),rfl,q _ I.fresh⟩
theorem Z8 (a n:Nat):rngV (a:Int) n=BM.pint (List.range' a n):=by
 unfold rngV BM.pint;rw [List.range'_eq_map_range,zF];refine xG λi _=>?_
 show V.int ((a:Int)+i)=V.int ((a+i:Nat):Int);rw [tm]
section
variable {Q:VK}{p:Addr}
theorem rIsi_str {x:Str}(q:Q (.bl true) H):rIsi K [.str x,.ty "str"] H Q:=⟨_,_,_,_,true,rfl,rfl,.str x,rfl,q⟩
end
end L2
namespace BM
open PySem L2 PyProof.Rows
theorem Z7 {p:Nat}{r:List Nat}(h:Up (p+1) r):Builtin.bitAnd ((wd (p::r):Nat):Int) (-((wd (p::r):Nat):Int))=((2^p:Nat):Int):=by
 have hw:0<wd (p::r):=qB;have e:Builtin.bitAnd ((wd (p::r):Nat):Int) (-((wd (p::r):Nat):Int))=((wd (p::r):Nat):Int)-((((wd (p::r):Nat):Int).toNat &&& (Builtin.bitNot (-((wd (p::r):Nat):Int))).toNat:Nat):Int):=by unfold Builtin.bitAnd;rw [zJ (w6 _),yw (by lia)]
 have e2:(Builtin.bitNot (-((wd (p::r):Nat):Int))).toNat=wd (p::r)-1:=by unfold Builtin.bitNot;lia
 rw [e,e2,yo,lK h];have:wd (p::r)=2^p+wd r:=rfl;rw [this,tm];lia
theorem Z6 {p:Nat}(h:Up 0 (ps++[p])):Builtin.Int.intBits ((wd (ps++[p]):Nat):Int)=p+1:=by
 have h0:0<wd (ps++[p]):=by
   rw [uV];have:0<2^p:=yB (by decide);show 0<wd ps+(2^p+0)
   lia
 unfold Builtin.Int.intBits;rw [if_neg (by rw [xC];lia),Int.natAbs_natCast,log2_wd h]
end BM
namespace L2
open PySem PySem.Spec PyProof.Rows
def Itf (x:Nat->V)(n:Nat):It:=⟨λi _=>i<n,λi H v H'=>H'=H/\v=x i,λi _=>i=n⟩
theorem Z5 {it:Addr}{n:Nat}{Pv:Nat->Value->Prop}{St:Nat->Heap->Prop}{x:Nat->V}{ty:String}
   (hty:["enumerate","zip","dict_itemiterator","dict_reverseitemiterator","odict_iterator","itertools.zip_longest","itertools.pairwise"].contains ty=false)
   (W:∀ A:Around,A.handled=none->Walks P w A it [it] [it] n Pv St) (ob:∀ i h,St i h->∃ o vs,h.get? it=some o/\o.cls=.type ty/\o.data=.fields vs)
   (self:∀ (A:Around) (i:Nat) (s:Shared) (Q:Value->Shared->Prop) (E:Value->Shared->Prop),St i s.heap->Q (.ref it) s->wpAny (model P w) A (pyIter (.ref it)) Q E s)
   (val:∀ i v,i<n->Pv i v->RelV (x i) v) (fr:∀ i h h',St i h->(∀ b∈[it],∀ o,h.get? b=some o->h'.get? b=some o)->St i h'):Turn P w K tg (Itf x n) [it] it St where
 mem:=by simp
 obj:=λi h st b hb=>by
   have e:b=it:=by simpa using hb
   subst e;obtain ⟨o,vs,e,c,d⟩:=ob i h st;exact ⟨o,e,λv z=>by rw [d] at z;cases z⟩
 keep:=fr
 item:=by
   intro X hP hw hK hc i pins s σ H E I hf st hg;subst hP hw hK;obtain ⟨f0,f1,f2,f3,f4,f5⟩:=hf it (by simp);refine (W X.A (I.ok.hd hc)).item i s _ _ hg st λv h' tk hv st' kk=>?_
   have I1:Inv X pins σ H { s with heap:=h',toks:=tk }:=I.turned (λb o hb e=>kk b o (by simpa using hb) e) f0 f1 f3 f4 f5;obtain ⟨o,vs,e,c,d⟩:=ob _ _ st';exact ⟨v,rfl,go_of (s:={ s with heap:=h',toks:=tk }) e c d hty ⟨x i,H,I1,val i v hg hv,⟨rfl,rfl⟩,st',λb hb=>(hf b hb).1⟩⟩
 done:=by intro X hP hw hK hc i pins s σ H E I hf st hg;subst hP hw hK;have hg:i=n:=hg;subst hg;obtain ⟨f0,f1,f2,f3,f4,f5⟩:=hf it (by simp);refine (W X.A (I.ok.hd hc)).done s _ _ st λh' tk kk=>⟨rfl,I.turned (λb o hb e=>kk b o (by simpa using hb) e) f0 f1 f3 f4 f5⟩
 self:=self
def rngN (a b c:Int):Nat:=(Builtin.Range.rangeSize a b c).toNat
def iRng3 (ta:TA):TI:=λσ H R=>ta σ H λvs H1=>∃ a b c:Int,vs=[.int a,.int b,.int c]/\c≠0/\c.natAbs<1000000/\Builtin.Range.small a b c=true/\R (Itf (λi=>.int (a+(i:Nat)*c)) (rngN a b c)) H1
theorem Z4 (a b c:Int):0<=Builtin.Range.rangeSize a b c:=by
 unfold Builtin.Range.rangeSize;split
 . split
   . rename_i h1 h2
     have:=Int.ediv_nonneg (show 0<=b-a-1 by lia) (show 0<=c by lia);lia
   . exact Int.le_refl _
 . split
   . rename_i h1 h2
     have:=Int.ediv_nonneg (show 0<=a-b-1 by lia) (show 0<=-c by lia);lia
   . exact Int.le_refl _
theorem Z3 {a b c:Expr} {ta:TA} {p pos:Pos} (hg:Gl X "range") (hm:X.mg "range"=none) (ha:PA X [a,b,c] ta) (hs:starEach [a,b,c] X.env=[(false,eval a X.env),(false,eval b X.env),(false,eval c X.env)]:=by rfl) (hs2:starEach [b,c] X.env=[(false,eval b X.env),(false,eval c X.env)]:=by rfl) :
   PI X tg (.Call (.Name "range" p) [a,b,c] [] pos) (iRng3 ta):=by
 intro pins s σ H R I h;refine Call_ (vE I hg hm boot_range (tF (thn (ha pos pins s σ H _ I h) λus s1 ⟨vs,H1,I1,r1,q1⟩=>?_) (by rw [hs,hs2]) (by rw [hs2];rfl)));obtain ⟨i,j,k,e,hk,hk2,hsm,q⟩:=q1;subst e;cases r1 with
 | cons r rr =>
   cases rr with
   | cons r' rr =>
     cases rr with
     | cons r'' rr =>
       cases rr;obtain ⟨t,rfl⟩:=r;obtain ⟨t',rfl⟩:=r';obtain ⟨t'',rfl⟩:=r'';refine call_range_3 hk ?_ (.inl (iT (by lia)));refine wpAny_pyIter_range (IsRange.new ..) hsm ?_;have I2:Inv X pins σ H1 { s1 with heap:=s1.heap.push { cls:=.type "range",data:=.fields #[.int i t,.int j t',.int k t''] } }:=I1.kept (t':=s1.toks) λb o e=>zU _ e
       have hn:((rngN i j k:Nat):Int)=Builtin.Range.rangeSize i j k:=by unfold rngN;exact Int.toNat_of_nonneg (Z4 i j k)
       refine ⟨(s1.heap.push { cls:=.type "range",data:=.fields #[.int i t,.int j t',.int k t''] }).objs.size,[(s1.heap.push { cls:=.type "range",data:=.fields #[.int i t,.int j t',.int k t''] }).objs.size],_,_,H1,rfl,
         I2.kept (t':=s1.toks) λb o e=>zU _ e,Z5 (x:=λm=>.int (i+(m:Nat)*k)) (ty:="range_iterator") (by decide) (λA hA=>Walks.range hA _ i k (rngN i j k)) (λ_ h st=>⟨_,_,st,rfl,rfl⟩) (λA _ s Q E st h=>wpAny_pyIter_rangeiter st h) (λm v _ hv=>hv) (λ_ h h' st kk=>kk _ (by simp) _ st),?_,λb hb=>?_,q⟩
       . show IsRangeIter _ _ (i+((0:Nat):Int)*k) (((rngN i j k:Nat):Int)-((0:Nat):Int)) k;have e1:i+((0:Nat):Int)*k=i:=by simp
         have e2:((rngN i j k:Nat):Int)-((0:Nat):Int)=Builtin.Range.rangeSize i j k:=by rw [hn];lia
         rw [e1,e2];exact yi _ rfl
       . have e:b=(s1.heap.push { cls:=.type "range",data:=.fields #[.int i t,.int j t',.int k t''] }).objs.size:=by simpa using hb
         subst e;exact I2.fpOk (zk _) (I2.hok.fresh (zk _))
theorem compF {x:Nat->V}{m n:Nat}{Q:VK}(p:Nat->Bool)(f:Nat->V)(hn:n<=1000000)
   (ht:∀ i H2 R,i<n->Same H1 H2->R (p i) H2->tt ((capSt m caps σ).set 0 (some (x i))) H2 R)
   (he:∀ i H2 R,i<n->p i=true->Same H1 H2->R (f i) H2->te ((capSt m caps σ).set 0 (some (x i))) H2 R)
   (hq:∀ D,H1 D=none->Q (.ref D) (upd H1 D (.lst (((List.range n).filter p).map f)))):CompJ (Itf x n) m caps (gName 0) tt te σ H1 Q :=
 compPure x p f hn (λ_ _=>rfl) (λ_ _ h _=>h) (λ_ _ _ _ _ _ h=>⟨h.2,h.1⟩) (λ_ _ _ _ _ h=>h _ rfl) ht he hq
theorem fV:∀ {xs:List Str} {us:List Value},Vals (xs.map V.str) us->StrsAre us xs
 | [],_,.nil=>.nil
 | _::_,_,.cons ⟨_,e⟩ r=>by subst e;exact .cons _ _ (fV r)
def rJoin (K:zj):V->List V->Hp->VK->Prop:=λx vs H Q=>∃ z p ys,x=.str z/\vs=[.ref p]/\SqL K H p (ys.map V.str)/\(ys.map (·.length)).sum+ys.length*z.length<=16777216/\Q (.str (Txt.join z ys)) H
theorem vV (K:zj)(h:X.K=K:=by rfl):MtR X "str.join" (rJoin K):=by subst h;intro pins s σ H x vs v us Q I rx rv h;obtain ⟨z,p,ys,rfl,rfl,hp,hz,q⟩:=h;obtain ⟨t,rfl⟩:=rx;obtain ⟨u,rfl,ru⟩:=rv.one;cases ru;obtain ⟨its,r,pl,_⟩:=I.list hp;exact join_list pl.isList (by simpa using fV r) hz λt' k=>⟨.str _,H,I.tok _,⟨_,rfl⟩,q⟩
theorem tyV_str {z:Str}:tyV K "str" (.str z) H:=rfl
theorem int_mk {h:Heap}{x:Str}{n:Int}{t:Tok}(X:K.In h)(G:h.Ns mainGlobals mg)(a:PySem.W.nsIn K mainGlobals x=some (some (.int n t))):∃ t,mg x=some (.int n t):=⟨t,uH X G a⟩
def MethAt (P:Program)(w:World)(K:zj)(mg:Str->Option Value)(base:Heap)(C:Addr)(m:Str)(ps:List Str)(k:Nat)(sp:Sp):Prop :=
 Cls K C/\∃ f fd,Meth K C m f/\FnOk P w K mg base CX0 k f fd ps sp/\Binds K fd ps []
def MDefAt (K:zj)(C:Addr)(m qual:Str)(st:Stmt)(ps:List Str):Prop:=∃ f fd,Fun K m qual st f fd/\Meth K C m f/\Binds K fd ps []
def MakeAt (P:Program)(w:World)(K:zj)(mg:Str->Option Value)(base:Heap)(x:Str)(C:Addr)(ps:List Str)(k:Nat)(sp:Sp):Prop :=
 mg x=some (.ref C)/\∃ f fd,Mk K C f/\FnOk P w K mg base CX0 k f fd ps sp/\Binds K fd ps []
def MakerAt (K:zj)(C:Addr)(qual:Str)(st:Stmt)(ps:List Str):Prop:=∃ f fd,Fun K "__init__" qual st f fd/\Mk K C f/\Binds K fd ps []
theorem MethAt.of {m:Str}{ps:List Str}{k:Nat}(c:Cls K C)(d:MDefAt K C m qual st ps)(S:FnScope N ps (defScope st))(len:∀ vs H Q E,sp vs H Q E->vs.length=ps.length)
   (hbody:∀ (f:Addr) (cdv:Value) (A:Around) (outer:List Env) (s:Shared) (H:Hp) (vs:List V) (Q:VK) (E:XK),Room k (A.deeper (envOfC qual (defScope st) s.heap.objs.size f cdv))->sp vs H Q E ->
     ∃ t,PSs (cxOf CX0 P w K mg base N qual (defScope st) f cdv A outer s H E).nox (defBody st) t/\t { nx:=λ_ H'=>Q .non H',rt:=Q } (start N vs) H):MethAt P w K mg base C m ps (k+1) sp:=by
 obtain ⟨f,fd,F,m,b⟩:=d;exact ⟨c,f,fd,m,F.ok S len (hbody f),b⟩
theorem MakeAt.of {x:Str}{ps:List Str}{k:Nat}(hx:mg x=some (.ref C))(d:MakerAt K C qual st ps)(S:FnScope N ps (defScope st))(len:∀ vs H Q E,sp vs H Q E->vs.length=ps.length)
   (hbody:∀ (f:Addr) (cdv:Value) (A:Around) (outer:List Env) (s:Shared) (H:Hp) (vs:List V) (Q:VK) (E:XK),Room k (A.deeper (envOfC qual (defScope st) s.heap.objs.size f cdv))->sp vs H Q E ->
     ∃ t,PSs (cxOf CX0 P w K mg base N qual (defScope st) f cdv A outer s H E).nox (defBody st) t/\t { nx:=λ_ H'=>Q .non H',rt:=Q } (start N vs) H):MakeAt P w K mg base x C ps (k+1) sp:=by
 obtain ⟨f,fd,F,m,b⟩:=d;exact ⟨hx,f,fd,m,F.ok S len (hbody f),b⟩
theorem MethAt.mono {m:Str}{ps:List Str}{j k:Nat}(h:MethAt P w K mg base C m ps j sp)(hjk:j<=k):MethAt P w K mg base C m ps k sp:=by obtain ⟨c,f,fd,me,F,b⟩:=h;exact ⟨c,f,fd,me,F.mono hjk,b⟩
theorem mdef_mk {m:Str}{ps:List Str}{f:Addr}{oc:Value}{od an:Option Addr}{kV doc pm cdv ct:Value}(a:PySem.W.findIn K (.ref C) m=some (some (.ref f)))
   (l:K.lookup f=some ⟨oc,od,.func (PySem.W.fnOf m qual (defArgs st) (defBody st) (defScope st) .none kV doc pm an cdv ct),osl⟩) (c:PySem.W.codeIn K cdv qual=true) (k:PySem.W.keepIn K (.ref f)=true) (fn:PySem.W.isFn K (.ref f)=true)
   (hb:∀ (kV doc pm:Value) (an:Option Addr) (cdv ct:Value) (us:List Value),us.length=ps.length->bindArgs (PySem.W.fnOf m qual (defArgs st) (defBody st) (defScope st) .none kV doc pm an cdv ct) ⟨us,[]⟩=pure (ps.zip us)):MDefAt K C m qual st ps :=
 ⟨f,_,uW l c k,⟨a,fn,k⟩,(uW l c k).binds hb⟩
theorem maker_mk {ps:List Str}{f:Addr}{oc:Value}{od an:Option Addr}{kV doc pm cdv ct:Value}(a:PySem.W.findIn K (.ref C) "__init__"=some (some (.ref f)))
   (l:K.lookup f=some ⟨oc,od,.func (PySem.W.fnOf "__init__" qual (defArgs st) (defBody st) (defScope st) .none kV doc pm an cdv ct),osl⟩) (c:PySem.W.codeIn K cdv qual=true) (k:PySem.W.keepIn K (.ref f)=true) (fn:PySem.W.isFn K (.ref f)=true)
   (mk:PySem.W.makesIn K C=true) (kC:PySem.W.keepIn K (.ref C)=true)
   (hb:∀ (kV doc pm:Value) (an:Option Addr) (cdv ct:Value) (us:List Value),us.length=ps.length->bindArgs (PySem.W.fnOf "__init__" qual (defArgs st) (defBody st) (defScope st) .none kV doc pm an cdv ct) ⟨us,[]⟩=pure (ps.zip us)):MakerAt K C qual st ps :=
 ⟨f,_,uW l c k,⟨mk,a,fn,kC⟩,(uW l c k).binds hb⟩
def tMeD (P:Program)(w:World)(K:zj)(mg:Str->Option Value)(base:Heap)(k0:Nat)(m:Str)(ta:TE)(t:TA):TE:=λσ H Q=>ta σ H λx H1=>∃ a C dx fs ps sp,x=.ref a/\H1 a=some (.ins C dx fs)/\fs.lookup m=none /\
 MethAt P w K mg base C m ps k0 sp/\t σ H1 λvs H2=>sp (x::vs) H2 Q E0
section
variable {k0:Nat}{x m:Str}{p pos apos:Pos}{e o:Expr}{es:List Expr}{ta:TE}
theorem yJ (P:Program)(w:World)(K:zj)(mg:Str->Option Value)(base:Heap)(k0:Nat){pl:Sem Bool}(he:PE X o ta)(ha:PA X (e::es) t)(hr:Room k0 X.A:=by ext k)(hP:X.prog=P:=by rfl)(hw:X.w=w:=by rfl)(hK:X.K=K:=by rfl)(hmg:X.mg=mg:=by rfl)(hbs:X.base=base:=by rfl)
   (hst:starEach (e::es) X.env=(false,eval e X.env)::starEach es X.env:=by rfl) (hpl:(backTo pos (starEach es X.env)).any (·.1)=false:=by rfl)
   (ht:eval (.Call (.Attribute o m apos) (e::es) [] pos) X.env=(do
     let ov <- eval o X.env
     standAt apos.atName
     let (f,first) <- holding [ov] (getMethod ov m pl)
     callWith pos f first (backTo pos (starEach (e::es) X.env)) (backToKw pos (keywordEach [] X.env))):=by rfl) :
   PE X (.Call (.Attribute o m apos) (e::es) [] pos) (tMeD P w K mg base k0 m ta t):=by
 subst hP hw hK hmg hbs;intro pins s σ H Q I h;refine nQ (pl:=pl) (thn (he pins s σ H _ I h) λu s1 hz=>?_) ht;obtain ⟨x,H1,I1,rx,a,C,dx,fs,ps,sp,ex,ea,l,⟨c,f,fd,me,F,b⟩,q⟩:=hz;subst ex;obtain rfl:u=Value.ref a:=rx;refine lQ I1 ea c me l ?_;refine uM (first:=[.ref a]) (h₀:=X.base) I.ok.mod.kin me.kp (thn (ha pos pins s1 σ H1 _ I1 q) λus s2 ⟨vs,H2,I2,r,q2⟩=>⟨I2.kIn,?_⟩) hst hpl;exact qG (us:=.ref a::us) (vs:=.ref a::vs) (dvs:=[]) F hr b .nil pass0 I2 (.cons rfl r) (by rw [yx];exact q2)
theorem xo (P:Program)(w:World)(K:zj)(mg:Str->Option Value)(base:Heap)(k0:Nat){pl:Sem Bool}(he:PE X o ta)(hr:Room k0 X.A:=by ext k)(hP:X.prog=P:=by rfl)(hw:X.w=w:=by rfl)(hK:X.K=K:=by rfl)(hmg:X.mg=mg:=by rfl)(hbs:X.base=base:=by rfl)
   (ht:eval (.Call (.Attribute o m apos) [] [] pos) X.env=(do
     let ov <- eval o X.env
     standAt apos.atName
     let (f,first) <- holding [ov] (getMethod ov m pl)
     callWith pos f first (backTo pos (starEach [] X.env)) (backToKw pos (keywordEach [] X.env))):=by rfl) :
   PE X (.Call (.Attribute o m apos) [] [] pos) (tMeD P w K mg base k0 m ta tNil):=by
 subst hP hw hK hmg hbs;intro pins s σ H Q I h;refine nQ (pl:=pl) (thn (he pins s σ H _ I h) λu s1 hz=>?_) ht;obtain ⟨x,H1,I1,rx,a,C,dx,fs,ps,sp,ex,ea,l,⟨c,f,fd,me,F,b⟩,q⟩:=hz;subst ex;obtain rfl:u=Value.ref a:=rx;refine lQ I1 ea c me l ?_;exact PySem.W.callWith_K0 (first:=[.ref a]) I1.kIn me.kp (qG (us:=[.ref a]) (vs:=[.ref a]) (dvs:=[]) F hr b .nil pass0 I1 (.cons rfl .nil) q)
theorem kx {ps:List Str}{k:Nat}(F:MakeAt X.prog X.w X.K X.mg X.base x C ps k sp)(hr:Room (k+1) X.A)(hg:Gl X x)(ha:PA X (e::es) t)
   (hdb:(x==("__debug__":Str))=false:=by decide) (he:starEach (e::es) X.env=(false,eval e X.env)::starEach es X.env:=by rfl) (hpl:(backTo pos (starEach es X.env)).any (·.1)=false:=by rfl) :
   PE X (.Call (.Name x p) (e::es) [] pos) (tMake C sp [] E0 t):=by
 obtain ⟨hm,f,fd,M,F,b⟩:=F;exact pe_make M F hr hg hm b .nil pass0 ha hdb he hpl
theorem wU (K:zj){value:Expr}{f:Str}{tv:TE}(ha:PE X o ta)(hv:PE X value tv)(hs:swapsWith value (some (.Attribute o f pos')) pos.line X.env=pure false:=by rfl)(h:X.K=K:=by rfl):PS X (.Assign [.Attribute o f pos'] value pos) (sFld K ta tv f):=h ▸ ps_fld ha hv hs
theorem yc (K:zj){f:Str}(he:PE X e ta)(h:X.K=K:=by rfl)(hb:attributeBase e f X.env (eval e X.env)=eval e X.env:=by rfl):PE X (.Attribute e f pos) (tFld K ta f):=h ▸ pe_fld he hb
end
section
variable {k0:Nat}{m f:Str}{ta tv:TE}{Q:VK}{dvs:List V}{E:XK}
theorem vU (K:zj)(h:X.K=K:=by rfl):SlR X (rSlL K):=h ▸ sl_list
theorem vT (K:zj){pos:Pos}{es:List Expr}{k:Nat}{t:TGs}{n:Nat}(hc:X.calm=true)(h:PGs X es t)(hK:X.K=K:=by rfl)
   (hn:(assignEach es X.env).length=n:=by rfl) (hst:(assignEach es X.env).findIdx? (·.1)=none:=by rfl):PG X (.Tuple es k pos) (gTup K n t):=hK ▸ pg_tup hc h hn hst
end
def CompYes (n i:Nat)(D:Addr)(I:Nat->List V->Hp->Prop)(y:V)(H6:Hp):Prop:=∃ xs,H6 D=some (.lst xs)/\xs.length<sizeLine/\∃ m',m'<n-i/\m'=n-(i+1)/\∃ ys,I (i+1) ys (upd H6 D (.lst (xs++[y])))
def CompNo (n i:Nat)(I:Nat->List V->Hp->Prop)(H5:Hp):Prop:=∃ m',m'<n-i/\m'=n-(i+1)/\∃ ys,I (i+1) ys H5
theorem compYes {n i:Nat}{D:Addr}{I:Nat->List V->Hp->Prop}{y:V}{H6:Hp}(hn:n<=1000000)(hi:i<n)(hl:ys.length<=i)(h:H6 D=some (.lst ys))(q:I (i+1) (ys++[y]) (upd H6 D (.lst (ys++[y])))):CompYes n i D I y H6 :=
 ⟨ys,h,by rw [wg];lia,n-(i+1),by lia,rfl,_,q⟩
theorem compNo {n i:Nat}{I:Nat->List V->Hp->Prop}{H5:Hp}(hi:i<n)(q:I (i+1) ys H5):CompNo n i I H5:=⟨n-(i+1),by lia,rfl,_,q⟩
theorem compG {J:It}{m n:Nat}{g:TG}{Q:VK}(I:Addr->Nat->List V->Hp->Prop)
   (h0:∀ D,H1 D=none->I D 0 [] (upd H1 D (.lst []))) (hl:∀ D i ys H2,I D i ys H2->i<=n)
   (hstop:∀ D ys H2,H1 D=none->I D n ys H2->J.stop n H2) (hgo:∀ D i ys H2,H1 D=none->i<n->I D i ys H2->J.go i H2)
   (turn:∀ D i ys H2 x H3,H1 D=none->i<n->I D i ys H2->J.yld i H2 x H3->g x (capSt m caps σ) H3 λσ4 H4=>tt σ4 H4 λb H5=>if b=true then te σ4 H5 λy H6=>CompYes n i D (I D) y H6 else CompNo n i (I D) H5)
   (hq:∀ D ys H2,H1 D=none->I D n ys H2->Q (.ref D) H2):CompJ J m caps g tt te σ H1 Q:=by
 intro D hD;refine ⟨λi k H2=>k=n-i/\∃ ys,I D i ys H2,⟨n,rfl,[],h0 D hD⟩,?_⟩;rintro i k H2 ⟨rfl,ys,hI⟩;have h1:=hl D i ys H2 hI;by_cases hlt:i<n;{exact .inr ⟨hgo D i ys H2 hD hlt hI,λx H3 y=>turn D i ys H2 x H3 hD hlt hI y⟩}
 . have e:i=n:=by lia
   subst e;exact .inl ⟨hstop D ys H2 hD hI,hq D ys H2 hD hI⟩
theorem Same.put {a:Addr}{o:HO}(s:Same H H')(h:H a=none):Same H (upd H' a o):=λb u e=>by rw [zr (zI e h)];exact s b u e
theorem Same.new {a:Addr}{o:HO}(h:H a=none):Same H (upd H a o):=(Same.refl H).put h
section
variable {e:Expr}{p p' pos:Pos}
end
def IsiTo (K:zj)(mg:Str->Option Value)(C:Addr)(x:Str)(b:Bool):Prop:=∀ S,mg x=some (.ref S)->PySem.W.kitOne K (.ref C) (.ref S)=some b
theorem isi_to {h:Heap}{x:Str}{S:Addr}{b:Bool}(X:K.In h)(G:h.Ns mainGlobals mg)(a:PySem.W.nsIn K mainGlobals x=some (some (.ref S)))(r:PySem.W.kitOne K (.ref C) (.ref S)=some b):IsiTo K mg C x b:=λT e=>by
 rw [uH X G a] at e;cases e;exact r
theorem all1 {α:Type}{p:List α->Prop}(h:∀ a,p [a]):∀ us:List α,us.length=1->p us
 | [a],_=>h a
theorem all2 {α:Type}{p:List α->Prop}(h:∀ a b,p [a,b]):∀ us:List α,us.length=2->p us
 | [a,b],_=>h a b
theorem all3 {α:Type}{p:List α->Prop}(h:∀ a b c,p [a,b,c]):∀ us:List α,us.length=3->p us
 | [a,b,c],_=>h a b c
theorem all4 {α:Type}{p:List α->Prop}(h:∀ a b c d,p [a,b,c,d]):∀ us:List α,us.length=4->p us
 | [a,b,c,d],_=>h a b c d
end L2
namespace BM
open PySem L2 PyProof.Rows
theorem and_side {m a b c d:Nat}(ha:a<2^m)(hc:c<2^m):(a+2^m*b) &&& (c+2^m*d)=(a &&& c)+2^m*(b &&& d):=by
 have hac:a &&& c<2^m:=wc Nat.and_le_left ha;apply mX
 intro i;rw [sI];rw [uf a,uf c,uf (a &&& c)];rw [wL _ ha,wL _ hc,wL _ hac];split;{rw [sI]};{rw [sI]}
def msk (k:Nat):Nat->Nat
 | 0=>0
 | n+1=>(2^k-1)+2^(2*k)*msk k n
def lay2 (k:Nat):Nat->Nat->Nat
 | 0,_=>0
 | n+1,w=>(w%2^k+w/2^k%2^k)+2^(2*k)*lay2 k n (w/2^(2*k))
def fs (k:Nat):Nat->Nat->Nat
 | 0,_=>0
 | n+1,w=>w%2^k+fs k n (w/2^k)
theorem fU (k:Nat):∀ (n w:Nat),w &&& msk k (n+1)=w%2^k+2^(2*k)*(w/2^(2*k) &&& msk k n):=by
 intro n w;have h2:2^k<=2^(2*k):=vL (by decide) (by lia);have hp:0<2^k:=yB (by decide);have e:w=w%2^(2*k)+2^(2*k)*(w/2^(2*k)):=(Nat.mod_add_div _ _).symm
 conv=>lhs;rw [e]
 show _ &&& ((2^k-1)+2^(2*k)*msk k n)=_;rw [and_side (yd _ (yB (by decide))) (by lia),Nat.and_two_pow_sub_one_eq_mod];congr 1
 exact Nat.mod_mod_of_dvd _ (mI 2 (by lia))
theorem swar (k:Nat):∀ (n w:Nat),(w &&& msk k n)+((w >>> k) &&& msk k n)=lay2 k n w
 | 0,w=>by show (w &&& 0)+((w >>> k) &&& 0)=0;rw [Nat.and_zero,Nat.and_zero]
 | n+1,w=>by
   rw [fU,fU,mx,sW,<- tX,uf k (2*k),tX,<- sW,<- mx (w/2^(2*k)) k];show _=(w%2^k+w/2^k%2^k)+2^(2*k)*lay2 k n (w/2^(2*k));rw [<- swar k n (w/2^(2*k)),Nat.mul_add];lia
theorem rN {k:Nat}(hk:0<k):∀ (n w:Nat),fs (2*k) n (lay2 k n w)=fs k (2*n) w
 | 0,_=>rfl
 | n+1,w=>by
   have hp:0<2^k:=yB (by decide);have h2:2^k*2<=2^(2*k):=by rw [<- yN];exact vL (by decide) (by lia)
   have a1:=yd w hp;have a2:=yd (w/2^k) hp;have hs:w%2^k+w/2^k%2^k<2^(2*k):=by lia
   show lay2 k (n+1) w%2^(2*k)+fs (2*k) n (lay2 k (n+1) w/2^(2*k))=w%2^k+(w/2^k%2^k+fs k (2*n) (w/2^k/2^k))
   have e:lay2 k (n+1) w=(w%2^k+w/2^k%2^k)+2^(2*k)*lay2 k n (w/2^(2*k)):=rfl;rw [e,mw,uj hs,Nat.add_mul_div_left _ _ (yB (by decide)),Nat.div_eq_of_lt hs,yX,rN hk n,sW,<- tX,<- Nat.two_mul];lia
theorem fs_mod (k : Nat):∀ (n w:Nat),w<2^(k*n)->w%(2^k-1)=fs k n w%(2^k-1)
 | 0, w, h => by have:w=0:=by simpa using h
                 subst this;rfl
 | n + 1,w,h=>by
   have hp:0<2^k:=yB (by decide);have hd:w/2^k<2^(k*n):=by rw [Nat.div_lt_iff_lt_mul hp,<- tX];exact h
   have ih:=fs_mod k n (w/2^k) hd;show _=(w%2^k+fs k n (w/2^k))%(2^k-1);rw [qL,<- ih,<- qL];have e:w=w%2^k+w/2^k+(2^k-1)*(w/2^k):=by
     have:=Nat.mod_add_div w (2^k);have:2^k*(w/2^k)=w/2^k+(2^k-1)*(w/2^k):=by
       generalize w/2^k=q;have z:2^k=1+(2^k-1):=by lia
       conv=>lhs;rw [z]
       rw [Nat.add_mul,Nat.one_mul]
     lia
   conv=>lhs;rw [e]
   rw [mw]
theorem fT {k:Nat}(hk:0<k):∀ (n w:Nat),lay2 k n w<2^(2*k*n)
 | 0,_=>by show 0<2^(2*k*0);exact yB (by decide)
 | n+1,w=>by
   have hp:0<2^k:=yB (by decide);have h2:2^k*2<=2^(2*k):=by rw [<- yN];exact vL (by decide) (by lia)
   have a1:=yd w hp;have a2:=yd (w/2^k) hp;have ih:=fT hk n (w/2^(2*k));have e:lay2 k (n+1) w=(w%2^k+w/2^k%2^k)+2^(2*k)*lay2 k n (w/2^(2*k)):=rfl;rw [e,Nat.mul_succ,uf (2*k*n),tX];have:2^(2*k)*(lay2 k n (w/2^(2*k))+1)<=2^(2*k)*2^(2*k*n):=Nat.mul_le_mul_left _ ih;rw [Nat.mul_succ] at this;lia
theorem fs_one:∀ (n w:Nat),fs 1 n w=((List.range n).filter w.testBit).length
 | 0,_=>rfl
 | n + 1,w=>by
   show w%2^1+fs 1 n (w/2^1)=_;rw [fs_one n,mj,wG,tq];have hc:(List.range n).filter (w/2^1).testBit=(List.range n).filter (w.testBit ∘ Nat.succ):=um λi _=>by
     show (w/2^1).testBit i=w.testBit (i+1);rw [Nat.testBit_succ,Nat.pow_one]
   rw [hc];have h0:w.testBit 0=decide (w%2=1):=Nat.testBit_zero w;rw [h0];rcases Nat.mod_two_eq_zero_or_one w with z | z
   . simp [z]
   . simp [z];lia
theorem fs_le:∀ (n w:Nat),fs 1 n w<=n
 | 0,_=>zk _
 | n+1,w=>by
   show w%2^1+fs 1 n (w/2^1)<=_;have:=fs_le n (w/2^1);have:=yd w (y:=2^1) (by decide);lia
theorem fs_mod16 (w:Nat)(h:w<2^(2*8*16)):w%65535=fs 16 16 w%65535:=by
 have:=fs_mod 16 16 w h;have e:(2:Nat)^16-1=65535:=by decide
 rw [e] at this;exact this
theorem popc (w:Nat):lay2 8 16 (lay2 4 32 (lay2 2 64 (lay2 1 128 w)))%65535=((List.range 256).filter w.testBit).length:=by have h1:=rN (k:=1) (by decide) 128 w;have h2:=rN (k:=2) (by decide) 64 (lay2 1 128 w);have h3:=rN (k:=4) (by decide) 32 (lay2 2 64 (lay2 1 128 w));have h4:=rN (k:=8) (by decide) 16 (lay2 4 32 (lay2 2 64 (lay2 1 128 w)));have b:=fT (k:=8) (by decide) 16 (lay2 4 32 (lay2 2 64 (lay2 1 128 w)));have b1:=fs_le 256 w;generalize lay2 8 16 (lay2 4 32 (lay2 2 64 (lay2 1 128 w)))=z at h4 b ⊢;generalize lay2 4 32 (lay2 2 64 (lay2 1 128 w))=y at h3 h4;generalize lay2 2 64 (lay2 1 128 w)=x at h2 h3;generalize lay2 1 128 w=v at h1 h2;have e1:fs 16 16 z=fs 8 32 y:=h4;have e2:fs 8 32 y=fs 4 64 x:=h3;have e3:fs 4 64 x=fs 2 128 v:=h2;have e4:fs 2 128 v=fs 1 256 w:=h1;rw [fs_mod16 z b,e1,e2,e3,e4,<- fs_one];exact uj (by lia)
theorem msk1:msk 1 128=0x5555555555555555555555555555555555555555555555555555555555555555:=by decide +kernel
theorem msk2:msk 2 64=0x3333333333333333333333333333333333333333333333333333333333333333:=by decide +kernel
theorem msk4:msk 4 32=0x0F0F0F0F0F0F0F0F0F0F0F0F0F0F0F0F0F0F0F0F0F0F0F0F0F0F0F0F0F0F0F0F:=by decide +kernel
theorem msk8:msk 8 16=0x00FF00FF00FF00FF00FF00FF00FF00FF00FF00FF00FF00FF00FF00FF00FF00FF:=by decide +kernel
theorem and_wd {qs:List Nat}(hp:Up 0 ps)(hq:Up 0 qs):wd ps &&& wd qs=wd (ps.filter λp=>decide (p∈qs)):=rT hp.filter λi=>by
 rw [sI,vz hp,vz hq,vI];simp [yv]
theorem fS (f:Nat->Bool):∀ ps:List Nat,wd ps=wd (ps.filter f)+wd (ps.filter λp=>!f p)
 | []=>rfl
 | p::r=>by
   have ih:=fS f r;rw [wG,wG];cases f p with
   | true=>simp only [xU,tj,xk,yO];show 2^p+wd r=2^p+wd _+_;lia
   | false=>simp only [xU,qT,xk,yO];show 2^p+wd r=_+(2^p+wd _);lia
theorem fR {qs:List Nat}(hp:Up 0 ps)(hq:Up 0 qs):wd ps-(wd ps &&& wd qs)=wd (ps.filter λp=>!decide (p∈qs)):=by rw [and_wd hp hq,fS (λp=>decide (p∈qs)) ps];lia
theorem or_wd {qs:List Nat}{n:Nat}(hp:Up 0 ps)(hq:Up 0 qs)(h1:∀ p∈ps,p<n)(h2:∀ p∈qs,p<n):wd ps ||| wd qs=wd ((List.range n).filter λp=>decide (p∈ps)||decide (p∈qs)):=rT (vB _ _) λi=>by
 rw [mC,vz hp,vz hq,vI];simp [yv];intro h;rcases h with h | h
 . exact h1 _ h
 . exact h2 _ h
def bgs (ps:List Nat):List Nat:=ps.filter λp=>!decide (p∈ps.map (·+1))
theorem wd_bgs (hp:Up 0 ps):wd ps-(wd ps &&& (wd ps*2))=wd (bgs ps):=by have e:wd ps*2=wd (ps.map (·+1)):=(gG 1 ps).symm;rw [e];exact fR hp ((hp.shift 1).mono (zV _))
theorem Z2 {p:Nat}:∃ rs a,runsOf (ps++[p])=rs++[(a,p)]:=by
 rw [tQ];rcases wJ (runsOf ps) with e | ⟨rs,⟨a,b⟩,e⟩
 . rw [e];exact ⟨[],p,rfl⟩
 . rw [wI] at e;rw [e];by_cases w:b+1=p
   . exact ⟨rs,a,vy w⟩
   . exact ⟨rs++[(a,b)],p,vx w⟩
theorem runs_bgs (hp:Up 0 ps):(runsOf ps).length=(bgs ps).length:=by
 induction ps using snocInd with
 | nil=>rfl
 | snoc ps p ih =>
   have up:Up 0 ps:=hp.left;have lt:∀ q∈ps,q<p:=hp.last;have ih:=ih up
   have hb : bgs (ps++[p])=bgs ps++(if p∈ps.map (·+1) then [] else [p]):=by
     unfold bgs;rw [uo,zD];congr 1
     . apply um
       intro q hq;have:q≠p+1:=by have:=lt q hq;lia
       have e:(q∈List.map (·+1) ps++List.map (·+1) [p])↔q∈List.map (·+1) ps:=by
         rw [zY];constructor
         . intro h;rcases h with h | h
           . exact h
           . simp at h;lia
         . exact .inl
       simp only [e]
     . have e:(p∈List.map (·+1) ps++List.map (·+1) [p])↔p∈List.map (·+1) ps:=by
         rw [zY];constructor
         . intro h;rcases h with h | h
           . exact h
           . simp at h
         . exact .inl
       rw [wG];simp only [e];by_cases w:p∈List.map (·+1) ps;{rw [if_pos w];simp [w]};{rw [if_neg w];simp [w]}
   rw [hb,zh,<- ih,tQ];rcases wJ ps with e | ⟨qs,q,e⟩
   . subst e;simp [runsOf,addP]
   . rw [wI] at e
     subst e;obtain ⟨rs,a,er⟩:=Z2 (ps:=qs) (p:=q);rw [er];by_cases w:q+1=p;{rw [vy w,if_pos (by simp [w])];simp}
     . rw [vx w,if_neg ?_]
       . simp
       . intro z;rw [zD,zY] at z;rcases z with z | z
         . obtain ⟨x,hx,e⟩:=zR.mp z;have l1:x<q:=Up.last (ys:=[p]) (by rw [zX] at hp;exact hp) x hx;have l2:=lt q (by simp);lia
         . simp at z;lia
theorem andNot (x y:Nat):Builtin.bitAnd (x:Int) (Builtin.bitNot (y:Int))=((x-(x &&& y):Nat):Int):=by
 have e:Builtin.bitAnd (x:Int) (Builtin.bitNot (y:Int))=(x:Int)-(((x:Int).toNat &&& (Builtin.bitNot (Builtin.bitNot (y:Int))).toNat:Nat):Int):=by unfold Builtin.bitAnd;rw [zJ (w6 _),yw (by unfold Builtin.bitNot;lia)]
 have e2:Builtin.bitNot (Builtin.bitNot (y:Int))=y:=by unfold Builtin.bitNot;lia
 have:x &&& y<=x:=Nat.and_le_left;rw [e,e2,yo,yo];lia
theorem less_wdI {qs:List Nat}(hp:Up 0 ps)(hq:Up 0 qs):Builtin.bitAnd ((wd ps:Nat):Int) (Builtin.bitNot ((wd qs:Nat):Int))=((wd (ps.filter λp=>!decide (p∈qs)):Nat):Int):=by rw [andNot,fR hp hq]
theorem ku {qs:List Nat}{n:Nat}(hp:Up 0 ps)(hq:Up 0 qs)(h1:∀ p∈ps,p<n)(h2:∀ p∈qs,p<n):Builtin.bitOr ((wd ps:Nat):Int) ((wd qs:Nat):Int)=((wd ((List.range n).filter λp=>decide (p∈ps)||decide (p∈qs)):Nat):Int):=by rw [lJ (w6 _) (w6 _),yo,yo,or_wd hp hq h1 h2]
theorem bgs_wdI (hp:Up 0 ps):Builtin.bitAnd ((wd ps:Nat):Int) (Builtin.bitNot ((wd ps:Nat)*2^(1:Int).toNat:Int))=((wd (bgs ps):Nat):Int):=by
 have e:((wd ps:Nat)*2^(1:Int).toNat:Int)=((wd ps*2:Nat):Int):=by rw [Int.natCast_mul];rfl
 rw [e,andNot,wd_bgs hp]
theorem len_pl (h:Up 0 ps)(hn:∀ p∈ps,p<256):((List.range 256).filter (wd ps).testBit).length=ps.length:=by have:=pl_wd h hn;unfold pl at this;rw [this]
theorem swarI {k n w:Nat}{m d:Int}(hm:m=((msk k n:Nat):Int))(hd:d=((2^k:Nat):Int)):Builtin.bitAnd (w:Int) m+Builtin.bitAnd ((w:Int)/d) m=((lay2 k n w:Nat):Int):=by subst hm hd;rw [<- Int.natCast_ediv,bitAnd_pp (w6 _) (w6 _),bitAnd_pp (w6 _) (w6 _),yo,yo,yo,<- tm,<- swar k n w,mx]
theorem countI (h:Up 0 ps)(hn:∀ p∈ps,p<256):((lay2 8 16 (lay2 4 32 (lay2 2 64 (lay2 1 128 (wd ps)))):Nat):Int)%65535=(ps.length:Int):=by have e:=popc (wd ps);rw [len_pl h hn] at e;rw [<- e,mL];rfl
theorem bgs_wdI2 (hp:Up 0 ps):Builtin.bitAnd ((wd ps:Nat):Int) (Builtin.bitNot (((wd ps:Nat):Int)*2))=((wd (bgs ps):Nat):Int):=bgs_wdI hp
theorem bgs_lt (h:∀ p∈ps,p<256):∀ p∈bgs ps,p<256:=λp hp=>h p (yv.mp hp).1
theorem wd_abs (h:Up 0 ps)(hn:∀ p∈ps,p<256):(((wd ps:Nat):Int)).natAbs<2^1000:=by rw [Int.natAbs_natCast];exact ya (h.lt' hn) (vL (by decide) (by decide))
end BM
namespace L2
open PySem PySem.Spec PyProof.Rows
theorem Inv.turnedNew {ch:List Addr} {T:Addr} {o:HO} (I:Inv X pins σ H s) (hf:∀ b∈ch,FpOk X pins H b) (k:∀ b u,b∉ch->s.heap.get? b=some u->h'.get? b=some u) (hT:s.heap.objs.size<=T)
   (new:ObjOk X.prog X.w (upd H T o) h' T o):Inv X pins σ (upd H T o) { s with heap:=h',toks:=t' }:=by
 have nT:H T=none:=I.hok.fresh hT;have nch:∀ b u,H b=some u->b∉ch:=λb u e z=>by
   rw [(hf b z).1] at e;cases e
 have neT:∀ b u,s.heap.get? b=some u->b≠T:=λb u e z=>absurd (ya (zW e) (by rw [z];exact hT)) (xh _)
 have lch:X.env.locals∉ch:=λz=>(hf _ z).2.1 rfl
 refine I.step (g':=s.gens) (d':=s.drawn) (ch:=ch) (λb hb=>?_) (λb u _ _ hc e _=>k b u hc e) (λb u _ _ hc e _=>⟨u.slots,k b u hc e⟩) (λb u _ e n=>?_) (λb u hc e=>⟨u,k b u hc e⟩) (λb xs e=>?_) (λb u v e=>?_) (λb ps e=>⟨#[],?_⟩) (λm hm=>?_) (λb u e=>?_) I.bare;{obtain ⟨_,f1,_,f3,f4,f5⟩:=hf b hb;exact ⟨f3,f1,f4,f5⟩};{rw [zr (neT b u e)];exact n};{rw [zr (zI e nT)];exact e};{rw [zr (zI e nT)];exact e};{rw [zr (zI e nT),e];simp};{obtain ⟨u,es,ep,ho,r⟩:=hm;exact ⟨u,es,ep,k _ u lch ho,r⟩}
 . by_cases hb:b=T
   . subst hb;rw [zq] at e;cases e;exact new
   . rw [zr hb] at e;refine (I.hok b u e).stay (λc v hc q=>k c v ?_ q) (λc q=>?_) λc xs q=>?_
     . rcases hc with z | z
       . rw [z];exact nch b u e
       . exact nch c _ z
     . rw [zr (zI q nT)];exact q
     . rw [zr (zI q nT)];exact q
theorem Inv.turnedL {ch:List Addr}(I:Inv X pins σ H s)(hf:∀ b∈ch,FpOk X pins H b)(k:∀ b u,b∉ch->s.heap.get? b=some u->h'.get? b=some u):Inv X pins σ H { s with heap:=h',toks:=t' }:=by
 have nch:∀ b u,H b=some u->b∉ch:=λb u e z=>by
   rw [(hf b z).1] at e;cases e
 have lch:X.env.locals∉ch:=λz=>(hf _ z).2.1 rfl
 refine I.step (g':=s.gens) (d':=s.drawn) (ch:=ch) (λb hb=>?_) (λb u _ _ hc e _=>k b u hc e) (λb u _ _ hc e _=>⟨u.slots,k b u hc e⟩) (λ_ _ _ _ n=>n) (λb u hc e=>⟨u,k b u hc e⟩) (λ_ _ e=>e) (λ_ _ _ e=>e) (λb ps e=>⟨#[],by rw [e];simp⟩) (λm hm=>?_) (λb u e=>?_) I.bare;{obtain ⟨_,f1,_,f3,f4,f5⟩:=hf b hb;exact ⟨f3,f1,f4,f5⟩};{obtain ⟨u,es,ep,ho,r⟩:=hm;exact ⟨u,es,ep,k _ u lch ho,r⟩}
 . refine (I.hok b u e).stay (λc v hc q=>k c v ?_ q) (λ_ q=>q) λ_ _ q=>q
   rcases hc with z | z
   . rw [z];exact nch b u e
   . exact nch c _ z
section
variable {x:V}{Q:VK}
end
end L2
namespace ZT
open PySem PySem.Spec PyProof.Rows
theorem size_push {h:Heap}{o:Obj}:(h.push o).objs.size=h.objs.size+1:=uv ..
end ZT
namespace Srt
open PySem PyProof.Rows
def gallop':Bool->Keyed->Array Keyed->Nat->Nat->Nat->StateT SortSt Sem (Option Nat):=sortPriv% PySem.Builtin.gallop
def beyond' (left:Bool)(key:Keyed)(arr:Array Keyed)(base i:Nat):StateT SortSt Sem (Option Bool):=do
 let x <- elem' arr (base+i)
 if left then lt' x key else return (<- lt' key x).map (!·)
structure Cmp (M:Model)(A:Around)(E:Value->Shared->Prop)(s:Shared)(kd:SortKind)(S:Keyed->Prop)(L:Keyed->Keyed->Bool):Prop where
 lt:∀ (x y:Keyed) (st:SortSt) (Q:Option Bool->SortSt->Prop),S x->S y->kindOf st=kd->Q (some (L x y)) st->wpS M A E s (lt' x y) Q st
 asym:∀ x y,L x y=true->L y x=false
 neg:∀ x y z,S x->S y->S z->L x z=true->L x y=true\/L y z=true
section
variable {M:Model}{kd:SortKind}{S:Keyed->Prop}{L:Keyed->Keyed->Bool}
def pb (L:Keyed->Keyed->Bool)(left:Bool)(key:Keyed)(arr:Array Keyed)(base i:Nat):Bool:=match arr[base+i]? with
 | some x=>if left then L x key else !L key x
 | none=>false
theorem yV {arr:Array Keyed}{i:Nat}{x:Keyed}{st:SortSt}{Q:Keyed->SortSt->Prop}(e:arr[i]?=some x)(h:Q x st):wpS M A E s (elem' arr i) Q st:=by rw [elem'_eq,e];exact ze h
theorem Z1 (C:Cmp M A E s kd S L){left:Bool}{key:Keyed}{arr:Array Keyed}{base i:Nat}{st:SortSt}{Q:Option Bool->SortSt->Prop}(hk:kindOf st=kd)(sk:S key)(sa:∀ x∈arr.toList,S x)(hi:base+i<arr.size)
   (h:Q (some (pb L left key arr base i)) st):wpS M A E s (beyond' left key arr base i) Q st:=by
 have e:arr[base+i]?=some (arr[base+i]'hi):=y3 arr (base+i) hi;have sx:S (arr[base+i]'hi):=sa _ (by simp);unfold pb at h;rw [e] at h;unfold beyond';refine zm (yV e ?_);cases left with
 | true=>exact C.lt _ _ _ _ sx sk hk h
 | false =>
   simp only [xk,yO] at h ⊢;exact zm (C.lt _ _ _ _ sk sx hk (ze h))
theorem tN  (C:Cmp M A E s kd S L) {left:Bool} {key:Keyed} {arr:Array Keyed} {base n hint:Nat} {st:SortSt} {Q:Option Nat->SortSt->Prop} (hk:kindOf st=kd) (sk:S key) (sa:∀ x∈arr.toList,S x) (hn:base+n<=arr.size) (hh:hint<n)
   (mono:∀ i j,i<=j->j<n->pb L left key arr base j=true->pb L left key arr base i=true)
   (h:∀ k,k<=n->(∀ i,i<k->pb L left key arr base i=true)->(∀ i,k<=i->i<n->pb L left key arr base i=false)->Q (some k) st):wpS M A E s (gallop' left key arr base n hint) Q st:=by
 unfold gallop'
 k_delta "gallop"
 dsimp only;generalize hp:pb L left key arr base=p at mono h;have monoF:∀ i j,i<=j->j<n->p i=false->p j=false:=λi j hij hj hi=>by
   cases e:p j with
   | false=>rfl
   | true=>rw [mono i j hij hj e] at hi;cases hi
 have ask:∀ {i:Nat} {Q':Option Bool->SortSt->Prop},i<n->Q' (some (p i)) st->wpS M A E s (beyond' left key arr base i) Q' st:=λhi q =>
   Z1 C hk sk sa (by lia) (by rw [hp];exact q)
 refine zm (ask hh ?_);dsimp only;cases e0:p hint with
 | true =>
   rw [if_pos rfl];refine zm (xv (yD (I:=λx c st'=>st=st'/\c.1=none/\c.2.1<c.2.2/\hint+c.2.1<n/\x+1<=c.2.2/\p (hint+c.2.1)=true)
     (Q:=λc st'=>st=st'/\c.1=none/\c.2.1<c.2.2/\hint+c.2.1<n/\p (hint+c.2.1)=true/\(c.2.2≥n-hint\/p (hint+c.2.2)=false)) ?step ?fin ?init) ?post)
   case init=>exact ⟨rfl,rfl,Nat.one_pos,hh,zk _,e0⟩
   case fin =>
     rintro ⟨c1,c2,c3⟩ st' ⟨rfl,e1,g1,g2,g3,g4⟩;refine ⟨rfl,e1,g1,g2,g4,.inl ?_⟩;dsimp only at *;lia
   case step =>
     rintro x ⟨c1,c2,c3⟩ st' _ hx ⟨rfl,e1,g1,g2,g3,g4⟩;dsimp only at *;subst e1;by_cases hlt:c3≥n-hint;{rw [if_pos hlt];exact ze ⟨rfl,rfl,g1,g2,g4,.inl hlt⟩}
     . rw [if_neg hlt]
       refine zm (ask (by lia) ?_);dsimp only;cases e:p (hint+c3) with
       | true =>
         rw [if_neg (by decide)];refine ze ⟨rfl,rfl,?_,?_,?_,e⟩;{show c3<2*c3+1;lia};{show hint+c3<n;lia}
         . show x+1+1<=2*c3+1;lia
       | false =>
         rw [if_pos (by decide)];exact ze ⟨rfl,rfl,g1,g2,g4,.inr e⟩
   case post =>
     rintro ⟨c1,c2,c3⟩ st' ⟨rfl,e1,g1,g2,g4,g5⟩;dsimp only at *;subst e1;dsimp only;have h1:hint+c2+1<=hint+min c3 (n-hint):=by lia
     have h2:hint+min c3 (n-hint)<=n:=by lia
     have h3:∀ i,i<hint+c2+1->p i=true:=λi hi=>mono i (hint+c2) (by lia) g2 g4
     have h4:∀ i,hint+min c3 (n-hint)<=i->i<n->p i=false:=by
       intro i hi hin;rcases g5 with z | z
       . lia
       . by_cases hc:c3≥n-hint
         . lia
         . exact monoF _ i (by lia) hin z
     clear g1 g2 g4 g5;refine zm (xv (yD (I:=λx c st'=>st=st'/\c.1=none/\c.2.1<=c.2.2/\c.2.2<=n/\(c.2.2-c.2.1<=n-x)/\(∀ i,i<c.2.1->p i=true)/\(∀ i,c.2.2<=i->i<n->p i=false))
       (Q:=λc st'=>st=st'/\c.1=none/\c.2.2<=n/\(∀ i,i<c.2.2->p i=true)/\(∀ i,c.2.2<=i->i<n->p i=false)) ?step2 ?fin2 ?init2) ?post2)
     case init2=>exact ⟨rfl,rfl,h1,h2,yl (Nat.sub_le _ _) h2,h3,h4⟩
     case fin2 =>
       rintro ⟨c1,c2,c3⟩ st' ⟨rfl,e1,g1,g2,g3,g4,g5⟩;dsimp only at *;have:c2=c3:=by lia
       subst this;exact ⟨rfl,e1,g2,g4,g5⟩
     case post2 =>
       rintro ⟨c1,c2,c3⟩ st' ⟨rfl,e1,g2,g4,g5⟩;dsimp only at *;subst e1;exact ze (h _ g2 g4 g5)
     case step2 =>
       rintro x ⟨c1,c2,c3⟩ st' _ hx ⟨rfl,e1,g1,g2,g3,g4,g5⟩;dsimp only at *;subst e1;by_cases hlt:c2≥c3
       . rw [if_pos hlt];have:c2=c3:=by lia
         subst this;exact ze ⟨rfl,rfl,g2,g4,g5⟩
       . rw [if_neg hlt]
         refine zm (ask (by lia) ?_);dsimp only;cases e:p (c2+(c3-c2)/2) with
         | true =>
           rw [if_pos rfl];refine ze ⟨rfl,rfl,?_,g2,?_,λi hi=>?_,g5⟩;{show c2+(c3-c2)/2+1<=c3;lia}
           . show c3-(c2+(c3-c2)/2+1)<=n-(x+1)
             lia
           . have hi:i<c2+(c3-c2)/2+1:=hi;exact mono i _ (by lia) (by lia) e
         | false =>
           rw [if_neg (by decide)];refine ze ⟨rfl,rfl,?_,?_,?_,g4,λi hi hin=>monoF _ i hi hin e⟩;{show c2<=c2+(c3-c2)/2;lia};{show c2+(c3-c2)/2<=n;lia}
           . show c2+(c3-c2)/2-c2<=n-(x+1)
             lia
 | false =>
   rw [if_neg (by decide)];refine zm (xv (yD (I:=λx c st'=>st=st'/\c.1=none/\c.2.1<c.2.2/\c.2.1<=hint/\x+1<=c.2.2/\p (hint-c.2.1)=false)
     (Q:=λc st'=>st=st'/\c.1=none/\c.2.1<c.2.2/\c.2.1<=hint/\p (hint-c.2.1)=false/\(c.2.2≥hint+1\/p (hint-c.2.2)=true)) ?step ?fin ?init) ?post)
   case init=>exact ⟨rfl,rfl,Nat.one_pos,zV _,zk _,e0⟩
   case fin =>
     rintro ⟨c1,c2,c3⟩ st' ⟨rfl,e1,g1,g2,g3,g4⟩;refine ⟨rfl,e1,g1,g2,g4,.inl ?_⟩;dsimp only at *;lia
   case step =>
     rintro x ⟨c1,c2,c3⟩ st' _ hx ⟨rfl,e1,g1,g2,g3,g4⟩;dsimp only at *;subst e1;by_cases hlt:c3≥hint+1;{rw [if_pos hlt];exact ze ⟨rfl,rfl,g1,g2,g4,.inl hlt⟩}
     . rw [if_neg hlt]
       refine zm (ask (by lia) ?_);dsimp only;cases e:p (hint-c3) with
       | true =>
         rw [if_pos rfl];exact ze ⟨rfl,rfl,g1,g2,g4,.inr e⟩
       | false =>
         rw [if_neg (by decide)];refine ze ⟨rfl,rfl,?_,?_,?_,e⟩;{show c3<2*c3+1;lia};{show c3<=hint;lia};{show x+1+1<=2*c3+1;lia}
   case post =>
     rintro ⟨c1,c2,c3⟩ st' ⟨rfl,e1,g1,g2,g4,g5⟩;dsimp only at *;subst e1;dsimp only;have h1:hint+1-min c3 (hint+1)<=hint-c2:=by lia
     have h2:hint-c2<=n:=by lia
     have h3:∀ i,i<hint+1-min c3 (hint+1)->p i=true:=by
       intro i hi;rcases g5 with z | z
       . lia
       . by_cases hc:c3≥hint+1
         . lia
         . exact mono i (hint-c3) (by lia) (by lia) z
     have h4:∀ i,hint-c2<=i->i<n->p i=false:=λi hi hin=>monoF _ i hi hin g4
     clear g1 g2 g4 g5;refine zm (xv (yD (I:=λx c st'=>st=st'/\c.1=none/\c.2.1<=c.2.2/\c.2.2<=n/\(c.2.2-c.2.1<=n-x)/\(∀ i,i<c.2.1->p i=true)/\(∀ i,c.2.2<=i->i<n->p i=false))
       (Q:=λc st'=>st=st'/\c.1=none/\c.2.2<=n/\(∀ i,i<c.2.2->p i=true)/\(∀ i,c.2.2<=i->i<n->p i=false)) ?step2 ?fin2 ?init2) ?post2)
     case init2=>exact ⟨rfl,rfl,h1,h2,yl (Nat.sub_le _ _) h2,h3,h4⟩
     case fin2 =>
       rintro ⟨c1,c2,c3⟩ st' ⟨rfl,e1,g1,g2,g3,g4,g5⟩;dsimp only at *;have:c2=c3:=by lia
       subst this;exact ⟨rfl,e1,g2,g4,g5⟩
     case post2 =>
       rintro ⟨c1,c2,c3⟩ st' ⟨rfl,e1,g2,g4,g5⟩;dsimp only at *;subst e1;exact ze (h _ g2 g4 g5)
     case step2 =>
       rintro x ⟨c1,c2,c3⟩ st' _ hx ⟨rfl,e1,g1,g2,g3,g4,g5⟩;dsimp only at *;subst e1;by_cases hlt:c2≥c3
       . rw [if_pos hlt];have:c2=c3:=by lia
         subst this;exact ze ⟨rfl,rfl,g2,g4,g5⟩
       . rw [if_neg hlt]
         refine zm (ask (by lia) ?_);dsimp only;cases e:p (c2+(c3-c2)/2) with
         | true =>
           rw [if_pos rfl];refine ze ⟨rfl,rfl,?_,g2,?_,λi hi=>?_,g5⟩;{show c2+(c3-c2)/2+1<=c3;lia}
           . show c3-(c2+(c3-c2)/2+1)<=n-(x+1)
             lia
           . have hi:i<c2+(c3-c2)/2+1:=hi;exact mono i _ (by lia) (by lia) e
         | false =>
           rw [if_neg (by decide)];refine ze ⟨rfl,rfl,?_,?_,?_,g4,λi hi hin=>monoF _ i hi hin e⟩;{show c2<=c2+(c3-c2)/2;lia};{show c2+(c3-c2)/2<=n;lia}
           . show c2+(c3-c2)/2-c2<=n-(x+1)
             lia
end
structure Ord (S:Keyed->Prop)(L:Keyed->Keyed->Bool):Prop where
 asym:∀ x y,L x y=true->L y x=false
 neg:∀ x y z,S x->S y->S z->L x z=true->L x y=true\/L y z=true
abbrev Rise (L:Keyed->Keyed->Bool)(l:List Keyed):Prop:=l.Pairwise λx y=>L y x=false
section
variable {S:Keyed->Prop}{L:Keyed->Keyed->Bool}
theorem Ord.step (O:Ord S L){x y z:Keyed}(sx:S x)(sy:S y)(sz:S z)(h1:L z y=false)(h2:L y x=false):L z x=false:=by
 cases e:L z x with
 | false=>rfl
 | true =>
   rcases O.neg z y x sz sy sx e with q | q
   . rw [q] at h1;cases h1
   . rw [q] at h2;cases h2
structure MI (L:Keyed->Keyed->Bool)(al bl ol:List Keyed)(ia ib:Nat):Prop where
 perm:ol.Perm (al.take ia++bl.take ib)
 rise:Rise L ol
 lea:∀ x∈ol,∀ y∈al.drop ia,L y x=false
 leb:∀ x∈ol,∀ y∈bl.drop ib,L y x=false
 ha:ia<=al.length
 hb:ib<=bl.length
theorem MI.len {al bl ol:List Keyed}{ia ib:Nat}(h:MI L al bl ol ia ib):ol.length=ia+ib:=by rw [h.perm.length_eq,zh,zE,zE];have:=h.ha;have:=h.hb;lia
theorem fQ {α:Type}(l:List α)(i k:Nat):l.take (i+k)=l.take i++(l.drop i).take k:=by rw [List.take_add]
theorem fP {α:Type}{l:List α}{i k:Nat}{y:α}(h:y∈l.drop (i+k)):y∈l.drop i:=by rw [<- ug] at h;exact wH h
theorem fO {l:List Keyed}(h:Rise L l)(i k:Nat):∀ x∈(l.drop i).take k,∀ y∈l.drop (i+k),L y x=false:=by intro x hx y hy;have h2:Rise L (l.drop i):=h.sublist (xi _ _);rw [<- ye k (l.drop i)] at h2;rw [<- ug] at hy;exact (y4.mp h2).2.2 x hx y hy
theorem MI.takeB {al bl ol:List Keyed}{ia ib:Nat}(h:MI L al bl ol ia ib)(rb:Rise L bl)(k:Nat)(hk:ib+k<=bl.length)(c:∀ y∈(bl.drop ib).take k,∀ z∈al.drop ia,L z y=false):MI L al bl (ol++(bl.drop ib).take k) ia (ib+k) where
 perm:=by rw [fQ,<- zX];exact h.perm.append_right _
 rise:=y4.mpr ⟨h.rise,(rb.sublist (xi _ _)).sublist (xj _ _),λx hx y hy=>h.leb x hx y (xH hy)⟩
 lea:=λx hx y hy=>by
   rcases zY.mp hx with z | z
   . exact h.lea x z y hy
   . exact c x z y hy
 leb:=λx hx y hy=>by
   rcases zY.mp hx with z | z
   . exact h.leb x z y (fP hy)
   . exact fO rb ib k x z y hy
 ha:=h.ha
 hb:=hk
theorem MI.takeA {al bl ol:List Keyed}{ia ib:Nat}(h:MI L al bl ol ia ib)(ra:Rise L al)(k:Nat)(hk:ia+k<=al.length)(c:∀ y∈(al.drop ia).take k,∀ z∈bl.drop ib,L z y=false):MI L al bl (ol++(al.drop ia).take k) (ia+k) ib where
 perm:=by rw [fQ];refine (h.perm.append_right _).trans ?_;rw [zX,zX];exact xw _ vM
 rise:=y4.mpr ⟨h.rise,(ra.sublist (xi _ _)).sublist (xj _ _),λx hx y hy=>h.lea x hx y (xH hy)⟩
 lea:=λx hx y hy=>by
   rcases zY.mp hx with z | z
   . exact h.lea x z y (fP hy)
   . exact fO ra ia k x z y hy
 leb:=λx hx y hy=>by
   rcases zY.mp hx with z | z
   . exact h.leb x z y hy
   . exact c x z y hy
 ha:=hk
 hb:=h.hb
abbrev Mrg (L:Keyed->Keyed->Bool)(al bl ol:List Keyed):Prop:=ol.Perm (al++bl)/\Rise L ol
theorem MI.doneA {al bl ol:List Keyed}{ia:Nat}(h:MI L al bl ol ia bl.length)(ra:Rise L al):Mrg L al bl (ol++al.drop ia):=by
 constructor;{refine (h.perm.append_right _).trans ?_;rw [yZ (zk _),zX];refine (xw _ vM).trans ?_;rw [<- zX,ye]};{exact y4.mpr ⟨h.rise,ra.sublist (xi _ _),h.lea⟩}
theorem MI.doneB {al bl ol:List Keyed}{ib:Nat}(h:MI L al bl ol al.length ib)(rb:Rise L bl):Mrg L al bl (ol++bl.drop ib):=by
 constructor;{refine (h.perm.append_right _).trans ?_;rw [yZ (zk al.length),zX,ye]};{exact y4.mpr ⟨h.rise,rb.sublist (xi _ _),h.leb⟩}
theorem MI.lastA {al bl ol:List Keyed}{ia ib:Nat}(h:MI L al bl ol ia ib)(ra:Rise L al)(rb:Rise L bl)(c:∀ y∈bl.drop ib,∀ z∈al.drop ia,L z y=false):Mrg L al bl (ol++bl.drop ib++al.drop ia):=by
 constructor
 . refine ((h.perm.append_right _).append_right _).trans ?_;have e:al.take ia++bl.take ib++bl.drop ib++al.drop ia=al.take ia++(bl++al.drop ia):=by
     rw [zX (al.take ia),ye,zX]
   rw [e];refine (xw _ vM).trans ?_;rw [<- zX,ye]
 . refine y4.mpr ⟨y4.mpr ⟨h.rise,rb.sublist (xi _ _),h.leb⟩,ra.sublist (xi _ _),λx hx y hy=>?_⟩;rcases zY.mp hx with z | z
   . exact h.lea x z y hy
   . exact c x z y hy
end
def mergeLo':Array Keyed->Array Keyed->StateT SortSt Sem (Array Keyed):=sortPriv% PySem.Builtin.mergeLo
def setMinGallop':Nat->StateT SortSt Sem Unit:=sortPriv% PySem.Builtin.setMinGallop
theorem Z0 (g:Nat):setMinGallop' g=modify λs=>SortSt.mk' (kindOf s) (arrOf s) (pendingOf s) g (failedOf s):=rfl
structure Sm (st st':SortSt):Prop where
 kind:kindOf st'=kindOf st
 arr:arrOf st'=arrOf st
 pend:pendingOf st'=pendingOf st
 failed:failedOf st'=failedOf st
section
variable {M:Model}{kd:SortKind}{S:Keyed->Prop}{L:Keyed->Keyed->Bool}
theorem Cmp.ord (C:Cmp M A E s kd S L):Ord S L:=⟨C.asym,C.neg⟩
theorem uT {a:Array Keyed}{i:Nat}(h:i<a.size):a.toList.drop i=a[i]::a.toList.drop (i+1):=by rw [sX (by simpa using h)];simp
theorem yr {a:Array Keyed}{i:Nat}(h:i<a.size):a[i]∈a.toList:=by simp
theorem pZ {a:Array Keyed}{i:Nat}(ra:Rise L a.toList)(h:i<a.size):∀ z∈a.toList.drop (i+1),L z a[i]=false:=by intro z hz;have h2:Rise L (a.toList.drop i):=ra.sublist (xi _ _);rw [uT h] at h2;exact (uA.mp h2).1 z hz
theorem pY (O:Ord S L){a:Array Keyed}{i:Nat}(sa:∀ x∈a.toList,S x)(ra:Rise L a.toList)(h:i<a.size){y:Keyed}(sy:S y)(c:L a[i] y=false):∀ z∈a.toList.drop i,L z y=false:=by
 intro z hz;rw [uT h] at hz;rcases zQ.mp hz with e | e
 . rw [e];exact c
 . exact O.step sy (sa _ (yr h)) (sa _ (wH e)) (pZ ra h z e) c
variable {a b out:Array Keyed}{ia ib k:Nat}
theorem MI.pushB (O:Ord S L)(m:MI L a.toList b.toList out.toList ia ib)(sa:∀ x∈a.toList,S x)(sb:∀ x∈b.toList,S x)(ra:Rise L a.toList)(rb:Rise L b.toList)(hia:ia<a.size)(hib:ib<b.size)(c:L a[ia] b[ib]=false) :
   MI L a.toList b.toList (out.push b[ib]).toList ia (ib+1):=by
 have e:(b.toList.drop ib).take 1=[b[ib]]:=by rw [uT hib];rfl
 have:=m.takeB rb 1 (by simp;lia) (by
   rw [e];intro y hy z hz;have hy:y=b[ib]:=by simpa using hy
   subst hy;exact pY O sa ra hia (sb _ (yr hib)) c z hz)
 rw [e] at this;rw [sM];exact this
theorem MI.pushA (O:Ord S L)(m:MI L a.toList b.toList out.toList ia ib)(sa:∀ x∈a.toList,S x)(sb:∀ x∈b.toList,S x)(ra:Rise L a.toList)(rb:Rise L b.toList)(hia:ia<a.size)(hib:ib<b.size)(c:L b[ib] a[ia]=false) :
   MI L a.toList b.toList (out.push a[ia]).toList (ia+1) ib:=by
 have e:(a.toList.drop ia).take 1=[a[ia]]:=by rw [uT hia];rfl
 have:=m.takeA ra 1 (by simp;lia) (by
   rw [e];intro y hy z hz;have hy:y=a[ia]:=by simpa using hy
   subst hy;exact pY O sb rb hib (sa _ (yr hia)) c z hz)
 rw [e] at this;rw [sM];exact this
theorem kr (a:Array Keyed)(i k:Nat):(a.extract i (i+k)).toList=(a.toList.drop i).take k:=by simp [mv]
theorem tM (a:Array Keyed)(i:Nat):(a.extract i a.size).toList=a.toList.drop i:=by simp only [qZ,mv];exact yZ (by simp)
theorem pX {a:Array Keyed}{i k:Nat}{x:Keyed}(h:x∈(a.toList.drop i).take k):∃ j,j<k/\∃ q:i+j<a.size,x=a[i+j]:=by
 obtain ⟨j,hj,e⟩:=xR.mp h;rw [zE,yH] at hj;have:i+j<a.size:=by simp at hj;lia
 refine ⟨j,by lia,this,?_⟩;rw [<- e];simp
theorem MI.extA (O:Ord S L)(m:MI L a.toList b.toList out.toList ia ib)(sa:∀ x∈a.toList,S x)(sb:∀ x∈b.toList,S x)(ra:Rise L a.toList)(rb:Rise L b.toList)(hib:ib<b.size)(hk:ia+k<=a.size)(c:∀ i,i<k->pb L false b[ib] a ia i=true) :
   MI L a.toList b.toList (out++a.extract ia (ia+k)).toList (ia+k) ib:=by
 rw [xP,kr];refine m.takeA ra k (by simpa using hk) λy hy z hz=>?_
 obtain ⟨j,hj,q,rfl⟩:=pX hy;have:=c j hj;unfold pb at this;rw [y3 a (ia+j) q] at this;simp only [xk,yO,iA] at this;exact pY O sb rb hib (sa _ (yr q)) this z hz
theorem MI.extB (O:Ord S L)(m:MI L a.toList b.toList out.toList ia ib)(sa:∀ x∈a.toList,S x)(sb:∀ x∈b.toList,S x)(ra:Rise L a.toList)(rb:Rise L b.toList)(hia:ia<a.size)(hk:ib+k<=b.size)(c:∀ i,i<k->pb L true a[ia] b ib i=true) :
   MI L a.toList b.toList (out++b.extract ib (ib+k)).toList ia (ib+k):=by
 rw [xP,kr];refine m.takeB rb k (by simpa using hk) λy hy z hz=>?_
 obtain ⟨j,hj,q,rfl⟩:=pX hy;have:=c j hj;unfold pb at this;rw [y3 b (ib+j) q] at this;simp only [xU] at this;exact pY O sa ra hia (sb _ (yr q)) (O.asym _ _ this) z hz
theorem MI.finA (m:MI L a.toList b.toList out.toList ia ib)(ra:Rise L a.toList)(e:ib=b.size):Mrg L a.toList b.toList (out++a.extract ia a.size++b.extract ib b.size).toList:=by
 have e1:ib=b.toList.length:=by simpa using e
 subst e1;rw [xP,xP,tM,tM,wK (zk _),yx];exact m.doneA ra
theorem MI.finB (m:MI L a.toList b.toList out.toList ia ib)(rb:Rise L b.toList)(e:ia=a.size):Mrg L a.toList b.toList (out++a.extract ia a.size++b.extract ib b.size).toList:=by
 have e1:ia=a.toList.length:=by simpa using e
 subst e1;rw [xP,xP,tM,tM,wK (zk a.toList.length),yx];exact m.doneB rb
theorem MI.finL (m:MI L a.toList b.toList out.toList ia ib)(ra:Rise L a.toList)(rb:Rise L b.toList)(e:ia+1=a.size)(hl:∀ z∈a.toList.drop (a.size-1),∀ y∈b.toList,L z y=false) :
   Mrg L a.toList b.toList (out++b.extract ib b.size++a.extract ia a.size).toList:=by
 rw [xP,xP,tM,tM];refine m.lastA ra rb λy hy z hz=>hl z (by rw [<- e];exact hz) y (wH hy)
structure MS (L:Keyed->Keyed->Bool)(st:SortSt)(a b out:Array Keyed)(ia ib:Nat)(st':SortSt):Prop where
 sm:Sm st st'
 mi:MI L a.toList b.toList out.toList ia ib
 ha:ia+1<a.size
 hb:ib<b.size
theorem MI.size {a b out:Array Keyed}{ia ib:Nat}(m:MI L a.toList b.toList out.toList ia ib):out.size=ia+ib:=by have:=m.len;simpa using this
theorem Sm.refl (st:SortSt):Sm st st:=⟨rfl,rfl,rfl,rfl⟩
theorem Sm.gal {st st':SortSt}(h:Sm st st')(g:Nat):Sm st (SortSt.mk' (kindOf st') (arrOf st') (pendingOf st') g (failedOf st')):=⟨h.kind,h.arr,h.pend,h.failed⟩
theorem pW {g:Nat}{st:SortSt}{Q:Unit->SortSt->Prop}(h:Q () (SortSt.mk' (kindOf st) (arrOf st) (pendingOf st) g (failedOf st))):wpS M A E s (setMinGallop' g) Q st:=by rw [Z0];exact wM h
theorem fN (O:Ord S L){a:Array Keyed}{ia n:Nat}{key:Keyed}(sa:∀ x∈a.toList,S x)(ra:Rise L a.toList)(sk:S key)(hn:ia+n<=a.size):∀ i j,i<=j->j<n->pb L false key a ia j=true->pb L false key a ia i=true:=by
 intro i j hij hj h;unfold pb at *;rw [y3 a (ia+j) (by lia)] at h;rw [y3 a (ia+i) (by lia)];simp only [xk,yO,iA] at h ⊢;rcases xN i j with q | q
 . have:=pZ ra (i:=ia+i) (by lia) (a[ia+j]'(by lia)) (xR.mpr ⟨j-i-1,by simp;lia,by simp;congr 1;lia⟩);exact O.step (sa _ (yr _)) (sa _ (yr _)) sk h this
 . have:i=j:=by lia
   subst this;exact h
theorem fM (O:Ord S L){a:Array Keyed}{ia n:Nat}{key:Keyed}(sa:∀ x∈a.toList,S x)(ra:Rise L a.toList)(sk:S key)(hn:ia+n<=a.size):∀ i j,i<=j->j<n->pb L true key a ia j=true->pb L true key a ia i=true:=by
 intro i j hij hj h;unfold pb at *;rw [y3 a (ia+j) (by lia)] at h;rw [y3 a (ia+i) (by lia)];simp only [xU] at h ⊢;rcases xN i j with q | q
 . have:=pZ ra (i:=ia+i) (by lia) (a[ia+j]'(by lia)) (xR.mpr ⟨j-i-1,by simp;lia,by simp;congr 1;lia⟩);rcases O.neg _ _ _ (sa _ (yr _)) (sa _ (yr (i:=ia+i) (by lia))) sk h with z | z
   . rw [this] at z;cases z
   . exact z
 . have:i=j:=by lia
   subst this;exact h
theorem pb_f {a:Array Keyed}{ia i:Nat}{key:Keyed}(q:ia+i<a.size):pb L false key a ia i=!L key a[ia+i]:=by unfold pb;rw [y3 a (ia+i) q];rfl
theorem pb_t {a:Array Keyed}{ia i:Nat}{key:Keyed}(q:ia+i<a.size):pb L true key a ia i=L a[ia+i] key:=by unfold pb;rw [y3 a (ia+i) q];rfl
theorem fL {α β γ:Type}{X:StateT SortSt Sem α}{Q:α->SortSt->Prop}{st:SortSt}(v:β->γ->StateT SortSt Sem α)(hv:∀ q x,wpS M A E s (v q x) Q st)(h:(∀ q x,wpS M A E s (v q x) Q st)->wpS M A E s X Q st):wpS M A E s X Q st:=h hv
theorem pV {α β γ δ:Type}{X:StateT SortSt Sem α}{Q:α->SortSt->Prop}{st:SortSt}(v:β->γ->δ->StateT SortSt Sem α)(P:γ->δ->Prop)(hv:∀ q x y,P x y->wpS M A E s (v q x y) Q st)(h:(∀ q x y,P x y->wpS M A E s (v q x y) Q st)->wpS M A E s X Q st):wpS M A E s X Q st:=h hv
theorem Zz (C:Cmp M A E s kd S L) {a b:Array Keyed} {st:SortSt} {Q:Array Keyed->SortSt->Prop} (hk:kindOf st=kd) (sa:∀ x∈a.toList,S x) (sb:∀ x∈b.toList,S x) (ra:Rise L a.toList) (rb:Rise L b.toList) (na:0<a.size) (nb:0<b.size)
   (h0:∀ z∈a.toList,L z b[0]=false) (hl:∀ z∈a.toList.drop (a.size-1),∀ y∈b.toList,L z y=false)
   (h:∀ o st',Sm st st'->Mrg L a.toList b.toList o.toList->Q o st'):wpS M A E s (mergeLo' a b) Q st:=by
 have O:=C.ord;unfold mergeLo'
 k_delta "mergeLo"
 refine zm (vP (we ⟨rfl,?_⟩));refine zm (yV (y3 b 0 nb) ?_);dsimp -zeta only;have nil:MI L a.toList b.toList (#[]:Array Keyed).toList 0 0:=⟨by simp,.nil,λ_ z=>by simp at z,λ_ z=>by simp at z,zV _,zV _⟩
 have ini:MI L a.toList b.toList (#[b[0]]:Array Keyed).toList 0 1:=nil.pushB O sa sb ra rb na nb (h0 _ (yr na));by_cases e1:(1==b.size)=true;{rw [if_pos e1];exact ze (h _ _ (Sm.refl _) (ini.finA ra (by simpa using e1)))}
 rw [if_neg e1];by_cases e2:(0+1==a.size)=true;{rw [if_pos e2];exact ze (h _ _ (Sm.refl _) (ini.finL ra rb (by simpa using e2) hl))}
 rw [if_neg e2];have e1':1<b.size:=by
   have:1≠b.size:=by simpa using e1
   lia
 have e2':1<a.size:=by
   have:1≠a.size:=by simpa using e2
   lia
 refine zm (xB ?_);refine zm (xv (yD (I:=λx c st'=>c.1=none/\MS L st a b c.2.1 c.2.2.1 c.2.2.2.1 st'/\x+1<=c.2.1.size) (Q:=λc st'=>∃ o,c.1=some o/\Sm st st'/\Mrg L a.toList b.toList o.toList) ?step ?fin ?init) ?post)
 case init=>exact ⟨rfl,⟨Sm.refl _,ini,e2',e1'⟩,by simp⟩
 case fin =>
   rintro ⟨c1,out,ia,ib,g⟩ st' ⟨_,ms,hs⟩;dsimp only at *;have:=ms.mi.size;have:=ms.ha;have:=ms.hb;lia
 case post =>
   rintro ⟨c1,out,ia,ib,g⟩ st' ⟨o,rfl,sm,m⟩;exact ze (h _ _ sm m)
 case step =>
   rintro x ⟨c1,out,ia,ib,g⟩ st' _ hx ⟨rfl,ms,hs⟩;dsimp -zeta only at *;refine zm (xv (yD (I:=λ_ c st'=>c.1=none/\MS L st a b c.2.1 c.2.2.1 c.2.2.2.1 st'/\x+1<=c.2.1.size)
     (Q:=λc st'=>(∃ o,c.1=some o/\Sm st st'/\Mrg L a.toList b.toList o.toList)\/(c.1=none/\MS L st a b c.2.1 c.2.2.1 c.2.2.2.1 st'/\x+1<=c.2.1.size)) ?step1 (λ_ _ z=>.inr z) ?init1) ?post1)
   case init1=>exact ⟨rfl,ms,hs⟩
   case step1 =>
     rintro y ⟨c1,out,ia,ib,ac,bc⟩ st' _ hy ⟨rfl,ms,hs⟩;dsimp only at *;have hib:=ms.hb;have hia:ia<a.size:=by have:=ms.ha;lia
     refine zm (yV (y3 b ib hib) ?_);refine zm (yV (y3 a ia hia) ?_);refine zm (C.lt _ _ _ _ (sb _ (yr hib)) (sa _ (yr hia)) (ms.sm.kind.trans hk) ?_);dsimp only;cases e:L b[ib] a[ia] with
     | true =>
       rw [if_pos rfl];refine zm (yV (y3 b ib hib) ?_);have m2:=ms.mi.pushB O sa sb ra rb hia hib (C.asym _ _ e);by_cases z:(ib+1==b.size)=true;{rw [if_pos z];exact ze (.inl ⟨_,rfl,ms.sm,m2.finA ra (by simpa using z)⟩)}
       . rw [if_neg z];have z':ib+1<b.size:=by
           have:ib+1≠b.size:=by simpa using z
           lia
         split;{exact ze (.inr ⟨rfl,⟨ms.sm,m2,ms.ha,z'⟩,by simp;lia⟩)}
         . exact ze ⟨rfl,⟨ms.sm,m2,ms.ha,z'⟩,by simp;lia⟩
     | false =>
       rw [if_neg (by decide)];refine zm (yV (y3 a ia hia) ?_);have m2:=ms.mi.pushA O sa sb ra rb hia hib e;by_cases z:(ia+1+1==a.size)=true;{rw [if_pos z];exact ze (.inl ⟨_,rfl,ms.sm,m2.finL ra rb (by simpa using z) hl⟩)}
       . rw [if_neg z];have z':ia+1+1<a.size:=by
           have:ia+1+1≠a.size:=by simpa using z
           have:=ms.ha;lia
         split;{exact ze (.inr ⟨rfl,⟨ms.sm,m2,z',hib⟩,by simp;lia⟩)};{exact ze ⟨rfl,⟨ms.sm,m2,z',hib⟩,by simp;lia⟩}
   case post1 =>
     rintro ⟨c1,out,ia,ib,ac,bc⟩ st' (⟨o,rfl,sm,m⟩ | ⟨rfl,ms,hs⟩);{exact ze ⟨o,rfl,sm,m⟩}
     . dsimp -zeta only at *
       refine zm (vP (we ⟨rfl,?_⟩));refine zm (xv (yD (I:=λy c st'=>c.1=none/\MS L st a b c.2.1 c.2.2.1 c.2.2.2.1 st'/\x+1+y<=c.2.1.size)
         (Q:=λc st'=>(∃ o,c.1=some o/\Sm st st'/\Mrg L a.toList b.toList o.toList)\/(c.1=none/\MS L st a b c.2.1 c.2.2.1 c.2.2.2.1 st'/\x+2<=c.2.1.size)) ?step2 ?fin2 ?init2) ?post2)
       case init2=>exact ⟨rfl,ms,hs⟩
       case fin2 =>
         rintro ⟨c1,out,ia,ib,g,ac,bc⟩ st' ⟨e,ms,hs⟩;refine .inr ⟨e,ms,?_⟩;dsimp only at *;lia
       case post2 =>
         rintro ⟨c1,out,ia,ib,g,ac,bc⟩ st' (⟨o,rfl,sm,m⟩ | ⟨rfl,ms,hs⟩);{exact ze ⟨o,rfl,sm,m⟩};{dsimp only at *;exact zm (pW (ze ⟨rfl,⟨ms.sm.gal _,ms.mi,ms.ha,ms.hb⟩,by dsimp only;lia⟩))}
       case step2 =>
         rintro y ⟨c1,out,ia,ib,g,ac,bc⟩ st' _ hy ⟨e3,ms,hs⟩;dsimp -zeta only at e3 ms hs ⊢;subst e3;have hib:=ms.hb;have hia:=ms.ha
         extract_lets +onlyGivenNames -underBinder s1 n1 s2 n2 s3 n3 s4 n4 s5 n5 n6 jp
         refine fL jp (λ_ g=>?_) λhj=>by clear_value jp;split<;>exact hj _ _
         dsimp -zeta only [s1,s2,s3,s4,s5,n1,n2,n3,n4,n5,n6,jp];clear jp s1 s2 s3 s4 s5 n1 n2 n3 n4 n5 n6;refine zm (pW ?_);refine zm (yV (y3 b ib hib) ?_);refine zm (tN C (ms.sm.kind.trans hk) (sb _ (yr hib)) sa (by lia) (by lia) (fN O sa ra (sb _ (yr hib)) (by lia)) λk1 hk1 ht1 hf1=>?_);dsimp -zeta only
         extract_lets +onlyGivenNames -underBinder ac jp
         refine pV jp (λout ia=>∃ h:ia+1<a.size,MI L a.toList b.toList out.toList ia ib/\L (a[ia]'(by lia)) b[ib]=false/\x+1+y<=out.size) ?_ ?_
         . rintro _ out ia ⟨ha,m1,nx,hs⟩;dsimp -zeta only [jp];clear jp;refine zm (yV (y3 b ib hib) ?_);have m2:=m1.pushB O sa sb ra rb (by lia) hib nx
           extract_lets +onlyGivenNames -underBinder ou n1
           by_cases z3:(ib+1==b.size)=true;{rw [if_pos z3];exact ze (.inl ⟨_,rfl,ms.sm.gal _,m2.finA ra (by simpa using z3)⟩)}
           rw [if_neg z3];have z3':ib+1<b.size:=by
             have:ib+1≠b.size:=by simpa using z3
             lia
           refine zm (yV (y3 a ia (by lia)) ?_);refine zm (tN C (ms.sm.kind.trans hk) (sa _ (yr (by lia))) sb (by lia) (by lia) (fM O sb rb (sa _ (yr (by lia))) (by lia)) λk2 hk2 ht2 hf2=>?_);dsimp -zeta only
           extract_lets +onlyGivenNames -underBinder bc jp
           refine pV jp (λou ib=>∃ h:ib<b.size,MI L a.toList b.toList ou.toList ia ib/\L b[ib] (a[ia]'(by lia))=false/\x+2+y<=ou.size) ?_ ?_
           . rintro _ ou ib ⟨hb,m3,nx2,hs⟩;dsimp -zeta only [jp];clear jp;refine zm (yV (y3 a ia (by lia)) ?_);have m4:=m3.pushA O sa sb ra rb (by lia) hb nx2;dsimp only;by_cases z5:(ia+1+1==a.size)=true
             . rw [if_pos z5];exact ze (.inl ⟨_,rfl,ms.sm.gal _,m4.finL ra rb (by simpa using z5) hl⟩)
             rw [if_neg z5];have z5':ia+1+1<a.size:=by
               have:ia+1+1≠a.size:=by simpa using z5
               lia
             split;{exact ze (.inr ⟨rfl,⟨ms.sm.gal _,m4,z5',hb⟩,by simp;lia⟩)};{exact ze ⟨rfl,⟨ms.sm.gal _,m4,z5',hb⟩,by simp;lia⟩}
           clear_value jp
           intro hj;by_cases kz:k2 > 0
           . rw [if_pos kz];have m3:=m2.extB (k:=k2) O sa sb ra rb (by lia) (by lia) ht2;dsimp only;by_cases z4:(ib+1+k2==b.size)=true
             . rw [if_pos z4];exact ze (.inl ⟨_,rfl,ms.sm.gal _,m3.finA ra (by simpa using z4)⟩)
             rw [if_neg z4];have:ib+1+k2≠b.size:=by simpa using z4
             have nx2:=hf2 k2 (zk _) (by lia);rw [pb_t (by lia)] at nx2;exact hj _ _ _ ⟨by lia,m3,nx2,by simp [ou];lia⟩
           . rw [if_neg kz];have nx2:=hf2 0 (by lia) (by lia);rw [pb_t (by lia)] at nx2;exact hj _ _ _ ⟨by lia,m2,nx2,by simp [ou];lia⟩
         clear_value jp
         intro hj;by_cases kz:k1 > 0
         . rw [if_pos kz];have m1:=ms.mi.extA (k:=k1) O sa sb ra rb hib (by lia) ht1;dsimp only;by_cases z1:(ia+k1+1==a.size)=true
           . rw [if_pos z1];exact ze (.inl ⟨_,rfl,ms.sm.gal _,m1.finL ra rb (by simpa using z1) hl⟩)
           rw [if_neg z1];by_cases z2:(ia+k1==a.size)=true;{rw [if_pos z2];exact ze (.inl ⟨_,rfl,ms.sm.gal _,m1.finB rb (by simpa using z2)⟩)}
           rw [if_neg z2];have:ia+k1+1≠a.size:=by simpa using z1
           have:ia+k1≠a.size:=by simpa using z2
           have nx:=hf1 k1 (zk _) (by lia);rw [pb_f (by lia)] at nx;exact hj _ _ _ ⟨by lia,m1,C.asym _ _ (by simpa using nx),by simp;lia⟩
         . rw [if_neg kz];have nx:=hf1 0 (by lia) (by lia);rw [pb_f (by lia)] at nx;exact hj _ _ _ ⟨hia,ms.mi,C.asym _ _ (by simpa using nx),hs⟩
end
section
variable {S:Keyed->Prop}{L:Keyed->Keyed->Bool}
structure MH (L:Keyed->Keyed->Bool)(al bl ol:List Keyed)(na nb:Nat):Prop where
 perm:ol.Perm (al.drop na++bl.drop nb)
 rise:Rise L ol
 lea:∀ x∈ol,∀ y∈al.take na,L x y=false
 leb:∀ x∈ol,∀ y∈bl.take nb,L x y=false
 ha:na<=al.length
 hb:nb<=bl.length
theorem MH.len {al bl ol:List Keyed}{na nb:Nat}(h:MH L al bl ol na nb):ol.length+na+nb=al.length+bl.length:=by rw [h.perm.length_eq,zh,yH,yH];have:=h.ha;have:=h.hb;lia
theorem fK {α:Type}{l:List α}{i n:Nat}{y:α}(hi:i<=n)(h:y∈l.take i):y∈l.take n:=by
 have:l.take i=(l.take n).take i:=by rw [List.take_take,sG hi]
 rw [this] at h;exact xH h
theorem fJ {α:Type}(l:List α){i n:Nat}(h:i<=n):l.drop i=(l.take n).drop i++l.drop n:=by
 rw [qO];have:l.drop n=(l.drop i).drop (n-i):=by rw [ug];congr 1;lia
 rw [this,ye]
theorem fI {l:List Keyed}(h:Rise L l){i n:Nat}(hi:i<=n):∀ x∈(l.take n).drop i,∀ y∈l.take i,L x y=false:=by intro x hx y hy;have h2:Rise L (l.take n):=h.sublist (xj _ _);rw [<- ye i (l.take n)] at h2;rw [show l.take i=(l.take n).take i by rw [List.take_take,sG hi]] at hy;exact (y4.mp h2).2.2 y hy x hx
theorem MH.takeA {al bl ol:List Keyed}{na nb:Nat}(h:MH L al bl ol na nb)(ra:Rise L al)(i:Nat)(hi:i<=na)(c:∀ y∈(al.take na).drop i,∀ z∈bl.take nb,L y z=false):MH L al bl ((al.take na).drop i++ol) i nb where
 perm:=by rw [fJ al hi,zX];exact xw _ h.perm
 rise:=y4.mpr ⟨(ra.sublist (xj _ _)).sublist (xi _ _),h.rise,λx hx y hy=>h.lea y hy x (wH hx)⟩
 lea:=λx hx y hy=>by
   rcases zY.mp hx with z | z
   . exact fI ra hi x z y hy
   . exact h.lea x z y (fK hi hy)
 leb:=λx hx y hy=>by
   rcases zY.mp hx with z | z
   . exact c x z y hy
   . exact h.leb x z y hy
 ha:=yl hi h.ha
 hb:=h.hb
theorem MH.takeB {al bl ol:List Keyed}{na nb:Nat}(h:MH L al bl ol na nb)(rb:Rise L bl)(i:Nat)(hi:i<=nb)(c:∀ y∈(bl.take nb).drop i,∀ z∈al.take na,L y z=false):MH L al bl ((bl.take nb).drop i++ol) na i where
 perm:=by rw [fJ bl hi];refine (xw _ h.perm).trans ?_;rw [<- zX,<- zX];exact List.Perm.append_right _ vM
 rise:=y4.mpr ⟨(rb.sublist (xj _ _)).sublist (xi _ _),h.rise,λx hx y hy=>h.leb y hy x (wH hx)⟩
 lea:=λx hx y hy=>by
   rcases zY.mp hx with z | z
   . exact c x z y hy
   . exact h.lea x z y hy
 leb:=λx hx y hy=>by
   rcases zY.mp hx with z | z
   . exact fI rb hi x z y hy
   . exact h.leb x z y (fK hi hy)
 ha:=h.ha
 hb:=yl hi h.hb
theorem MH.doneB {al bl ol:List Keyed}{nb:Nat}(h:MH L al bl ol 0 nb)(rb:Rise L bl):Mrg L al bl (bl.take nb++ol):=by
 constructor;{refine (xw _ h.perm).trans ?_;rw [vF];refine (xw _ vM).trans ?_;rw [<- zX,ye];exact vM};{exact y4.mpr ⟨rb.sublist (xj _ _),h.rise,λx hx y hy=>h.leb y hy x hx⟩}
theorem MH.doneA {al bl ol:List Keyed}{na:Nat}(h:MH L al bl ol na 0)(ra:Rise L al):Mrg L al bl (al.take na++ol):=by
 constructor;{refine (xw _ h.perm).trans ?_;rw [vF,<- zX,ye]};{exact y4.mpr ⟨ra.sublist (xj _ _),h.rise,λx hx y hy=>h.lea y hy x hx⟩}
theorem MH.firstB {al bl ol:List Keyed}{na nb:Nat}(h:MH L al bl ol na nb)(ra:Rise L al)(rb:Rise L bl)(c:∀ y∈bl.take nb,∀ z∈al.take na,L z y=false):Mrg L al bl (bl.take nb++al.take na++ol):=by
 constructor
 . refine (xw _ h.perm).trans ?_;have e:bl.take nb++al.take na++(al.drop na++bl.drop nb)=bl.take nb++(al++bl.drop nb):=by
     rw [zX,<- zX (al.take na),ye]
   rw [e];refine (xw _ vM).trans ?_;rw [<- zX,ye];exact vM
 . refine y4.mpr ⟨y4.mpr ⟨rb.sublist (xj _ _),ra.sublist (xj _ _),c⟩,h.rise,λx hx y hy=>?_⟩;rcases zY.mp hx with z | z
   . exact h.leb y hy x z
   . exact h.lea y hy x z
variable {a b out:Array Keyed}{na nb k:Nat}
theorem fH {a:Array Keyed}{i:Nat}(h:i<a.size):(a.toList.take (i+1)).drop i=[a[i]]:=by rw [qO,uT h,show i+1-i=1 by lia];rfl
theorem Zy {a:Array Keyed}{n:Nat}{x:Keyed}(h:x∈a.toList.take n):∃ j,j<n/\∃ q:j<a.size,x=a[j]:=by have:=pX (a:=a) (i:=0) (k:=n) (x:=x) (by simpa using h);obtain ⟨j,hj,q,e⟩:=this;exact ⟨j,hj,by lia,by simpa using e⟩
theorem get_le {a:Array Keyed}(ra:Rise L a.toList)(O:Ord S L){i j:Nat}(hij:i<=j)(hj:j<a.size)(ir:L a[j] a[j]=false):L a[j] (a[i]'(by lia))=false:=by
 rcases xN i j with q | q
 . exact pZ ra (i:=i) (by lia) a[j] (xR.mpr ⟨j-i-1,by simp;lia,by simp;congr 1;lia⟩)
 . have:i=j:=by lia
   subst this;exact ir
theorem Ord.irr (O:Ord S L)(x:Keyed):L x x=false:=by
 cases e:L x x with
 | false=>rfl
 | true=>rw [O.asym x x e] at e;cases e
theorem pU (O:Ord S L)(sa:∀ x∈a.toList,S x)(ra:Rise L a.toList){n:Nat}(hn:n<a.size){y:Keyed}(sy:S y)(c:L y a[n]=false):∀ z∈a.toList.take (n+1),L y z=false:=by intro z hz;obtain ⟨j,hj,q,rfl⟩:=Zy hz;exact O.step (sa _ (yr q)) (sa _ (yr hn)) sy c (get_le ra O (by lia) hn (O.irr _))
theorem fG (out:Array Keyed)(x:Keyed):(out.push x).reverse.toList=x::out.reverse.toList:=by simp
theorem fF (out p:Array Keyed):(out++p.reverse).reverse.toList=p.toList++out.reverse.toList:=by simp
theorem MH.pushA (O:Ord S L)(m:MH L a.toList b.toList out.reverse.toList (na+1) (nb+1))(sa:∀ x∈a.toList,S x)(sb:∀ x∈b.toList,S x)(ra:Rise L a.toList)(rb:Rise L b.toList)(hna:na<a.size)(hnb:nb<b.size)(c:L a[na] b[nb]=false) :
   MH L a.toList b.toList (out.push a[na]).reverse.toList na (nb+1):=by
 have e:=fH hna;have:=m.takeA ra na (wa _) (by
   rw [e];intro y hy z hz;have hy:y=a[na]:=by simpa using hy
   subst hy;exact pU O sb rb hnb (sa _ (yr hna)) c z hz)
 rw [e] at this;rw [fG];exact this
theorem MH.pushB (O:Ord S L)(m:MH L a.toList b.toList out.reverse.toList (na+1) (nb+1))(sa:∀ x∈a.toList,S x)(sb:∀ x∈b.toList,S x)(ra:Rise L a.toList)(rb:Rise L b.toList)(hna:na<a.size)(hnb:nb<b.size)(c:L b[nb] a[na]=false) :
   MH L a.toList b.toList (out.push b[nb]).reverse.toList (na+1) nb:=by
 have e:=fH hnb;have:=m.takeB rb nb (wa _) (by
   rw [e];intro y hy z hz;have hy:y=b[nb]:=by simpa using hy
   subst hy;exact pU O sa ra hna (sb _ (yr hnb)) c z hz)
 rw [e] at this;rw [fG];exact this
theorem pT (a:Array Keyed){i n:Nat}(h:i<=n):(a.extract i n).toList=(a.toList.take n).drop i:=by simp only [qZ,mv,qO]
theorem fE {a:Array Keyed}{i n:Nat}{x:Keyed}(h:x∈(a.toList.take n).drop i):∃ j,i<=j/\j<n/\∃ q:j<a.size,x=a[j]:=by rw [qO] at h;obtain ⟨j,hj,q,e⟩:=pX h;exact ⟨i+j,by lia,by lia,q,e⟩
theorem MH.extA (O:Ord S L)(m:MH L a.toList b.toList out.reverse.toList na (nb+1))(sa:∀ x∈a.toList,S x)(sb:∀ x∈b.toList,S x)(ra:Rise L a.toList)(rb:Rise L b.toList)(hnb:nb<b.size)(hk:k<=na)(c:∀ i,k<=i->i<na->pb L false b[nb] a 0 i=false) :
   MH L a.toList b.toList (out++(a.extract k na).reverse).reverse.toList k (nb+1):=by
 rw [fF,pT a hk];refine m.takeA ra k hk λy hy z hz=>?_
 obtain ⟨j,hj,hj2,q,rfl⟩:=fE hy;have:=c j hj hj2;rw [pb_f (by lia)] at this;have this:L b[nb] a[j]=true:=by simpa using this
 exact pU O sb rb hnb (sa _ (yr q)) (O.asym _ _ this) z hz
theorem MH.extB (O:Ord S L)(m:MH L a.toList b.toList out.reverse.toList (na+1) nb)(sa:∀ x∈a.toList,S x)(sb:∀ x∈b.toList,S x)(ra:Rise L a.toList)(rb:Rise L b.toList)(hna:na<a.size)(hk:k<=nb)(c:∀ i,k<=i->i<nb->pb L true a[na] b 0 i=false) :
   MH L a.toList b.toList (out++(b.extract k nb).reverse).reverse.toList (na+1) k:=by
 rw [fF,pT b hk];refine m.takeB rb k hk λy hy z hz=>?_
 obtain ⟨j,hj,hj2,q,rfl⟩:=fE hy;have:=c j hj hj2;rw [pb_t (by lia)] at this;have this:L b[j] a[na]=false:=by simpa using this
 exact pU O sa ra hna (sb _ (yr q)) this z hz
theorem ext0 (a:Array Keyed)(n:Nat):(a.extract 0 n).toList=a.toList.take n:=by rw [pT a (zV n),vF]
theorem MH.fin0 (m:MH L a.toList b.toList out.reverse.toList na nb)(rb:Rise L b.toList)(e:na=0):Mrg L a.toList b.toList (a.extract 0 na++b.extract 0 nb++out.reverse).toList:=by subst e;rw [xP,xP,ext0,ext0,qN,yY];exact m.doneB rb
theorem MH.fin0b (m:MH L a.toList b.toList out.reverse.toList na nb)(ra:Rise L a.toList)(e:nb=0):Mrg L a.toList b.toList (a.extract 0 na++b.extract 0 nb++out.reverse).toList:=by subst e;rw [xP,xP,ext0,ext0,qN,yx];exact m.doneA ra
theorem MH.fin1 (m:MH L a.toList b.toList out.reverse.toList na nb)(ra:Rise L a.toList)(rb:Rise L b.toList)(e:nb=1)(h0:∀ z∈a.toList,∀ y∈b.toList.take 1,L z y=false):Mrg L a.toList b.toList (b.extract 0 nb++a.extract 0 na++out.reverse).toList:=by subst e;rw [xP,xP,ext0,ext0];exact m.firstB ra rb λy hy z hz=>h0 z (xH hz) y hy
theorem MH.size (m:MH L a.toList b.toList out.reverse.toList na nb):out.size+na+nb=a.size+b.size:=by have:=m.len;simpa using this
end
def mergeHi':Array Keyed->Array Keyed->StateT SortSt Sem (Array Keyed):=sortPriv% PySem.Builtin.mergeHi
section
variable {M:Model}{kd:SortKind}{S:Keyed->Prop}{L:Keyed->Keyed->Bool}
structure MHS (L:Keyed->Keyed->Bool)(st:SortSt)(a b out:Array Keyed)(na nb:Nat)(st':SortSt):Prop where
 sm:Sm st st'
 mi:MH L a.toList b.toList out.reverse.toList na nb
 ha:0<na
 hb:1<nb
theorem pb0_f {a:Array Keyed}{i:Nat}{key:Keyed}(q:i<a.size):pb L false key a 0 i=!L key a[i]:=by unfold pb;rw [yX,y3 a i q];rfl
theorem pb0_t {a:Array Keyed}{i:Nat}{key:Keyed}(q:i<a.size):pb L true key a 0 i=L a[i] key:=by unfold pb;rw [yX,y3 a i q];rfl
variable {a b out:Array Keyed}{na nb k:Nat}
theorem MH.hA (m:MH L a.toList b.toList out.reverse.toList na nb):na<=a.size:=by simpa using m.ha
theorem MH.hB (m:MH L a.toList b.toList out.reverse.toList na nb):nb<=b.size:=by simpa using m.hb
theorem MH.putA (O:Ord S L)(m:MH L a.toList b.toList out.reverse.toList na nb)(sa:∀ x∈a.toList,S x)(sb:∀ x∈b.toList,S x)(ra:Rise L a.toList)(rb:Rise L b.toList)(hna:0<na)(hnb:0<nb)(qa:na-1<a.size)(qb:nb-1<b.size)(c:L a[na-1] b[nb-1]=false) :
   MH L a.toList b.toList (out.push a[na-1]).reverse.toList (na-1) nb:=by
 obtain ⟨i,rfl⟩:∃ i,na=i+1:=⟨na-1,by lia⟩
 obtain ⟨j,rfl⟩:∃ j,nb=j+1:=⟨nb-1,by lia⟩
 exact m.pushA O sa sb ra rb qa qb c
theorem MH.putB (O:Ord S L)(m:MH L a.toList b.toList out.reverse.toList na nb)(sa:∀ x∈a.toList,S x)(sb:∀ x∈b.toList,S x)(ra:Rise L a.toList)(rb:Rise L b.toList)(hna:0<na)(hnb:0<nb)(qa:na-1<a.size)(qb:nb-1<b.size)(c:L b[nb-1] a[na-1]=false) :
   MH L a.toList b.toList (out.push b[nb-1]).reverse.toList na (nb-1):=by
 obtain ⟨i,rfl⟩:∃ i,na=i+1:=⟨na-1,by lia⟩
 obtain ⟨j,rfl⟩:∃ j,nb=j+1:=⟨nb-1,by lia⟩
 exact m.pushB O sa sb ra rb qa qb c
theorem MH.putAs (O:Ord S L)(m:MH L a.toList b.toList out.reverse.toList na nb)(sa:∀ x∈a.toList,S x)(sb:∀ x∈b.toList,S x)(ra:Rise L a.toList)(rb:Rise L b.toList)(hnb:0<nb)(qb:nb-1<b.size)(hk:k<=na)(c:∀ i,k<=i->i<na->pb L false b[nb-1] a 0 i=false) :
   MH L a.toList b.toList (out++(a.extract k na).reverse).reverse.toList k nb:=by
 obtain ⟨j,rfl⟩:∃ j,nb=j+1:=⟨nb-1,by lia⟩
 exact m.extA O sa sb ra rb qb hk c
theorem MH.putBs (O:Ord S L)(m:MH L a.toList b.toList out.reverse.toList na nb)(sa:∀ x∈a.toList,S x)(sb:∀ x∈b.toList,S x)(ra:Rise L a.toList)(rb:Rise L b.toList)(hna:0<na)(qa:na-1<a.size)(hk:k<=nb)(c:∀ i,k<=i->i<nb->pb L true a[na-1] b 0 i=false) :
   MH L a.toList b.toList (out++(b.extract k nb).reverse).reverse.toList na k:=by
 obtain ⟨j,rfl⟩:∃ j,na=j+1:=⟨na-1,by lia⟩
 exact m.extB O sa sb ra rb qa hk c
theorem Zx (C:Cmp M A E s kd S L) {a b:Array Keyed} {st:SortSt} {Q:Array Keyed->SortSt->Prop} (hk:kindOf st=kd) (sa:∀ x∈a.toList,S x) (sb:∀ x∈b.toList,S x) (ra:Rise L a.toList) (rb:Rise L b.toList) (na:0<a.size) (nb:0<b.size)
   (h0:∀ z∈a.toList,∀ y∈b.toList.take 1,L z y=false) (hl:∀ y∈b.toList,L (a[a.size-1]'(by lia)) y=false)
   (h:∀ o st',Sm st st'->Mrg L a.toList b.toList o.toList->Q o st'):wpS M A E s (mergeHi' a b) Q st:=by
 have O:=C.ord;unfold mergeHi'
 k_delta "mergeHi"
 refine zm (vP (we ⟨rfl,?_⟩));refine zm (yV (y3 a (a.size-1) (by lia)) ?_);dsimp -zeta only;have nil:MH L a.toList b.toList (#[]:Array Keyed).reverse.toList a.size b.size:=⟨by simp,.nil,λ_ z=>by simp at z,λ_ z=>by simp at z,by simp,by simp⟩
 have ini:MH L a.toList b.toList (#[a[a.size-1]'(by lia)]:Array Keyed).reverse.toList (a.size-1) b.size:=nil.putA O sa sb ra rb na nb (by lia) (by lia) (hl _ (yr (by lia)));by_cases e1:(a.size-1==0)=true;{rw [if_pos e1];exact ze (h _ _ (Sm.refl _) (ini.fin0 rb (by simpa using e1)))}
 rw [if_neg e1];by_cases e2:(b.size==1)=true;{rw [if_pos e2];exact ze (h _ _ (Sm.refl _) (ini.fin1 ra rb (by simpa using e2) h0))}
 rw [if_neg e2];have e1':0<a.size-1:=by
   have:a.size-1≠0:=by simpa using e1
   lia
 have e2':1<b.size:=by
   have:b.size≠1:=by simpa using e2
   lia
 refine zm (xB ?_)
 skip
 refine zm (xv (yD (I:=λx c st'=>c.1=none/\MHS L st a b c.2.2.2.1 c.2.1 c.2.2.1 st'/\x+1<=c.2.2.2.1.size) (Q:=λc st'=>∃ o,c.1=some o/\Sm st st'/\Mrg L a.toList b.toList o.toList) ?step ?fin ?init) ?post)
 case init=>exact ⟨rfl,⟨Sm.refl _,ini,e1',e2'⟩,by simp⟩
 case fin =>
   rintro ⟨c1,na,nb,out,g⟩ st' ⟨_,ms,hs⟩;dsimp only at *;have:=ms.mi.size;have:=ms.ha;have:=ms.hb;lia
 case post =>
   rintro ⟨c1,na,nb,out,g⟩ st' ⟨o,rfl,sm,m⟩;exact ze (h _ _ sm m)
 case step =>
   rintro x ⟨c1,na,nb,out,g⟩ st' _ hx ⟨rfl,ms,hs⟩;dsimp -zeta only at *;refine zm (xv (yD (I:=λ_ c st'=>c.1=none/\MHS L st a b c.2.2.2.1 c.2.1 c.2.2.1 st'/\x+1<=c.2.2.2.1.size)
     (Q:=λc st'=>(∃ o,c.1=some o/\Sm st st'/\Mrg L a.toList b.toList o.toList)\/(c.1=none/\MHS L st a b c.2.2.2.1 c.2.1 c.2.2.1 st'/\x+1<=c.2.2.2.1.size)) ?step1 (λ_ _ z=>.inr z) ?init1) ?post1)
   case init1=>exact ⟨rfl,ms,hs⟩
   case step1 =>
     rintro y ⟨c1,na,nb,out,ac,bc⟩ st' _ hy ⟨rfl,ms,hs⟩;dsimp only at *;have hA:=ms.mi.hA;have hB:=ms.mi.hB;have ha:=ms.ha;have hb:=ms.hb;refine zm (yV (y3 b (nb-1) (by lia)) ?_);refine zm (yV (y3 a (na-1) (by lia)) ?_);refine zm (C.lt _ _ _ _ (sb _ (yr (by lia))) (sa _ (yr (by lia))) (ms.sm.kind.trans hk) ?_);dsimp only;cases e:L (b[nb-1]'(by lia)) (a[na-1]'(by lia)) with
     | true =>
       rw [if_pos rfl];refine zm (yV (y3 a (na-1) (by lia)) ?_);have m2:=ms.mi.putA O sa sb ra rb (by lia) (by lia) (by lia) (by lia) (C.asym _ _ e);by_cases z:(na-1==0)=true;{rw [if_pos z];exact ze (.inl ⟨_,rfl,ms.sm,m2.fin0 rb (by simpa using z)⟩)}
       . rw [if_neg z];have z':0<na-1:=by
           have:na-1≠0:=by simpa using z
           lia
         split;{exact ze (.inr ⟨rfl,⟨ms.sm,m2,z',hb⟩,by simp;lia⟩)}
         . exact ze ⟨rfl,⟨ms.sm,m2,z',hb⟩,by simp;lia⟩
     | false =>
       rw [if_neg (by decide)];refine zm (yV (y3 b (nb-1) (by lia)) ?_);have m2:=ms.mi.putB O sa sb ra rb (by lia) (by lia) (by lia) (by lia) e;by_cases z:(nb-1==1)=true;{rw [if_pos z];exact ze (.inl ⟨_,rfl,ms.sm,m2.fin1 ra rb (by simpa using z) h0⟩)}
       . rw [if_neg z];have z':1<nb-1:=by
           have:nb-1≠1:=by simpa using z
           lia
         split;{exact ze (.inr ⟨rfl,⟨ms.sm,m2,ha,z'⟩,by simp;lia⟩)};{exact ze ⟨rfl,⟨ms.sm,m2,ha,z'⟩,by simp;lia⟩}
   case post1 =>
     rintro ⟨c1,na,nb,out,ac,bc⟩ st' (⟨o,rfl,sm,m⟩ | ⟨rfl,ms,hs⟩);{exact ze ⟨o,rfl,sm,m⟩}
     . iterate 10 skip
       dsimp (config:={ zeta:=false }) only at *;refine zm (vP (we ⟨rfl,?_⟩))
       skip
       refine zm (xv (yD (I:=λy c st'=>c.1=none/\MHS L st a b c.2.2.2.1 c.2.1 c.2.2.1 st'/\x+1+y<=c.2.2.2.1.size)
         (Q:=λc st'=>(∃ o,c.1=some o/\Sm st st'/\Mrg L a.toList b.toList o.toList)\/(c.1=none/\MHS L st a b c.2.2.2.1 c.2.1 c.2.2.1 st'/\x+2<=c.2.2.2.1.size)) ?step2 ?fin2 ?init2) ?post2)
       case init2=>exact ⟨rfl,ms,hs⟩
       case fin2 =>
         rintro ⟨c1,na,nb,out,g,ac,bc⟩ st' ⟨e,ms,hs⟩;refine .inr ⟨e,ms,?_⟩;dsimp only at *;lia
       case post2 =>
         rintro ⟨c1,na,nb,out,g,ac,bc⟩ st' (⟨o,rfl,sm,m⟩ | ⟨rfl,ms,hs⟩);{exact ze ⟨o,rfl,sm,m⟩};{dsimp only at *;exact zm (pW (ze ⟨rfl,⟨ms.sm.gal _,ms.mi,ms.ha,ms.hb⟩,by dsimp only;lia⟩))}
       case step2 =>
         rintro y ⟨c1,na,nb,out,g,ac,bc⟩ st' _ hy ⟨e3,ms,hs⟩;dsimp -zeta only at e3 ms hs ⊢;subst e3;have hA:=ms.mi.hA;have hB:=ms.mi.hB;have ha:=ms.ha;have hb:=ms.hb;have mz:=ms.mi.size
         extract_lets +onlyGivenNames -underBinder s1 n1 s2 n2 s3 n3 s4 n4 s5 n5 n6 jp
         refine fL jp (λ_ g=>?_) λhj=>by clear_value jp;split<;>exact hj _ _
         dsimp -zeta only [s1,s2,s3,s4,s5,n1,n2,n3,n4,n5,n6,jp];clear jp s1 s2 s3 s4 s5 n1 n2 n3 n4 n5 n6;refine zm (pW ?_);refine zm (yV (y3 b (nb-1) (by lia)) ?_);refine zm (tN C (ms.sm.kind.trans hk) (sb _ (yr (by lia))) sa (by lia) (by lia) (fN O sa ra (sb _ (yr (by lia))) (by lia)) λk1 hk1 ht1 hf1=>?_);dsimp -zeta only
         extract_lets +onlyGivenNames -underBinder k ac jp
         refine pV jp (λna out=>∃ _:0<na/\na<=a.size,MH L a.toList b.toList out.reverse.toList na nb/\L (b[nb-1]'(by lia)) (a[na-1]'(by lia))=false/\x+1+y<=out.size) ?_ ?_
         . rintro _ na out ⟨_,m1,nx,hs⟩;dsimp -zeta only [jp];clear jp;refine zm (yV (y3 b (nb-1) (by lia)) ?_);have m2:=m1.putB O sa sb ra rb (by lia) (by lia) (by lia) (by lia) nx
           extract_lets +onlyGivenNames -underBinder ou
           by_cases z3:(nb-1==1)=true;{rw [if_pos z3];exact ze (.inl ⟨_,rfl,ms.sm.gal _,m2.fin1 ra rb (by simpa using z3) h0⟩)}
           rw [if_neg z3];have z3':1<nb-1:=by
             have:nb-1≠1:=by simpa using z3
             lia
           refine zm (yV (y3 a (na-1) (by lia)) ?_);refine zm (tN C (ms.sm.kind.trans hk) (sa _ (yr (by lia))) sb (by lia) (by lia) (fM O sb rb (sa _ (yr (by lia))) (by lia)) λk2 hk2 ht2 hf2=>?_);dsimp -zeta only
           extract_lets +onlyGivenNames -underBinder k bc jp
           refine pV jp (λnb ou=>∃ _:1<nb/\nb<=b.size,MH L a.toList b.toList ou.reverse.toList na nb/\L (a[na-1]'(by lia)) (b[nb-1]'(by lia))=false/\x+2+y<=ou.size) ?_ ?_
           . rintro _ nb ou ⟨⟨h1,_⟩,m3,nx2,hs⟩;dsimp -zeta only [jp];clear jp;refine zm (yV (y3 a (na-1) (by lia)) ?_);have m4:=m3.putA O sa sb ra rb (by lia) (by lia) (by lia) (by lia) nx2;dsimp only;by_cases z5:(na-1==0)=true
             . rw [if_pos z5];exact ze (.inl ⟨_,rfl,ms.sm.gal _,m4.fin0 rb (by simpa using z5)⟩)
             rw [if_neg z5];have z5':0<na-1:=by
               have:na-1≠0:=by simpa using z5
               lia
             split;{exact ze (.inr ⟨rfl,⟨ms.sm.gal _,m4,z5',h1⟩,by simp;lia⟩)};{exact ze ⟨rfl,⟨ms.sm.gal _,m4,z5',h1⟩,by simp;lia⟩}
           clear_value jp
           intro hj;have nx2:∀ n,(hn:0<n)->n<=k2->(hb:n<=b.size)->L (a[na-1]'(by lia)) (b[n-1]'(by lia))=false:=λn hn hk hb=>by
             have:=ht2 (n-1) (by lia);rw [pb0_t (by lia)] at this;exact C.asym _ _ this
           by_cases kz:k > 0
           . rw [if_pos kz];have m3:=m2.putBs (k:=k2) O sa sb ra rb (by lia) (by lia) hk2 hf2;dsimp only;by_cases z4:(k2==1)=true
             . rw [if_pos z4];exact ze (.inl ⟨_,rfl,ms.sm.gal _,m3.fin1 ra rb (by simpa using z4) h0⟩)
             rw [if_neg z4];by_cases z6:(k2==0)=true;{rw [if_pos z6];exact ze (.inl ⟨_,rfl,ms.sm.gal _,m3.fin0b ra (by simpa using z6)⟩)}
             rw [if_neg z6];have:k2≠1:=by simpa using z4
             have:k2≠0:=by simpa using z6
             exact hj _ _ _ ⟨⟨by lia,by lia⟩,m3,nx2 _ (by lia) (by lia) (by lia),by simp [ou];lia⟩
           . rw [if_neg kz];exact hj _ _ _ ⟨⟨by lia,by lia⟩,m2,nx2 _ (by lia) (by lia) (by lia),by simp [ou];lia⟩
         clear_value jp
         intro hj;have nx:∀ n,(hn:0<n)->n<=k1->(hb:n<=a.size)->L (b[nb-1]'(by lia)) (a[n-1]'(by lia))=false:=λn hn hk hb=>by
           have:=ht1 (n-1) (by lia);rw [pb0_f (by lia)] at this;simpa using this
         by_cases kz:k > 0
         . rw [if_pos kz];have m1:=ms.mi.putAs (k:=k1) O sa sb ra rb (by lia) (by lia) hk1 hf1;dsimp only;by_cases z1:(k1==0)=true
           . rw [if_pos z1];exact ze (.inl ⟨_,rfl,ms.sm.gal _,m1.fin0 rb (by simpa using z1)⟩)
           rw [if_neg z1];have:k1≠0:=by simpa using z1
           exact hj _ _ _ ⟨⟨by lia,by lia⟩,m1,nx _ (by lia) (by lia) (by lia),by simp;lia⟩
         . rw [if_neg kz];exact hj _ _ _ ⟨⟨by lia,by lia⟩,ms.mi,nx _ (by lia) (by lia) (by lia),hs⟩
end
section
variable {S:Keyed->Prop}{L:Keyed->Keyed->Bool}
theorem rL {arr:Array Keyed}{pre A rest:List Keyed}(e:arr.toList=pre++(A++rest)){i:Nat}(hi:i<A.length):arr[pre.length+i]?=some A[i]:=by rw [<- zA,e,yq (by lia),show pre.length+i-pre.length=i by lia,xA hi];exact zO hi
theorem seg_f {arr:Array Keyed}{pre A rest:List Keyed}(e:arr.toList=pre++(A++rest)){key:Keyed}{i:Nat}(hi:i<A.length):pb L false key arr pre.length i=!L key A[i]:=by unfold pb;rw [rL e hi];rfl
theorem seg_t {arr:Array Keyed}{pre A rest:List Keyed}(e:arr.toList=pre++(A++rest)){key:Keyed}{i:Nat}(hi:i<A.length):pb L true key arr pre.length i=L A[i] key:=by unfold pb;rw [rL e hi];rfl
theorem uS {A:List Keyed}(r:Rise L A){i j:Nat}(hij:i<j)(hj:j<A.length):L A[j] (A[i]'(by lia))=false:=mq.mp r i j (by lia) hj hij
theorem Zw (O:Ord S L){arr:Array Keyed}{pre A rest:List Keyed}(e:arr.toList=pre++(A++rest))(r:Rise L A)(sA:∀ x∈A,S x){key:Keyed}(sk:S key) :
   ∀ i j,i<=j->j<A.length->pb L false key arr pre.length j=true->pb L false key arr pre.length i=true:=by
 intro i j hij hj h;rw [seg_f e hj] at h;rw [seg_f e (by lia)];rcases xN i j with q | q
 . have h:L key A[j]=false:=by simpa using h
   have:=O.step (sA _ (y9 (by lia))) (sA _ (y9 hj)) sk h (uS r q hj);simpa using this
 . have:i=j:=by lia
   subst this;exact h
theorem Zv (O:Ord S L){arr:Array Keyed}{pre A rest:List Keyed}(e:arr.toList=pre++(A++rest))(r:Rise L A)(sA:∀ x∈A,S x){key:Keyed}(sk:S key) :
   ∀ i j,i<=j->j<A.length->pb L true key arr pre.length j=true->pb L true key arr pre.length i=true:=by
 intro i j hij hj h;rw [seg_t e hj] at h;rw [seg_t e (by lia)];rcases xN i j with q | q
 . rcases O.neg _ (A[i]'(by lia)) _ (sA _ (y9 hj)) (sA _ (y9 (by lia))) sk h with z | z
   . rw [uS r q hj] at z;cases z
   . exact z
 . have:i=j:=by lia
   subst this;exact h
theorem kq {A:List Keyed}{k:Nat}{x:Keyed}(h:x∈A.take k):∃ i,i<k/\∃ q:i<A.length,x=A[i]:=by obtain ⟨j,hj,e⟩:=xR.mp h;rw [zE] at hj;exact ⟨j,by lia,by lia,by rw [<- e];simp⟩
theorem kj {A:List Keyed}{k:Nat}{x:Keyed}(h:x∈A.drop k):∃ i,k<=i/\∃ q:i<A.length,x=A[i]:=by obtain ⟨j,hj,e⟩:=xR.mp h;rw [yH] at hj;exact ⟨k+j,by lia,by lia,by rw [<- e];simp⟩
theorem fC:∀ (l:List Keyed) (n:Nat) (sa:Nat) (arr:Array Keyed),sa+n+l.length<=arr.size ->
   ((l.zipIdx n).foldl (λ(a:Array Keyed) (q:Keyed × Nat)=>a.setIfInBounds (sa+q.2) q.1) arr).toList=arr.toList.take (sa+n)++l++arr.toList.drop (sa+n+l.length)
 | [],n,sa,arr,h=>by simp
 | x :: l,n,sa,arr,h=>by
   rw [List.zipIdx_cons,wu];have h':sa+(n+1)+l.length<=(arr.setIfInBounds (sa+n) x).size:=by rw [qf];simp only [zZ] at h;lia
   rw [fC l (n+1) sa _ h'];have hlt:sa+n<arr.toList.length:=by simp only [zZ] at h;simp;lia
   rw [m6,List.take_set,List.drop_set];rw [if_pos (by lia)];have e1:(arr.toList.take (sa+(n+1))).set (sa+n) x=arr.toList.take (sa+n)++[x]:=by
     rw [show sa+(n+1)=sa+n+1 by lia,yG,zO hlt];have hl:(arr.toList.take (sa+n)).length=sa+n:=by rw [zE];lia
     rw [ma _ _ (by lia),hl,wt];rfl
   rw [e1];simp only [zZ,zX,vn,yY];rw [show sa+(n+1)+l.length=sa+n+(l.length+1) by lia]
theorem kh (O:Ord S L) {A B M:List Keyed} {k n:Nat} {b0 al:Keyed} (rA:Rise L A) (rB:Rise L B) (sA:∀ x∈A,S x) (sB:∀ x∈B,S x) (sb0:S b0) (sal:S al) (hb0:∀ y∈B,L y b0=false) (hal:∀ x∈A,L al x=false)
   (f1:∀ x∈A.take k,L b0 x=false) (f2:∀ y∈B.drop n,L y al=false) (pM:M.Perm (A.drop k++B.take n)) (rM:Rise L M):Rise L (A.take k++M++B.drop n)/\(A.take k++M++B.drop n).Perm (A++B):=by
 have bp:∀ x∈A.take k,∀ y∈B,L y x=false:=λx hx y hy=>O.step (sA _ (xH hx)) sb0 (sB _ hy) (hb0 y hy) (f1 x hx)
 have qa:∀ x∈A,∀ y∈B.drop n,L y x=false:=λx hx y hy=>O.step (sA _ hx) sal (sB _ (wH hy)) (f2 y hy) (hal x hx)
 constructor
 . refine y4.mpr ⟨y4.mpr ⟨rA.sublist (xj _ _),rM,λx hx y hy=>?_⟩,rB.sublist (xi _ _),λx hx y hy=>?_⟩
   . rcases zY.mp (pM.mem_iff.mp hy) with z | z
     . have r:=rA;rw [<- ye k A] at r;exact (y4.mp r).2.2 x hx y z
     . exact bp x hx y (xH z)
   . rcases zY.mp hx with w | w
     . exact qa x (xH w) y hy
     . rcases zY.mp (pM.mem_iff.mp w) with z | z
       . exact qa x (wH z) y hy
       . have r:=rB;rw [<- ye n B] at r;exact (y4.mp r).2.2 x z y hy
 . refine ((xw _ pM).append_right _).trans ?_;rw [<- zX,ye,zX,ye]
end
structure Two (L:Keyed->Keyed->Bool)(st:SortSt)(i:Nat)(pre A B post:List Keyed):Prop where
 arr:(arrOf st).toList=pre++(A++(B++post))
 pa:∃ pw,(pendingOf st)[i]?=some (pre.length,A.length,pw)
 pb:∃ pw,(pendingOf st)[i+1]?=some (pre.length+A.length,B.length,pw)
 rA:Rise L A
 rB:Rise L B
 nA:0<A.length
 nB:0<B.length
section
variable {M:Model}{Ar:Around}{kd:SortKind}{S:Keyed->Prop}{L:Keyed->Keyed->Bool}
theorem wpS_set {σ:Type}{x:σ}{Q:PUnit->σ->Prop}{st:σ}(h:Q ⟨⟩ x):wpS M Ar E s (set x:StateT σ Sem PUnit) Q st:=by unfold wpS;rw [StateT.run_set];exact zi ⟨rfl,h⟩
theorem Zu (C:Cmp M Ar E s kd S L){st:SortSt}{i:Nat}{pre A B post:List Keyed}{Q:Bool->SortSt->Prop}(hk:kindOf st=kd)(hf:failedOf st=none)(sS:∀ x∈(arrOf st).toList,S x)(T:Two L st i pre A B post)
   (h:∀ (st':SortSt) (R:List Keyed) (pw:Nat),kindOf st'=kd->failedOf st'=none->(arrOf st').toList=pre++(R++post)->Rise L R->R.Perm (A++B) ->
     pendingOf st'=((pendingOf st).setIfInBounds i (pre.length,A.length+B.length,pw)).eraseIdxIfInBounds (i+1)->Q true st'):wpS M Ar E s (mergeAt' i) Q st:=by
 have O:=C.ord;obtain ⟨earr,⟨pw,epa⟩,⟨pw2,epb⟩,rA,rB,nA,nB⟩:=T;have sA:∀ x∈A,S x:=λx hx=>sS x (by rw [earr];simp [hx])
 have sB:∀ x∈B,S x:=λx hx=>sS x (by rw [earr];simp [hx])
 have earr2:(arrOf st).toList=(pre++A)++(B++post):=by rw [earr,zX]
 have hsz:(arrOf st).size=pre.length+A.length+B.length+post.length:=by rw [<- zT,earr];simp only [zh];lia
 have ga:=λ{j:Nat} (hj:j<A.length)=>rL earr hj
 have gb:∀ {j:Nat} (hj:j<B.length),(arrOf st)[pre.length+A.length+j]?=some B[j]:=λ{j} hj=>by
   have:=rL earr2 hj;rw [zh] at this;exact this
 have ht:=λ{key:Keyed} {j:Nat} (hj:j<B.length)=>seg_t (L:=L) (key:=key) earr2 hj
 have mt:=λ{key:Keyed} (sk:S key)=>Zv O earr2 rB sB sk
 rw [zh] at ht mt;have aux:∀ {P:Prop},P->P:=λx=>x
 unfold mergeAt'
 k_delta "mergeAt"
 refine zm (xB ?_);dsimp only;rw [epa,epb];dsimp only;refine zm (wpS_set ?_);refine zm (yV (gb (j:=0) nB) ?_);refine zm (tN (arr:=arrOf st) C (by exact hk) (sB _ (y9 nB)) sS (by lia) nA (Zw O earr rA sA (sB _ (y9 nB))) λk hk1 t1 f1=>?_);dsimp only;have hb0:∀ y∈B,L y B[0]=false:=λy hy=>by
   obtain ⟨j,hj,rfl⟩:=xR.mp hy;rcases Nat.eq_zero_or_pos j with z | z
   . subst z;exact O.irr _
   . exact uS rB z hj
 have hal:∀ x∈A,L A[A.length-1] x=false:=λx hx=>by
   obtain ⟨j,hj,rfl⟩:=xR.mp hx;rcases xN j (A.length-1) with z | z
   . exact uS rA z (by lia)
   . have:j=A.length-1:=by lia
     subst this;exact O.irr _
 have F1:∀ x∈A.take k,L B[0] x=false:=λx hx=>by
   obtain ⟨j,hj,q,rfl⟩:=kq hx;have:=t1 j hj;rw [seg_f earr q] at this;simpa using this
 have F1':∀ x∈A.drop k,L B[0] x=true:=λx hx=>by
   obtain ⟨j,hj,q,rfl⟩:=kj hx;have:=f1 j hj q;rw [seg_f earr q] at this;simpa using this
 by_cases z1:(A.length-k==0)=true
 . rw [if_pos z1];have ek:A.length<=k:=by
     have:A.length-k=0:=by simpa using z1
     lia
   have:=kh (M:=[]) (n:=0) O rA rB sA sB (sB _ (y9 nB)) (sA A[A.length-1] (y9 (by lia))) hb0 hal F1 (λy hy=>?_) (by rw [wK ek];simp) .nil;{refine ze (h _ (A.take k++[]++B.drop 0) pw hk hf ?_ this.1 this.2 rfl);rw [yZ ek];simp only [yx,vF,zX];exact earr};{exact O.step (sA _ (y9 (by lia))) (sB _ (y9 nB)) (sB _ hy) (hb0 y hy) (F1 _ (by rw [yZ ek];exact y9 (by lia)))}
 rw [if_neg z1];have z1':k<A.length:=by
   have:A.length-k≠0:=by simpa using z1
   lia
 have el:(arrOf st)[pre.length+k+(A.length-k)-1]?=some A[A.length-1]:=by rw [show pre.length+k+(A.length-k)-1=pre.length+(A.length-1) by lia];exact ga (by lia)
 refine zm (yV el ?_);refine zm (tN (arr:=arrOf st) C (by exact hk) (sA _ (y9 (by lia))) sS (by lia) (by lia) (mt (sA _ (y9 (by lia)))) λn hn t2 f2=>?_);dsimp only;have F2:∀ y∈B.drop n,L y A[A.length-1]=false:=λy hy=>by
   obtain ⟨j,hj,q,rfl⟩:=kj hy;have:=f2 j hj q;rw [ht q] at this;exact this
 have F2':∀ y∈B.take n,L y A[A.length-1]=true:=λy hy=>by
   obtain ⟨j,hj,q,rfl⟩:=kq hy;have:=t2 j hj;rw [ht q] at this;exact this
 by_cases z2:(n==0)=true
 . rw [if_pos z2];have en:n=0:=by simpa using z2
   subst en;have:=kh (M:=A.drop k) (n:=0) O rA rB sA sB (sB _ (y9 nB)) (sA A[A.length-1] (y9 (by lia))) hb0 hal F1 F2 (by simp) (rA.sublist (xi _ _));refine ze (h _ (A.take k++A.drop k++B.drop 0) pw hk hf ?_ this.1 this.2 rfl);rw [ye,vF,zX];exact earr
 rw [if_neg z2];have z2':0<n:=by
   have:n≠0:=by simpa using z2
   lia
 have ex:((arrOf st).extract (pre.length+k) (pre.length+A.length)).toList=A.drop k:=by rw [pT _ (by lia),earr];rw [show pre++(A++(B++post))=(pre++A)++(B++post) by rw [zX]];rw [m8 (by simp),yZ (by simp),<- ug];simp
 have ey:((arrOf st).extract (pre.length+A.length) (pre.length+A.length+n)).toList=B.take n:=by rw [kr,earr2];rw [show pre.length+A.length=(pre++A).length by simp,sC,m8 hn]
 generalize (arrOf st).extract (pre.length+k) (pre.length+A.length)=x at ex ⊢;generalize (arrOf st).extract (pre.length+A.length) (pre.length+A.length+n)=y at ey ⊢;have xs:x.size=A.length-k:=by rw [<- zT,ex,yH]
 have ys:y.size=n:=by rw [<- zT,ey,zE];lia
 have y0:∀ (q:0<y.size),y[0]=B[0]:=λq=>by
   have:y.toList[0]?=(B.take n)[0]?:=by rw [ey]
   rw [ml z2',zO nB,zA,y3 y 0 q] at this;exact Option.some.inj this
 have xl:∀ (q:x.size-1<x.size),x[x.size-1]=A[A.length-1]:=λq=>by
   have e2:(A.drop k)[x.size-1]?=some A[A.length-1]:=by rw [sQ,xs,show k+(A.length-k-1)=A.length-1 by lia];exact zO (by lia)
   have:x.toList[x.size-1]?=some A[A.length-1]:=by rw [ex];exact e2
   rw [zA,y3 x (x.size-1) q] at this;exact Option.some.inj this
 have fin:∀ (o:Array Keyed) (st':SortSt),Sm (setPending st (((pendingOf st).setIfInBounds i (pre.length,A.length+B.length,pw)).eraseIdxIfInBounds (i+1))) st'->Mrg L x.toList y.toList o.toList ->
     wpS M Ar E s (do
       modify λs=>setArr s (o.toList.zipIdx.foldl (λ(a:Array Keyed) (q:Keyed × Nat)=>a.setIfInBounds (pre.length+k+q.2) q.1) (arrOf s))
       return (failedOf (<- get)).isNone) Q st':=by
   intro o st' sm ⟨mp,mr⟩;rw [ex,ey] at mp;have:=kh O rA rB sA sB (sB _ (y9 nB)) (sA A[A.length-1] (y9 (by lia))) hb0 hal F1 F2 mp mr;have ol:o.toList.length=A.length-k+n:=by rw [mp.length_eq,zh,yH,zE];lia
   refine zm (wM ?_);refine zm (xB (ze ?_));have ef:failedOf st'=none:=sm.failed.trans hf;show Q (failedOf st').isNone _;rw [ef];refine h _ _ pw (sm.kind.trans hk) ef ?_ this.1 this.2 sm.pend;show (o.toList.zipIdx.foldl _ (arrOf st')).toList=_;have ea:arrOf st'=arrOf st:=sm.arr;rw [ea];refine (fC o.toList 0 (pre.length+k) (arrOf st) (by lia)).trans ?_;rw [xt,earr,ol];have t3:(pre++(A++(B++post))).take (pre.length+k)=pre++A.take k:=by rw [List.take_append,yZ (by lia),show pre.length+k-pre.length=k by lia,m8 (by lia)]
   have t4:(pre++(A++(B++post))).drop (pre.length+k+(A.length-k+n))=B.drop n++post:=by rw [show pre.length+k+(A.length-k+n)=pre.length+(A.length+n) by lia,<- ug,sC,<- ug,sC,m7 hn]
   rw [t3,t4];simp only [zX]
 have sx:∀ z∈x.toList,S z:=λz hz=>sA z (by rw [ex] at hz;exact wH hz)
 have sy:∀ z∈y.toList,S z:=λz hz=>sB z (by rw [ey] at hz;exact xH hz)
 have rx:Rise L x.toList:=by rw [ex];exact rA.sublist (xi _ _)
 have ry:Rise L y.toList:=by rw [ey];exact rB.sublist (xj _ _)
 have hx0:∀ z∈x.toList,L z B[0]=false:=λz hz=>C.asym _ _ (F1' z (by rw [<- ex];exact hz))
 have hyl:∀ z∈y.toList,L A[A.length-1] z=false:=λz hz=>C.asym _ _ (F2' z (by rw [<- ey];exact hz))
 by_cases z3:A.length-k<=n
 . rw [if_pos z3];refine zm (Zz C (by exact hk) sx sy rx ry (by lia) (by lia) (λz hz=>by rw [y0 (by lia)];exact hx0 z hz) (λz hz w hw=>?_) fin);rw [uT (by lia),show x.size-1+1=x.toList.length by simp;lia,wK (zk _)] at hz;have hz:z=x[x.size-1]:=by simpa using hz
   rw [hz,xl (by lia)];exact hyl w hw
 . rw [if_neg z3];refine zm (Zx C (by exact hk) sx sy rx ry (by lia) (by lia) (λz hz w hw=>?_) (λw hw=>by rw [xl (by lia)];exact hyl w hw) fin);have e1:y.toList.take 1=[y[0]'(by lia)]:=by
     have:=uT (a:=y) (i:=0) (by lia);rw [vF] at this;rw [this];rfl
   rw [e1] at hw;have hw:w=y[0]'(by lia):=by simpa using hw
   rw [hw,y0 (by lia)];exact hx0 z hz
end
theorem swap_adj {xs:Array Keyed} {u v:List Keyed} {x y:Keyed} (e:xs.toList=u++(y::x::v)):(xs.swapIfInBounds (u.length+1) u.length).toList=u++(x::y::v):=by
 have sz:xs.size=u.length+(v.length+2):=by rw [<- zT,e];simp
 apply mP
 intro t;rw [zA,getElem?_swapIB (by lia) (by lia)];have g:∀ i,xs[i]?=(u++(y::x::v))[i]?:=λi=>by rw [<- zA,e]
 rw [g,g,g];by_cases h1:u.length=t;{subst h1;rw [if_pos rfl,yq (by lia),yq (by lia),wt,show u.length+1-u.length=1 by lia];rfl}
 . rw [if_neg h1]
   by_cases h2:u.length+1=t;{subst h2;rw [if_pos rfl,yq (by lia),yq (by lia),wt,show u.length+1-u.length=1 by lia];rfl}
   . rw [if_neg h2];rcases xN t u.length with q | q
     . rw [xA q,xA q]
     . rw [yq q,yq q];obtain ⟨w,hw⟩:∃ w,t-u.length=w+2:=⟨t-u.length-2,by lia⟩
       rw [hw];rfl
theorem fB {arr:Array Keyed}{pre A rest:List Keyed}{x:Keyed}(e:arr.toList=pre++(A++(x::rest))):∀ d,d<=A.length->(bubble arr (pre.length+A.length) d).toList=pre++(A.take (A.length-d)++(x::(A.drop (A.length-d)++rest)))
 | 0,_=>by
   rw [r8,yZ (zk _),wK (zk _),yY];exact e
 | d + 1,h=>by
   have ih:=fB e d (by lia);rw [bubble_succ];obtain ⟨m,hm⟩:∃ m,A.length-d=m+1:=⟨A.length-d-1,by lia⟩
   have hm2:A.length-(d+1)=m:=by lia
   have hmA:m<A.length:=by lia
   rw [hm] at ih;rw [hm2];have e1:A.take (m+1)=A.take m++[A[m]]:=by rw [yG,zO hmA];rfl
   have e2:A.drop m=A[m]::A.drop (m+1):=sX hmA;have ih2:(bubble arr (pre.length+A.length) d).toList=(pre++A.take m)++(A[m]::x::(A.drop (m+1)++rest)):=by rw [ih,e1];simp only [zX,vn,yY]
   have:=swap_adj ih2;rw [show (pre++A.take m).length=pre.length+m by rw [zh,zE];lia] at this;rw [show pre.length+A.length-d=pre.length+m+1 by lia,show pre.length+m+1-1=pre.length+m by lia,this,e2];simp only [zX,vn,yY]
theorem Zt {arr:Array Keyed}{u w v:List Keyed}(e:arr.toList=u++(w++v)):(mirror arr u.length (u.length+w.length) ((u.length+w.length-u.length)/2)).toList=u++(w.reverse++v):=by
 have sz:arr.size=u.length+(w.length+v.length):=by rw [<- zT,e];simp
 apply mP
 intro t;rw [zA,getElem?_mirror_all (by lia)];have g:∀ i,arr[i]?=(u++(w++v))[i]?:=λi=>by rw [<- zA,e]
 rw [g,g];by_cases h1:u.length<=t/\t<u.length+w.length
 . rw [if_pos h1,yq (by lia),yq h1.1,xA (by lia),xA (by rw [xQ];lia),mZ (by lia)];congr 1
   lia
 . rw [if_neg h1];rcases xN t u.length with q | q
   . rw [xA q,xA q]
   . rw [yq q,yq q,yq (by lia),yq (by rw [xQ];lia),xQ]
structure Sa (st st':SortSt):Prop where
 kind:kindOf st'=kindOf st
 pend:pendingOf st'=pendingOf st
 failed:failedOf st'=failedOf st
section
variable {M:Model}{Ar:Around}{kd:SortKind}{S:Keyed->Prop}{L:Keyed->Keyed->Bool}
theorem rK (C:Cmp M Ar E s kd S L){st:SortSt}{i j:Nat}{x y:Keyed}{Q:Option Bool->SortSt->Prop}(hk:kindOf st=kd)(ei:(arrOf st)[i]?=some x)(ej:(arrOf st)[j]?=some y)(sx:S x)(sy:S y)(h:Q (some (L x y)) st):wpS M Ar E s (ltAt' i j) Q st:=by rw [ltAt'_eq];refine zm (xB ?_);dsimp only;exact zm (yV ei (zm (yV ej (C.lt _ _ _ _ sx sy hk h))))
theorem Zs (C:Cmp M Ar E s kd S L) {st:SortSt} {pre A U post:List Keyed} {Q:Bool->SortSt->Prop} (hk:kindOf st=kd) (sS:∀ x∈A++U,S x) (e:(arrOf st).toList=pre++(A++(U++post))) (rA:Rise L A) (nA:0<A.length)
   (h:∀ (st':SortSt) (R:List Keyed),Sa st st'->(arrOf st').toList=pre++(R++post)->Rise L R->R.Perm (A++U)->Q true st'):wpS M Ar E s (binarySort' pre.length (A.length+U.length) A.length) Q st:=by
 have O:=C.ord;rw [binarySort'_eq];rw [show max A.length 1=A.length by lia];refine zm (xv (yD (I:=λk c st'=>c.1=none/\Sa st st'/\A.length<=k/\k<=A.length+U.length/\∃ R,R.length=k/\(arrOf st').toList=pre++(R++(U.drop (k-A.length)++post))/\Rise L R/\R.Perm (A++U.take (k-A.length)))
   (Q:=λc st'=>c.1=none/\Sa st st'/\∃ R,(arrOf st').toList=pre++(R++post)/\Rise L R/\R.Perm (A++U)) ?step ?fin ?init) ?post)
 case init=>exact ⟨rfl,⟨rfl,rfl,rfl⟩,zk _,by lia,A,rfl,by rw [wt,vF];exact e,rA,by rw [wt];simp⟩
 case fin =>
   rintro c st' ⟨e1,sm,h1,h2,R,hl,ea,rR,pR⟩;refine ⟨e1,sm,R,?_,rR,?_⟩;{rw [ea,wK (by lia),yY]};{rw [yZ (by lia)] at pR;exact pR}
 case post =>
   rintro ⟨c1,c2⟩ st' ⟨e1,sm,R,ea,rR,pR⟩;dsimp only at e1;subst e1;exact ze (h st' R sm ea rR pR)
 case step =>
   rintro k ⟨c1,_⟩ st' _ hkn ⟨e1,sm,h1,h2,R,hl,ea,rR,pR⟩;dsimp only at e1 ⊢;subst e1;have hu:k-A.length<U.length:=by lia
   have ed:U.drop (k-A.length)=U[k-A.length]::U.drop (k-A.length+1):=sX hu;generalize hx:U[k-A.length]=x at ed;have sx:S x:=sS x (by rw [<- hx];exact yC _ (y9 hu));have sR:∀ z∈R,S z:=λz hz=>sS z (by
     rcases zY.mp (pR.mem_iff.mp hz) with q | q
     . exact xS _ q
     . exact yC _ (xH q))
   rw [ed] at ea;have ek:(arrOf st')[pre.length+k]?=some x:=by rw [<- zA,ea,yq (by lia),show pre.length+k-pre.length=k by lia,yq (by lia),hl,wt];rfl
   have kk:kindOf st'=kd:=sm.kind.trans hk;refine zm (xv (yD (I:=λy c st2=>st'=st2/\c.1=none/\c.2.1<=c.2.2/\c.2.2<=k/\c.2.2-c.2.1<=k-y/\(∀ z∈R.take c.2.1,L x z=false)/\(∀ z∈R.drop c.2.2,L x z=true))
     (Q:=λc st2=>st'=st2/\c.1=none/\c.2.1<=k/\(∀ z∈R.take c.2.1,L x z=false)/\(∀ z∈R.drop c.2.1,L x z=true)) ?step2 ?fin2 ?init2) ?post2)
   case init2=>exact ⟨rfl,rfl,zV _,zk _,by dsimp only;lia,λz hz=>by simp at hz,λz hz=>by rw [wK (by dsimp only;lia)] at hz;simp at hz⟩
   case fin2 =>
     rintro ⟨c1,l,r⟩ st2 ⟨rfl,e1,g1,g2,g3,g4,g5⟩;dsimp only at *;have:l=r:=by lia
     subst this;exact ⟨rfl,e1,g2,g4,g5⟩
   case step2 =>
     rintro y ⟨c1,l,r⟩ st2 _ hy ⟨rfl,e1,g1,g2,g3,g4,g5⟩;dsimp only at *;subst e1;by_cases hlt:l≥r
     . rw [if_pos hlt];have:l=r:=by lia
       subst this;exact ze ⟨rfl,rfl,g2,g4,g5⟩
     . rw [if_neg hlt]
       have hm:(l+r)/2<R.length:=by lia
       refine zm (rK C kk ek (rL ea hm) sx (sR _ (y9 hm)) ?_);dsimp only;cases el:L x R[(l+r)/2] with
       | true =>
         rw [if_pos rfl];refine ze ⟨rfl,rfl,by dsimp only;lia,by dsimp only;lia,by dsimp only;lia,g4,λz hz=>?_⟩;obtain ⟨j,hj,q,rfl⟩:=kj hz;dsimp only at hj;rcases xN ((l+r)/2) j with w | w
         . rcases O.neg x R[j] R[(l+r)/2] sx (sR _ (y9 q)) (sR _ (y9 hm)) el with v | v
           . exact v
           . rw [uS rR w q] at v;cases v
         . have:j=(l+r)/2:=by lia
           subst this;exact el
       | false =>
         rw [if_neg (by decide)];refine ze ⟨rfl,rfl,by dsimp only;lia,g2,by dsimp only;lia,λz hz=>?_,g5⟩;obtain ⟨j,hj,q,rfl⟩:=kq hz;dsimp only at hj;rcases xN j ((l+r)/2) with w | w
         . exact O.step (sR _ (y9 q)) (sR _ (y9 hm)) sx el (uS rR w hm)
         . have:j=(l+r)/2:=by lia
           subst this;exact el
   case post2 =>
     rintro ⟨c1,l,r⟩ st2 ⟨rfl,e1,g2,g4,g5⟩;dsimp only at *;subst e1;rw [moveDown'_eq];refine zm (wM (ze ⟨rfl,⟨sm.kind,sm.pend,sm.failed⟩,by lia,by lia,R.take l++(x::R.drop l),?_,?_,?_,?_⟩));{simp only [zh,zE,zZ,yH];lia};{show (bubble (arrOf st') (pre.length+k) (pre.length+k-(pre.length+l))).toList=_;have:=fB ea (k-l) (by lia);rw [hl,show k-(k-l)=l by lia] at this;rw [show pre.length+k-(pre.length+l)=k-l by lia,this,show k+1-A.length=k-A.length+1 by lia];simp only [zX,vn];rfl}
     . refine y4.mpr ⟨rR.sublist (xj _ _),uA.mpr ⟨λz hz=>O.asym _ _ (g5 z hz),rR.sublist (xi _ _)⟩,λz hz w hw=>?_⟩;rcases zQ.mp hw with q | q
       . rw [q];exact g4 z hz
       . have r2:=rR;rw [<- ye l R] at r2;exact (y4.mp r2).2.2 z hz w q
     . rw [show k+1-A.length=k-A.length+1 by lia,yG,zO hu,hx,<- zX];refine (List.perm_middle (l₁:=R.take l) (l₂:=R.drop l)).trans ?_;rw [ye];refine (List.Perm.cons x pR).trans ?_;exact (my x _).symm
end
abbrev Fall (L:Keyed->Keyed->Bool)(l:List Keyed):Prop:=l.Pairwise λx y=>L x y=false
structure CR (st st':SortSt)(pre all D T:List Keyed):Prop where
 sa:Sa st st'
 arr:(arrOf st').toList=pre++(D++T)
 perm:(D++T).Perm all
section
variable {M:Model}{Ar:Around}{kd:SortKind}{S:Keyed->Prop}{L:Keyed->Keyed->Bool}
theorem Sa.arr {st st':SortSt}(h:Sa st st')(a:Array Keyed):Sa st (setArr st' a):=⟨h.kind,h.pend,h.failed⟩
theorem CR.get {st st':SortSt}{pre all D T:List Keyed}(h:CR st st' pre all D T){i:Nat}(hi:i<(D++T).length):(arrOf st')[pre.length+i]?=some (D++T)[i]:=by rw [<- zA,h.arr,yq (by lia),show pre.length+i-pre.length=i by lia];exact zO hi
theorem CR.ends {st st':SortSt}{pre all D T:List Keyed}{x y:Keyed}(h:CR st st' pre all (D++[y]) (x::T)){n:Nat}(hn:n=D.length+1):(arrOf st')[pre.length+n]?=some x/\(arrOf st')[pre.length+n-1]?=some y:=by
 subst hn;constructor;{rw [<- zA,h.arr,yq (by lia),show pre.length+(D.length+1)-pre.length=D.length+1 by lia,yq (by simp)];simp};{rw [<- zA,h.arr,yq (by lia),show pre.length+(D.length+1)-1-pre.length=D.length by lia,xA (by simp),yq (by lia)];simp}
theorem fA {D:List Keyed}(h:0<D.length):∃ D0 y,D=D0++[y]:=⟨D.dropLast,D.getLast (by intro e;rw [e] at h;simp at h),(iH _).symm⟩
theorem Zr (O:Ord S L){D0:List Keyed}{x y:Keyed}(sD:∀ z∈D0++[y],S z)(sx:S x)(r:Rise L (D0++[y]))(c:L x y=false):Rise L (D0++[y]++[x]):=by
 refine y4.mpr ⟨r,by simp,λz hz w hw=>?_⟩;have hw:w=x:=by simpa using hw
 subst hw;rcases zY.mp hz with q | q
 . exact O.step (sD z hz) (sD y (by simp)) sx c ((y4.mp r).2.2 z q y (by simp))
 . have q:z=y:=by simpa using q
   rw [q];exact c
theorem Zq (O:Ord S L){D0:List Keyed}{x y:Keyed}(sD:∀ z∈D0++[y],S z)(sx:S x)(r:Fall L (D0++[y]))(c:L y x=false):Fall L (D0++[y]++[x]):=by
 refine y4.mpr ⟨r,by simp,λz hz w hw=>?_⟩;have hw:w=x:=by simpa using hw
 subst hw;rcases zY.mp hz with q | q
 . exact O.step sx (sD y (by simp)) (sD z hz) ((y4.mp r).2.2 z q y (by simp)) c
 . have q:z=y:=by simpa using q
   rw [q];exact c
theorem pS {D:List Keyed}(h:Fall L D):Rise L D.reverse:=List.pairwise_reverse.mpr h
theorem CR.next {st st':SortSt}{pre all D T:List Keyed}{x:Keyed}(h:CR st st' pre all D (x::T)):CR st st' pre all (D++[x]) T:=⟨h.sa,by rw [h.arr];simp,by have:=h.perm;simpa using this⟩
theorem CR.turn {st st':SortSt}{pre all D1 W T:List Keyed}(h:CR st st' pre all (D1++W) T):CR st (setArr st' (mirror (arrOf st') (pre.length+D1.length) (pre.length+D1.length+W.length) ((pre.length+D1.length+W.length-(pre.length+D1.length))/2))) pre all (D1++W.reverse) T:=by
 refine ⟨h.sa.arr _,?_,?_⟩
 . have e:(arrOf st').toList=(pre++D1)++(W++T):=by rw [h.arr];simp
   have:=Zt e;rw [zh] at this;show (mirror _ _ _ _).toList=_;rw [this];simp
 . refine List.Perm.trans ?_ h.perm;exact (xw _ (List.reverse_perm W)).append_right _
theorem rJ (C:Cmp M Ar E s kd S L) {st st0:SortSt} {pre all D T:List Keyed} {n nrem:Nat} {f:Nat->Option (Option Nat) × Nat->StateT SortSt Sem (ForInStep (Option (Option Nat) × Nat))} {Q:Option (Option Nat) × Nat->SortSt->Prop} (hk:kindOf st=kd) (sS:∀ x∈all,S x)
   (h:CR st st0 pre all D T) (r:Rise L D) (hn:D.length=n) (nD:0<n) (hnr:n+T.length=nrem)
   (hf:∀ x c,f x c=(do
     let __x <- ltAt' (pre.length+c.2) (pre.length+c.2-1)
     match __x with
     | some smaller=>if smaller=true then pure (ForInStep.done (none,c.2)) else pure (ForInStep.yield (none,c.2+1))
     | _=>pure (ForInStep.done (some none,c.2))))
   (h2:∀ st' D' T' m,CR st st' pre all D' T'->Rise L D'->D'.length=m->n<=m->m+T'.length=nrem->(m=nrem\/∃ D0 y x T0,D'=D0++[y]/\T'=x::T0/\L x y=true)->Q (none,m) st') :
   wpS M Ar E s (forIn [n:nrem] ((none,n):Option (Option Nat) × Nat) f) Q st0:=by
 have O:=C.ord;refine yD (I:=λx c st'=>c.1=none/\c.2=x/\x<=nrem/\n<=x/\∃ D' T',CR st st' pre all D' T'/\Rise L D'/\D'.length=x/\x+T'.length=nrem) ?step ?fin ?init
 case init=>exact ⟨rfl,rfl,by lia,zk _,D,T,h,r,hn,hnr⟩
 case fin =>
   rintro ⟨c1,c2⟩ st' ⟨e1,e2,h3,h4,D',T',cr,r',hl,hT⟩;dsimp only at e1 e2;subst e1;rw [e2];exact h2 st' D' T' _ cr r' hl (by lia) (by lia) (.inl (by lia))
 case step =>
   rintro x ⟨c1,c2⟩ st' hx1 hx2 ⟨e1,e2,h3,h4,D',T',cr,r',hl,hT⟩;dsimp only at e1 e2;subst e1 e2;obtain ⟨D0,y,rfl⟩:=fA (D:=D') (by lia);cases T' with
   | nil=>simp at hT;lia
   | cons z T0 =>
     have hl':c2=D0.length+1:=by rw [<- hl];simp
     obtain ⟨g1,g2⟩:=cr.ends hl';have sall:∀ w∈D0++[y]++z::T0,S w:=λw hw=>sS w (cr.perm.mem_iff.mp hw)
     have sz:S z:=sall z (by simp);have sy:S y:=sall y (by simp);rw [hf];refine zm (rK C (cr.sa.kind.trans hk) g1 g2 sz sy ?_);dsimp only;cases e:L z y with
     | true =>
       rw [if_pos rfl];exact ze (h2 st' _ _ _ cr r' hl (by lia) hT (.inr ⟨D0,y,z,T0,rfl,rfl,e⟩))
     | false =>
       rw [if_neg (by decide)];refine ze ⟨rfl,rfl,by lia,by lia,D0++[y]++[z],T0,cr.next,Zr O (λw hw=>sall w (xS _ hw)) sz r' e,?_,?_⟩;{simp only [zh,zZ,xF] at hl ⊢;lia};{simp only [zZ] at hT;lia}
structure Dn (L:Keyed->Keyed->Bool)(D:List Keyed)(neq:Nat):Prop where
 fall:Fall L D
 lt:neq<D.length
 same:∀ x∈D.drop (D.length-(neq+1)),∀ y∈D.drop (D.length-(neq+1)),L x y=false
theorem Dn.turn {D:List Keyed}{neq:Nat}(h:Dn L D neq):Fall L (D.take (D.length-(neq+1))++(D.drop (D.length-(neq+1))).reverse):=by have f:=h.fall;rw [<- ye (D.length-(neq+1)) D] at f;obtain ⟨f1,f2,f3⟩:=y4.mp f;refine y4.mpr ⟨f1,?_,λx hx y hy=>f3 x hx y (ui.mp hy)⟩;refine iX (R:=λ_ _=>True) (λ{x y} hx hy _=>h.same x (ui.mp hx) y (ui.mp hy)) ?_;exact hV λ_ _=>trivial
theorem u9 {i j:Nat}{st:SortSt}{Q:Unit->SortSt->Prop}(h:Q () (setArr st (mirror (arrOf st) i j ((j-i)/2)))):wpS M Ar E s (reverseSlice' i j) Q st:=by rw [reverseSlice'_eq];exact wM h
theorem CR.turnEnd {st st':SortSt}{pre all D T:List Keyed}{neq n:Nat}(h:CR st st' pre all D T)(d:Dn L D neq)(hn:D.length=n) :
   CR st (setArr st' (mirror (arrOf st') (pre.length+n-(neq+1)) (pre.length+n) ((pre.length+n-(pre.length+n-(neq+1)))/2))) pre all (D.take (n-(neq+1))++(D.drop (n-(neq+1))).reverse) T:=by
 subst hn;have hl:=d.lt;have h':CR st st' pre all (D.take (D.length-(neq+1))++D.drop (D.length-(neq+1))) T:=by rw [ye];exact h
 have:=h'.turn;rw [zE,yH,sG (by lia),show pre.length+(D.length-(neq+1))+(D.length-(D.length-(neq+1)))=pre.length+D.length by lia,show pre.length+(D.length-(neq+1))=pre.length+D.length-(neq+1) by lia] at this;exact this
theorem ke {D:List Keyed}{x:Keyed}{k:Nat}(h:k<=D.length):(D++[x]).drop ((D++[x]).length-(k+1))=D.drop (D.length-k)++[x]:=by rw [zh,md,show D.length+1-(k+1)=D.length-k by lia,m7 (by lia)]
theorem et (C:Cmp M Ar E s kd S L) {st st0:SortSt} {pre all D T:List Keyed} {n nrem:Nat} {f:Nat->Option (Option Nat) × Nat × Nat->StateT SortSt Sem (ForInStep (Option (Option Nat) × Nat × Nat))} {Q:Option (Option Nat) × Nat × Nat->SortSt->Prop} (hk:kindOf st=kd) (sS:∀ x∈all,S x)
   (h:CR st st0 pre all D T) (r:Dn L D 0) (hn:D.length=n) (hnr:n+T.length=nrem)
   (hf : ∀ x c,f x c=(do
     let __x <- ltAt' (pre.length+c.2.1) (pre.length+c.2.1-1)
     match __x with
     | some smaller =>
       if smaller=true then
         if c.2.2 > 0 then do
           reverseSlice' (pre.length+c.2.1-(c.2.2+1)) (pre.length+c.2.1)
           pure (ForInStep.yield (none,c.2.1+1,0))
         else pure (ForInStep.yield (none,c.2.1+1,0))
       else do
         let __x <- ltAt' (pre.length+c.2.1-1) (pre.length+c.2.1)
         match __x with
         | some larger=>if larger=true then pure (ForInStep.done (none,c.2.1,c.2.2)) else pure (ForInStep.yield (none,c.2.1+1,c.2.2+1))
         | _=>pure (ForInStep.done (some none,c.2.1,c.2.2))
     | _=>pure (ForInStep.done (some none,c.2.1,c.2.2))))
   (h2:∀ st' D' T' m neq,CR st st' pre all D' T'->Dn L D' neq->D'.length=m->m+T'.length=nrem->Q (none,m,neq) st') :
   wpS M Ar E s (forIn [n:nrem] ((none,n,0):Option (Option Nat) × Nat × Nat) f) Q st0:=by
 have O:=C.ord;refine yD (I:=λx c st'=>c.1=none/\c.2.1=x/\x<=nrem/\∃ D' T',CR st st' pre all D' T'/\Dn L D' c.2.2/\D'.length=x/\x+T'.length=nrem) ?step ?fin ?init
 case init=>exact ⟨rfl,rfl,by lia,D,T,h,r,hn,hnr⟩
 case fin =>
   rintro ⟨c1,c2,c3⟩ st' ⟨e1,e2,h3,D',T',cr,r',hl,hT⟩;dsimp only at e1 e2 r';subst e1;exact h2 st' D' T' _ _ cr r' (hl.trans e2.symm) (by lia)
 case step =>
   rintro x ⟨c1,c2,c3⟩ st' hx1 hx2 ⟨e1,e2,h3,D',T',cr,dn,hl,hT⟩;dsimp only at e1 e2 dn;subst e1 e2;obtain ⟨D0,y,eD⟩:=fA (D:=D') (by have:=dn.lt;lia);cases T' with
   | nil=>simp at hT;lia
   | cons z T0 =>
     have hl':c2=D0.length+1:=by rw [<- hl,eD];simp
     have cr':=cr;rw [eD] at cr';obtain ⟨g1,g2⟩:=cr'.ends hl';have sall:∀ w∈D'++z::T0,S w:=λw hw=>sS w (cr.perm.mem_iff.mp hw)
     have sz:S z:=sall z (by simp);have sy:S y:=sall y (by rw [eD];simp);have hle:=dn.lt;simp only [zZ] at hT;rw [hf];refine zm (rK C (cr.sa.kind.trans hk) g1 g2 sz sy ?_);dsimp only;cases e:L z y with
     | true =>
       rw [if_pos rfl];have zl:∀ w∈D',L w z=false:=by
         intro w hw;have f:=dn.fall;rw [eD] at f hw;rcases zY.mp hw with q | q
         . exact O.step sz sy (sall w (by rw [eD];exact xS _ (xS _ q))) ((y4.mp f).2.2 w q y (by simp)) (O.asym _ _ e)
         . have q:w=y:=by simpa using q
           rw [q];exact O.asym _ _ e
       have mk:∀ D2:List Keyed,Fall L D2->(∀ w∈D2,L w z=false)->Dn L (D2++[z]) 0:=by
         intro D2 f2 z2;refine ⟨y4.mpr ⟨f2,by simp,λw hw v hv=>?_⟩,by simp,λu hu v hv=>?_⟩
         . have hv:v=z:=by simpa using hv
           rw [hv];exact z2 w hw
         . rw [ke (zV _),r8,wK (zk _),yY] at hu hv;have hu:u=z:=by simpa using hu
           have hv:v=z:=by simpa using hv
           rw [hu,hv];exact O.irr z
       by_cases hq:c3 > 0
       . rw [if_pos hq];have ct:=cr.turnEnd dn hl;refine zm (u9 (ze ⟨rfl,rfl,by lia,_,T0,ct.next,mk _ (by have:=dn.turn;rw [hl] at this;exact this) (λw hw=>zl w ?_),?_,by lia⟩))
         . rcases zY.mp hw with q | q
           . exact xH q
           . exact wH (ui.mp q)
         . simp only [zh,zE,xQ,yH,zZ,xF];lia
       . rw [if_neg hq];refine ze ⟨rfl,rfl,by lia,D'++[z],T0,cr.next,mk _ dn.fall zl,?_,by lia⟩;simp only [zh,zZ,xF];lia
     | false =>
       rw [if_neg (by decide)];refine zm (rK C (cr.sa.kind.trans hk) g2 g1 sy sz ?_);dsimp only;cases e':L y z with
       | true =>
         rw [if_pos rfl];exact ze (h2 st' _ _ _ _ cr dn hl (by simp only [zZ];lia))
       | false =>
         rw [if_neg (by decide)];have yin:y∈D'.drop (D'.length-(c3+1)):=by rw [eD,zh,md,m7 (by lia)];simp
         refine ze ⟨rfl,rfl,by lia,D'++[z],T0,cr.next,⟨?_,by simp;lia,λu hu v hv=>?_⟩,?_,by lia⟩;{have f:=dn.fall;rw [eD] at f ⊢;exact Zq O (λw hw=>sall w (by rw [eD];exact xS _ hw)) sz f e'}
         . dsimp only at hu hv;rw [ke (by lia)] at hu hv;have sD:∀ w∈D'.drop (D'.length-(c3+1)),S w:=λw hw=>sall w (xS _ (wH hw))
           rcases zY.mp hu with q | q
           . rcases zY.mp hv with p | p
             . exact dn.same u q v p
             . have p:v=z:=by simpa using p
               rw [p];exact O.step sz sy (sD u q) (dn.same u q y yin) e'
           . have q:u=z:=by simpa using q
             rw [q];rcases zY.mp hv with p | p
             . exact O.step (sD v p) sy sz e (dn.same y yin v p)
             . have p:v=z:=by simpa using p
               rw [p];exact O.irr z
         . simp only [zh,zZ,xF];lia
theorem Zp (C:Cmp M Ar E s kd S L) {st:SortSt} {pre all:List Keyed} {Q:Option Nat->SortSt->Prop} (hk:kindOf st=kd) (sS:∀ x∈all,S x) (e:(arrOf st).toList=pre++all) (ne:0<all.length)
   (h:∀ st' R T,Sa st st'->(arrOf st').toList=pre++(R++T)->Rise L R->(R++T).Perm all->0<R.length->Q (some R.length) st'):wpS M Ar E s (countRun' pre.length all.length) Q st:=by
 have O:=C.ord;rw [countRun'_eq];obtain ⟨x0,T0,rfl⟩:∃ x T,all=x::T:=by
   cases all with
   | nil=>simp at ne
   | cons x T=>exact ⟨x,T,rfl⟩
 have c0:CR st st pre (x0::T0) [x0] T0:=⟨⟨rfl,rfl,rfl⟩,e,List.Perm.refl _⟩
 dsimp only;refine zm (rJ C hk sS c0 (by simp) rfl (by decide) (by simp;lia) (λx c=>rfl) λst1 D T m c1 r1 l1 m1 t1 w1=>?_);dsimp only;by_cases z1:(m==(x0::T0).length)=true;{rw [if_pos z1,<- l1];exact ze (h st1 D T c1.sa c1.arr r1 c1.perm (by lia))}
 rw [if_neg z1];have z1':m≠(x0::T0).length:=by simpa using z1
 obtain ⟨D0,y,x,T1,eD,eT,hxy⟩:=w1.resolve_left z1';subst eD eT;have sall:∀ w∈D0++[y]++x::T1,S w:=λw hw=>sS w (c1.perm.mem_iff.mp hw)
 have sx:S x:=sall x (by simp);have sD:∀ w∈D0++[y],S w:=λw hw=>sall w (xS _ hw)
 have mk:∀ D2:List Keyed,Fall L D2->(∀ w∈D2,L w x=false)->Dn L (D2++[x]) 0:=by
   intro D2 f2 z2;refine ⟨y4.mpr ⟨f2,by simp,λw hw v hv=>?_⟩,by simp,λu hu v hv=>?_⟩
   . have hv:v=x:=by simpa using hv
     rw [hv];exact z2 w hw
   . rw [ke (zV _),r8,wK (zk _),yY] at hu hv;have hu:u=x:=by simpa using hu
     have hv:v=x:=by simpa using hv
     rw [hu,hv];exact O.irr x
 simp only [zZ] at t1;by_cases z2:m > 1
 . rw [if_pos z2]
   have hD0:0<D0.length:=by simp only [zh,zZ,xF] at l1;lia
   have e0:(arrOf st1)[pre.length]?=some (D0[0]'hD0):=by have:=c1.get (i:=0) (by simp;lia);rw [xt] at this;rw [this,qe (by simp),qe hD0]
   have e1:(arrOf st1)[pre.length+m-1]?=some y:=by
     have hl':m=D0.length+1:=by rw [<- l1];simp
     exact (c1.ends hl').2
   have s0:S (D0[0]'hD0):=sD _ (xS _ (y9 hD0));refine zm (rK C (c1.sa.kind.trans hk) e0 e1 s0 (sD y (by simp)) ?_);dsimp only;cases er:L (D0[0]'hD0) y with
   | true =>
     rw [if_pos rfl,<- l1];exact ze (h st1 _ _ c1.sa c1.arr r1 c1.perm (by lia))
   | false =>
     rw [if_neg (by decide)];have up0:∀ w∈D0++[y],L w (D0[0]'hD0)=false:=by
       intro w hw;obtain ⟨j,hj,rfl⟩:=xR.mp hw;rcases Nat.eq_zero_or_pos j with q | q
       . subst q;rw [qe hD0];exact O.irr _
       . have:=uS r1 q hj;rw [qe (i:=0) hD0] at this;exact this
     have upy:∀ w∈D0++[y],L y w=false:=by
       intro w hw;rcases zY.mp hw with q | q
       . exact (y4.mp r1).2.2 w q y (by simp)
       . have q:w=y:=by simpa using q
         rw [q];exact O.irr y
     have sy:S y:=sD y (by simp);have toy:∀ w∈D0++[y],L w y=false:=λw hw=>O.step sy s0 (sD w hw) (up0 w hw) er
     have eqv:∀ w∈D0++[y],∀ v∈D0++[y],L w v=false:=λw hw v hv=>O.step (sD v hv) sy (sD w hw) (toy w hw) (upy v hv)
     have xl:∀ w∈D0++[y],L w x=false:=λw hw=>by
       rcases O.neg x w y sx (sD w hw) sy hxy with q | q
       . exact O.asym _ _ q
       . rw [toy w hw] at q;cases q
     have cd0:=CR.turn (D1:=[]) (by simpa using c1);rw [xF,xt,l1] at cd0;have cd:=cd0.next;have dd:=mk ([]++(D0++[y]).reverse) (by
       rw [yY];refine iX (R:=λ_ _=>True) (λ{u v} hu hv _=>eqv u (ui.mp hu) v (ui.mp hv)) ?_;exact hV λ_ _=>trivial) (λw hw=>xl w (by rw [yY] at hw;exact ui.mp hw))
     have ld:([]++(D0++[y]).reverse++[x]).length=m+1:=by rw [<- l1];simp
     have hTd:m+1+T1.length=(x0::T0).length:=by simp only [zZ] at t1 ⊢;lia
     refine zm (u9 ?_);refine zm (vP (we ⟨rfl,?_⟩));refine zm (et C hk sS cd dd ld hTd (λx c=>rfl) λst3 D3 T3 m3 neq c3 d3 l3 hT3=>?_);dsimp only;have p3:=d3.lt;by_cases hq:neq > 0
     . rw [if_pos hq];have ct:=c3.turnEnd d3 l3;have ft:=d3.turn;rw [l3] at ft;have lt3:(List.take (m3-(neq+1)) D3++(List.drop (m3-(neq+1)) D3).reverse).length=m3:=by
         simp only [zh,zE,xQ,yH];lia
       refine zm (u9 ?_);have ct2:=CR.turn (D1:=[]) (by simpa using ct);rw [xF,xt,lt3] at ct2;refine zm (u9 ?_);refine zm (rJ C hk sS ct2 (by rw [yY];exact pS ft) (by simp only [yY,xQ];exact lt3) (by lia) hT3 (λx c=>rfl) λst5 D5 T5 m5 c5 r5 l5 n5 t5 w5=>?_);dsimp only;rw [<- l5];exact ze (h st5 D5 T5 c5.sa c5.arr r5 c5.perm (by lia))
     . rw [if_neg hq];have ct:=c3;have ft:=d3.fall;have lt3:=l3;have ct2:=CR.turn (D1:=[]) (by simpa using ct);rw [xF,xt,lt3] at ct2;refine zm (u9 ?_);refine zm (rJ C hk sS ct2 (by rw [yY];exact pS ft) (by simp only [yY,xQ];exact lt3) (by lia) hT3 (λx c=>rfl) λst5 D5 T5 m5 c5 r5 l5 n5 t5 w5=>?_);dsimp only;rw [<- l5];exact ze (h st5 D5 T5 c5.sa c5.arr r5 c5.perm (by lia))
 . rw [if_neg z2]
   have hD0:D0=[]:=by simp only [zh,zZ,xF] at l1;exact uu.mp (by lia)
   subst hD0;have cd:=c1.next;have dd:=mk ([]++[y]) (by simp) (λw hw=>by
     have hw:w=y:=by simpa using hw
     rw [hw];exact O.asym _ _ hxy)
   have ld:([]++[y]++[x]).length=m+1:=by rw [<- l1];simp
   have hTd:m+1+T1.length=(x0::T0).length:=by simp only [zZ] at t1 ⊢;lia
   refine zm (vP (we ⟨rfl,?_⟩));refine zm (et C hk sS cd dd ld hTd (λx c=>rfl) λst3 D3 T3 m3 neq c3 d3 l3 hT3=>?_);dsimp only;have p3:=d3.lt;by_cases hq:neq > 0
   . rw [if_pos hq];have ct:=c3.turnEnd d3 l3;have ft:=d3.turn;rw [l3] at ft;have lt3:(List.take (m3-(neq+1)) D3++(List.drop (m3-(neq+1)) D3).reverse).length=m3:=by
       simp only [zh,zE,xQ,yH];lia
     refine zm (u9 ?_);have ct2:=CR.turn (D1:=[]) (by simpa using ct);rw [xF,xt,lt3] at ct2;refine zm (u9 ?_);refine zm (rJ C hk sS ct2 (by rw [yY];exact pS ft) (by simp only [yY,xQ];exact lt3) (by lia) hT3 (λx c=>rfl) λst5 D5 T5 m5 c5 r5 l5 n5 t5 w5=>?_);dsimp only;rw [<- l5];exact ze (h st5 D5 T5 c5.sa c5.arr r5 c5.perm (by lia))
   . rw [if_neg hq];have ct:=c3;have ft:=d3.fall;have lt3:=l3;have ct2:=CR.turn (D1:=[]) (by simpa using ct);rw [xF,xt,lt3] at ct2;refine zm (u9 ?_);refine zm (rJ C hk sS ct2 (by rw [yY];exact pS ft) (by simp only [yY,xQ];exact lt3) (by lia) hT3 (λx c=>rfl) λst5 D5 T5 m5 c5 r5 l5 n5 t5 w5=>?_);dsimp only;rw [<- l5];exact ze (h st5 D5 T5 c5.sa c5.arr r5 c5.perm (by lia))
end
def Pd (L:Keyed->Keyed->Bool):Nat->List (Nat × Nat × Nat)->List (List Keyed)->Prop
 | _,[],[]=>True
 | off,p::ps,R::rs=>p.1=off/\p.2.1=R.length/\0<R.length/\Rise L R/\Pd L (off+R.length) ps rs
 | _,_,_=>False
section
variable {S:Keyed->Prop}{L:Keyed->Keyed->Bool}
theorem Pd.len:∀ {off:Nat} {ps:List (Nat × Nat × Nat)} {rs:List (List Keyed)},Pd L off ps rs->ps.length=rs.length
 | _,[],[],_=>rfl
 | _,_::_,_::_,h=>by simp [Pd.len h.2.2.2.2]
 | _,[],_::_,h=>h.elim
 | _,_::_,[],h=>h.elim
theorem Pd.append:∀ {off:Nat} {ps qs:List (Nat × Nat × Nat)} {rs ts:List (List Keyed)},Pd L off ps rs->Pd L (off+rs.flatten.length) qs ts->Pd L off (ps++qs) (rs++ts)
 | _,[],_,[],_,_,h=>by simpa using h
 | _,_::_,_,_::_,_,h,h2=>⟨h.1,h.2.1,h.2.2.1,h.2.2.2.1,Pd.append h.2.2.2.2 (by simpa [wF] using h2)⟩
 | _,[],_,_::_,_,h,_=>h.elim
 | _,_::_,_,[],_,h,_=>h.elim
theorem Pd.split:∀ {off:Nat} {ps:List (Nat × Nat × Nat)} (rs:List (List Keyed)) {ts:List (List Keyed)},Pd L off ps (rs++ts)->∃ p1 p2,ps=p1++p2/\Pd L off p1 rs/\Pd L (off+rs.flatten.length) p2 ts
 | _,ps,[],_,h=>⟨[],ps,rfl,trivial,by simpa using h⟩
 | _,p::ps,R::rs,_,h=>by
   obtain ⟨p1,p2,e,h1,h2⟩:=Pd.split rs h.2.2.2.2;exact ⟨p::p1,p2,by rw [e];rfl,⟨h.1,h.2.1,h.2.2.1,h.2.2.2.1,h1⟩,by simpa [wF] using h2⟩
 | _,[],_::_,_,h=>h.elim
theorem Pd.pos:∀ {off:Nat} {ps:List (Nat × Nat × Nat)} {rs:List (List Keyed)},Pd L off ps rs->rs.length<=rs.flatten.length
 | _,[],[],_=>by simp
 | _,_::_,R::rs,h=>by
   have:=Pd.pos h.2.2.2.2;have:=h.2.2.1;simp only [yI,zh,zZ];lia
 | _,[],_::_,h=>h.elim
 | _,_::_,[],h=>h.elim
structure SI (L:Keyed->Keyed->Bool)(kd:SortKind)(all:List Keyed)(st:SortSt)(runs:List (List Keyed))(T:List Keyed):Prop where
 arr:(arrOf st).toList=runs.flatten++T
 perm:(runs.flatten++T).Perm all
 pend:Pd L 0 (pendingOf st).toList runs
 kind:kindOf st=kd
 failed:failedOf st=none
theorem split_at {α:Type}{l:List α}{i:Nat}(h:i+1<l.length):∃ l1 a b l2,l=l1++(a::b::l2)/\l1.length=i:=by refine ⟨l.take i,l[i],l[i+1],l.drop (i+2),?_,by rw [zE];lia⟩;rw [<- sX (by lia),<- sX (by lia),ye]
end
section
variable {M:Model}{Ar:Around}{kd:SortKind}{S:Keyed->Prop}{L:Keyed->Keyed->Bool}
theorem kb (C:Cmp M Ar E s kd S L){all:List Keyed}{st:SortSt}{runs:List (List Keyed)}{T:List Keyed}{i:Nat}{Q:Bool->SortSt->Prop}(sS:∀ x∈all,S x)(h:SI L kd all st runs T)(hi:i+1<runs.length)
   (q:∀ st' runs',SI L kd all st' runs' T->runs'.length+1=runs.length->runs'.flatten.length=runs.flatten.length->Q true st'):wpS M Ar E s (mergeAt' i) Q st:=by
 obtain ⟨r1,A,B,r2,er,hl⟩:=split_at hi;subst er;obtain ⟨p1,p2,ep,d1,d2⟩:=Pd.split r1 h.pend;have lp:=d1.len;obtain ⟨a,b,p3,rfl⟩:∃ a b p3,p2=a::b::p3:=by
   have:=d2.len
   match p2,this with
   | a::b::p3,_=>exact ⟨a,b,p3,rfl⟩
   | [],e=>simp at e
   | [_],e=>simp at e
 obtain ⟨a1,a2,a3,a4,b1,b2,b3,b4,d3⟩:=d2;rw [yX] at a1 b1 d3;obtain ⟨as_,an,apw⟩:=a;obtain ⟨bs_,bn,bpw⟩:=b;dsimp only at a1 a2 b1 b2;subst a1 a2 b1 b2;have hpa:(pendingOf st)[i]?=some (r1.flatten.length,A.length,apw):=by rw [<- zA,ep,yq (by lia),show i-p1.length=0 by lia];rfl
 have hpb:(pendingOf st)[i+1]?=some (r1.flatten.length+A.length,B.length,bpw):=by rw [<- zA,ep,yq (by lia),show i+1-p1.length=1 by lia];rfl
 have earr:(arrOf st).toList=r1.flatten++(A++(B++(r2.flatten++T))):=by rw [h.arr];simp
 refine Zu C h.kind h.failed (λx hx=>sS x (h.perm.mem_iff.mp (by rw [<- h.arr];exact hx))) ⟨earr,⟨_,hpa⟩,⟨_,hpb⟩,a4,b4,a3,b3⟩ λst' R pw k' f' ar' rR pR pe'=>?_
 refine q st' (r1++(R::r2)) ⟨?_,?_,?_,k',f'⟩ ?_ ?_;{rw [ar'];simp};{refine List.Perm.trans ?_ h.perm;simp only [xO,yI,zX];refine xw _ ?_;rw [<- zX A];exact pR.append_right _}
 . rw [pe'];have lR:R.length=A.length+B.length:=by rw [pR.length_eq,zh]
   have ee:(((pendingOf st).setIfInBounds i (r1.flatten.length,A.length+B.length,pw)).eraseIdxIfInBounds (i+1)).toList=p1++((r1.flatten.length,A.length+B.length,pw)::p3):=by
     have sz:(pendingOf st).size=p1.length+(p3.length+2):=by rw [<- zT,ep];simp
     rw [Array.eraseIdxIfInBounds,dif_pos (by rw [qf];lia)];have hp1:p1.length=i:=lp.trans hl;rw [Array.toList_eraseIdx,m6,ep,ma _ _ (by lia),show i-p1.length=0 by lia,bG,List.eraseIdx_append_of_length_le (by lia),show i+1-p1.length=1 by lia];rfl
   rw [ee];refine Pd.append d1 ?_;rw [yX];exact ⟨rfl,lR.symm,by show 0<R.length;lia,rR,by rw [lR,<- wF];exact d3⟩
 . simp only [zh,zZ];lia
 . simp only [xO,yI,zh,pR.length_eq];lia
theorem Zo (p:Prop)[Decidable p](a:Nat):(if p then a-1 else a)<=a:=by split<;>lia
theorem SI.setLast {all:List Keyed} {st:SortSt} {runs:List (List Keyed)} {T:List Keyed} (h:SI L kd all st runs T) (pw:Nat):SI L kd all (setPending st ((pendingOf st).modify ((pendingOf st).size-1) λ(s1,len,_)=>(s1,len,pw))) runs T:=by
 refine ⟨h.arr,h.perm,?_,h.kind,h.failed⟩;show Pd L 0 ((pendingOf st).modify _ _).toList runs;rw [Array.toList_modify];generalize (pendingOf st).size-1=j;have:∀ (ps:List (Nat × Nat × Nat)) (rs:List (List Keyed)) (off j:Nat),Pd L off ps rs->Pd L off (ps.modify j λ(s1,len,_)=>(s1,len,pw)) rs:=by
   intro ps;induction ps with
   | nil=>intro rs off j h;simpa using h
   | cons p ps ih =>
     intro rs off j h;cases rs with
     | nil=>exact h.elim
     | cons R rs =>
       obtain ⟨p0,p1,p2⟩:=p;cases j with
       | zero=>exact h
       | succ j=>exact ⟨h.1,h.2.1,h.2.2.1,h.2.2.2.1,ih rs _ j h.2.2.2.2⟩
 exact this _ _ _ _ h.pend
theorem SI.push {all:List Keyed}{st st':SortSt}{runs:List (List Keyed)}{R T:List Keyed}(pe:Pd L 0 (pendingOf st').toList runs)(k:kindOf st'=kd)(f:failedOf st'=none)(ar:(arrOf st').toList=runs.flatten++(R++T))(pm:(runs.flatten++(R++T)).Perm all)(rR:Rise L R)(nR:0<R.length){lo n:Nat}
   (hlo:lo=runs.flatten.length) (hn:n=R.length):SI L kd all (setPending st' ((pendingOf st').push (lo,n,0))) (runs++[R]) T:=by
 subst hlo hn;refine ⟨?_,?_,?_,k,f⟩;{show (arrOf st').toList=_;rw [ar];simp}
 . have e:(runs++[R]).flatten++T=runs.flatten++(R++T):=by simp
   rw [e];exact pm
 . show Pd L 0 ((pendingOf st').push _).toList _;rw [sM];exact Pd.append pe ⟨by simp,rfl,nR,rR,trivial⟩
theorem Zn (C:Cmp M Ar E s kd S L) {all:List Keyed} {st:SortSt} {Q:Unit->SortSt->Prop} (sS:∀ x∈all,S x) (k:kindOf st=kd) (f:failedOf st=none) (pe:pendingOf st=#[]) (ar:(arrOf st).toList=all)
   (h:∀ st',failedOf st'=none->(arrOf st').toList.Perm all->Rise L (arrOf st').toList->Q () st'):wpS M Ar E s sortRuns' Q st:=by
 have h0:SI L kd all st [] all:=⟨by simpa using ar,by simp,by rw [pe];trivial,k,f⟩
 have sz:(arrOf st).size=all.length:=by rw [<- zT,ar]
 rw [sortRuns'_eq];refine zm (xB ?_);dsimp only;rw [sz];generalize minRun' all.length all.length 0=mr;refine zm (xv (yD (I:=λx c st'=>c.1=none/\x<=c.2/\∃ runs T,SI L kd all st' runs T/\runs.flatten.length=c.2)
   (Q:=λc st'=>c.1=none/\∃ runs,SI L kd all st' runs []) ?step ?fin ?init) ?post)
 case init=>exact ⟨rfl,zV _,[],all,h0,rfl⟩
 case fin =>
   rintro ⟨c1,lo⟩ st' ⟨e1,hx,runs,T,si,hl⟩;refine ⟨e1,runs,?_⟩;dsimp only at hx hl;have:=si.perm.length_eq;rw [zh] at this;have hT:T=[]:=uu.mp (by lia);subst hT;exact si
 case post =>
   rintro ⟨c1,lo⟩ st' ⟨e1,runs,si⟩;dsimp only at e1 ⊢;subst e1;dsimp only;refine zm (xv (yD (I:=λx c st'=>c.1=none/\∃ runs,SI L kd all st' runs []/\(runs.length+x<=all.length\/runs.length<=1)) (Q:=λc st'=>c.1=none/\∃ runs,SI L kd all st' runs []/\runs.length<=1) ?step5 ?fin5 ?init5) ?post5)
   case init5 =>
     refine ⟨rfl,runs,si,.inl ?_⟩;have h1:=si.pend.pos;have h2:=si.perm.length_eq;rw [yx] at h2;lia
   case fin5 =>
     rintro ⟨c1,u⟩ st' ⟨e1,runs,si,hr⟩;refine ⟨e1,runs,si,?_⟩;lia
   case post5 =>
     rintro ⟨c1,u⟩ st' ⟨e1,runs,si,hr⟩;dsimp only at e1;subst e1;have e2:=si.arr;rw [yx] at e2;refine ze (h st' si.failed ?_ ?_);{have:=si.perm;rw [yx] at this;rw [e2];exact this}
     . rw [e2];have pd:=si.pend
       match runs,hr,pd with
       | [],_,_=>simp
       | [R],_,pd =>
         match hq:(pendingOf st').toList,pd with
         | p::ps,pd=>simpa using pd.2.2.2.1
         | [],pd=>exact pd.elim
   case step5 =>
     rintro x ⟨c1,u⟩ st' _ hx ⟨e1,runs,si,hr⟩;dsimp only at e1;subst e1;have pl:(pendingOf st').size=runs.length:=by rw [<- zT];exact si.pend.len
     refine zm (xB ?_);by_cases z:(pendingOf st').size<=1;{rw [if_pos z];exact ze ⟨rfl,runs,si,by lia⟩};{rw [if_neg z];refine zm (kb C sS si (wc (Nat.add_le_add_right (Zo _ _) 1) (by lia)) λst4 runs4 si4 hl4 _=>?_);simp only [tj,xk,yO];exact ze ⟨rfl,runs4,si4,by lia⟩}
 case step =>
   rintro x ⟨c1,lo⟩ st' _ hx ⟨e1,hxl,runs,T,si,hl⟩;dsimp only at e1 hxl hl ⊢;subst e1;by_cases z:lo≥all.length;{rw [if_pos z];refine ze ⟨rfl,runs,?_⟩;have:=si.perm.length_eq;rw [zh] at this;have hT:T=[]:=uu.mp (by lia);subst hT;exact si}
   . rw [if_neg z]
     have lT:all.length-lo=T.length:=by have:=si.perm.length_eq;rw [zh] at this;lia
     rw [lT];have nT:0<T.length:=by lia
     have sT:∀ x∈T,S x:=λx hx=>sS x (si.perm.mem_iff.mp (yC _ hx))
     have cnt:=λ{Q:Option Nat->SortSt->Prop}=>Zp (Q:=Q) (M:=M) (Ar:=Ar) (E:=E) (s:=s) C (st:=st') (pre:=runs.flatten) (all:=T) si.kind sT si.arr nT
     rw [hl] at cnt;refine zm (cnt λst1 R1 T1 sa1 ar1 rR1 pR1 nR1=>?_);dsimp only;have pm1:(runs.flatten++(R1++T1)).Perm all:=(xw _ pR1).trans si.perm;have l1:R1.length+T1.length=T.length:=by rw [<- zh];exact pR1.length_eq
     by_cases z2:R1.length<mr
     . rw [if_pos z2]
       refine zm (vP (we ⟨rfl,?_⟩));have hk:min T.length mr=R1.length+(T1.take (min T.length mr-R1.length)).length:=by rw [zE];lia
       have bs:=λ{Q:Bool->SortSt->Prop}=>Zs (Q:=Q) (M:=M) (Ar:=Ar) (E:=E) (s:=s) C (st:=st1) (pre:=runs.flatten) (A:=R1) (U:=T1.take (min T.length mr-R1.length)) (post:=T1.drop (min T.length mr-R1.length)) (sa1.kind.trans si.kind)
         (λx hx=>sT x (pR1.mem_iff.mp (by
           rcases zY.mp hx with q | q
           . exact xS _ q
           . exact yC _ (xH q)))) (by rw [ye];exact ar1) rR1 nR1
       rw [hl,<- hk] at bs;refine zm (bs λst2 R sa2 ar2 rR pR=>?_);simp only [tj,xk,yO];have hn:min T.length mr=R.length:=by rw [pR.length_eq,zh];exact hk
       have nR:0<R.length:=by lia
       generalize hT2:T1.drop (min T.length mr-R1.length)=T2 at *;have si2:SI L kd all st2 runs (R++T2):=by refine ⟨ar2,?_,by rw [sa2.pend,sa1.pend];exact si.pend,sa2.kind.trans (sa1.kind.trans si.kind),sa2.failed.trans (sa1.failed.trans si.failed)⟩;refine List.Perm.trans (xw _ ?_) pm1;refine (pR.append_right _).trans ?_;rw [zX,<- hT2,ye]
       generalize hnn:min T.length mr=nn at *;refine zm (xB ?_);cases eb:(pendingOf st2).back? with
       | none =>
         dsimp only;refine zm (wM (ze ⟨rfl,by dsimp only;lia,_,T2,SI.push (st:=st2) si2.pend si2.kind si2.failed si2.arr si2.perm rR nR hl.symm hn,?_⟩));simp only [xO,yI,qS,yx,zh];lia
       | some p =>
         obtain ⟨s1,n1,w1⟩:=p;dsimp only;refine zm (xv (yD (I:=λ_ c st3=>c.1=none/\∃ runs3,SI L kd all st3 runs3 (R++T2)/\runs3.flatten.length=lo) (Q:=λc st3=>c.1=none/\∃ runs3,SI L kd all st3 runs3 (R++T2)/\runs3.flatten.length=lo) ?stepm (λ_ _ z=>z) ?initm) ?postm)
         case initm=>exact ⟨rfl,runs,si2,hl⟩
         case stepm =>
           rintro y ⟨c1,u⟩ st3 _ _ ⟨e3,runs3,si3,hl3⟩;dsimp only at e3;subst e3;refine zm (xB ?_);have pl:(pendingOf st3).size=runs3.length:=by rw [<- zT];exact si3.pend.len
           split
           next older he =>
             split;{exact ze ⟨rfl,runs3,si3,hl3⟩}
             . have h1:(pendingOf st3).size > 1:=by
                 by_cases hz:(pendingOf st3).size > 1;{exact hz};{rw [if_neg hz] at he;cases he}
               refine zm (kb C sS si3 (by lia) λst4 runs4 si4 _ hf4=>?_);simp only [tj,xk,yO];exact ze ⟨rfl,runs4,si4,hf4.trans hl3⟩
           next=>exact ze ⟨rfl,runs3,si3,hl3⟩
         case postm =>
           rintro ⟨c1,u⟩ st3 ⟨e3,runs3,si3,hl3⟩;dsimp only at e3;subst e3;dsimp only;refine zm (wM ?_);have si4:=si3.setLast (power' all.length (2*s1+n1) (2*s1+n1+n1+nn) all.length);refine zm (wM (ze ⟨rfl,by dsimp only;lia,_,T2,SI.push (st:=st3) si4.pend si4.kind si4.failed si4.arr si4.perm rR nR hl3.symm hn,?_⟩));simp only [xO,yI,qS,yx,zh];lia
     . rw [if_neg z2]
       have si2:SI L kd all st1 runs (R1++T1):=⟨ar1,pm1,by rw [sa1.pend];exact si.pend,sa1.kind.trans si.kind,sa1.failed.trans si.failed⟩
       have rR:=rR1;have nR:=nR1;obtain ⟨nn,hn⟩:∃ nn,nn=R1.length:=⟨_,rfl⟩
       rw [<- hn];refine zm (xB ?_);cases eb:(pendingOf st1).back? with
       | none =>
         dsimp only;refine zm (wM (ze ⟨rfl,by dsimp only;lia,_,T1,SI.push (st:=st1) si2.pend si2.kind si2.failed si2.arr si2.perm rR nR hl.symm hn,?_⟩));simp only [xO,yI,qS,yx,zh];lia
       | some p =>
         obtain ⟨s1,n1,w1⟩:=p;dsimp only;refine zm (xv (yD (I:=λ_ c st3=>c.1=none/\∃ runs3,SI L kd all st3 runs3 (R1++T1)/\runs3.flatten.length=lo) (Q:=λc st3=>c.1=none/\∃ runs3,SI L kd all st3 runs3 (R1++T1)/\runs3.flatten.length=lo) ?stepm (λ_ _ z=>z) ?initm) ?postm)
         case initm=>exact ⟨rfl,runs,si2,hl⟩
         case stepm =>
           rintro y ⟨c1,u⟩ st3 _ _ ⟨e3,runs3,si3,hl3⟩;dsimp only at e3;subst e3;refine zm (xB ?_);have pl:(pendingOf st3).size=runs3.length:=by rw [<- zT];exact si3.pend.len
           split
           next older he =>
             split;{exact ze ⟨rfl,runs3,si3,hl3⟩}
             . have h1:(pendingOf st3).size > 1:=by
                 by_cases hz:(pendingOf st3).size > 1;{exact hz};{rw [if_neg hz] at he;cases he}
               refine zm (kb C sS si3 (by lia) λst4 runs4 si4 _ hf4=>?_);simp only [tj,xk,yO];exact ze ⟨rfl,runs4,si4,hf4.trans hl3⟩
           next=>exact ze ⟨rfl,runs3,si3,hl3⟩
         case postm =>
           rintro ⟨c1,u⟩ st3 ⟨e3,runs3,si3,hl3⟩;dsimp only at e3;subst e3;dsimp only;refine zm (wM ?_);have si4:=si3.setLast (power' all.length (2*s1+n1) (2*s1+n1+n1+nn) all.length);refine zm (wM (ze ⟨rfl,by dsimp only;lia,_,T1,SI.push (st:=st3) si4.pend si4.kind si4.failed si4.arr si4.perm rR nR hl3.symm hn,?_⟩));simp only [xO,yI,qS,yx,zh];lia
end
end Srt
namespace L2
open PySem PySem.Spec PyProof.Rows
def excO (e C:Addr):HO:=.ext λh=>∃ t,h.get? e=some { cls:=.ref C,data:=.fields #[.ref t,.none,.none,.none,.bool false,.none] }
section
variable {h:Heap}
end
section
variable {h:Heap}{a:Addr}{o:HO}
end
end L2
namespace Srt
open PySem PyProof.Rows
abbrev SInt (p:Keyed):Prop:=∃ n t,p.1=.int n t
abbrev LInt (x y:Keyed):Bool:=decide (numOf x.1<numOf y.1)
section
variable {Ar:Around}
theorem cmp_int:Cmp (model prog w) Ar E s oneType' SInt LInt where
 lt:=λx y st Q hx hy hk h=>by
   obtain ⟨x1,x2⟩:=x;obtain ⟨y1,y2⟩:=y;obtain ⟨n,t,ex⟩:=hx;obtain ⟨m,u,ey⟩:=hy;dsimp only at ex ey;subst ex ey;rw [lt'_eq];refine zm (xB ?_);rw [hk,keyLt'_oneType];exact zm (vP (sf (oneLt_int ⟨rfl,ze h⟩)))
 asym:=λx y h=>by
   have h:numOf x.1<numOf y.1:=by simpa using h
   simp;lia
 neg:=λx y z _ _ _ h=>by
   have h:numOf x.1<numOf z.1:=by simpa using h
   simp;lia
theorem sort_ints {a:Addr} {vs:List Value} {ns:List Int} {n:Nat} {P:Fin->Shared->Prop} (ho:s.heap.get? a=some (seqObj "list" vs.toArray n)) (hI:IntsAre vs ns) (hz:vs.length<=sizeLine)
   (h:∀ (out:Array Value) (ns':List Int),IntsAre out.toList ns'->ns'.Perm ns->ns'.Pairwise (·<=·)->P (.done (.ret .none)) { s with heap:=sortedHeap s.heap a vs out }) :
   wpAny (model prog w) Ar (Builtin.«list.sort» ⟨[.ref a],[]⟩) P E s:=by
 rw [list_sort_plain];have la:a<s.heap.objs.size:=zW ho;refine zt (listItems_at ho rfl (zt (listUpdate_at ho rfl ?_ (hsz:=by simpa using hz))));obtain ⟨e1,h1⟩:∃ e1,(s.heap.update a (Obj.mapSeq λ_=>#[])).get? a=some (seqObj "list" #[] e1):=⟨_,get?_update_seq ho (λ_=>#[])⟩
 refine zt (seqEpoch_at h1 rfl (zt (wpAny_newTuple ?_ (by simpa using hz))));refine zt (qh (xI ?_));have h6:(((s.heap.update a (Obj.mapSeq λ_=>#[])).push (seqObj "tuple" vs.toArray 0)).push (seqObj "list" #[] 0)).get? a=some (seqObj "list" #[] e1) :=
   zU _ (zU _ h1)
 show wpAny (model prog w) Ar _ P E { s with heap:=((s.heap.update a (Obj.mapSeq λ_=>#[])).push (seqObj "tuple" vs.toArray 0)).push (seqObj "list" #[] 0) };dsimp only;have pz:(pairsOf vs).size=vs.length:=pairsOf_size vs;have done:∀ st':SortSt,(arrOf st').toList.Perm (pairsOf vs).toList->Rise LInt (arrOf st').toList->P (.done (.ret .none)) { s with heap:=sortedHeap s.heap a vs ((arrOf st').map (·.2)) }:=by
   intro st' hp hs;have hp':(arrOf st').Perm (pairsOf vs):=Array.perm_iff_toList_perm.mpr hp;obtain ⟨ns',g1,g2,g3⟩:=sorted_out hI hp' (λi j hij hj=>by
     have hj':j<(arrOf st').size:=by rw [hp'.size_eq];exact hj
     rw [K_eq (by lia),K_eq hj'];rcases xN i j with q | q
     . have:=mq.mp hs i j (by simp;lia) (by simpa using hj') q;simp at this;exact this
     . have:i=j:=by lia
       subst this;exact Int.le_refl _)
   exact h _ ns' g1 g2 g3
 by_cases h2:vs.toArray.size<2
 . rw [if_pos h2,if_pos h2];refine zt (zi ?_);rw [StateT.run_pure];refine zt (zi ?_);dsimp only;refine zt (seqEpoch_at h6 rfl (zt (listUpdate_at h6 rfl ?_ (hsz2:=?_))))
   . simp only [nJ,xk,yO];refine zi (done (SortSt.mk' general' (pairsOf vs) #[] 7 none) (List.Perm.refl _) ?_);show Rise LInt (pairsOf vs).toList;have hl:(pairsOf vs).toList.length<2:=by rw [zT,pz];simpa using h2
     match (pairsOf vs).toList,hl with
     | [],_=>simp
     | [_],_=>simp
     | _::_::_,hl=>simp at hl;lia
   . rw [tZ];exact yl (r9 pz) (mO hz)
 . rw [if_neg h2,if_neg h2];obtain ⟨v1,v2,rest,ev⟩:∃ v1 v2 rest,vs=v1::v2::rest:=by
     match vs,h2 with
     | [],h2=>simp at h2
     | [_],h2=>simp at h2
     | v1::v2::rest,_=>exact ⟨v1,v2,rest,rfl⟩
   have kk:keyKind' vs.toArray=pure oneType':=by subst ev;exact keyKind_ints hI
   rw [kk];refine zt (zi ?_);refine zt (xn (Zn (all:=(pairsOf vs).toList) (st:=SortSt.mk' oneType' (pairsOf vs) #[] 7 none) (Q:=λ_ st'=>(arrOf st').toList.Perm (pairsOf vs).toList/\failedOf st'=none/\Rise LInt (arrOf st').toList)
     cmp_int hI.intKeys rfl rfl rfl rfl λst' f1 p1 r1=>⟨p1,f1,r1⟩) ?_ λ_ _ e=>e)
   rintro ⟨⟨⟩,st'⟩ s' ⟨rfl,hp,hf,hr⟩;dsimp only;refine zt (seqEpoch_at h6 rfl (zt (listUpdate_at h6 rfl ?_ (hsz2:=?_))));{rw [hf];simp only [nJ,xk,yO];exact zi (done st' hp hr)};{rw [tZ,<- zT,hp.length_eq,zT];exact yl (r9 pz) (mO hz)}
end
end Srt
namespace L2
open PySem PySem.Spec PyProof.Rows
theorem boot_sorted:bootBuiltins "sorted"=some (.builtin "sorted"):=by decide +kernel
end L2
namespace SG
open PySem PySem.Spec PyProof.Rows
def Ris (xs:Array Nat):Prop:=∀ i j (hj:j<xs.size) (h:i<j),xs[i]<xs[j]
theorem Ris.le {xs:Array Nat}(r:Ris xs){i j:Nat}(hj:j<xs.size)(h:i<=j):xs[i]<=xs[j]:=by
 rcases xN i j with q | q
 . exact wD (r i j hj q)
 . have:i=j:=mG h q;subst this;exact zk _
theorem go_ok {xs:Array Nat} (r:Ris xs) (j:Nat):∀ (n lo hi:Nat),hi-lo<=n->lo<=hi->hi<=xs.size->(∀ i (h:i<xs.size),i<lo->xs[i]<j)->(∀ i (h:i<xs.size),hi<=i->j<=xs[i]) ->
   (∀ i (h:i<xs.size),i<SetTable.below.go xs j n lo hi->xs[i]<j)/\(∀ i (h:i<xs.size),SetTable.below.go xs j n lo hi<=i->j<=xs[i])/\SetTable.below.go xs j n lo hi<=xs.size
 | 0,lo,hi,hn,h1,h2,a,b=>by
   have e:lo=hi:=by lia
   subst e;unfold SetTable.below.go;exact ⟨a,b,h2⟩
 | n + 1,lo,hi,hn,h1,h2,a,b=>by
   unfold SetTable.below.go;by_cases q:lo<hi
   . rw [if_pos q];have hm:(lo+hi)/2<xs.size:=by lia
     have eg:xs.getD ((lo+hi)/2) j=xs[(lo+hi)/2]:=by simp [Array.getD,hm]
     dsimp only;rw [eg];by_cases c:xs[(lo+hi)/2]<j;{rw [if_pos c];refine go_ok r j n ((lo+hi)/2+1) hi (by lia) (by lia) h2 (λi h hi'=>?_) b;exact wc (r.le hm (by lia)) c};{rw [if_neg c];refine go_ok r j n lo ((lo+hi)/2) (by lia) (by lia) (by lia) a (λi h hi'=>?_);exact yl (Nat.le_of_not_lt c) (r.le h hi')}
   . rw [if_neg q];have e:lo=hi:=by lia
     subst e;exact ⟨a,b,h2⟩
theorem pQ {xs:Array Nat}(r:Ris xs)(j:Nat):(∀ i (h:i<xs.size),i<SetTable.below xs j->xs[i]<j)/\(∀ i (h:i<xs.size),SetTable.below xs j<=i->j<=xs[i])/\SetTable.below xs j<=xs.size:=by unfold SetTable.below;exact go_ok r j xs.size 0 xs.size (by lia) (by lia) (zk _) (λi h z=>absurd z (vh _)) (λi h z=>absurd h (by lia))
theorem ris_iff {xs:Array Nat}:Ris xs↔xs.toList.Pairwise (·<·):=by
 rw [mq];constructor;{intro r i j hi hj h;have:=r i j (by simpa using hj) h;simpa using this};{intro r i j hj h;have:=r i j (by simp;lia) (by simpa using hj) h;simpa using this}
theorem eZ {xs:Array Nat}(r:Ris xs){j:Nat}(n:xs[SetTable.below xs j]?≠some j):Ris (SetTable.insertAt xs (SetTable.below xs j) j):=by
 obtain ⟨a,b,c⟩:=pQ r j;have b':∀ i (h:i<xs.size),SetTable.below xs j<=i->j<xs[i]:=by
   intro i h q;have h1:=b i h q;rcases xN j xs[i] with z | z
   . exact z
   . exfalso
     have e:xs[i]=j:=mG z h1;have hp:SetTable.below xs j<xs.size:=by lia
     have e2:xs[SetTable.below xs j]=j:=mG (by have:=r.le h q;lia) (b _ hp (zk _));apply n
     rw [xx hp,e2]
 generalize SetTable.below xs j=p at a b' c;rw [ris_iff] at r ⊢;unfold SetTable.insertAt;have e:((xs.extract 0 p).push j++xs.extract p xs.size).toList=xs.toList.take p++j::xs.toList.drop p:=by simp [qZ,List.extract];exact yZ (by rw [yH,zT];exact zk _)
 rw [e,y4];refine ⟨r.sublist (xj _ _),?_,?_⟩
 . rw [uA];refine ⟨λy hy=>?_,r.sublist (xi _ _)⟩;obtain ⟨i,hi,rfl⟩:=xR.mp hy;rw [List.getElem_drop];have hl:p+i<xs.size:=by rw [yH,zT] at hi;lia
   have:=b' (p+i) hl (by lia);simpa using this
 . intro y hy z hz;have hy1:y<j:=by
     obtain ⟨i,hi,rfl⟩:=xR.mp hy;rw [List.getElem_take];have hl:i<p:=by rw [zE] at hi;lia
     have:=a i (by rw [zE,zT] at hi;lia) hl;simpa using this
   rcases zQ.mp hz with rfl | hz
   . exact hy1
   . obtain ⟨i,hi,rfl⟩:=xR.mp hz;rw [List.getElem_drop];have hl:p+i<xs.size:=by rw [yH,zT] at hi;lia
     have:=b' (p+i) hl (by lia);have:j<xs.toList[p+i]'(by simpa using hl):=by simpa using this
     lia
theorem kZ {t:SetTable} {f:Nat->Int} {h:Int}:∀ (n:Nat) (p:SetTable.Probe) (j:Nat) (d:Option Nat),(∀ x,p.dummy=some x->t.slot x=.dummy)->SetTable.probe.go t f h n p=some (.empty j d)->(t.slot j=.empty)/\∀ x,d=some x->t.slot x=.dummy
 | 0,p,j,d,hd,e=>by unfold SetTable.probe.go at e;cases e
 | n + 1,p,j,d,hd,e=>by
   unfold SetTable.probe.go at e;have adv:∀ q:SetTable.Probe,(t.advance q).dummy=q.dummy:=by intro q;unfold SetTable.advance;split<;>rfl
   split at e
   . rename_i hs
     cases e;exact ⟨hs,hd⟩
   . rename_i hs
     refine kZ n _ j d (λx hx=>?_) e;rw [adv] at hx;cases hx;exact hs
   . split at e
     . cases e
     . refine kZ n _ j d (λx hx=>?_) e;rw [adv] at hx;exact hd x hx
theorem eY {t:SetTable}{j:Nat}(h:t.slot j=.empty\/t.slot j=.dummy):t.place[SetTable.below t.place j]?≠some j:=by intro e;unfold SetTable.slot at h;simp only [e,ql,xU] at h;rcases h with h | h<;>cases h
theorem free_not {t:SetTable}{h:Int}{j:Nat}{b:Bool}(e:t.freeSlot h=some (j,b)):t.place[SetTable.below t.place j]?≠some j:=by
 unfold SetTable.freeSlot at e;split at e
 . rename_i j0 d hp
   unfold SetTable.probe at hp;obtain ⟨h1,h2⟩:=kZ _ _ _ _ (λx hx=>by cases hx) hp;cases e;cases d with
   | none=>exact eY (.inl h1)
   | some x=>exact eY (.inr (h2 x rfl))
 . cases e
structure Good (bt:Bool)(t:SetTable):Prop where
 led:t.led=!bt
 ris:t.plain=true->Ris t.place
theorem Good.standIn {bt:Bool}{t:SetTable}(g:Good bt t)(n:Nat):Good bt (t.standIn n):=⟨g.led,λh=>by cases h⟩
theorem Good.layNew {bt:Bool}{t:SetTable}(g:Good bt t)(es:Array (Int × Value))(h:Int)(x:Value):Good bt (layNew t es h x).2.1:=by
 unfold PySem.layNew;split
 . rename_i j b e
   show Good bt ((t.put j).1.orStandIn _);have gp:Good bt (t.put j).1:=⟨g.led,λhp=>eZ (g.ris hp) (free_not e)⟩
   unfold SetTable.orStandIn;split;{exact gp};{exact gp.standIn _}
 . exact g.standIn _
theorem Good.relayAll {bt:Bool}{t:SetTable}(g:Good bt t)(es:Array (Int × Value))(n:Nat):Good bt (relayAll t es n).2.1:=by
 unfold PySem.relayAll;split
 . rename_i t' ord e
   have gt:Good bt t':=by unfold SetTable.relaid SetTable.laid at e;simp only [Option.bind_eq_bind,Option.bind_eq_some_iff,Option.pure_def] at e;obtain ⟨ow,_,e⟩:=e;cases e;refine ⟨g.led,λ_=>?_⟩;rw [ris_iff];show (List.map _ _).Pairwise _;rw [List.pairwise_map];refine List.Pairwise.filterMap (R:=(·<·)) _ (λa a' haa b hb c hc=>?_) hJ;simp only [hO] at hb hc;obtain ⟨_,_,rfl⟩:=hb;obtain ⟨_,_,rfl⟩:=hc;exact haa
   dsimp only;split;{exact gt};{exact g.standIn _}
 . exact g.standIn _
def iv:Value->Int
 | .int k _=>k
 | _=>0
def bt (w:World):Bool:=w.params.followText "set-order"
def ST (prog:Program)(w:World)(h:Heap)(a:Addr)(ks:List Int):Prop :=
 ∃ o es ep t,h.get? a=some o/\o.ExactSet/\o.data=.set es ep t/\ElemsOf (intKind prog w) es.toList/\es.size<scanBound/\t.fits es.size=true/\Good (bt w) t/\(es.toList.map λe=>iv e.2)=ks/\ks.Nodup
def SW (prog:Program)(w:World)(h:Heap)(a:Addr)(ks:List Int):Prop :=
 ∃ o es ep t,h.get? a=some o/\o.ExactSet/\o.data=.set es ep t/\ElemsOf (intKind prog w) es.toList/\es.size<=sizeLine/\t.fits es.size=true/\Good (bt w) t/\(es.toList.map λe=>iv e.2)=ks/\ks.Nodup
section
theorem SW.but {h:Heap}{a d:Addr}(x:SW prog w h a ks)(k:∀ o,h.get? a=some o->h'.get? a=some o):SW prog w h' a ks:=let ⟨o,es,ep,t,e,r⟩:=x;⟨o,es,ep,t,k o e,r⟩
theorem pP {k:Int}{e:Int × Value}{es:List (Int × Value)}(el:ElemsOf (intKind prog w) es)(he:e∈es):(intKind prog w).is k e.2=true↔iv e.2=k:=by
 obtain ⟨⟨k',h1,_⟩,_⟩:=el e he;obtain ⟨t,e2⟩:=uy h1;rw [e2];constructor;{intro h;exact (intKind prog w).inj _ _ _ (sZ prog w k' t) h};{intro h;have h:k'=k:=h;subst h;exact sZ prog w k' t}
theorem uR {h:Heap}{a:Addr}{o:Obj}{t:SetTable}(ho:h.get? a=some o)(hd:o.data=.set es ep t)(es':Array (Int × Value))(t':SetTable) :
   (h.update a (Obj.putSet es' t')).get? a=some { o with data:=.set es' (ep+1) t' }:=by
 have q:=qm (Obj.putSet es' t') ho (by rw [putSet_of es' t' hd];rfl);rw [putSet_of es' t' hd] at q;exact q
theorem rH {es':Array (Int × Value)}(p:es'.toList.Perm es.toList):es'.size=es.size:=by rw [<- zT,p.length_eq,zT]
theorem eV {g:Bool->Sem Unit}(hg:∀ (b:Bool) (s1:Shared) (Q':Unit->Shared->Prop),Q' () s1->wpAny (model prog w) A (g b) Q' E s1){a:Addr}{o:Obj}{t:SetTable}(ho:s.heap.get? a=some o)(hx:o.ExactSet)(hd:o.data=.set es ep t)
   {es1:Array (Int × Value)} {t2:SetTable} {wd:Bool} {R:Option Bool->Shared->Prop} (el:ElemsOf (intKind prog w) es1.toList) (hb:es1.size<scanBound) (hf:t2.fits es1.size=true) (gd:Good (bt w) t2) (nd:(es1.toList.map λe=>iv e.2).Nodup)
   (q:∀ h' ks',Heap.SameBut a s.heap h'->ST prog w h' a ks'->ks'.Perm (es1.toList.map λe=>iv e.2)->R (some true) { s with heap:=h' }) :
   wpAny (model prog w) A (do storeSet a es1 t2;if (!wd&&t2.tooFull)=true then (do g (relayAll t2 es1 (SetTable.grown es1.size)).2.2;storeSet a (relayAll t2 es1 (SetTable.grown es1.size)).1 (relayAll t2 es1 (SetTable.grown es1.size)).2.1;pure (some true)) else pure (some true)) R E s:=by
 refine zt (ux ho hd ?_ (nI hb));have ho1:=uR ho hd es1 t2;have sb:=uz s.heap a (Obj.putSet es1 t2);split
 . have pp:=relayAll_perm t2 es1 (SetTable.grown es1.size);have pf:=relayAll_fits t2 es1 (SetTable.grown es1.size);have pg:=gd.relayAll es1 (SetTable.grown es1.size);generalize relayAll t2 es1 (SetTable.grown es1.size)=Z at pp pf pg ⊢;obtain ⟨es2,t3,gv⟩:=Z;have pp:es2.toList.Perm es1.toList:=pp;have hb2:es2.size<scanBound:=by rw [rH pp];exact hb
   refine zt (hg _ _ _ (zt (ux ho1 rfl ?_ (nI hb2))));refine zi (q _ _ (sb.trans (uz _ a _)) ⟨_,es2,_,t3,uR ho1 rfl es2 t3,hx,rfl,el.perm pp,hb2,pf,pg,rfl,?_⟩ (pp.map _));exact (pp.map λe=>iv e.2).nodup_iff.mpr nd
 . exact zi (q _ _ sb ⟨_,es1,_,t2,ho1,hx,rfl,el,hb,hf,gd,rfl,nd⟩ (.refl _))
theorem add_int {a:Addr} {k:Int} {tk:Tok} {Q:Bool->Shared->Prop} (hS:ST prog w s.heap a ks) (room:ks.length+1<scanBound)
   (q:∀ b h' ks',Heap.SameBut a s.heap h'->ST prog w h' a ks'->(∀ y,y∈ks'↔y∈ks\/y=k)->ks'.length<=ks.length+1->Q b { s with heap:=h' }):wpAny (model prog w) A (setAddHashed a (.int k tk) ((intKind prog w).hash k)) Q E s:=by
 obtain ⟨o,es,ep,t,ho,hx,hd,el,hb,hf,gd,rfl,nd⟩:=hS;have hk:=sZ prog w k tk;have lz:(es.toList.map λe=>iv e.2).length=es.size:=by rw [zg,zT]
 unfold setAddHashed;unfold setAddHashedIn;refine xI (zt (xV ho hd hf ?_));dsimp only;rw [byScan_of (x:=Value.int k tk) rfl hb el,if_pos rfl];unfold setAddByScan;refine zt (zt (we (zt (wpAny_setScan_of hk ho hd hf el ?_))));cases hr:List.findIdx? (λe=>(intKind prog w).is k e.2) es.toList with
 | some j =>
   dsimp only;obtain ⟨hj,pj,_⟩:=iM.mp hr;have hm:k∈es.toList.map λe=>iv e.2:=zR.mpr ⟨_,y9 hj,(pP el (y9 hj)).mp pj⟩
   refine zi (zi ?_);have:=q false s.heap _ (nH a s.heap) ⟨o,es,ep,t,ho,hx,hd,el,hb,hf,gd,rfl,nd⟩ (λy=>⟨.inl,λz=>z.elim id λe=>e ▸ hm⟩) (wa _);exact this
 | none =>
   dsimp only;have hm:k∉es.toList.map λe=>iv e.2:=by intro z;obtain ⟨e,he,e1⟩:=zR.mp z;have:=iE.mp hr e he;rw [(pP el he).mpr e1] at this;cases this
   have gw:∀ (b:Bool) (s1:Shared) (Q':Unit->Shared->Prop),Q' () s1->wpAny (model prog w) A (match b with | true=>rule "set.scan.the-table-gave-way" | false=>pure ()) Q' E s1:=λb s1 Q' z=>by
     cases b;{exact zi z};{exact we z}
   have lp:=layNew_perm t es ((intKind prog w).hash k) (.int k tk);have lf:=layNew_fits t es ((intKind prog w).hash k) (.int k tk);have lg:=gd.layNew es ((intKind prog w).hash k) (.int k tk);generalize layNew t es ((intKind prog w).hash k) (.int k tk)=Z at lp lf lg ⊢;obtain ⟨es1,t1,wd,gv⟩:=Z;have lf:t1.fits es1.size=true:=lf;have lg:Good (bt w) t1:=lg;have lp:es1.toList.Perm (es.toList++[((intKind prog w).hash k,.int k tk)]):=by
     have:=lp
     rwa [sM] at this
   have el1:ElemsOf (intKind prog w) es1.toList:=(el.push hk rfl).perm lp;have l1:es1.size=es.size+1:=by have:=lp.length_eq;rw [zh,zT,zT] at this;exact this
   have hb1:es1.size<scanBound:=by rw [l1];rw [lz] at room;exact room
   have pm:(es1.toList.map λe=>iv e.2).Perm ((es.toList.map λe=>iv e.2)++[k]):=by
     have:=lp.map λe=>iv e.2
     rwa [zD] at this
   have nd1:(es1.toList.map λe=>iv e.2).Nodup:=by rw [pm.nodup_iff,qV];exact ⟨nd,(by simp),λx hx y hy e=>hm (by rw [zS.mp hy] at e;rw [<- e];exact hx)⟩
   have fin:∀ h' ks',Heap.SameBut a s.heap h'->ST prog w h' a ks'->ks'.Perm (es1.toList.map λe=>iv e.2)->Q true { s with heap:=h' }:=λh' ks' sb st p=>by
     refine q true h' ks' sb st (λy=>?_) ?_;{rw [p.mem_iff,pm.mem_iff,zY,zS]};{rw [p.length_eq,zg,zT,l1,lz];exact zk _}
   dsimp only;refine zt (gw _ _ _ ?_);split
   . refine zt ?_;rw [nP 8 (x:=Value.int k tk) rfl];refine zi (eV (λb s1 Q' z=>gw b s1 Q' z) ho hx hd el1 hb1 ?_ ?_ nd1 λh' ks' sb st p=>zi (fin h' ks' sb st p))
     . exact lf
     . exact lg
   . refine zt (zi (eV (λb s1 Q' z=>gw b s1 Q' z) ho hx hd el1 hb1 ?_ ?_ nd1 λh' ks' sb st p=>zi (fin h' ks' sb st p)))
     . exact lf
     . exact lg
theorem new_set (a:Value)(q:Q (.ref s.heap.objs.size) { s with heap:=s.heap.push { cls:=.type "set",dict:=none,data:=.set #[] 0 (.fresh 0 0 (!bt w)) } }) :
   codeAny (model prog w) A (.call (.builtin "set.__new__") ⟨[.type "set",a],[]⟩) (wants Q E) s:=by
 refine codeAny_of_tree ?_;refine zt (m:=checkBuiltinCall "set.__new__" ⟨[.type "set",a],[]⟩) (wpAny_of_eq (PySem.F.newCall_set_1 a) (zi ⟨se iP _,uI PySem.F.entry_set_new ?_⟩));rw [so iP _];unfold Builtin.«set.__new__»;unfold Builtin.Frozenset.newClass;have hsub:=sub_set_self;obtain ⟨hp,ge,dr,tk,os⟩:=s;dsimp only
 wp_walk
 refine nC (zi ?_);simp only [newObj];exact zt (wpAny_alloc (zi (zi q)))
def emptyObj (w:World):Obj:={ cls:=.type "set",dict:=none,data:=.set #[] 0 (.fresh 0 0 (!bt w)) }
set_option maxHeartbeats 3200000 in
end
theorem slot_it_next:Slot "set_iterator" "__next__" "set_iterator.__next__" :=
 .of (owner:="set_iterator") (n:="__next__") (by rw [typeLookup_type,builtinLookup_eq_fast];kernel_rfl) (by decide +kernel) (by decide +kernel) (by decide +kernel) (by first | exact .inl (by decide +kernel) | exact .inr (by decide +kernel)) (by rw [isSubtype_type];kernel_rfl)
theorem eU:Slot "set_iterator" "__iter__" "set_iterator.__iter__" :=
 .of (owner:="set_iterator") (n:="__iter__") (by rw [typeLookup_type,builtinLookup_eq_fast];kernel_rfl) (by decide +kernel) (by decide +kernel) (by decide +kernel) (by first | exact .inl (by decide +kernel) | exact .inr (by decide +kernel)) (by rw [isSubtype_type];kernel_rfl)
theorem pO:entryFor table "set_iterator.__next__"=some Builtin.«set_iterator.__next__»:=entryFor_of_tree (by kernel_rfl)
theorem pN (a:Value):argsOk "set_iterator.__next__" ⟨[a],[]⟩:=by unfold argsOk;kernel_rfl
theorem Zm (a:Value):argsOk "set_iterator.__iter__" ⟨[a],[]⟩:=by unfold argsOk;kernel_rfl
theorem Zl:entryFor table "set_iterator.__iter__"=some Builtin.«dict_keyiterator.__iter__»:=entryFor_alias (id':="dict_keyiterator.__iter__") (by kernel_rfl) (by first | rfl | decide +kernel | (unfold String.splitOn;simp +decide [String.splitOnAux])) (by decide +kernel) (by kernel_rfl)
theorem Zk:entryFor table "set.__iter__"=some Builtin.«frozenset.__iter__»:=entryFor_alias (id':="frozenset.__iter__") (by kernel_rfl) rfl (by decide +kernel) (by kernel_rfl)
theorem kY {α:Type}:∀ (l:List α) {i:Nat} (h:i<l.length),(l[i]::l.eraseIdx i).Perm l
 | [],_,h=>absurd h (vh _)
 | x::l,0,_=>.refl _
 | x::l,i+1,h=>by
   have:=kY l (i:=i) (by simpa using h);exact (List.Perm.swap _ _ _).trans (this.cons x)
theorem eS {α:Type}(next:Nat->Nat):∀ (n k:Nat) (l:List α) (out:Array α),l.length=n->(pickOrder.go next n k l out).toList.Perm (out.toList++l)
 | 0,k,l,out,h=>by
   have e:l=[]:=uu.mp h;subst e;unfold pickOrder.go;rw [yx]
 | n+1,k,l,out,h=>by
   unfold pickOrder.go;have hl:next k%l.length<l.length:=yd _ (by lia);rw [zO hl];dsimp only;refine (eS next n (k+1) _ _ (by rw [List.length_eraseIdx];rw [if_pos hl];lia)).trans ?_;rw [sM,zX];refine xw _ ?_;exact kY l hl
theorem eQ {α:Type}(next:Nat->Nat)(xs:Array α):(pickOrder next xs).toList.Perm xs.toList:=by unfold pickOrder;have:=eS next xs.size 0 xs.toList #[] (zT ..);simpa using this
def itObj (f:Value)(i:Int)(c:Value)(n ep:Nat):Obj:={ cls:=.type "set_iterator",dict:=none,data:=.fields #[f,rawInt i,c,rawInt n,rawInt ep],slots:=#[] }
section
variable {a:Addr}{o:Obj}{t:SetTable}
theorem pL {Q:Bool->Shared->Prop}(q:Q (bt w) s):wpAny (model prog w) A setsByText Q E s:=by unfold setsByText;exact zt (nC (zi q))
theorem eO {sl gi:Nat}{Q:Option (Value × Nat)->Shared->Prop}(hb:bt w=true)(ho:s.heap.get? a=some o)(hd:o.data=.set es ep t)(hf:t.fits es.size=true)(q:Q (((pickOrder (w.params.setOrder a ep) es)[gi]?).map λe=>(e.2,sl)) s):wpAny (model prog w) A (setNext a sl gi ep) Q E s:=by unfold setNext;refine zt (xV ho hd hf ?_);dsimp only;refine zt (pL ?_);rw [hb,if_pos rfl,if_neg (by simp)];unfold setWalk;refine zt (zt (xV ho hd hf ?_));dsimp only;refine zt (pL ?_);rw [hb,if_pos rfl];exact zt (nC (zi (zi q)))
theorem eN {sl gi:Nat}{Q:Option (Value × Nat)->Shared->Prop}(hb:bt w=false)(hl:t.led=true)(hp:(!t.plain&&decide (es.size > 1))=false)(ho:s.heap.get? a=some o)(hd:o.data=.set es ep t)(hf:t.fits es.size=true)
   (q:Q (match es[SetTable.below t.place sl]?,t.place[SetTable.below t.place sl]? with | some (_,x),some j=>some (x,j+1) | _,_=>none) s):wpAny (model prog w) A (setNext a sl gi ep) Q E s:=by
 unfold setNext;refine zt (xV ho hd hf ?_);dsimp only;refine zt (pL ?_);rw [hb,if_neg (by decide)];show wpAny _ _ (if (!t.plain&&decide (es.size > 1))=true then _ else _) _ _ _;rw [hp,if_neg (by decide)];refine zt (m:=if (!t.led&&!es.isEmpty)=true then unsupported "set:maker-not-led" else pure ()) ?_;rw [hl,if_neg (by simp)];exact zi (zi q)
end
section
variable {a I:Addr}{o:Obj}{t:SetTable}
theorem rG {f c:Value}{i:Int}{n:Nat}(hI:s.heap.get? I=some (itObj f i c n ep)):s.TypeIs (.ref I) "set_iterator":=⟨_,hI,rfl⟩
theorem eM {h0:Heap}{R:Fin->Shared->Prop}{Q:Option Value->Shared->Prop}(hh:A.handled=none)(ex:Heap.ExtBut I h0 s.heap)(q:∀ g,Heap.ExtBut I h0 g->Q none { s with heap:=g }) :
   wpAny (model prog w) A.in1 (newExc (.type "StopIteration") [] >>= λe=>raiseNew e) R (λe s'=>wpAny (model prog w) A (do if <- isInstance e (.type "StopIteration") then pure none else throw e) Q E s') s:=by
 refine zt ?_;simp only [newExc,newTuple];refine zt (sh (zt (m:=firstArgMember _ _) (wpAny_of_eq (a:=Value.none) (by first | rfl | (simp only [firstArgMember];rfl)) (sh ?_ (by size_fits)))) (by size_fits));simp only [raiseNew];refine zt (wpAny_handled ?_);rw [show A.in1.handled=none from hh];refine zt (zi (wpAny_throw ?_));exact zt (wpAny_isInstance (T:="StopIteration") (b:=true) ⟨_,yi _ rfl,rfl⟩ isSubtype_stop (zi (q _ ((ex.push _).push _))))
theorem eJ {sl i n nx:Nat}{x:Value}{Q:Option Value->Shared->Prop}(hI:s.heap.get? I=some (itObj (rawInt sl) i (.ref a) n ep))(ho:s.heap.get? a=some o)(hd:o.data=.set es ep t)(hf:t.fits es.size=true)(sz:es.size=n)
   (hs:∀ {A:Around} {E:Value->Shared->Prop} {Q:Option (Value × Nat)->Shared->Prop},Q (some (x,nx)) s->wpAny (model prog w) A (setNext a sl i ep) Q E s)
   (q:∀ g,g.get? I=some (itObj (rawInt nx) (i+1:Nat) (.ref a) n ep)->Heap.SameBut I s.heap g->Q (some x) { s with heap:=g }):wpAny (model prog w) A (pyNext (.ref I)) Q E s:=by
 have hT:=rG hI;unfold pyNext;refine zt (sf (qp (name:=Str.ofString "__next__") hT slot_it_next (vR slot_it_next hT pO ?_ (pN _))));unfold Builtin.«set_iterator.__next__»;refine zt (m:=slotArgs "__next__" 0 ⟨[.ref I],[]⟩) (zi (zt (qj hI rfl ?_)));dsimp only [rawInt];refine zt (sj ho hd hf ?_);rw [if_neg (by rw [sz];simp)];simp only [yo];refine zt (hs ?_);dsimp only;refine zt (uL hI (by show 0<5;decide) λg1 e1 s1=>?_);refine zt (uL e1 (by show 1<5;decide) λg2 e2 s2=>?_);exact zi ⟨x,rfl,zi (q g2 e2 (s1.trans s2))⟩
theorem it_end {sl i n:Nat}{Q:Option Value->Shared->Prop}(hh:A.handled=none)(hI:s.heap.get? I=some (itObj (rawInt sl) i (.ref a) n ep))(ho:s.heap.get? a=some o)(hd:o.data=.set es ep t)(hf:t.fits es.size=true)(sz:es.size=n)
   (hs:∀ {A:Around} {E:Value->Shared->Prop} {Q:Option (Value × Nat)->Shared->Prop},Q none s->wpAny (model prog w) A (setNext a sl i ep) Q E s)
   (q:∀ g,Heap.ExtBut I s.heap g->Q none { s with heap:=g }):wpAny (model prog w) A (pyNext (.ref I)) Q E s:=by
 have hT:=rG hI;unfold pyNext;refine zt (sf (qp (name:=Str.ofString "__next__") hT slot_it_next (vR slot_it_next hT pO ?_ (pN _))));unfold Builtin.«set_iterator.__next__»;refine zt (m:=slotArgs "__next__" 0 ⟨[.ref I],[]⟩) (zi (zt (qj hI rfl ?_)));dsimp only [rawInt];refine zt (sj ho hd hf ?_);rw [if_neg (by rw [sz];simp)];simp only [yo];refine zt (hs ?_);dsimp only;refine zt (uL hI (by show 2<5;decide) λg1 e1 s1=>?_);exact eM (s:={ s with heap:=g1 }) (h0:=s.heap) hh s1.extBut q
theorem dr_item {T:Addr}{pls:Array Value}{i n pl:Nat}{h0:Int}{x:Value}{Q:Option Value->Shared->Prop}(hI:s.heap.get? I=some (itObj (.ref T) i (.ref a) n ep))(hT0:IsTup s.heap T pls)(hp:pls[i]?=some (rawInt pl))(hx:es[pl]?=some (h0,x))(ho:s.heap.get? a=some o)(hd:o.data=.set es ep t)(hf:t.fits es.size=true)(sz:es.size=n)
   (q:∀ g,g.get? I=some (itObj (.ref T) (i+1:Nat) (.ref a) n ep)->Heap.SameBut I s.heap g->Q (some x) { s with heap:=g }):wpAny (model prog w) A (pyNext (.ref I)) Q E s:=by
 have hT:=rG hI;obtain ⟨oT,eT,_,nT,dT⟩:=hT0;unfold pyNext;refine zt (sf (qp (name:=Str.ofString "__next__") hT slot_it_next (vR slot_it_next hT pO ?_ (pN _))));unfold Builtin.«set_iterator.__next__»;refine zt (m:=slotArgs "__next__" 0 ⟨[.ref I],[]⟩) (zi (zt (qj hI rfl ?_)));dsimp only [rawInt];refine zt (sj ho hd hf ?_);rw [if_neg (by rw [sz];simp)];refine zt (wpAny_seqItems eT dT ?_);simp only [yo,hp,rawInt];unfold setNextDrawn;refine zt (zt (xV ho hd hf ?_));dsimp only;rw [if_neg (by simp),hx];refine zi (zt (uL hI (by show 1<5;decide) λg2 e2 s2=>?_));exact zi ⟨x,rfl,zi (q g2 e2 s2)⟩
theorem dr_end {T:Addr}{pls:Array Value}{i n:Nat}{Q:Option Value->Shared->Prop}(hh:A.handled=none)(hI:s.heap.get? I=some (itObj (.ref T) i (.ref a) n ep))(hT0:IsTup s.heap T pls)(hp:pls[i]?=none)(ho:s.heap.get? a=some o)(hd:o.data=.set es ep t)(hf:t.fits es.size=true)(sz:es.size=n)
   (q:∀ g,Heap.ExtBut I s.heap g->Q none { s with heap:=g }):wpAny (model prog w) A (pyNext (.ref I)) Q E s:=by
 have hT:=rG hI;obtain ⟨oT,eT,_,nT,dT⟩:=hT0;unfold pyNext;refine zt (sf (qp (name:=Str.ofString "__next__") hT slot_it_next (vR slot_it_next hT pO ?_ (pN _))));unfold Builtin.«set_iterator.__next__»;refine zt (m:=slotArgs "__next__" 0 ⟨[.ref I],[]⟩) (zi (zt (qj hI rfl ?_)));dsimp only [rawInt];refine zt (sj ho hd hf ?_);rw [if_neg (by rw [sz];simp)];refine zt (wpAny_seqItems eT dT ?_);simp only [yo,hp];refine zt (uL hI (by show 0<5;decide) λg1 e1 s1=>?_);refine zt (uL e1 (by show 2<5;decide) λg2 e2 s2=>?_);exact eM (s:={ s with heap:=g2 }) (h0:=s.heap) hh (s1.trans s2).extBut q
theorem kX {f c:Value}{i:Int}{n:Nat}(hI:s.heap.get? I=some (itObj f i c n ep))(q:Q (.ref I) s):wpAny (model prog w) A (pyIter (.ref I)) Q E s:=by have hT:=rG hI;refine wpAny_pyIter_slot hT eU (vR eU hT Zl ?_ (Zm _));exact zi ⟨_,rfl,"set_iterator",_,hT,slot_it_next.lookup,q⟩
theorem eI {α:Type}:∀ (n:Nat) (l:List α) (s:Shared) (Q:List α->Shared->Prop),l.length=n->(∀ l' d,l'.Perm l->Q l' { s with drawn:=d })->wpAny (model prog w) A (drawOrder n l) Q E s
 | 0,l,s,Q,h,q=>by
   have e:l=[]:=uu.mp h;subst e;unfold drawOrder;exact zi (q [] s.drawn (.refl _))
 | n+1,[],s,Q,h,q=>by cases h
 | n+1,x::l,s,Q,h,q=>by
   unfold drawOrder;refine zt (?_:wpAny (model prog w) A (choose .order (x::l).length) _ E s);intro Γ p hΓ;refine ⟨by simp,?_⟩;have hl:=yd ((model prog w).w.draws .order (s.drawn.get .order)) (show 0<(x::l).length by simp);generalize (model prog w).w.draws .order (s.drawn.get .order)%(x::l).length=i at hl ⊢;show wpAny _ _ _ _ _ _;rw [zO hl];dsimp only;refine zt (eI n ((x::l).eraseIdx i) _ _ (by rw [List.length_eraseIdx,if_pos hl];simp at h ⊢;lia) λl' d pl=>?_);exact zi (q _ d ((pl.cons _).trans (kY _ hl)))
end
structure Wk (prog:Program)(w:World)(h0 h2:Heap)(a:Addr)(ks:List Int)(I:Addr):Prop where
 ex:∃ (fp wr:List Addr) (vs:List Value) (ks':List Int) (St:Nat->Heap->Prop),(∀ A:Around,A.handled=none->Walks prog w A I fp wr vs.length (λi v=>vs[i]?=some v) St)/\St 0 h2/\(∀ b∈fp,b<h2.objs.size)/\I∈fp/\(∀ b∈wr,h0.get? b=none)/\IntsAre vs ks'/\ks'.Perm ks/\(∀ b∈fp,b=a\/h0.get? b=none)
 old:∀ b o,h0.get? b=some o->h2.get? b=some o
section
variable {a I:Addr}{o:Obj}{t:SetTable}
theorem eG {l:List (Int × Value)}(el:ElemsOf (intKind prog w) l):IntsAre (l.map (·.2)) (l.map λe=>iv e.2):=by
 induction l with
 | nil=>exact .nil
 | cons e l ih =>
   obtain ⟨⟨k,hk,_⟩,_⟩:=el e (.head _);obtain ⟨t,e2⟩:=uy hk;have:=ih el.tail;rw [zL,zL,e2];constructor;exact this
theorem Zj (hb:bt w=true) (hf:t.fits es.size=true) (hd:o.data=.set es ep t) (ne:a≠I):∀ A:Around,A.handled=none->Walks prog w A I [I,a] [I] ((pickOrder (w.params.setOrder a ep) es).toList.map (·.2)).length (λi v=>((pickOrder (w.params.setOrder a ep) es).toList.map (·.2))[i]?=some v) (λi h=>h.get? I=some (itObj (rawInt (0:Nat)) (i:Nat) (.ref a) es.size ep)/\h.get? a=some o):=λA hh =>
 { sub := λb hb=>zQ.mpr (.inl (zS.mp hb))
   frame:=λi h h' st k=>⟨k I (by simp) _ st.1,k a (by simp) _ st.2⟩
   item:=λi s Q E hi st q=>by
     have hi':i<(pickOrder (w.params.setOrder a ep) es).size:=by simpa using hi
     refine eJ (x:=((pickOrder (w.params.setOrder a ep) es)[i]).2) (nx:=0) st.1 st.2 hd hf rfl (λz=>eO hb st.2 hd hf ?_) λg e1 e2=>q _ g s.toks ?_ ⟨e1,e2.extBut _ _ ne st.2⟩ λb u hb e=>e2.extBut _ _ (λz=>hb (zS.mpr z)) e;{rw [xx hi'];exact z};{rw [yp,zA,xx hi'];rfl}
   done:=λs Q E st q=>by
     refine it_end hh st.1 st.2 hd hf rfl (λz=>eO hb st.2 hd hf ?_) λg e2=>q g s.toks λb u hb e=>e2 _ _ (λz=>hb (zS.mpr z)) e
     rw [hE (by simp)];exact z
   self:=λi s Q E st q=>kX st.1 q }
theorem Zi (hb:bt w=false) (hl:t.led=true) (hp:(!t.plain&&decide (es.size > 1))=false) (hr:Ris t.place) (hf:t.fits es.size=true) (hd:o.data=.set es ep t) (ne:a≠I):∀ A:Around,A.handled=none->Walks prog w A I [I,a] [I] (es.toList.map (·.2)).length (λi v=>(es.toList.map (·.2))[i]?=some v)
   (λi h=>(∃ sl:Nat,h.get? I=some (itObj (rawInt sl) (i:Nat) (.ref a) es.size ep)/\(∀ j (q:j<t.place.size),j<i->t.place[j]<sl)/\(∀ j (q:j<t.place.size),i<=j->sl<=t.place[j]))/\h.get? a=some o):=λA hh=>by
 have sp:t.place.size=es.size:=by unfold SetTable.fits at hf;simp at hf;exact hf.1
 have at_:∀ (i sl:Nat),i<=t.place.size->(∀ j (q:j<t.place.size),j<i->t.place[j]<sl)->(∀ j (q:j<t.place.size),i<=j->sl<=t.place[j])->SetTable.below t.place sl=i:=by
   intro i sl hi c1 c2;obtain ⟨b1,b2,b3⟩:=pQ hr sl;rcases qU (SetTable.below t.place sl) i with q | q | q
   . have hq:SetTable.below t.place sl<t.place.size:=by lia
     have z1:=c1 _ hq q;have z2:=b2 _ hq (zk _);lia
   . exact q
   . have hq:i<t.place.size:=by lia
     have z1:=b1 _ hq q;have z2:=c2 _ hq (zk _);lia
 exact
 { sub := λb hb=>zQ.mpr (.inl (zS.mp hb))
   frame:=λi h h' st k=>⟨let ⟨sl,e,c⟩:=st.1;⟨sl,k I (by simp) _ e,c⟩,k a (by simp) _ st.2⟩
   item:=λi s Q E hi st q=>by
     obtain ⟨⟨sl,e0,c1,c2⟩,ea⟩:=st;have hi':i<es.size:=by simpa using hi
     have hi2:i<t.place.size:=by lia
     have bl:=at_ i sl (by lia) c1 c2;refine eJ (x:=(es[i]).2) (nx:=t.place[i]+1) e0 ea hd hf rfl (λz=>eN hb hl hp ea hd hf ?_) λg e1 e2=>q _ g s.toks ?_ ⟨⟨_,e1,λj hj lt=>?_,λj hj le=>?_⟩,e2.extBut _ _ ne ea⟩ λb u hb e=>e2.extBut _ _ (λz=>hb (zS.mpr z)) e;{rw [bl,xx hi',xx hi2];exact z};{rw [yp,zA,xx hi'];rfl};{have:=hr.le hi2 (show j<=i by lia);lia};{have:=hr i j hj (by lia);lia}
   done:=λs Q E st q=>by
     obtain ⟨⟨sl,e0,c1,c2⟩,ea⟩:=st;have en:(es.toList.map (·.2)).length=es.size:=by simp
     rw [en] at e0 c1 c2;have bl:=at_ es.size sl (by lia) c1 c2;refine it_end hh e0 ea hd hf rfl (λz=>eN hb hl hp ea hd hf ?_) λg e2=>q g s.toks λb u hb e=>e2 _ _ (λz=>hb (zS.mpr z)) e
     rw [bl,hE (zk _)];exact z
   self:=λi s Q E st q=>let ⟨sl,e,_⟩:=st.1;kX e q }
theorem Zh {T:Addr} {ls:List Nat} (hls:∀ j∈ls,j<es.size) (hf:t.fits es.size=true) (hd:o.data=.set es ep t) (ne:a≠I) (neT:T≠I):∀ A:Around,A.handled=none->Walks prog w A I [I,T,a] [I] (ls.map λj=>(es.getD j (0,.none)).2).length (λi v=>(ls.map λj=>(es.getD j (0,.none)).2)[i]?=some v)
   (λi h=>h.get? I=some (itObj (.ref T) (i:Nat) (.ref a) es.size ep)/\IsTup h T (ls.map λ(j:Nat)=>rawInt j).toArray/\h.get? a=some o):=λA hh =>
 { sub := λb hb=>zQ.mpr (.inl (zS.mp hb))
   frame:=λi h h' st k=>⟨k I (by simp) _ st.1,let ⟨u,e,c⟩:=st.2.1;⟨u,k T (by simp) _ e,c⟩,k a (by simp) _ st.2.2⟩
   item:=λi s Q E hi st q=>by
     obtain ⟨e0,eT,ea⟩:=st;have hi':i<ls.length:=by simpa using hi
     have hj:=hls ls[i] (y9 hi');refine dr_item (pl:=ls[i]) (h0:=(es[ls[i]]).1) (x:=(es[ls[i]]).2) e0 eT ?_ ?_ ea hd hf rfl λg e1 e2=>q _ g s.toks ?_ ⟨e1,IsTup.extBut eT e2.extBut neT,e2.extBut _ _ ne ea⟩ λb u hb e=>e2.extBut _ _ (λz=>hb (zS.mpr z)) e;{simp [hi']};{rw [xx hj]};{rw [yp,zO hi'];simp [Array.getD,hj]}
   done:=λs Q E st q=>by
     obtain ⟨e0,eT,ea⟩:=st;refine dr_end hh e0 eT ?_ ea hd hf rfl λg e2=>q g s.toks λb u hb e=>e2 _ _ (λz=>hb (zS.mpr z)) e
     simp
   self:=λi s Q E st q=>kX st.1 q }
theorem eF (el:ElemsOf (intKind prog w) es.toList):∀ {ls:List Nat},(∀ j∈ls,j<es.size)->IntsAre (ls.map λj=>(es.getD j (0,.none)).2) (ls.map λj=>iv (es.getD j (0,.none)).2)
 | [],_=>.nil
 | j::ls,h=>by
   have hj:=h j (.head _);have eg:es.getD j (0,.none)=es[j]:=by simp [Array.getD,hj]
   obtain ⟨⟨k,hk,_⟩,_⟩:=el es[j] (by simp);obtain ⟨t,e2⟩:=uy hk;have:=eF el (ls:=ls) λj hj=>h j (.tail _ hj)
   rw [zL,zL,eg,e2];constructor;exact this
theorem Zg (es:Array (Int × Value)):((List.range es.size).map λj=>iv (es.getD j (0,.none)).2)=es.toList.map λe=>iv e.2:=by
 refine vk (by simp) λi h1 h2=>?_
 have hi:i<es.size:=by simpa using h1
 simp [Array.getD,hi]
theorem iter_set (hS:SW prog w s.heap a ks) (q:∀ I h2 d,Wk prog w s.heap h2 a ks I->Q (.ref I) { s with heap:=h2,drawn:=d }):wpAny (model prog w) A (pyIter (.ref a)) Q E s:=by
 obtain ⟨o,es,ep,t,ho,hx,hd,el,hb,hf,gd,rfl,nd⟩:=hS;have hT:s.TypeIs (.ref a) "set":=⟨_,ho,hx.1⟩
 have la:a<s.heap.objs.size:=zW ho;have fr:s.heap.get? s.heap.objs.size=none:=by
   cases e:s.heap.get? s.heap.objs.size with
   | none=>rfl
   | some u=>exact absurd (zW e) (xh _)
 refine wpAny_pyIter_slot hT iO (vR iO hT Zk ?_ (PySem.F.args_set_iter_1 _));unfold Builtin.«frozenset.__iter__»;refine zt (m:=Builtin.Frozenset.slot0 "__iter__" ⟨[.ref a],[]⟩) (zi ?_);refine zt (m:=Builtin.Frozenset.sizeOf a) (zt (sj ho hd hf (zi ?_)));refine zt (m:=setDrawn a) ?_;unfold setDrawn;refine zt (xV ho hd hf (zt (pL (zi ?_))));show wpAny _ _ (if (!bt w&&(!t.plain&&decide (es.size > 1)))=true then _ else _) _ _ _;have mk:∀ (f:Value) (s1:Shared),s1.heap.get? a=some o->(∀ h2,h2=s1.heap.push (itObj f (0:Nat) (.ref a) es.size ep)->Q (.ref s1.heap.objs.size) { s1 with heap:=h2 })->wpAny (model prog w) A.in1 (do let e <- setEpoch a;let z <- newFields "set_iterator" [f,rawInt 0,Value.ref a,rawInt es.size,rawInt e];ret z) (λfin s'=>∃ v,fin=Fin.done (Flow.ret v)/\∃ T' r,s'.TypeIs v T'/\typeLookup (Value.type T') (Str.ofString "__next__")=pure (some r)/\Q v s') E s1:=by intro f s1 e1 q1;refine zt (wpAny_setEpoch_of e1 hd hf (zt (m:=newFields _ _) (sh (zi ⟨_,rfl,"set_iterator",_,⟨_,yi _ rfl,rfl⟩,slot_it_next.lookup,?_⟩))));exact q1 _ rfl
 cases hbt:bt w with
 | true =>
   rw [tj,mD,if_neg (by decide)];refine zt (zi (mk _ s ho λh2 e2=>q _ h2 s.drawn ⟨⟨_,_,_,_,_,Zj hbt hf hd (zC la),⟨?_,?_⟩,?_,.head _,λb hb=>?_,eG (el.perm (eQ _ es)),(eQ _ es).map _,λb hb=>?_⟩,λb u e=>?_⟩));{rw [e2];exact yi _ rfl};{rw [e2];exact zU _ ho}
   . intro b hb;rw [e2,ZT.size_push];rcases zQ.mp hb with z | z
     . rw [z];exact wb _
     . rw [zS.mp z];exact w4 la
   . rw [zS.mp hb];exact fr
   . rcases zQ.mp hb with z | z
     . rw [z];exact .inr fr
     . exact .inl (zS.mp z)
   . rw [e2];exact zU _ e
 | false =>
   have ld:t.led=true:=by rw [gd.led,hbt];rfl
   rw [qT,l7];cases hp:(!t.plain&&decide (es.size > 1)) with
   | false =>
     rw [if_neg (by decide)];have hr:Ris t.place:=by
       cases pl:t.plain with
       | true=>exact gd.ris pl
       | false =>
         rw [pl] at hp;have sp:t.place.size=es.size:=by unfold SetTable.fits at hf;simp at hf;exact hf.1
         simp at hp;intro i j hj hij;lia
     refine zt (zi (mk _ s ho λh2 e2=>q _ h2 s.drawn ⟨⟨_,_,_,_,_,Zi hbt ld hp hr hf hd (zC la),⟨⟨0,?_,λj _ z=>absurd z (vh _),λj _ _=>zV _⟩,?_⟩,?_,.head _,λb hb=>?_,eG el,.refl _,λb hb=>?_⟩,λb u e=>?_⟩));{rw [e2];exact yi _ rfl};{rw [e2];exact zU _ ho}
     . intro b hb;rw [e2,ZT.size_push];rcases zQ.mp hb with z | z
       . rw [z];exact wb _
       . rw [zS.mp z];exact w4 la
     . rw [zS.mp hb];exact fr
     . rcases zQ.mp hb with z | z
       . rw [z];exact .inr fr
       . exact .inl (zS.mp z)
     . rw [e2];exact zU _ e
   | true =>
     rw [if_pos rfl];refine zt (eI es.size (List.range es.size) s _ ym λls d pl=>?_);have hls:∀ j∈ls,j<es.size:=λj hj=>xE.mp (pl.mem_iff.mp hj)
     refine zt (m:=newTuple _) (sh ?_ ?_)
     . have e0:(s.heap.push { cls:=.type "tuple",data:=.seq (ls.map λ(i:Nat)=>rawInt i).toArray }).get? a=some o:=zU _ ho;have sz1:(s.heap.push { cls:=.type "tuple",data:=.seq (ls.map λ(i:Nat)=>rawInt i).toArray }).objs.size=s.heap.objs.size+1:=uv ..;have l1:a≠(s.heap.push { cls:=.type "tuple",data:=.seq (ls.map λ(i:Nat)=>rawInt i).toArray }).objs.size:=by rw [sz1];exact zC (w4 la)
       have l2:s.heap.objs.size≠(s.heap.push { cls:=.type "tuple",data:=.seq (ls.map λ(i:Nat)=>rawInt i).toArray }).objs.size:=by rw [sz1];exact zC (wb _)
       refine mk _ _ e0 λh2 e2=>q _ h2 d ⟨⟨_,_,_,_,_,Zh (a:=a) (T:=s.heap.objs.size) hls hf hd l1 l2,⟨?_,?_,?_⟩,?_,.head _,λb hb=>?_,eF el hls,?_,λb hb=>?_⟩,λb u e=>?_⟩;{rw [e2];exact yi _ rfl};{rw [e2];exact ⟨_,zU _ (yi _ rfl),rfl,_,rfl⟩};{rw [e2];exact zU _ e0}
       . intro b hb;rw [e2,ZT.size_push];show b<(s.heap.push _).objs.size+1;rw [sz1];simp only [zQ,t6,sY] at hb;rcases hb with z | z | z
         . rw [z];show (s.heap.push _).objs.size<_;rw [sz1];exact wb _
         . rw [z];exact w4 (wb _)
         . rw [z];exact w4 (w4 la)
       . rw [zS.mp hb];show s.heap.get? (s.heap.push _).objs.size=none;rw [sz1];cases e:s.heap.get? (s.heap.objs.size+1) with
         | none=>rfl
         | some u=>exact absurd (zW e) (Nat.not_lt.mpr (wa _))
       . have:=pl.map λj=>iv (es.getD j (0,.none)).2
         rw [Zg] at this;exact this
       . simp only [zQ,t6,sY] at hb;rcases hb with z | z | z
         . rw [z];refine .inr ?_;show s.heap.get? (s.heap.push _).objs.size=none;rw [sz1];cases e:s.heap.get? (s.heap.objs.size+1) with
           | none=>rfl
           | some u=>exact absurd (zW e) (Nat.not_lt.mpr (wa _))
         . rw [z];exact .inr fr
         . exact .inl z
       . rw [e2];exact zU _ (zU _ e)
     . show (ls.map λ(i:Nat)=>rawInt i).toArray.size<=sizeLine;rw [yn,zg,pl.length_eq,ym];exact hb
end
section
variable {a:Addr}
theorem Zf {vs:List Value}{acc:Array Value}(h:ItemsOf (λi v=>vs[i]?=some v) acc vs.length):acc.toList=vs:=by
 refine vk (by rw [zT,h.1]) λi h1 h2=>?_
 have:=h.2 i acc[i] (by rw [xx (by simpa using h1)]);have this:vs[i]?=some acc[i]:=this;rw [zO h2] at this;rw [Array.getElem_toList];exact (Option.some.inj this).symm
theorem hint_set {Q:Bool->Shared->Prop}(tS:s.TypeIs (.ref a) "set")(q:Q false s):wpAny (model prog w) A (Builtin.List.listLengthHint (.ref a)) Q E s:=by
 unfold Builtin.List.listLengthHint;refine zt (wpAny_specialOf tS PySem.F.slot_set_len.lookup ?_);generalize hid:("set.__len__":String)=nm
 wp_delta
 rw [show splitId nm=some ("set","__len__") from by subst hid;decide +kernel];subst hid;refine zt (wpAny_isInstance (T:="set") (b:=true) tS sub_set_self (m9 (λz=>absurd z (by decide)) λ_=>m9 (λ_=>?_) λz=>absurd (by decide +kernel) z));exact zt (wpAny_typeOf tS (zi q))
theorem Ze {Q:List Value->Shared->Prop} (hh:A.handled=none) (hS:SW prog w s.heap a ks) (hz:ks.length<=sizeLine)
   (q:∀ h' tk d vs ks',(∀ b o,s.heap.get? b=some o->h'.get? b=some o)->s.heap.objs.size<h'.objs.size->IntsAre vs ks'->ks'.Perm ks->Q vs { s with heap:=h',drawn:=d,toks:=tk }):wpAny (model prog w) A (collect (.ref a)) Q E s:=by
 have la:a<s.heap.objs.size:=by obtain ⟨o,_,_,_,e,_⟩:=hS;exact zW e
 have tS:s.TypeIs (.ref a) "set":=by obtain ⟨o,_,_,_,e,x,_⟩:=hS;exact ⟨o,e,x.1⟩
 unfold collect;refine zt (wpAny_runValue (uI PySem.F.entry_proto_collect ?_));rw [so PySem.F.plain_proto_collect _];refine zt (m:=newList []) (sh ?_);refine zi ⟨se iV _,uI PySem.F.entry_list_iadd ?_⟩;rw [so iV _];have e1:∀ b o,s.heap.get? b=some o->(s.heap.push { cls:=.type "list",data:=.seq ([]:List Value).toArray }).get? b=some o:=λb o e=>zU _ e
 have n1:(s.heap.push { cls:=.type "list",data:=.seq ([]:List Value).toArray }).get? s.heap.objs.size=some { cls:=.type "list",data:=.seq #[] }:=yi _ rfl;have S1:SW prog w (s.heap.push { cls:=.type "list",data:=.seq ([]:List Value).toArray }) a ks:=hS.but (d:=a) λo e=>e1 _ _ e
 have z1:(s.heap.push { cls:=.type "list",data:=.seq ([]:List Value).toArray }).objs.size=s.heap.objs.size+1:=uv ..;show wpAny _ A.in1 (Builtin.List.listExtendWith (.ref s.heap.objs.size) (.ref a) (.ref s.heap.objs.size)) _ _ _;generalize hG:(s.heap.push { cls:=.type "list",data:=.seq ([]:List Value).toArray })=g1 at e1 n1 S1 z1;have tS1:Shared.TypeIs { s with heap:=g1 } (.ref a) "set":=by obtain ⟨o,e,c⟩:=tS;exact ⟨o,e1 _ _ e,c⟩
 unfold Builtin.List.listExtendWith;refine zt (wpAny_typeOf tS1 ?_);have h1:Builtin.List.listSameRef (.ref s.heap.objs.size) (.ref a)=false:=by show (s.heap.objs.size==a)=false;exact u0.mpr (wC la)
 rw [if_neg (by rw [h1];decide)];refine zt (iter_set (s:={ s with heap:=g1 }) S1 λI g2 d W=>?_);have tS2:Shared.TypeIs { s with heap:=g2,drawn:=d } (.ref a) "set":=by obtain ⟨o,e,c⟩:=tS1;exact ⟨o,W.old _ _ e,c⟩
 refine zt (xI (hint_set tS2 ?_));obtain ⟨⟨fp,wr,vs,ks',St,Wf,st,lf,hI,hw,hi,pm,fn⟩,old⟩:=W;have Wa:=Wf A.in1 hh;have nS:s.heap.objs.size∉fp:=λz=>by
   rcases fn _ z with y | y
   . exact wC la y
   . rw [show (Shared.heap { s with heap:=g1 }).get? s.heap.objs.size=_ from n1] at y;cases y
 have n2:=old _ _ n1;have lv:vs.length<=sizeLine:=by rw [qi hi,pm.length_eq];exact hz
 have fin:∀ (g:Heap) (c:Nat) (R:Result->Shared->Prop),St 0 g->(∀ b o,b≠s.heap.objs.size->g2.get? b=some o->g.get? b=some o)->g.get? s.heap.objs.size=some { cls:=.type "list",data:=.seq #[] c }->(∀ s',wpAny (model prog w) A (load s.heap.objs.size >>= λo=>match o.data with | .seq xs _=>pure xs.toList | _=>unsupported "internal:collect") Q E s'->R (.ok (.ret (.ref s.heap.objs.size))) s') ->
     codeAny (model prog w) A (Code.builtin "list.extend.loop" ⟨[.ref s.heap.objs.size,.ref I,.ref s.heap.objs.size],[]⟩) R { s with heap:=g,drawn:=d }:=by
   intro g c R st0 k0 g0 hR;refine codeAny_extend_loopS Wa.toS lv s.heap.objs.size nS (.ref s.heap.objs.size) vs.length 0 _ #[] c rfl (zV _) st0 g0 (ItemsOf.nil _) λs' acc' c' hm hS' hacc=>?_
   have eh:∀ b o,s.heap.get? b=some o->s'.heap.get? b=some o:=λb o e=>by
     refine hm.heap b o (λz=>?_) (k0 b o (zC (zW e)) (old _ _ (e1 _ _ e)));rcases zQ.mp z with z | z
     . exact zC (zW e) z
     . have:=hw b z;rw [show (Shared.heap { s with heap:=g1 }).get? b=some o from e1 _ _ e] at this;cases this
   obtain ⟨h',ge,dr,tk,os⟩:=s';have e1:ge=s.gens:=hm.gens;have e2:dr=d:=hm.drawn;have e3:os=s.os:=hm.os;subst e1 e2 e3;refine hR _ (zt (wpAny_load hS' (zi ?_)));rw [Zf hacc];exact q h' tk dr vs ks' eh (zW hS') hi pm
 refine m9 (λ_=>?_) (λ_=>zi ⟨se iY _,fin g2 _ _ st (λb o _ e=>e) n2 λs' z=>z⟩);refine zt (we (zt ?_));refine zt (m:=updateSeq s.heap.objs.size (·.push .none)) (wpAny_updateSeq n2 rfl ?_);have n3:=qm (Obj.mapSeq (·.push Value.none)) n2 rfl;refine wpAny_updateSeq (hz:=by seq_fits) n3 rfl ?_;have n4:=qm (Obj.mapSeq (·.pop)) n3 rfl;have oth:∀ b o,b≠s.heap.objs.size->g2.get? b=some o->((g2.update s.heap.objs.size (Obj.mapSeq (·.push Value.none))).update s.heap.objs.size (Obj.mapSeq (·.pop))).get? b=some o:=λb o ne e=>(qo _ _ (Ne.symm ne)).trans ((qo _ _ (Ne.symm ne)).trans e)
 exact zi ⟨se iY _,fin _ _ _ (Wa.frame 0 _ _ st λb hb o e=>oth b o (λz=>nS (z ▸ hb)) e) oth n4 λs' z=>z⟩
end
end SG
namespace SG
open PySem PySem.Spec PyProof.Rows Srt
section
variable {Ar:Around}{a:Addr}
theorem sorted_set (hh:Ar.handled=none)(hS:SW prog w s.heap a ks)(hz:ks.length<=sizeLine)
   (q:∀ (h':Heap) (tk:Nat) (d:Drawn) (l:Addr) (out:Array Value) (ns:List Int) (e:Nat),(∀ b o,s.heap.get? b=some o->h'.get? b=some o)->s.heap.objs.size<=l->h'.get? l=some (seqObj "list" out e)->IntsAre out.toList ns->ns.Perm ks->ns.Pairwise (·<=·)->Q (.ref l) { s with heap:=h',drawn:=d,toks:=tk }) :
   wpAny (model prog w) Ar (call (.builtin "sorted") [.ref a]) Q E s:=by
 refine Calls.call_function_entry kind_sorted plain_sorted entry_sorted (args_sorted1 _) ?_;unfold Builtin.«sorted»;refine zt (m:=checkCount "sorted" 1 1 _) (zi (zt (Ze (show Ar.in1.handled=none from hh) hS hz λh1 tk d vs ks' old lt hi pm=>?_)));have lv:vs.length<=sizeLine:=by rw [qi hi,pm.length_eq];exact hz
 refine zt (qh ?_ (by simpa using lv));have oL:(h1.push (seqObj "list" vs.toArray 0)).get? h1.objs.size=some (seqObj "list" vs.toArray 0):=yi _ rfl;have la:s.heap.objs.size<=h1.objs.size:=wD lt;show wpAny _ _ _ _ _ { s with heap:=h1.push (seqObj "list" vs.toArray 0),drawn:=d,toks:=tk };refine zt (xI (vR slot_list_sort ⟨_,oL,rfl⟩ entry_list_sort (sort_ints oL hi lv λout ns' g1 g2 g3=>⟨_,rfl,?_⟩) (args_list_sort _)));obtain ⟨e,he⟩:=sortedHeap_at (out:=out) oL;refine zi ⟨_,rfl,q _ tk d h1.objs.size out ns' e (λb o e=>?_) la he g1 (g2.trans pm) g3⟩;have e2:=old b o e;have lb:b<h1.objs.size:=zW e2;rw [sortedHeap_old (zC lb) (by rw [size_push'];exact w4 lb)];exact zU _ e2
end
end SG
namespace L2
open PySem PySem.Spec PyProof.Rows
theorem boot_set:bootBuiltins "set"=some (.type "set"):=by decide +kernel
theorem Inv.redrawn (I:Inv X pins σ H s)(d:Drawn):Inv X pins σ H { s with drawn:=d }:=by exact ⟨I.ok,I.os,I.bare,I.base,I.loc,I.cell,I.free,I.freeC,I.pin,I.hok,I.len⟩
section
variable {e:Expr}{p p' pos:Pos}
end
def cxLam (P:Program)(w:World)(K:zj)(mg:Str->Option Value)(base:Heap)(N:List Str)(qual:Str)(scope:Scope)(f:Addr)(cd:Value)(cl:List (Str × Addr))(A:Around)(outer:List Env)(s:Shared)(H:Hp):Cx where
 prog:=P
 w:=w
 K:=K
 mg:=mg
 base:=base
 A:=A.deeper (PySem.W.envX qual scope s.heap.objs.size f cd cl)
 N:=N
 s₀:=s
 H₀:=H
 env:=PySem.W.envX qual scope s.heap.objs.size f cd cl
 outer:=outer
 stack:=PySem.W.envX qual scope s.heap.objs.size f cd cl::outer
 ex:=[]
 calm:=true
 fn:=λ_=>false
 pn:=[]
 xe:=λ_ _=>False
structure LamScope (p:Str)(caps:List Str)(sc:Scope):Prop where
 kind:sc.kind=.function
 co:sc.isCoroutine=false
 gen:sc.isGenerator=false
 nd:(p::caps).Nodup
 par:sc.names.lookup p=some .local
 cap:∀ x∈caps,sc.names.lookup x=some .free
 has:∀ x,sc.names.lookup x=some .free->x∈caps
 nocell:∀ x∈sc.names,x.2≠.cell
theorem LamScope.nolook {p:Str}{caps:List Str}(S:LamScope p caps sc)(x:Str):sc.names.lookup x≠some .cell:=λh=>S.nocell _ (vS h) rfl
structure LamCells (h:Heap)(caps:List Str)(cl:List (Str × Addr))(cvs:List V):Prop where
 at_:∀ (i:Nat) (x:Str),caps[i]?=some x->∃ (c:Addr) (u:Value) (v:V),cl.lookup x=some c/\h.IsCell c (some u)/\cvs[i]?=some v/\RelV v u
 inj:∀ x y c,cl.lookup x=some c->cl.lookup y=some c->x=y
 all:∀ x c,cl.lookup x=some c->∃ v,h.IsCell c v
 len:cvs.length=caps.length
abbrev Fz (o:Obj):HO:=.frz o (.own 0)
def CodeO (oc:Obj)(qual:Str):Prop:=∃ (vs:Array Value) (t:Tok),oc.data=.fields vs/\vs[1]?=some (.str qual t)
section
variable {k:Nat}{f c':Addr}{oc:Obj}{name p:Str}{caps:List Str}{params:Arguments}{body:Expr}{cl:List (Str × Addr)}{pm ctv:Value}{cvs:List V}{tb:TE}
theorem fn_lam (hcd:CodeO oc qual) (S:LamScope p caps scope) (C:LamCells base caps cl cvs)
   (hbody:∀ (A:Around) (outer:List Env) (s:Shared) (H:Hp),Room k (A.deeper (PySem.W.envX qual scope s.heap.objs.size f (.ref c') cl))->PE (cxLam P w K mg base (p::caps) qual scope f (.ref c') cl A outer s H) body tb) :
   FnOk P w K mg base CX0 (k+1) f (PySem.W.kla_fn name qual params body scope cl pm (.ref c') ctv) [p] (λvs H Q _=>∃ x,vs=[x]/\H f=some (Fz (PySem.W.kla_obj name qual params body scope cl pm c' ctv))/\H c'=some (Fz oc)/\tb (some x::cvs.map some) H Q):=by
 refine ⟨λvs H Q E h=>by obtain ⟨x,rfl,_⟩:=h;rfl,λA outer s H args us vs Q E hr e0 hb r hsp=>?_⟩;obtain ⟨x,rfl,hf,hc,ht⟩:=hsp;obtain ⟨u,rfl,ru⟩:=r.one;have lim:s.heap.NoLimit:=e0.mod.nolimit.keeps λb o e=>(e0.bs b o e).1
 have hfo:s.heap.get? f=some (PySem.W.kla_obj name qual params body scope cl pm c' ctv):=(e0.hok f _ hf).1;have hcr:s.heap.CodeRec (.ref c') qual:=by obtain ⟨vs,t,e1,e2⟩:=hcd;exact ⟨c',oc,vs,t,rfl,(e0.hok c' _ hc).1,e1,e2⟩
 refine PySem.W.kla_callFunE hr.depth hfo rfl S.co S.gen rfl hcr (hb _ _ _ _ ?_);refine wpAny_newFunctionEnv S.nocell (λy hy=>?_) (λh1 hns hsb=>⟨lim.fresh _ hsb,?_⟩) S.kind
 . have:y=(p,u):=by simpa using hy
   rw [this];exact S.par
 have hk:∀ b o,s.heap.get? b=some o->h1.get? b=some o:=λb o e=>hsb.extBut b o (zC (zW e)) (zU _ e)
 have kc:∀ {c:Addr} {v:Option Value},base.IsCell c v->h1.IsCell c v/\H c=none:=λ{c v} z=>by
   obtain ⟨o,e,d⟩:=z;exact ⟨⟨o,hk _ _ (e0.bs _ _ e).1,d⟩,(e0.bs _ _ e).2⟩
 have I:Inv (cxLam P w K mg base (p::caps) qual scope f (.ref c') cl A outer s H) [] (some x::cvs.map some) H { s with heap:=h1,toks:=s.toks+1 }:=by
   refine ⟨⟨e0.mod,S.kind,rfl,rfl,zk _,C.inj,λy hy=>?_,(λy c h=>nomatch h),λ_=>hr.hd,Around.frames_deeper e0.frames,.inr ⟨rfl,rfl⟩,λb z=>absurd (show b∈([]:List Addr) from z) (by simp),e0.bs,e0.bsz,λb _ _ z=>absurd (show b∈([]:List Addr) from z) (by simp),λb z=>absurd (show b∈([]:List Addr) from z) (by simp),e0.funs,e0.frf⟩,
     rfl,e0.bare,Un.kept hk,⟨_,hns,λi y v h1 h2 h3=>?_⟩,λy c h=>?_,e0.hok.fresh (zk _),λy c h=>?_,λq hq=>absurd (show q∈([]:List (Addr × Obj)) from hq) (by simp),e0.hok.kept hk,?_⟩
   . have hy:scope.names.lookup y=some .cell\/scope.names.lookup y=some .free:=hy;rcases hy with hy | hy
     . exact absurd hy (S.nolook y)
     . obtain ⟨i,hi,e⟩:=xR.mp (S.has y hy);obtain ⟨c,_,_,h,_⟩:=C.at_ i y (by rw [zO hi,e]);exact ⟨c,h⟩
   . cases i with
     | zero =>
       cases (show p=y from Option.some.inj h1);cases (show x=v from Option.some.inj (Option.some.inj h2));exact ⟨u,ru,.inl ⟨S.par,by simp⟩⟩
     | succ i =>
       have h1:caps[i]?=some y:=h1;obtain ⟨c,u2,v2,e1,e2,e3,e4⟩:=C.at_ i y h1;have h2:(cvs.map some)[i]?=some (some v):=h2;rw [yp,e3] at h2;cases (show v2=v from Option.some.inj (Option.some.inj h2));exact ⟨u2,e4,.inr ⟨.inr (S.cap y (yb h1)),c,e1,(kc e2).1⟩⟩
   . obtain ⟨v,e⟩:=C.all y c h;exact ⟨v,(kc e).1⟩
   . obtain ⟨v,e⟩:=C.all y c h;exact (kc e).2
   . show (some x::cvs.map some).length=(p::caps).length;rw [zZ,zZ,zg,C.len]
 refine PySem.W.kla_codeExpr (xn (hbody A outer s H (hr.deeper _) [] _ _ H Q I ht) (λv s' hs=>?_) λe s' hs=>hs.elim);obtain ⟨v,H',J,rv,q⟩:=hs;exact ⟨v,H',J.os,J.bare,J.base,J.hok,rv,q⟩
end
def LamAt (P:Program)(w:World)(K:zj)(mg:Str->Option Value)(base:Heap)(k:Nat)(f:Addr)(ps:List Str)(sp:Sp):Prop :=
 ∃ fd:FuncData,FnOk P w K mg base CX0 k f fd ps sp/\Binds K fd ps []
def tCallV (P:Program)(w:World)(K:zj)(mg:Str->Option Value)(base:Heap)(k:Nat)(i:Nat)(t:TA):TE:=λσ H Q=>∃ (f:Addr) (o:Obj) (fd:FuncData) (ps:List Str) (sp:Sp),
 σ[i]?=some (some (.ref f))/\H f=some (Fz o)/\o.data=.func fd/\LamAt P w K mg base k f ps sp/\t σ H λvs H1=>H1 f=some (Fz o)/\sp vs H1 Q E0
section
variable {x:Str}{k:Nat}{e:Expr}{es:List Expr}{p pos:Pos}
theorem pe_callV (i:Nat)(hr:Room k X.A)(ha:PA X (e::es) t)(hN:X.N[i]?=some x:=by rfl)(hv:Vis X.env.scope x:=by first | exact Or.inl rfl | exact Or.inr (Or.inl rfl) | exact Or.inr (Or.inr rfl))(hd:(x==("__debug__":Str))=false:=by decide)(hcd:(x==("__classdict__":Str))=false:=by decide)
   (he:starEach (e::es) X.env=(false,eval e X.env)::starEach es X.env:=by rfl) (hpl:(backTo pos (starEach es X.env)).any (·.1)=false:=by rfl):PE X (.Call (.Name x p) (e::es) [] pos) (tCallV X.prog X.w X.K X.mg X.base k i t):=by
 intro pins s σ H Q I h;obtain ⟨f,o,fd,ps,sp,hs,hf,ho,⟨fd2,F,B⟩,h⟩:=h;have pn:PE X (.Name x p) (tVar i):=pv i hN hv hd hcd;refine wN (thn (pn pins s σ H (λv H1=>v=.ref f/\H1=H) I ?_) λu s1 ⟨v,H1,I1,r1,e1,e2⟩=>?_);{show onV σ[i]? _;rw [hs];exact ⟨rfl,rfl⟩}
 subst e1 e2;cases r1;have fa:∀ {s2:Shared} {H2:Hp},Inv X pins σ H2 s2->H2 f=some (Fz o)->PySem.W.FnAt f s2.heap:=λ{s2 H2} J z=>by
   obtain ⟨oc,od,dat,sl⟩:=o;have ho:dat=.func fd:=ho;subst ho;exact ⟨oc,od,fd,sl,(J.hok f _ z).1⟩
 refine PySem.W.callWith_F (fa I1 hf) (thn (ha pos pins s1 σ H1 _ I1 h) λus s2 ⟨vs,H2,I2,r,hf2,q⟩=>⟨fa I2 hf2,?_⟩) he hpl;have q':sp (vs++[]) H2 Q E0:=by rw [yx];exact q
 exact qG F hr B .nil pass0 I2 r q'
end
theorem Inv.grown {Pt c f:Addr} {ts more:Array Value} {oc fo:Obj} (I:Inv X pins σ H s) (hP:H Pt=some (.tbl ts)) (k:∀ b u,b≠Pt->s.heap.get? b=some u->h'.get? b=some u) (hP':h'.get? Pt=some { cls:=.none,data:=.fields (ts++more) })
   (hc:(s.heap.objs.size<=c\/H c=some (Fz oc))/\h'.get? c=some oc) (hf:s.heap.objs.size<=f) (hf':h'.get? f=some fo) (nc:c≠f) (ncP:c≠Pt):Inv X pins σ (upd (upd (upd H Pt (.tbl (ts++more))) c (Fz oc)) f (Fz fo)) { s with heap:=h',toks:=t' }:=by
 have lP:Pt<s.heap.objs.size:=zW (show s.heap.get? Pt=some _ from I.hok Pt _ hP);have nfP:f≠Pt:=wC (ya lP hf);have neF:∀ b u,s.heap.get? b=some u->b≠f:=λb u e z=>absurd (ya (zW e) (by rw [z];exact hf)) (xh _)
 have nF:H f=none:=I.hok.fresh hf;have same:∀ b o,H b=some o->b≠Pt->b≠c->upd (upd (upd H Pt (.tbl (ts++more))) c (Fz oc)) f (Fz fo) b=some o:=λb o e n1 n2=>by
   rw [zr (zI e nF),zr n2,zr n1];exact e
 have keepAll:∀ b o,H b=some o->(∀ ps,o≠.tbl ps)->upd (upd (upd H Pt (.tbl (ts++more))) c (Fz oc)) f (Fz fo) b=some o:=λb o e n=>by
   have n1:b≠Pt:=λz=>by rw [z,hP] at e;cases e;exact n _ rfl
   by_cases n2:b=c
   . rcases hc.1 with z | z
     . have:=I.hok.fresh z;rw [<- n2,e] at this;cases this
     . rw [<- n2,e] at z;cases z;rw [zr (zI e nF),n2,zq]
   . exact same b o e n1 n2
 refine I.step (g':=s.gens) (d':=s.drawn) (ch:=[]) (λ_ z=>nomatch z) (λb u _ _ _ e n=>k b u (λz=>by rw [z,hP] at n;cases n) e) (λb u _ _ _ e n=>⟨u.slots,k b u (λz=>by rw [z,hP] at n;cases n) e⟩) (λb u _ e n=>?_) (λb u _ e=>?_) (λb xs e=>keepAll b _ e λps z=>by cases z) (λb u v e=>keepAll b _ e λps z=>by cases z) (λb ps e=>?_) (λm hm=>?_) (λb u e=>?_) I.bare
 . rw [zr (neF b u e),zr,zr]
   . exact n
   . exact λz=>by rw [z,hP] at n;cases n
   . intro z;rcases hc.1 with y | y
     . rw [z] at e;exact absurd (ya (zW e) y) (xh _)
     . rw [z,y] at n;cases n
 . by_cases z:b=Pt
   . rw [z];exact ⟨_,hP'⟩
   . exact ⟨u,k b u z e⟩
 . by_cases z:b=Pt
   . rw [z,hP] at e;cases e;exact ⟨more,by rw [z,zr (Ne.symm nfP),zr (Ne.symm ncP),zq]⟩
   . refine ⟨#[],?_⟩;have n2:b≠c:=λy=>by
       rcases hc.1 with q | q
       . have:=I.hok.fresh q;rw [<- y,e] at this;cases this
       . rw [<- y,e] at q;cases q
     rw [same b _ e z n2];simp
 . obtain ⟨u,es,ep,ho,r⟩:=hm;exact ⟨u,es,ep,k _ u (λz=>by have:=I.free;rw [z,hP] at this;cases this) ho,r⟩
 . by_cases q1:b=f
   . rw [q1,zq] at e;cases e;rw [q1];exact ⟨hf',⟨fo,hf'⟩⟩
   . rw [zr q1] at e
     by_cases q2:b=c;{rw [q2,zq] at e;cases e;rw [q2];exact ⟨hc.2,⟨oc,hc.2⟩⟩}
     . rw [zr q2] at e;by_cases q3:b=Pt
       . rw [q3,zq] at e;cases e;rw [q3];exact hP'
       . rw [zr q3] at e;refine (I.hok b u e).stay (λc' v hc' q=>k c' v ?_ q) (λc' q=>keepAll c' _ q λps z=>by cases z) λc' xs q=>keepAll c' _ q λps z=>by cases z
         rcases hc' with z | z
         . rw [z];exact q3
         . intro y;rw [y,hP] at z;cases z
def Tb (H:Hp)(Pt:Addr)(qual:Str)(lp:Pos):Prop:=H Pt=some (.tbl #[])\/∃ (c:Addr) (oc:Obj),H Pt=some (.tbl #[rawInt lp.line,rawInt lp.col,.ref c])/\H c=some (Fz oc)/\CodeO oc qual/\c≠Pt
theorem Tb.same {Pt:Addr}{lp:Pos}(h:Tb H Pt qual lp)(s:Same H H'):Tb H' Pt qual lp:=by
 rcases h with h | ⟨c,oc,h1,h2,h3⟩
 . exact .inl (s _ _ h)
 . exact .inr ⟨c,oc,s _ _ h1,s _ _ h2,h3⟩
def SameT (Pt:Addr)(H H':Hp):Prop:=∀ b o,b≠Pt->H b=some o->H' b=some o
structure LamIn (X:Cx)(pn:Str)(caps:List Str)(ixs:List Nat)(scope:Scope)(clos:List (Str × Addr))(c Pt:Addr):Prop where
 sc:LamScope pn caps scope
 code:X.env.code=.ref c
 hd:PySem.W.CodeHd X.base c Pt
 cl:closureFor scope X.env=pure clos
 sub:∀ y a,clos.lookup y=some a->X.env.cells.lookup y=some a
 ix:∀ (i:Nat) (y:Str),caps[i]?=some y->∃ (j:Nat) (a:Addr),ixs[i]?=some j/\X.N[j]?=some y/\X.env.scope.names.lookup y=some .cell/\clos.lookup y=some a
 len:ixs.length=caps.length
 fn:∀ x,X.fn x=true
 blt:X.base.BuiltinsAt X.mg Pt
 ng:mainGlobals≠Pt
def valAt (σ:St)(j:Nat):V:=((σ[j]?).getD none).getD .non
structure Ready (P:Program)(w:World)(K:zj)(mg:Str->Option Value)(base:Heap)(k:Nat)(pn:Str)(tb:TE)(cvs:List V)(H0 H:Hp)(f:Addr):Prop where
 ex:∃ (o:Obj) (fd:FuncData) (c:Addr) (oc:Obj),H f=some (Fz o)/\o.data=.func fd/\H c=some (Fz oc)/\H0 f=none /\
   LamAt P w K mg base k f [pn] (λvs H Q _=>∃ x,vs=[x]/\H f=some (Fz o)/\H c=some (Fz oc)/\tb (some x::cvs.map some) H Q)
def tCallLam (P:Program)(w:World)(K:zj)(mg:Str->Option Value)(k:Nat)(pn:Str)(ixs:List Nat)(Pt:Addr)(qual:Str)(lp:Pos)(spg:Heap->Sp)(te tb:TE):TE:=λσ H Q=>te σ H λv H1 =>
 (∀ j∈ixs,∃ u,σ[j]?=some (some u))/\Tb H1 Pt qual lp/\∀ base' f H2,SameT Pt H1 H2->Tb H2 Pt qual lp->Ready P w K mg base' k pn tb (ixs.map (valAt σ)) H1 H2 f->spg base' [v,.ref f] H2 Q E0
section
open Classical in
noncomputable def withCells (h base:Heap) (clos:List (Str × Addr)):Heap:=hidT h (λb=>if (∃ o,base.get? b=some o)\/∃ y,clos.lookup y=some b then none else some (.tbl #[]))
theorem kW {h:Heap}{b:Addr}{o:Obj}(e:h.get? b=some o)(a:(∃ o,base.get? b=some o)\/∃ y,clos.lookup y=some b):(withCells h base clos).get? b=some o :=
 g7 e (by rw [if_pos a])
theorem eB {h:Heap}{b:Addr}{o:Obj}(e:(withCells h base clos).get? b=some o):h.get? b=some o/\((∃ o,base.get? b=some o)\/∃ y,clos.lookup y=some b):=by obtain ⟨e1,e2⟩:=gz e;refine ⟨e1,Classical.byContradiction λn=>?_⟩;rw [if_neg n] at e2;cases e2
theorem Inv.env1 {pn:Str} {caps:List Str} {ixs:List Nat} {c Pt:Addr} (L:LamIn X pn caps ixs scope clos c Pt) (I:Inv X pins σ H s):Env0 X.prog X.w X.K X.mg (withCells s.heap X.base clos) X.A X.stack s H:=by
 have e0:=I.env0;have up:∀ b o,X.base.get? b=some o->(withCells s.heap X.base clos).get? b=some o:=λb o e=>kW (e0.bs b o e).1 (.inl ⟨o,e⟩)
 refine ⟨e0.frames,?_,λb o e=>?_,r9 (g8 _ _),?_,e0.frf,e0.hok,e0.bare⟩;{obtain ⟨m1,m2,⟨mb,m3,m4⟩,m5⟩:=e0.mod;exact ⟨m1.keeps up,m2.keeps up,⟨mb,m3.keeps up,m4⟩,m5.keeps up⟩}
 . obtain ⟨e1,e2⟩:=eB e;rcases e2 with ⟨o',e2⟩ | ⟨y,e2⟩
   . obtain ⟨a1,a2⟩:=e0.bs b o' e2;exact ⟨e1,a2⟩
   . exact ⟨e1,I.freeC y b (L.sub y b e2)⟩
 . have cab:∀ y b,clos.lookup y=some b->X.s₀.heap.objs.size<=b:=λy b e=>I.ok.cab y b (L.fn y) (L.sub y b e)
   have key:∀ l:List Env,(∀ e∈l,∀ Lf,e.frame=some Lf->(X.base.get? Lf=none->(withCells s.heap X.base clos).get? Lf=none))->s.heap.FunFrames X.base l->s.heap.FunFrames (withCells s.heap X.base clos) l:=by
     intro l;induction l with
     | nil=>exact λ_ _=>trivial
     | cons env rest ih =>
       intro h1 h2;obtain ⟨a1,⟨Lf,o,a2,a3,a4,a5⟩,a6⟩:=h2;exact ⟨a1,⟨Lf,o,a2,h1 env (.head _) Lf a2 a3,a4,a5⟩,ih (λe he=>h1 e (.tail _ he)) a6⟩
   refine key X.stack (λe he Lf hL hb=>?_) e0.funs;cases q:(withCells s.heap X.base clos).get? Lf with
   | none=>rfl
   | some o =>
     exfalso
     obtain ⟨q1,q2⟩:=eB q;rcases q2 with ⟨o',q2⟩ | ⟨y,q2⟩
     . rw [q2] at hb;cases hb
     . obtain ⟨v,oc,z1,z2⟩:=I.cell y Lf (L.sub y Lf q2)
       have out:e∈X.outer->False:=λho=>by
         have lt:∀ l:List Env,e∈l->X.s₀.heap.FunFrames X.base l->Lf<X.s₀.heap.objs.size:=by
           intro l;induction l with
           | nil=>intro z;cases z
           | cons env rest ih =>
             intro z h2;obtain ⟨_,⟨L2,o2,a2,_,a4,_⟩,a6⟩:=h2;rcases zQ.mp z with z | z
             . rw [<- z,hL] at a2;cases a2;exact zW a4
             . exact ih z a6
         exact absurd (lt X.outer ho I.ok.funs) (Nat.not_lt.mpr (cab y Lf q2))
       rcases I.ok.stk with z | ⟨z,zf⟩
       . exact out (by rw [<- z];exact he)
       . rw [z] at he;rcases zQ.mp he with he | he
         . rw [he,zf] at hL;cases hL;obtain ⟨m,⟨u,es,epn,hu,du,_⟩,_⟩:=I.loc;rw [hu] at z1;cases z1;rw [du] at z2;cases z2
         . exact out he
end
section
variable {pn g a1 a2:Str}{caps:List Str}{ixs:List Nat}{params:Arguments}{c Pt:Addr}{body e1:Expr}{lp p pos:Pos}{tb:TE}{k kg:Nat}{spg:Heap->Sp}
theorem cells_of (L:LamIn X pn caps ixs scope clos c Pt)(I:Inv X pins σ H s)(hv:∀ j∈ixs,∃ u,σ[j]?=some (some u)):LamCells (withCells s.heap X.base clos) caps clos (ixs.map (valAt σ)):=by
 refine ⟨λi y hy=>?_,λx y b h1 h2=>I.ok.inj x y b (L.sub _ _ h1) (L.sub _ _ h2),λy b h=>?_,by rw [zg];exact L.len⟩
 . obtain ⟨j,a,h1,h2,h3,h4⟩:=L.ix i y hy;obtain ⟨v,hv⟩:=hv j (yb h1);obtain ⟨m,hn,hl⟩:=I.loc;obtain ⟨u,ru,hlk⟩:=hl j y v h2 hv (.inr (.inl h3));rcases hlk with ⟨q,_⟩ | ⟨_,b,hb,hc⟩
   . rw [show X.env.kindOf y=_ from h3] at q;cases q
   . have:b=a:=Option.some.inj (hb.symm.trans (L.sub y a h4));subst this;obtain ⟨o,ho,hd⟩:=hc;refine ⟨b,u,v,h4,⟨o,kW ho (.inr ⟨y,h4⟩),hd⟩,?_,ru⟩;rw [yp,h1];show some (valAt σ j)=some v;unfold valAt;rw [hv];rfl
 . obtain ⟨v,o,ho,hd⟩:=I.cell y b (L.sub _ _ h);exact ⟨v,o,kW ho (.inr ⟨y,h⟩),hd⟩
end
section
variable {pn g:Str}{ps:List Str}{caps:List Str}{ixs:List Nat}{params:Arguments}{c Pt:Addr}{body e1:Expr}{lp p pos:Pos}{tb:TE}{k kg:Nat}{spg:Heap->Sp}
theorem make_lam (L:LamIn X pn caps ixs scope clos c Pt)(hdef:defaultsOf params X.env=([],[]))(I:Inv X pins σ H s)(ht:Tb H Pt (X.env.qual++"<lambda>") lp)
   (q:∀ f c' oc pm ctv h' tk H2,H2 f=some (Fz (PySem.W.kla_obj "<lambda>" (X.env.qual++"<lambda>") params body scope clos pm c' ctv))->H2 c'=some (Fz oc)->CodeO oc (X.env.qual++"<lambda>")->H f=none->SameT Pt H H2->Tb H2 Pt (X.env.qual++"<lambda>") lp->Inv X pins σ H2 { s with heap:=h',toks:=tk }->Q (.ref f) { s with heap:=h',toks:=tk }) :
   wpAny (model X.prog X.w) X.A (eval (.Lambda params body scope lp) X.env) Q X.xe s:=by
 have hg:s.heap.Ns mainGlobals X.mg:=I.mod.glob.keeps I.bk;have C:PySem.W.CodeHd s.heap c Pt:=L.hd.keeps I.bk;have hB:s.heap.BuiltinsAt X.mg Pt:=by obtain ⟨bm,o,b1,b2,b3,b4,b5,r⟩:=L.blt;exact ⟨bm,o,b1,b2,b3,b4,I.bk _ _ b5,r⟩
 refine PySem.W.kla_eval hdef ?_;have lt:∀ {ts:Array Value},H Pt=some (.tbl ts)->Pt<s.heap.objs.size:=λh=>zW (show s.heap.get? Pt=some _ from I.hok Pt _ h)
 rcases ht with h0 | ⟨c0,oc,h0,hc0,hco,ncP⟩
 . refine PySem.W.kla_makeFunction L.cl I.ok.glob hg L.code C (I.hok Pt _ h0) trivial rfl L.ng hB λc' ctv h' tk hx hge hlt hrec htb=>?_
   obtain ⟨c2,oc,vs,t,e1,e2,e3,e4⟩:=hrec;cases e1;have ncP:c'≠Pt:=wC (ya (lt h0) hge);have lf:s.heap.objs.size<=h'.objs.size:=wD (wc hge hlt);have nf:h'.objs.size≠Pt:=wC (ya (lt h0) lf);have J:=I.grown (t':=tk) (more:=#[rawInt lp.line,rawInt lp.col,.ref c']) (h':=h'.push (PySem.W.kla_obj "<lambda>" (X.env.qual++"<lambda>") params body scope clos ((X.mg "__name__").getD .none) c' ctv)) h0 (λb u ne e=>zU _ (hx b u ne e)) (zU _ htb) ⟨.inl hge,zU _ e2⟩ lf (yi _ rfl) (zC hlt) ncP;have hfn:H h'.objs.size=none:=I.hok.fresh lf;have hcn:H c'=none:=I.hok.fresh hge;refine q h'.objs.size c' oc _ ctv _ tk _ zq (by rw [zr (zC hlt),zq]) ⟨vs,t,e3,e4⟩ hfn (λb o n e=>?_) (.inr ⟨c',oc,?_,?_,⟨vs,t,e3,e4⟩,ncP⟩) J;{rw [zr (zI e hfn),zr (zI e hcn),zr n];exact e};{rw [zr (Ne.symm nf),zr (Ne.symm ncP),zq];rfl};{rw [zr (zC hlt),zq]}
 . refine PySem.W.kla_makeFunctionHit (cv:=.ref c0) L.cl I.ok.glob hg L.code C (I.hok Pt _ h0) trivial ?_ hB λctv h' tk hk hsz=>?_
   . show (if ((lp.line:Int)==(lp.line:Int)&&(lp.col:Int)==(lp.col:Int))=true then some (Value.ref c0) else _)=_;rw [if_pos (by simp)]
   have nf:h'.objs.size≠Pt:=wC (ya (lt h0) hsz);have lc:c0<s.heap.objs.size:=zW (I.hok c0 _ hc0).1;have ncf:c0≠h'.objs.size:=zC (ya lc hsz);have J:=I.grown (t':=tk) (more:=#[]) (h':=h'.push (PySem.W.kla_obj "<lambda>" (X.env.qual++"<lambda>") params body scope clos ((X.mg "__name__").getD .none) c0 ctv)) h0 (λb u _ e=>zU _ (hk b u e)) (by rw [Array.append_empty];exact zU _ (hk _ _ (I.hok Pt _ h0))) ⟨.inr hc0,zU _ (hk _ _ (I.hok c0 _ hc0).1)⟩ hsz (yi _ rfl) ncf ncP;have hfn:H h'.objs.size=none:=I.hok.fresh hsz;refine q h'.objs.size c0 oc _ ctv _ tk _ zq (by rw [zr ncf,zq]) hco hfn (λb o n e=>?_) (.inr ⟨c0,oc,?_,?_,hco,ncP⟩) J
   . rw [zr (zI e hfn)];by_cases z:b=c0
     . rw [z,zq];rw [z,hc0] at e;exact e
     . rw [zr z,zr n];exact e
   . rw [zr (Ne.symm nf),zr (Ne.symm ncP),zq,Array.append_empty]
   . rw [zr ncf,zq]
theorem Zd (L:LamIn X pn caps ixs scope clos c Pt)(hdef:defaultsOf params X.env=([],[]))(hbnd:∀ (pm:Value) (c':Addr) (ctv u:Value),bindArgs (PySem.W.kla_fn "<lambda>" (X.env.qual++"<lambda>") params body scope clos pm (.ref c') ctv) ⟨[u],[]⟩=pure [(pn,u)])
   (hbody:∀ (base':Heap) (f c':Addr) (A:Around) (outer:List Env) (s:Shared) (H:Hp),Room k (A.deeper (PySem.W.envX (X.env.qual++"<lambda>") scope s.heap.objs.size f (.ref c') clos))->PE (cxLam X.prog X.w X.K X.mg base' (pn::caps) (X.env.qual++"<lambda>") scope f (.ref c') clos A outer s H) body tb)
   (Fg:∀ base',FnAt X.prog X.w X.K X.mg base' g ps kg (spg base')) (hr:Room kg X.A) (hg:Gl X g) (he1:PE X e1 te)
   (hs:starEach [e1,.Lambda params body scope lp] X.env=[(false,eval e1 X.env),(false,eval (.Lambda params body scope lp) X.env)]:=by rfl) (hs2:starEach [.Lambda params body scope lp] X.env=[(false,eval (.Lambda params body scope lp) X.env)]:=by rfl) (hdb:(g==("__debug__":Str))=false:=by decide) :
   PE X (.Call (.Name g p) [e1,.Lambda params body scope lp] [] pos) (tCallLam X.prog X.w X.K X.mg (k+1) pn ixs Pt (X.env.qual++"<lambda>") lp spg te tb):=by
 intro pins s σ H Q I h;obtain ⟨ff,fdf,_,mf,kp,_⟩:=Fg X.base;refine wN (tV I hg mf ?_ hdb);refine uM (h₀:=X.base) I.ok.mod.kin kp ?_ (by rw [hs,hs2]) (by rw [hs2];rfl);rw [hs];show wpAny _ _ (spliced ((false,eval e1 X.env)::backTo pos [(false,eval (.Lambda params body scope lp) X.env)])) _ _ s;refine vp (thn (he1 pins s σ H _ I h) λu s1 hq=>?_);obtain ⟨v,H1,I1,r1,hv,htb,q⟩:=hq;show wpAny _ _ (spliced ((false,eval (.Lambda params body scope lp) X.env)::backTo pos [])) _ _ s1;refine vp (make_lam L hdef I1 htb λf c' oc pm ctv h' tk H2 e1 e2 e3 e4 e5 e6 J=>uJ ⟨J.kIn,?_⟩);obtain ⟨f2,fd2,G,m2,_,b2⟩:=Fg (withCells h' X.base clos);have ef:f2=ff:=by have:=m2.symm.trans mf;cases this;rfl
 subst ef;have C:=cells_of L J hv;have FL:=fn_lam (P:=X.prog) (w:=X.w) (K:=X.K) (mg:=X.mg) (base:=withCells h' X.base clos) (k:=k) (f:=f) (c':=c') (oc:=oc) (name:="<lambda>") (params:=params) (body:=body) (pm:=pm) (ctv:=ctv) (tb:=tb) e3 L.sc C (hbody _ f c');have R:Ready X.prog X.w X.K X.mg (withCells h' X.base clos) (k+1) pn tb (ixs.map (valAt σ)) H1 H2 f:=⟨_,_,c',oc,e1,rfl,e2,e4,_,FL,Binds.all λus hl=>by
   obtain ⟨u,rfl⟩:=List.length_eq_one_iff.mp hl;exact hbnd pm c' ctv u⟩
 have hq:=q _ f H2 e5 e6 R;have e0:=J.env1 L;have hl:[u,Value.ref f].length=ps.length:=by have:=G.len _ _ _ _ hq;rw [<- this];rfl
 refine uG (vo (G.run X.A X.stack _ H2 ⟨[u,.ref f],[]⟩ [u,.ref f] [v,.ref f] Q E0 hr e0 ?_ (.cons r1 (.cons rfl .nil)) hq) λr s' hq=>?_);{have:=b2 { s1 with heap:=h',toks:=tk } [u,.ref f] J.kIn (by simpa using hl);simpa using this}
 . cases r with
   | error e=>exact hq.elim
   | ok fl =>
     cases fl with
     | ret u=>exact J.after hq
     | next=>exact False.elim hq
     | brk=>exact False.elim hq
     | cont=>exact False.elim hq
end
def TabIn (base:Heap)(mg:Str->Option Value)(t:Addr × Addr):Prop:=PySem.W.CodeHd base t.1 t.2/\base.BuiltinsAt mg t.2/\mainGlobals≠t.2
theorem Zc {mb:Str->Option Value}{k:Nat}{fa a:Addr}{x:Str}{s₁:Shared}{vs:List Value}{ns:List Int}{tabs:List (Addr × Addr)}
   (KX:K.In s₁.heap) (hns:s₁.heap.Ns mainGlobals mg) (hb:s₁.heap.Ns builtinsNs mb) (hbb:∀ x:Str,x≠"__name__"->mb x=bootBuiltins x) (hlim:s₁.heap.NoLimit) (hg:s₁.gens=#[])
   (hbm:∃ bm ob,mg "__builtins__"=some (.ref bm)/\bm≠builtinsNs/\s₁.heap.get? bm=some ob/\ob.cls=.type "module"/\ob.dict=some builtinsNs/\ob.data=.plain)
   (hT:PySem.W.TabsAt tabs s₁.heap) (hKT:∀ t∈tabs,K.lookup t.2=none)
   (ha:s₁.heap.get? a=some { cls:=.type "list",data:=.seq vs.toArray }) (hi:IntsAre vs ns) (hl:ns.length<=sizeLine) (hr:Room k callerA)
   (F:∀ base:Heap,K.In base->base.Ns mainGlobals mg->(∀ t∈tabs,TabIn base mg t)->FnOk P w K mg base CX0 k fa fd [x] sp) (hbind:∀ (s:Shared) (u:Value),BindsTo s fd ⟨[u],[]⟩ [(x,u)])
   (hsp:∀ H:Hp,(∀ t∈tabs,H t.2=some (.tbl #[]))->SqL K H a (ns.map V.int)->sp [.ref a] H (λv _=>v=.bl true) λ_ _ _=>False) :
   codeAny (model P w) callerA (.call (.ref fa) ⟨[.ref a],[]⟩) (λr s'=>r=.ok (.ret (.bool true))/\OldK s₁.heap s'.heap/\s'.os=s₁.os/\AllBare s'.gens) s₁:=by
 have rv:=qD hi;have aT:a∉tabs.map (·.2):=λz=>by
   obtain ⟨t,ht,e⟩:=zR.mp z;have:=(hT t ht).2;rw [e,ha] at this;cases this
 obtain ⟨H,hH⟩:∃ H:Hp,H=λb=>if b∈tabs.map (·.2) then some (.tbl #[]) else if b=a/\K.lookup a=none then some (.frz { cls:=.type "list",data:=.seq vs.toArray } (.lst (ns.map V.int))) else none:=⟨_,rfl⟩
 have hTab:∀ t∈tabs,H t.2=some (.tbl #[]):=λt ht=>by rw [hH];exact if_pos (zR.mpr ⟨t,ht,rfl⟩)
 have cases_:∀ b o,H b=some o->(b∈tabs.map (·.2)/\o=.tbl #[])\/(b=a/\K.lookup a=none/\o=.frz { cls:=.type "list",data:=.seq vs.toArray } (.lst (ns.map V.int))):=λb o e=>by
   rw [hH] at e;dsimp only at e;by_cases z:b∈tabs.map (·.2);{rw [if_pos z] at e;cases e;exact .inl ⟨z,rfl⟩}
   . rw [if_neg z] at e;by_cases y:b=a/\K.lookup a=none
     . rw [if_pos y] at e;cases e;exact .inr ⟨y.1,y.2,rfl⟩
     . rw [if_neg y] at e;cases e
 have tabO:∀ b,b∈tabs.map (·.2)->s₁.heap.get? b=some (PySem.W.tabObj #[])/\K.lookup b=none:=λb z=>by
   obtain ⟨t,ht,rfl⟩:=zR.mp z;exact ⟨(hT t ht).2,hKT t ht⟩
 have hok:HOk P w H s₁.heap:=λb o e=>by
   rcases cases_ b o e with ⟨z,rfl⟩ | ⟨rfl,_,rfl⟩
   . exact (tabO b z).1
   . exact ⟨ha,by rw [zg];exact hl,vs,_,rv,ha⟩
 have base_of:∀ {b:Addr} {o:Obj},s₁.heap.get? b=some o->H b=none->(hidT s₁.heap H).get? b=some o:=λe n=>g7 e n
 have free_of:∀ {b:Addr} {o:Obj},s₁.heap.get? b=some o->o≠PySem.W.tabObj #[]->o≠{ cls:=.type "list",data:=.seq vs.toArray }->H b=none:=λ{b o} e n1 n2=>by
   cases q:H b with
   | none=>rfl
   | some u =>
     rcases cases_ b u q with ⟨z,_⟩ | ⟨z,_⟩
     . rw [(tabO b z).1] at e;cases e;exact absurd rfl n1
     . rw [z,ha] at e;cases e;exact absurd rfl n2
 have nsK:∀ {b:Addr} {m:Str->Option Value},s₁.heap.Ns b m->(hidT s₁.heap H).Ns b m:=λ{b m} ⟨o,es,ep,e,d,r⟩=>⟨o,es,ep,base_of e (free_of e (λz=>by rw [z] at d;cases d) λz=>by rw [z] at d;cases d),d,r⟩
 have hKb:K.In (hidT s₁.heap H):=λb o e=>base_of (KX b o e) (by
   cases q:H b with
   | none=>rfl
   | some u =>
     rcases cases_ b u q with ⟨z,_⟩ | ⟨z,z2,_⟩
     . rw [(tabO b z).2] at e;cases e
     . rw [z,z2] at e;cases e)
 have hM:Mod K mg (hidT s₁.heap H):=⟨hKb,nsK hns,⟨mb,nsK hb,hbb⟩,let ⟨mc,h1,h2⟩:=hlim;⟨mc,nsK h1,h2⟩⟩
 have e0:Env0 P w K mg (hidT s₁.heap H) callerA [] s₁ H:=⟨rfl,hM,λb o e=>gz e,r9 (g8 _ _),trivial,λb hb=>absurd (show b∈([]:List Addr) from hb) (by simp),hok,.of_eq hg⟩
 have hTI:∀ t∈tabs,TabIn (hidT s₁.heap H) mg t:=λt ht=>by
   obtain ⟨o,vs0,file,tf,flags,tg,inF,text,tt,c1,c2,c3,rest⟩:=(hT t ht).1;obtain ⟨bm,ob,b1,b2,b3,b4,b5,b6⟩:=hbm;obtain ⟨og,es,ep,g1,g2,_⟩:=hns;refine ⟨⟨o,vs0,file,tf,flags,tg,inF,text,tt,base_of c1 (free_of c1 (λz=>by rw [z] at c2;cases c2) λz=>by rw [z] at c3;cases c3),c2,c3,rest⟩,⟨bm,ob,b1,b2,λz=>?_,λz=>?_,base_of b3 (free_of b3 (λz=>by rw [z] at b4;cases b4) λz=>by rw [z] at b6;cases b6),b4,b5,b6⟩,λz=>?_⟩;{rw [z,g1] at b3;cases b3;rw [g2] at b6;cases b6};{have:=(hT t ht).2;rw [<- z,b3] at this;cases this;cases b4};{have:=(hT t ht).2;rw [<- z,g1] at this;cases this;cases g2}
 have hSq:SqL K H a (ns.map V.int):=by
   cases hk:K.lookup a with
   | some o =>
     have e:=KX a o hk;rw [ha] at e;cases e;exact .inr ⟨_,vs.toArray,_,hk,rfl,rfl,rfl,by rw [yn,hi.length];exact hl,by simpa using rv⟩
   | none =>
     refine .inl (.inr ⟨{ cls:=.type "list",data:=.seq vs.toArray },?_⟩);rw [hH];exact (if_neg aT).trans (if_pos ⟨rfl,hk⟩)
 refine vo ((F _ hKb (nsK hns) hTI).run callerA [] s₁ H ⟨[.ref a],[]⟩ [.ref a] [.ref a] _ _ hr e0 (hbind s₁ (.ref a)) (.cons rfl .nil) (hsp H hTab hSq)) λr s' h=>?_
 cases r with
 | error e=>exact h.elim
 | ok fl =>
   cases fl with
   | next=>exact False.elim h
   | brk=>exact False.elim h
   | cont=>exact False.elim h
   | ret u =>
     obtain ⟨v,H',os,bare,un,hok',r',q⟩:=h;have q':v=.bl true:=q;subst q';obtain rfl:u=Value.bool true:=r';refine ⟨rfl,⟨λb o e=>?_,λb o e=>un.there b o e (by simp)⟩,os,bare⟩;cases q:H b with
     | none=>exact .inl (un.keep b o e q (by intro z;exact absurd (show b∈([]:List Addr) from z) (by simp)) (by simp))
     | some u =>
       rcases cases_ b u q with ⟨z,rfl⟩ | ⟨z,z2,rfl⟩
       . obtain ⟨t,ht,rfl⟩:=zR.mp z;rw [(hT t ht).2] at e;cases e;obtain ⟨more,hm⟩:=un.tbls _ _ q;have hP:=hok' _ _ hm;exact .inr (.inl ⟨((hT t ht).1.tab (hT t ht).2).isCodeTable,rfl,#[],more,rfl,hP⟩)
       . have e2:=(hok' _ _ (un.frzs b _ _ q)).1;rw [z,ha] at e;cases e;exact .inl e2
end L2
namespace Att
open PySem PySem.Spec PyProof.Rows PySem.W
theorem d9:∀ {ns:List Int} {z:Int},z∈ns->Builtin.Int.intBits z<=WData.weightAll (ns.map WData.int)
 | n::r,_,.head _=>by
   show _<=WData.weight (.int n)+1+WData.weightAll (r.map WData.int);have:WData.weight (.int n)=Builtin.Int.intBits n:=by simp only [WData.weight,Builtin.Int.intBits]
   lia
 | n::r,z,.tail _ h=>by
   show _<=WData.weight (.int n)+1+WData.weightAll (r.map WData.int);have:=d9 h;lia
theorem attach_bits {l:OpenLaw}{n:Nat}{q:Program}{loose:List Str}{XP:(Str->Option Value)->Heap->Prop}{YP:World->Heap->Prop}{d:DefRec}(hn:l.most=some n)(hdf:d.params.defaults=[])
   (call:∀ (w:World) (s₀ s₁:Shared) (mg mb:Str->Option Value) (fa a:Addr) (vs:List Value) (ns:List Int),Ground q loose [] XP w s₀ mg mb s₁.heap->YP w s₁.heap->mg d.name=some (.ref fa) ->
     s₁.heap.get? a=some { cls:=.type "list",data:=.seq vs.toArray }->IntsAre vs ns->ns.length<=n->(∀ z∈ns,Builtin.Int.intBits z<=2^20)->s₁.gens=#[] ->
     codeAny (model l.prog w) callerA (.call (.ref fa) ⟨[.ref a],[]⟩) (λr s'=>r=.ok (.ret (.bool true))/\OldK s₁.heap s'.heap/\s'.os=s₁.os/\AllBare s'.gens) s₁) :
   WalkO q loose XP YP l.row.toRowW d [] (λf vs=>PySem.call f vs):=by
 intro w s₀ s₁ mg mb G Y fa o pm cd doc dV kV ho hd hcd hD hmg hg args vals as hpre hlay hrd hwl hlo;obtain ⟨a,vs,ns,rfl,rfl,hobj,hints,hlen⟩:=aU hn hpre hwl;have hbits:∀ z∈ns,Builtin.Int.intBits z<=2^20:=λz hz=>by
   have h1:WData.layable (WData.list (ns.map WData.int))=true:=by have h2:([WData.list (ns.map WData.int)].all WData.layable)=true:=hlay;simpa using h2
   unfold WData.layable at h1;simp only [wx,w8] at h1;have h3:WData.weightAll (ns.map WData.int)<=2^20:=h1.2;exact yl (d9 hz) h3
 refine enter_call (vo (call w s₀ s₁ mg mb fa a vs ns G Y hmg hobj hints hlen hbits hg) λr s' ⟨e,h2,h3,h4⟩=>?_);subst e;exact ⟨.inl ⟨.bool true,.bool true,[],rfl,λ_=>rfl,.bool true,aS l _,λ_=>⟨List.Pairwise.nil,λ_ hm=>(nomatch hm)⟩⟩,h2,h3,h4⟩
end Att
namespace L2
open PySem PySem.Spec PyProof.Rows
theorem walk_ofT {l:PySem.W.OpenLaw} {n k:Nat} {q:Program} {loose:List Str} {XP:(Str->Option Value)->Heap->Prop} {YP:World->Heap->Prop} {d:DefRec} {K:Params->zj} {tabs:World->List (Addr × Addr)} {sp:World->Sp} {x:Str}
   (hn:l.most=some n) (hn2:n<=sizeLine) (hdf:d.params.defaults=[]) (hr:Room k callerA)
   (hY:∀ (w:World) (h:Heap),YP w h->(K w.params).In h)
   (hT:∀ (w:World) (s₀:Shared) (mg mb:Str->Option Value) (h:Heap),PySem.W.Ground q loose [] XP w s₀ mg mb h->(K w.params).In h->PySem.W.TabsAt (tabs w) h) (hKT:∀ w,∀ t∈tabs w,(K w.params).lookup t.2=none)
   (F:∀ (w:World) (mg:Str->Option Value) (fa:Addr) (h:Heap),(K w.params).In h->h.Ns mainGlobals mg->mg d.name=some (.ref fa) ->
     ∃ fd:FuncData,(∀ (s:Shared) (u:Value),BindsTo s fd ⟨[u],[]⟩ [(x,u)]) /\
       ∀ base:Heap,(K w.params).In base->base.Ns mainGlobals mg->(∀ t∈tabs w,TabIn base mg t)->FnOk l.prog w (K w.params) mg base CX0 k fa fd [x] (sp w))
   (hsp:∀ (w:World) (H:Hp) (a:Addr) (ns:List Int),ns.length<=n->(∀ z∈ns,Builtin.Int.intBits z<=2^20)->(∀ t∈tabs w,H t.2=some (.tbl #[]))->SqL (K w.params) H a (ns.map V.int)->sp w [.ref a] H (λv _=>v=.bl true) λ_ _ _=>False) :
   PySem.W.WalkO q loose XP YP l.row.toRowW d [] (λf vs=>PySem.call f vs):=by
 refine Att.attach_bits hn hdf λw s₀ s₁ mg mb fa a vs ns G Y hmg hobj hints hlen hbits hg=>?_
 have KX:=hY w _ Y;obtain ⟨fd,hb,hF⟩:=F w mg fa _ KX G.T.g hmg;exact Zc KX G.T.g G.T.b G.T.builtins G.T.nolimit hg G.T.bmain (hT w s₀ mg mb _ G KX) (hKT w) hobj hints (yl hlen hn2) hr hF hb λH h1 h2=>hsp w H a ns hlen hbits h1 h2
def DefAtC (K:zj)(mg:Str->Option Value)(x:Str)(st:Stmt)(ps:List Str)(c:Addr):Prop:=∃ f fd,Fun K x x st f fd/\mg x=some (.ref f)/\Binds K fd ps []/\fd.code=.ref c
theorem FnAt.ofC {x:Str}{ps:List Str}{k:Nat}{c:Addr}(d:DefAtC K mg x st ps c)(S:FnScope N ps (defScope st))(len:∀ vs H Q E,sp vs H Q E->vs.length=ps.length)
   (hbody:∀ (f:Addr) (A:Around) (outer:List Env) (s:Shared) (H:Hp) (vs:List V) (Q:VK) (E:XK),Room k (A.deeper (envOfC x (defScope st) s.heap.objs.size f (.ref c)))->sp vs H Q E ->
     ∃ t,PSs (cxOf CX0 P w K mg base N x (defScope st) f (.ref c) A outer s H E).nox (defBody st) t/\t { nx:=λ_ H'=>Q .non H',rt:=Q } (start N vs) H):FnAt P w K mg base x ps (k+1) sp:=by
 obtain ⟨f,fd,F,m,b,hc⟩:=d;refine ⟨f,fd,?_,m,F.kp,b⟩;obtain ⟨oc,od,kV,doc,pm,an,cdv,ct,osl,rfl,lk,hcd⟩:=F.ex;have hc:cdv=.ref c:=hc;subst hc;refine fn_of lk hcd S len λA outer s H vs Q E hr hsp=>?_
 obtain ⟨t,h,q⟩:=hbody f A outer s H vs Q E hr hsp;exact ⟨t,h.nox,q⟩
theorem Zb {p:Str}{caps:List Str}(h1:sc.kind=.function)(h2:sc.isCoroutine=false)(h3:sc.isGenerator=false)(h4:(p::caps).Nodup)(h5:sc.names.lookup p=some .local)(h6:∀ x∈caps,sc.names.lookup x=some .free)(h7:∀ q∈sc.names,q.2=.free->q.1∈caps)(h8:∀ q∈sc.names,q.2≠.cell):LamScope p caps sc :=
 ⟨h1,h2,h3,h4,h5,h6,λx hx=>h7 _ (vS hx) rfl,h8⟩
def AllIn (cells:List (Str × Addr)):List (Str × Addr)->Prop
 | []=>True
 | p::r=>cells.lookup p.1=some p.2/\AllIn cells r
theorem AllIn.mem {cells:List (Str × Addr)}:∀ {l:List (Str × Addr)},AllIn cells l->∀ p∈l,cells.lookup p.1=some p.2
 | _::_,h,_,.head _=>h.1
 | _::_,h,_,.tail _ hp=>h.2.mem _ hp
def IxOk (N:List Str)(sc:Scope)(clos:List (Str × Addr)):List Str->List Nat->Prop
 | [],[]=>True
 | y::cs,j::js=>(N[j]?=some y/\sc.names.lookup y=some .cell/\∃ a,clos.lookup y=some a)/\IxOk N sc clos cs js
 | _,_=>False
theorem IxOk.get:∀ {cs:List Str} {js:List Nat},IxOk N sc clos cs js->js.length=cs.length/\∀ (i:Nat) (y:Str),cs[i]?=some y->∃ (j:Nat) (a:Addr),js[i]?=some j/\N[j]?=some y/\sc.names.lookup y=some .cell/\clos.lookup y=some a
 | [],[],_=>⟨rfl,λi y h=>by cases h⟩
 | [],_::_,h=>h.elim
 | _::_,[],h=>h.elim
 | y::cs,j::js,⟨⟨h1,h2,a,h3⟩,h4⟩=>by
   obtain ⟨l,g⟩:=IxOk.get h4;refine ⟨by rw [zZ,zZ,l],λi z hz=>?_⟩;cases i with
   | zero=>cases (show y=z from Option.some.inj hz);exact ⟨j,a,rfl,h1,h2,h3⟩
   | succ i=>exact g i z hz
section
variable {x pn:Str}{f c Pt:Addr}{E:XK}{caps:List Str}{ixs:List Nat}
theorem lamIn_mk (T:TabIn base mg (c,Pt))(S:LamScope pn caps scope)(cl:closureFor scope (envOfC x sc s.heap.objs.size f (.ref c))=pure clos)(al:AllIn (envOfC x sc s.heap.objs.size f (.ref c)).cells clos)(ix:IxOk N sc clos caps ixs) :
   LamIn (cxOf CX0 P w K mg base N x sc f (.ref c) A outer s H E).nox pn caps ixs scope clos c Pt :=
 ⟨S,rfl,T.1,cl,λy a h=>al.mem _ (vS h),ix.get.2,ix.get.1,λ_=>rfl,T.2.1,T.2.2⟩
end
def tabAt (K:zj)(x:Str):Addr × Addr:=(PySem.W.tabIn K x).getD (0,0)
def tabsOk (K:zj)(xs:List Str):Bool:=xs.all (λx=>(PySem.W.tabIn K x).isSome&&(K.lookup (tabAt K x).2).isNone)&&decide ((xs.map λx=>(tabAt K x).2).Nodup)
def recsOk (q:Program)(xs:List Str):Bool:=xs.all λx=>((recsOf q).find? λe=>e.name==x).isSome
theorem kU {xs:List Str}(h:tabsOk K xs=true){x:Str}(hx:x∈xs):PySem.W.tabIn K x=some (tabAt K x)/\K.lookup (tabAt K x).2=none:=by unfold tabsOk at h;rw [wx] at h;have:=mM.mp h.1 x hx;rw [wx] at this;refine ⟨?_,by simpa using this.2⟩;obtain ⟨t,ht⟩:=uC.mp this.1;unfold tabAt;rw [ht];rfl
theorem Za {xs:List Str}(h:tabsOk K xs=true):(xs.map λx=>(tabAt K x).2).Nodup:=by unfold tabsOk at h;rw [wx] at h;exact vJ h.2
theorem DefAt.toC {h:Heap}{x:Str}{ps:List Str}{t:Addr × Addr}(X:K.In h)(G:h.Ns mainGlobals mg)(d:DefAt K mg x st ps)(ht:PySem.W.tabIn K x=some t):DefAtC K mg x st ps t.1:=by obtain ⟨f,fd,F,m,b⟩:=d;refine ⟨f,fd,F,m,b,?_⟩;obtain ⟨oc,od,kV,doc,pm,an,cdv,ct,osl,rfl,lk,hcd⟩:=F.ex;exact PySem.W.law_code (c:=t.1) (P:=t.2) X G ht m (X _ _ lk) rfl
theorem walk_tabs {l:PySem.W.OpenLaw} {n k:Nat} {q:Program} {loose:List Str} {XP:(Str->Option Value)->Heap->Prop} {YP:World->Heap->Prop} {d:DefRec} {K:Params->zj} {sp:World->Sp} {x:Str} (xs:List Str)
   (hn:l.most=some n) (hn2:n<=sizeLine) (hdf:d.params.defaults=[]) (hr:Room k callerA)
   (hY:∀ (w:World) (h:Heap),YP w h->(K w.params).In h) (ok:∀ P,tabsOk (K P) xs=true) (rok:recsOk q xs=true)
   (F:∀ (w:World) (mg:Str->Option Value) (fa:Addr) (h:Heap),(K w.params).In h->h.Ns mainGlobals mg->mg d.name=some (.ref fa) ->
     ∃ fd:FuncData,(∀ (s:Shared) (u:Value),BindsTo s fd ⟨[u],[]⟩ [(x,u)]) /\
       ∀ base:Heap,(K w.params).In base->base.Ns mainGlobals mg->(∀ y∈xs,TabIn base mg (tabAt (K w.params) y))->FnOk l.prog w (K w.params) mg base CX0 k fa fd [x] (sp w))
   (hsp:∀ (w:World) (H:Hp) (a:Addr) (ns:List Int),ns.length<=n->(∀ z∈ns,Builtin.Int.intBits z<=2^20)->(∀ y∈xs,H (tabAt (K w.params) y).2=some (.tbl #[]))->(xs.map λx=>(tabAt (K w.params) x).2).Nodup->SqL (K w.params) H a (ns.map V.int)->sp w [.ref a] H (λv _=>v=.bl true) λ_ _ _=>False) :
   PySem.W.WalkO q loose XP YP l.row.toRowW d [] (λf vs=>PySem.call f vs):=by
 refine walk_ofT (x:=x) (tabs:=λw=>xs.map (tabAt (K w.params))) hn hn2 hdf hr hY (λw s₀ mg mb h G KX=>?_) (λw t ht=>?_) (λw mg fa h KX G m=>?_) λw H a ns h1 h2 h3 h4=>hsp w H a ns h1 h2 (λy hy=>h3 _ (zR.mpr ⟨y,hy,rfl⟩)) (Za (ok _)) h4;{intro t ht;obtain ⟨y,hy,rfl⟩:=zR.mp ht;obtain ⟨r,hr⟩:=uC.mp (mM.mp rok y hy);exact PySem.W.tab_of G.T KX hr (kU (ok _) hy).1};{obtain ⟨y,hy,rfl⟩:=zR.mp ht;exact (kU (ok _) hy).2};{obtain ⟨fd,hb,hF⟩:=F w mg fa h KX G m;exact ⟨fd,hb,λbase h1 h2 h3=>hF base h1 h2 λy hy=>h3 _ (zR.mpr ⟨y,hy,rfl⟩)⟩}
def noT (H:Hp):Hp:=λb=>match H b with
 | some (.tbl _)=>none
 | o=>o
section
variable {H2:Hp}{b l Pt:Addr}{o o':HO}{q:Str}{lp:Pos}
theorem zM (e:H b=some o)(n:∀ ts,o≠.tbl ts):noT H b=some o:=by unfold noT;rw [e];cases o<;>first | rfl | exact absurd rfl (n _)
theorem xM (e:noT H b=some o):H b=some o/\∀ ts,o≠.tbl ts:=by
 unfold noT at e;split at e;{cases e}
 . rename_i h
   refine ⟨e,λts z=>?_⟩;rw [z] at e;exact h _ e
theorem wq (e:H b=none):noT H b=none:=by unfold noT;rw [e]
theorem noT_sub:Same (noT H) H:=λ_ _ e=>(xM e).1
theorem Same.noT (s:Same H H'):Same (noT H) (noT H'):=λb o e=>zM (s _ _ (xM e).1) (xM e).2
theorem nl (xs:List V)(ts:Array Value):HO.lst xs≠.tbl ts:=λz=>by cases z
theorem nt (xs:List V)(ts:Array Value):HO.tup xs≠.tbl ts:=λz=>by cases z
theorem ni (C dx:Addr)(fs:List (Str × V))(ts:Array Value):HO.ins C dx fs≠.tbl ts:=λz=>by cases z
theorem nd (kvs:List (Key × V))(ts:Array Value):HO.dK kvs≠.tbl ts:=λz=>by cases z
theorem Tb.ne (h:Tb H Pt q lp)(e:H b=some o)(n:∀ ts,o≠.tbl ts):b≠Pt:=λz=>by
 rcases h with h | ⟨_,_,h,_⟩<;>(rw [<- z,e] at h;exact n _ (Option.some.inj h))
theorem Tb.sameT {P1 P2:Addr}{q1 q2:Str}{l1 l2:Pos}(h:Tb H P2 q2 l2)(s:SameT P1 H H')(t:Tb H P1 q1 l1)(n:P2≠P1):Tb H' P2 q2 l2:=by
 rcases h with h | ⟨c,oc,h1,h2,h3⟩
 . exact .inl (s _ _ n h)
 . exact .inr ⟨c,oc,s _ _ n h1,s _ _ (Tb.ne t h2 λ_ z=>by cases z) h2,h3⟩
def Soft:HO->Prop
 | .tbl _=>False
 | .frz _ _=>False
 | _=>True
theorem Tb.put (h:Tb H Pt q lp)(e:H l=some o)(n:Soft o):Tb (upd H l o') Pt q lp:=by
 have ne:l≠Pt:=Tb.ne h e λts z=>by rw [z] at n;exact n
 rcases h with h | ⟨c,oc,h1,h2,h3⟩
 . exact .inl (by rw [zr (Ne.symm ne)];exact h)
 . refine .inr ⟨c,oc,by rw [zr (Ne.symm ne)];exact h1,?_,h3⟩;have:c≠l:=λz=>by rw [z,e] at h2;cases h2;exact n
   rw [zr this];exact h2
end
abbrev Tabs:=List (Addr × Str × Pos)
def Tbs (ts:Tabs)(H:Hp):Prop:=∀ t∈ts,Tb H t.1 t.2.1 t.2.2
def TabsUq (ts:Tabs):Prop:=∀ t∈ts,∀ u∈ts,t.1=u.1->t=u
structure Nx (ts:Tabs)(H H':Hp):Prop where
 same:Same (noT H) (noT H')
 tb:Tbs ts H'
structure Nb (ts:Tabs)(m:Addr)(H H':Hp):Prop where
 same:∀ b o,b≠m->noT H b=some o->noT H' b=some o
 tb:Tbs ts H'
section
variable {ts:Tabs}{H2:Hp}{b l m:Addr}{o o':HO}
theorem Tbs.same (h:Tbs ts H)(s:Same H H'):Tbs ts H':=λt ht=>Tb.same (h t ht) s
theorem Tbs.nx (h:Tbs ts H)(s:Same H H'):Nx ts H H':=⟨s.noT,h.same s⟩
theorem Tbs.put (h:Tbs ts H)(e:H l=some o)(n:Soft o):Tbs ts (upd H l o'):=λt ht=>Tb.put (h t ht) e n
theorem Nx.refl (h:Tbs ts H):Nx ts H H:=⟨λ_ _ e=>e,h⟩
theorem Nx.trans (a:Nx ts H H')(b:Nx ts H' H2):Nx ts H H2:=⟨a.same.trans b.same,b.tb⟩
theorem Nx.at (a:Nx ts H H')(e:noT H b=some o):noT H' b=some o:=a.same _ _ e
theorem Nx.free (a:Nx ts H H')(e:noT H' b=none):noT H b=none:=a.same.free e
theorem Nx.nb (a:Nx ts H H'):Nb ts m H H':=⟨λb o _ e=>a.same _ _ e,a.tb⟩
theorem Nb.trans (a:Nb ts m H H')(b:Nb ts m H' H2):Nb ts m H H2:=⟨λc o n e=>b.same _ _ n (a.same _ _ n e),b.tb⟩
theorem Nx.new (h:Tbs ts H)(e:H l=none):Nx ts H (upd H l o'):=h.nx (Same.new e)
theorem Nx.put (a:Nx ts H H')(e:noT H l=none)(e':H' l=some o)(n:Soft o):Nx ts H (upd H' l o'):=by
 refine ⟨λb x z=>?_,a.tb.put e' n⟩;have z2:=xM (a.same _ _ z);have:b≠l:=λy=>by rw [y,e] at z;cases z
 exact zM (by rw [zr this];exact z2.1) z2.2
theorem Nb.put (a:Nb ts m H H')(e':H' m=some o)(n:Soft o):Nb ts m H (upd H' m o'):=by refine ⟨λb x y z=>?_,a.tb.put e' n⟩;have z2:=xM (a.same _ _ y z);exact zM (by rw [zr y];exact z2.1) z2.2
theorem Nb.of_new (a:Nb ts m H H')(e:noT H m=none):Nx ts H H':=⟨λb o z=>a.same _ _ (λy=>by rw [y,e] at z;cases z) z,a.tb⟩
theorem Tbs.grow {P1:Addr}{q1:Str}{l1:Pos}(u:TabsUq ts)(h:Tbs ts H)(hm:(P1,q1,l1)∈ts)(s:SameT P1 H H')(t':Tb H' P1 q1 l1):Nx ts H H':=by
 have t:=h _ hm;refine ⟨λb o e=>?_,λx hx=>?_⟩;{obtain ⟨e1,e2⟩:=xM e;exact zM (s _ _ (Tb.ne t e1 e2) e1) e2}
 . by_cases z:x.1=P1
   . have:=u x hx _ hm z;rw [this];exact t'
   . exact Tb.sameT (h x hx) s t z
theorem SqL.noT {a:Addr}(h:SqL K (noT H) a xs):SqL K H a xs:=noT_sub.seq h
end
section
variable {x m:Str}{ps:List Str}{j k:Nat}{sp':Sp}
theorem FnAt.imp (F:FnAt P w K mg base x ps k sp)(h:∀ vs H Q E,sp' vs H Q E->sp vs H Q E):FnAt P w K mg base x ps k sp':=by obtain ⟨f,fd,a,b⟩:=F;exact ⟨f,fd,a.imp h,b⟩
end
theorem ZZ (l:Addr)(a b c:Value)(n:Nat)(o:Obj)(x:Value)(e:Value->Bool)(he:e a||e b||e c)(ho:o.data=.seq #[a,b,c] n) :
   Meets (Builtin.«tuple.index» ⟨[.ref l,x],[]⟩)
     (λA R s=>s.heap.get? l=some o/\(∀ y,y∈#[a,b,c]->SeqAt.EqAt A.in1 s y x (e y))/\R (.ok (.ret (.int (if e a=true then 0 else if e b=true then 1 else 2) s.toks))) { s with toks:=s.toks+1 }):=by
 intro prog w A R s h;obtain ⟨hp,g,d,tk,os⟩:=s;obtain ⟨hl,hq,h⟩:=h;unfold Builtin.«tuple.index»;simp only [Std.Legacy.Range.forIn_eq_forIn_range']
 wp_walk using wpAny_tupleItemsOf hl ho
 have ha:=hq #[a,b,c][0] (by simp) prog w;have hb:=hq #[a,b,c][1] (by simp) prog w;have hc:=hq #[a,b,c][2] (by simp) prog w;rw [show List.range' [:min #[a,b,c].size #[a,b,c].size].start [:min #[a,b,c].size #[a,b,c].size].size [:min #[a,b,c].size #[a,b,c].size].step=[0,1,2] by simp [Std.Legacy.Range.size,List.range']];simp only [mH,List.forIn_nil];dsimp only at h
 change ∀ E Q,_->_ at ha hb hc
 have ea:e #[a,b,c][0]=e a:=rfl;have eb:e #[a,b,c][1]=e b:=rfl;have ec:e #[a,b,c][2]=e c:=rfl
 wp_walk using ha _ _
 cases ga:e a with
 | true =>
   rw [ea,ga];rw [ga,if_pos rfl] at h
   wp_walk
   exact h
 | false =>
   rw [ea,ga];rw [ga,if_neg (by decide)] at h
   wp_walk using hb _ _
   cases gb:e b with
   | true =>
     rw [eb,gb];rw [gb,if_pos rfl] at h
     wp_walk
     exact h
   | false =>
     rw [eb,gb];rw [gb,if_neg (by decide)] at h;rw [ga,gb] at he
     wp_walk using hc _ _
     rw [ec,show e c=true from he]
     wp_walk
     exact h
def eqS3 (w:Str):Value->Bool
 | .str z _=>z==w
 | _=>false
def rIndexT (K:zj):V->List V->Hp->VK->Prop:=λx vs H Q=>∃ (l:Addr) (a b c w:Str),x=.ref l/\vs=[.str w]/\SqT K H l [.str a,.str b,.str c]/\(a==w||b==w||c==w)=true/\Q (.int (if (a==w)=true then 0 else if (b==w)=true then 1 else 2)) H
theorem ZY (K:zj)(hK:X.K=K:=by rfl):MtM X "tuple.index" (rIndexT K):=by
 subst hK;intro pins s σ H x vs v us Q I rx rv h;obtain ⟨l,a,b,c,w,rfl,rfl,hH,he,q⟩:=h;cases rx;obtain ⟨u,rfl,ru⟩:=Vals.one rv;obtain ⟨t,rfl⟩:=(show ∃ t,u=Value.str w t from ru)
 obtain ⟨its,r,it,sz⟩:=I.tuple hH;cases r with
 | cons ra r =>
 cases r with
 | cons rb r =>
 cases r with
 | cons rc r =>
 cases r;obtain ⟨ta,rfl⟩:=(show ∃ t,_=Value.str a t from ra)
 obtain ⟨tb,rfl⟩:=(show ∃ t,_=Value.str b t from rb)
 obtain ⟨tc,rfl⟩:=(show ∃ t,_=Value.str c t from rc)
 obtain ⟨o,e,e1,n,e2⟩:=it;refine uF F.slot_tuple_index ⟨_,e,e1⟩ F.entry_tuple_index (F.args_tuple_index_2 _ _) (ZZ l (.str a ta) (.str b tb) (.str c tc) n o (Value.str w t) (eqS3 w) he e2) ⟨e,λy hy=>?_,?_⟩
 . simp only [List.mem_toArray,zQ,t6,sY] at hy;rcases hy with rfl | rfl | rfl<;>exact SeqAt.EqAt.str_str _ _ _ _
 . exact ⟨.int (if (a==w)=true then 0 else if (b==w)=true then 1 else 2),H,I.tok _,⟨_,rfl⟩,q⟩
end L2
namespace Lcg
def it:Nat->Nat->Nat
 | 0,i=>i
 | n+1,i=>it n (5*i+1)
theorem d7:∀ n i,4*it n i+1=5^n*(4*i+1)
 | 0,i=>by rw [it,tY,Nat.one_mul]
 | n+1,i=>by
   rw [it,d7 n,yN,Nat.mul_assoc];congr 1
   lia
theorem it_add:∀ n m i,it (n+m) i=it m (it n i)
 | 0,m,i=>by rw [yX,it]
 | n+1,m,i=>by rw [Nat.add_right_comm,it,it_add n,it]
theorem sq (M v:Nat):(1+4*M*(2*v+1))*(1+4*M*(2*v+1))=1+4*(M*2)*(2*(v+M*(2*v+1)*(2*v+1))+1):=by grind
theorem five:∀ k,∃ v,5^(2^k)=1+4*2^k*(2*v+1)
 | 0=>⟨0,by decide⟩
 | k+1=>by
   obtain ⟨v,e⟩:=five k;exact ⟨_,by rw [yN 2,Nat.pow_mul,e,Nat.pow_two];exact sq _ v⟩
theorem step (k i:Nat):∃ v,it (2^k) i=i+2^k+2^k*2*v:=by
 obtain ⟨v,e⟩:=five k;have h:=d7 (2^k) i;rw [e] at h;generalize it (2^k) i=x at h ⊢;generalize 2^k=M at h ⊢;refine ⟨(2*v+1)*2*i+v,?_⟩;have e2:(1+4*M*(2*v+1))*(4*i+1)=4*(i+M+M*2*((2*v+1)*2*i+v))+1:=by grind
 rw [e2] at h;lia
theorem reach:∀ k i j,∃ n,n<2^k/\it n i%2^k=j%2^k
 | 0,i,j=>⟨0,by decide,by rw [tY,Nat.mod_one,Nat.mod_one]⟩
 | k + 1,i,j=>by
   obtain ⟨n,hn,e⟩:=reach k i j;by_cases h:it n i%2^(k+1)=j%2^(k+1);{exact ⟨n,by rw [yN];lia,h⟩}
   . refine ⟨n+2^k,by rw [yN];lia,?_⟩;obtain ⟨v,es⟩:=step k (it n i);rw [it_add,es];rw [yN] at h ⊢;rw [mw];generalize it n i=x at e h ⊢;have p:0<2^k:=Nat.two_pow_pos k;generalize 2^k=M at e h p ⊢;have d1:=Nat.mod_mul (x:=x) (a:=M) (b:=2);have d2:=Nat.mod_mul (x:=j) (a:=M) (b:=2);have d3:=Nat.mod_mul (x:=x+M) (a:=M) (b:=2);rw [d1,d2,e] at h;rw [d3,d2,Nat.add_mod_right,e,Nat.add_div_right _ p];congr 2
     have:x/M%2≠j/M%2:=λz=>h (by rw [z])
     lia
end Lcg
namespace SG
open PySem PySem.SetTable
theorem pK (M:Nat):∀ n i,Lcg.it n (i%M)%M=Lcg.it n i%M
 | 0,i=>Nat.mod_mod _ _
 | n+1,i=>by
   rw [Lcg.it,Lcg.it,<- pK M n (5*(i%M)+1),<- pK M n (5*i+1)];congr 2
   rw [qL,Nat.mul_mod,Nat.mod_mod,<- Nat.mul_mod,<- qL]
section
variable {mask:Nat}{owner:Array (Option Nat)}
def Fr (owner:Array (Option Nat))(j:Nat):Prop:=(owner.getD j (some 0)).isNone=true
theorem pJ (mask i:Nat):i<=runEnd mask i:=by unfold runEnd;split<;>lia
theorem pI {mask i:Nat}(h:i<=mask):runEnd mask i<=mask:=by unfold runEnd;split<;>lia
theorem kT:∀ (n i p j:Nat),i<=mask->layClean.free mask owner n i p=some j->j<=mask/\Fr owner j
 | 0,_,_,_,_,h=>by cases h
 | n + 1,i,p,j,hi,h=>by
   unfold layClean.free at h;split at h
   . rename_i k hk
     cases h;have hm:=xE.mp (iD hk);have:=pI hi;exact ⟨by lia,by simpa [Fr] using List.find?_some hk⟩
   . exact kT n _ _ j (by show (i*5+1+p/32)%(mask+1)<=mask;have:=yd (i*5+1+p/32) (show 0<mask+1 by lia);lia) h
theorem ZX {n i p:Nat}(h:Fr owner i):layClean.free mask owner (n+1) i p≠none:=by
 unfold layClean.free;split;{exact λz=>by cases z}
 . rename_i hk
   have:=mS.mp hk 0 (xE.mpr (by have:=pJ mask i;lia));exact absurd h (by simpa [Fr] using this)
theorem d5 {n i p:Nat}(h:layClean.free mask owner n (leap mask i p).1 (leap mask i p).2≠none):layClean.free mask owner (n+1) i p≠none:=by
 unfold layClean.free;split;{exact λz=>by cases z};{exact h}
theorem d0:∀ (n f i:Nat),i<=mask->n<f->Fr owner (Lcg.it n i%(mask+1))->layClean.free mask owner f i 0≠none
 | 0,f+1,i,hi,_,h=>ZX (by rw [Lcg.it,uj (by lia)] at h;exact h)
 | n+1,f+1,i,hi,hf,h=>by
   refine d5 ?_;show layClean.free mask owner f ((i*5+1+0/32)%(mask+1)) (0/32)≠none;rw [Nat.zero_div,xt];refine d0 n f _ (by have:=yd (i*5+1) (show 0<mask+1 by lia);lia) (by lia) ?_;rw [pK,wB];exact h
 | 0,0,_,_,h,_=>absurd h (xh 0)
 | n+1,0,_,_,h,_=>absurd h (vh _)
theorem dy {k:Nat}(hk:mask+1=2^k){j:Nat}(hj:j<=mask)(h:Fr owner j):∀ (d f i p:Nat),i<=mask->p<32^d->d+2^k<=f->layClean.free mask owner f i p≠none
 | 0,f,i,p,hi,hp,hf=>by
   have p0:p=0:=by rw [tY] at hp;lia
   obtain ⟨n,hn,e⟩:=Lcg.reach k i j;rw [<- hk,uj (show j<mask+1 by lia)] at e;rw [p0];exact d0 n f i hi (by lia) (by rw [e];exact h)
 | d+1,0,i,p,hi,hp,hf=>by lia
 | d + 1,f+1,i,p,hi,hp,hf=>by
   refine d5 (dy hk hj h d f _ _ ?_ ?_ (by lia));{show (i*5+1+p/32)%(mask+1)<=mask;have:=yd (i*5+1+p/32) (show 0<mask+1 by lia);lia};{show p/32<32^d;rw [yN] at hp;exact Nat.div_lt_of_lt_mul (by rw [wB];exact hp)}
theorem dv (h:Int):bits h<2^64:=by unfold bits;have h1:=sE h (b:=(2^64:Int)) (by decide);have h2:=sP h (b:=(2^64:Int)) (by decide);lia
theorem ZW {k:Nat}(hk:mask+1=2^k){j:Nat}(hj:j<=mask)(hf:Fr owner j)(h:Int):∃ j,layClean.free mask owner (turns mask) (bits h%(mask+1)) (bits h)=some j/\j<=mask/\Fr owner j:=by
 have hi:bits h%(mask+1)<=mask:=by have:=yd (bits h) (show 0<mask+1 by lia);lia
 have:=dy hk hj hf 13 (turns mask) (bits h%(mask+1)) (bits h) hi (ue (dv h) (by decide)) (by unfold turns;lia);obtain ⟨x,e⟩:=iF.mp this;exact ⟨x,e,kT _ _ _ _ hi e⟩
end
theorem kR {α:Type}(y:α)(r:List (Option α)):(some y::r).filterMap id=y::r.filterMap id:=rfl
theorem dq {α β:Type}{f g:α->Option β}(h:∀ x,f x=g x)(l:List α):l.filterMap f=l.filterMap g:=by rw [show f=g from funext h]
theorem kQ {α:Type}(x:α):∀ (l:List (Option α)) (j:Nat),l[j]?=some none->((l.set j (some x)).filterMap id).Perm (x::l.filterMap id)
 | [],_,h=>by cases h
 | none::r,0,_=>by simp
 | some y::r,0,h=>by simp at h
 | none::r,j+1,h=>by
   rw [iK,h9 rfl,h9 rfl];exact kQ x r j (by simpa using h)
 | some y::r,j+1,h=>by
   rw [iK,kR,kR];exact ((kQ x r j (by simpa using h)).cons y).trans (List.Perm.swap x y _)
theorem dk {α:Type}:∀ (l:List (Option α)),(l.filterMap id).length<l.length->∃ j,j<l.length/\l[j]?=some none
 | [],h=>absurd h (xh 0)
 | none::r,_=>⟨0,Nat.succ_pos _,rfl⟩
 | some y::r,h=>by
   rw [kR,zZ,zZ] at h;obtain ⟨j,h1,h2⟩:=dk r (by lia);exact ⟨j+1,by rw [zZ];lia,by simpa using h2⟩
theorem dj {mask k:Nat} (hk:mask+1=2^k):∀ (hs:List Int) (owner:Array (Option Nat)) (m:Nat),owner.size=mask+1->(owner.toList.filterMap id).Perm (List.range m)->m+hs.length<=mask+1 ->
   ∃ owner',hs.foldl (init:=some (owner,m)) (λacc h=>do let (owner,k) <- acc;let j <- layClean.free mask owner (turns mask) (bits h%(mask+1)) (bits h);pure (owner.setIfInBounds j (some k),k+1))=some (owner',m+hs.length)/\owner'.size=mask+1/\(owner'.toList.filterMap id).Perm (List.range (m+hs.length))
 | [],owner,m,h1,h2,_=>⟨owner,rfl,h1,h2⟩
 | h :: r,owner,m,h1,h2,h3=>by
   rw [zZ] at h3;have lf:=h2.length_eq;rw [ym] at lf;obtain ⟨j,hj,hn⟩:=dk owner.toList (by rw [lf,zT,h1];lia);rw [zT,h1] at hj;have fr:Fr owner j:=by unfold Fr;rw [zA] at hn;rw [uE,hn];rfl
   obtain ⟨x,ex,hx,fx⟩:=ZW hk (show j<=mask by lia) fr h;have nx:owner.toList[x]?=some none:=by
     unfold Fr at fx;rw [uE] at fx;rw [zA];cases e:owner[x]? with
     | none=>rw [e] at fx;cases fx
     | some v =>
       rw [e] at fx;cases v with
       | none=>rfl
       | some w=>cases fx
   obtain ⟨o',e1,e2,e3⟩:=dj hk r (owner.setIfInBounds x (some m)) (m+1) (by rw [qf];exact h1) (by
     rw [m6];refine (kQ m _ x nx).trans ?_;rw [tw];exact (h2.cons m).trans (my m _).symm) (by lia)
   refine ⟨o',?_,e2,by rw [zZ,show m+(r.length+1)=m+1+r.length by lia];exact e3⟩;rw [wu,zZ,show m+(r.length+1)=m+1+r.length by lia,<- e1];congr 1
   show (layClean.free mask owner (turns mask) (bits h%(mask+1)) (bits h)).bind _=_;rw [ex];rfl
theorem di {mask k finger moves:Nat}{led plain:Bool}(hk:mask+1=2^k)(hs:Array Int)(hn:hs.size<=mask+1):∃ t order,laid mask finger moves led plain hs=some (t,order)/\order.toList.Perm (List.range hs.size)/\t.mask=mask/\t.dummies=#[]/\t.led=led/\t.plain=plain/\t.finger=finger/\t.place.toList.Pairwise (·<·)/\t.place.size=hs.size:=by
 obtain ⟨o,e1,e2,e3⟩:=dj hk hs.toList (Array.replicate (mask+1) none) 0 (by rw [Array.size_replicate]) (by simp) (by rw [zT];lia);rw [yX,zT] at e1 e3;have el:layClean mask hs=some o:=by unfold layClean;rw [<- Array.foldl_toList,e1];rfl
 have snd:(((List.range (mask+1)).filterMap λj=>(o.getD j none).map (j,·)).map (·.2))=o.toList.filterMap id:=by
   rw [List.map_filterMap];have:o.toList=(List.range (mask+1)).map λj=>o.getD j none:=by
     refine vk (by rw [zT,e2,zg,ym]) λi h1 h2=>?_
     rw [vj,sO,uE,Array.getElem_toList,xx (by rw [zT] at h1;exact h1)];rfl
   rw [this,List.filterMap_map];refine dq (λj=>?_) _;show Option.map _ ((o.getD j none).map _)=o.getD j none;cases o.getD j none<;>rfl
 unfold laid;rw [el];refine ⟨_,_,rfl,?_,rfl,rfl,rfl,rfl,rfl,?_,?_⟩;{rw [mT,snd];exact e3}
 . rw [mT];refine List.Pairwise.sublist ?_ (hJ (n:=mask+1));rw [List.map_filterMap];have:(λ(x:Nat)=>Option.map (·.1) ((o.getD x none).map (x,·)))=λx=>if (o.getD x none).isSome then some x else none:=by
     funext x;cases o.getD x none<;>rfl
   rw [this];have e:(List.range (mask+1)).filterMap (λx=>if (o.getD x none).isSome then some x else none)=(List.range (mask+1)).filter λx=>(o.getD x none).isSome:=by rw [<- List.filterMap_eq_filter];refine dq (λx=>?_) _;simp [Option.guard]
   rw [e];exact List.filter_sublist
 . rw [yn,zg];have:=e3.length_eq;rw [<- snd,zg,ym] at this;exact this
def advM (m:Nat)(p:Probe):Probe:=if p.more > 0 then { p with j:=p.j+1,more:=p.more-1 } else { p with j:=(leap m p.i p.perturb).1,more:=runEnd m (leap m p.i p.perturb).1-(leap m p.i p.perturb).1,i:=(leap m p.i p.perturb).1,perturb:=(leap m p.i p.perturb).2 }
theorem adv_eq (t:SetTable)(p:Probe):t.advance p=advM t.mask p:=rfl
def pth (m:Nat):Nat->Probe->Probe
 | 0,p=>p
 | n+1,p=>pth m n (advM m p)
theorem pH (m:Nat):∀ (a b:Nat) (p:Probe),pth m (a+b) p=pth m b (pth m a p)
 | 0,b,p=>by rw [yX];rfl
 | a+1,b,p=>by
   rw [show a+1+b=(a+b)+1 by lia];exact pH m a b (advM m p)
theorem dh (m:Nat):∀ (n:Nat) (p:Probe),(pth m n p).dummy=p.dummy
 | 0,_=>rfl
 | n+1,p=>by
   rw [pth,dh m n];unfold advM;split<;>rfl
def run0 (m i p:Nat):Probe:={ j:=i,more:=runEnd m i-i,i:=i,perturb:=p,dummy:=none }
theorem kP (m:Nat):∀ (q j mo i p:Nat),q<=mo->pth m q { j:=j,more:=mo,i:=i,perturb:=p,dummy:=none }={ j:=j+q,more:=mo-q,i:=i,perturb:=p,dummy:=none }
 | 0,j,mo,i,p,_=>rfl
 | q + 1,j,mo,i,p,h=>by
   rw [pth];have e:advM m { j:=j,more:=mo,i:=i,perturb:=p,dummy:=none }={ j:=j+1,more:=mo-1,i:=i,perturb:=p,dummy:=none }:=by unfold advM;rw [if_pos (show mo > 0 by lia)]
   rw [e,kP m q _ _ i p (by lia)];congr 1;{lia};{lia}
theorem kO (m i p:Nat):pth m (runEnd m i-i+1) (run0 m i p)=run0 m (leap m i p).1 (leap m i p).2:=by rw [pH,run0,kP m _ _ _ _ _ (zk _)];show advM m _=_;unfold advM;rw [if_neg (show ¬(runEnd m i-i-(runEnd m i-i) > 0) by lia)];rfl
theorem run_le (m i:Nat):runEnd m i-i<=9:=by unfold runEnd;split<;>lia
def Rc (L:Nat->Prop)(m:Nat)(h:Int)(j:Nat):Prop:=∃ n,(pth m n (run0 m (bits h%(m+1)) (bits h))).j=j/\∀ q,q<n->L (pth m q (run0 m (bits h%(m+1)) (bits h))).j
theorem Rc.mono {L L':Nat->Prop}{m j:Nat}{h:Int}(r:Rc L m h j)(s:∀ x,L x->L' x):Rc L' m h j:=let ⟨n,a,b⟩:=r;⟨n,a,λq hq=>s _ (b q hq)⟩
theorem pG {t:SetTable} (r:Ris t.place) (dm:t.dummies=#[]) (j:Nat):(t.slot j=.empty/\j∉t.place.toList)\/∃ i,t.slot j=.live i/\t.place[i]?=some j:=by
 unfold slot;by_cases c:t.place[below t.place j]?=some j;{refine .inr ⟨below t.place j,?_,c⟩;simp only [c,ql,xU]}
 . refine .inl ⟨?_,λz=>c ?_⟩
   . have h0:has t.dummies j=false:=by rw [dm];simp [has]
     simp only [xC,c,yO,h0];rfl
   . obtain ⟨i,hi⟩:=qY z;rw [zA] at hi;obtain ⟨hl,hj⟩:=uD.mp hi;obtain ⟨b1,b2,b3⟩:=pQ r j;have h1:below t.place j<=i:=by
       rcases xN i (below t.place j) with q | q
       . have:=b1 i hl q;lia
       . exact q
     have hp:below t.place j<t.place.size:=by lia
     have h2:=b2 _ hp (zk _);have h3:=r.le hl h1;rw [xx hp];congr 1
     lia
section
variable {t:SetTable}{f:Nat->Int}{h:Int}
theorem de (r:Ris t.place) (dm:t.dummies=#[]):∀ (fuel:Nat) (p:Probe) (m:Met),p.dummy=none->probe.go t f h fuel p=some m ->
   (∃ n,m=.empty (pth t.mask n p).j none/\(pth t.mask n p).j∉t.place.toList/\∀ q,q<n->∃ i,t.place[i]?=some (pth t.mask q p).j/\f i≠h)\/∃ n i nx,m=.candidate (pth t.mask n p).j i nx/\t.place[i]?=some (pth t.mask n p).j/\f i=h
 | 0,_,_,_,e=>by unfold probe.go at e;cases e
 | fuel+1,p,m,pd,e=>by
   unfold probe.go at e;rcases pG r dm p.j with ⟨s1,s2⟩ | ⟨i,s1,s2⟩
   . rw [s1] at e;cases e;exact .inl ⟨0,by rw [pd];rfl,s2,λq hq=>absurd hq (vh _)⟩
   . rw [s1] at e
     dsimp only at e;by_cases c:f i=h;{rw [if_pos (by simpa using c)] at e;cases e;exact .inr ⟨0,i,_,rfl,s2,c⟩}
     . rw [if_neg (by simpa using c),adv_eq] at e;have pd':(advM t.mask p).dummy=none:=by
         have:=dh t.mask 1 p;rw [pd] at this;exact this
       rcases de r dm fuel _ m pd' e with ⟨n,e1,e2,e3⟩ | ⟨n,i',nx,e1,e2,e3⟩
       . refine .inl ⟨n+1,e1,e2,λq hq=>?_⟩;cases q with
         | zero=>exact ⟨i,s2,c⟩
         | succ q=>exact e3 q (by lia)
       . exact .inr ⟨n+1,i',nx,e1,e2,e3⟩
def NN (t:SetTable)(f:Nat->Int)(h:Int)(fuel:Nat)(p:Probe):Prop:=probe.go t f h fuel p≠none
theorem NN.step (r:Ris t.place)(dm:t.dummies=#[]){fuel:Nat}{p:Probe}(n:NN t f h fuel (advM t.mask p)):NN t f h (fuel+1) p:=by
 unfold NN probe.go;rcases pG r dm p.j with ⟨s1,_⟩ | ⟨i,s1,_⟩
 . rw [s1];exact λz=>by cases z
 . rw [s1];dsimp only;split
   . exact λz=>by cases z
   . exact n
theorem NN.here (r:Ris t.place)(dm:t.dummies=#[]){fuel:Nat}{p:Probe}(e:p.j∉t.place.toList):NN t f h (fuel+1) p:=by
 unfold NN probe.go;rcases pG r dm p.j with ⟨s1,_⟩ | ⟨i,s1,s2⟩
 . rw [s1];exact λz=>by cases z
 . rw [<- zA] at s2;exact absurd (yb s2) e
theorem NN.steps (r:Ris t.place)(dm:t.dummies=#[]):∀ (k fuel:Nat) (p:Probe),NN t f h fuel (pth t.mask k p)->NN t f h (fuel+k) p
 | 0,fuel,p,n=>n
 | k+1,fuel,p,n=>(NN.steps r dm k fuel (advM t.mask p) n).step r dm
theorem NN.more (r:Ris t.place) (dm:t.dummies=#[]):∀ (fuel:Nat) (p:Probe),NN t f h fuel p->NN t f h (fuel+1) p
 | 0,p,n=>absurd rfl n
 | fuel+1,p,n=>by
   unfold NN probe.go at n ⊢;rcases pG r dm p.j with ⟨s1,_⟩ | ⟨i,s1,_⟩
   . rw [s1];exact λz=>by cases z
   . rw [s1] at n ⊢;dsimp only at n ⊢;split
     . exact λz=>by cases z
     . rename_i c
       rw [if_neg c] at n;exact NN.more r dm fuel _ n
theorem NN.le (r:Ris t.place)(dm:t.dummies=#[]){p:Probe}{a:Nat}(n:NN t f h a p):∀ d,NN t f h (a+d) p
 | 0=>n
 | d+1=>NN.more r dm _ _ (NN.le r dm n d)
theorem NN.leap (r:Ris t.place)(dm:t.dummies=#[]){fuel i p:Nat}(n:NN t f h fuel (run0 t.mask (SetTable.leap t.mask i p).1 (SetTable.leap t.mask i p).2)):NN t f h (fuel+10) (run0 t.mask i p):=by have:=NN.steps r dm (runEnd t.mask i-i+1) fuel (run0 t.mask i p) (by rw [kO];exact n);have l:=run_le t.mask i;have:=NN.le r dm this (9-(runEnd t.mask i-i));rw [show fuel+(runEnd t.mask i-i+1)+(9-(runEnd t.mask i-i))=fuel+10 by lia] at this;exact this
theorem NN.zero (r:Ris t.place)(dm:t.dummies=#[]){j:Nat}(e:j∉t.place.toList):∀ (n fl i:Nat),i<=t.mask->n<fl->Lcg.it n i%(t.mask+1)=j->NN t f h (10*fl) (run0 t.mask i 0)
 | 0,fl+1,i,hi,_,hj=>by
   rw [Lcg.it,uj (by lia)] at hj;exact NN.here r dm (fuel:=10*fl+9) (by show i∉_;rw [hj];exact e)
 | n+1,fl+1,i,hi,hf,hj=>by
   refine NN.leap r dm (fuel:=10*fl) ?_;show NN t f h (10*fl) (run0 t.mask ((i*5+1+0/32)%(t.mask+1)) (0/32));rw [Nat.zero_div,xt];refine NN.zero r dm e n fl _ (by have:=yd (i*5+1) (show 0<t.mask+1 by lia);lia) (by lia) ?_;rw [pK,wB];exact hj
 | 0,0,_,_,h,_=>absurd h (xh 0)
 | n+1,0,_,_,h,_=>absurd h (vh _)
theorem NN.all (r:Ris t.place)(dm:t.dummies=#[]){k:Nat}(hk:t.mask+1=2^k){j:Nat}(hj:j<=t.mask)(e:j∉t.place.toList):∀ (d fl i p:Nat),i<=t.mask->p<32^d->d+2^k<=fl->NN t f h (10*fl) (run0 t.mask i p)
 | 0,fl,i,p,hi,hp,hf=>by
   have p0:p=0:=by rw [tY] at hp;lia
   obtain ⟨n,hn,e1⟩:=Lcg.reach k i j;rw [<- hk,uj (show j<t.mask+1 by lia)] at e1;rw [p0];exact NN.zero r dm e n fl i hi (by lia) e1
 | d+1,0,i,p,hi,hp,hf=>by lia
 | d + 1,fl+1,i,p,hi,hp,hf=>by
   refine NN.leap r dm (fuel:=10*fl) (NN.all r dm hk hj e d fl _ _ ?_ ?_ (by lia));{show (i*5+1+p/32)%(t.mask+1)<=t.mask;have:=yd (i*5+1+p/32) (show 0<t.mask+1 by lia);lia};{show p/32<32^d;rw [yN] at hp;exact Nat.div_lt_of_lt_mul (by rw [wB];exact hp)}
theorem ZV (r:Ris t.place)(dm:t.dummies=#[]){k:Nat}(hk:t.mask+1=2^k){j:Nat}(hj:j<=t.mask)(e:j∉t.place.toList):∃ m,t.probe f h (t.probeStart h)=some m:=by
 have hi:bits h%(t.mask+1)<=t.mask:=by have:=yd (bits h) (show 0<t.mask+1 by lia);lia
 have:=NN.all (f:=f) (h:=h) r dm hk hj e 13 (turns t.mask) (bits h%(t.mask+1)) (bits h) hi (ue (dv h) (by decide)) (by unfold turns;lia);obtain ⟨m,hm⟩:=iF.mp this;exact ⟨m,hm⟩
theorem dc:∀ {zs ns:List Nat},zs.Nodup->(∀ z∈zs,z∈ns)->zs.length<=ns.length
 | [],_,_,_=>zV _
 | z::zs,ns,nd,h=>by
   obtain ⟨n1,n2⟩:=vH.mp nd;have hz:=h z (.head _);have:=dc (ns:=ns.erase z) n2 λy hy=>(List.mem_erase_of_ne (λe=>n1 (by rw [<- e];exact hy))).mpr (h y (.tail _ hy))
   rw [List.length_erase_of_mem hz] at this;have:=List.length_pos_of_mem hz;rw [zZ];lia
theorem ZU (r:Ris t.place)(le:∀ x∈t.place.toList,x<=t.mask)(ro:t.place.size<=t.mask):∃ j,j<=t.mask/\j∉t.place.toList:=by
 cases c:(List.range (t.mask+1)).find? λj=>!decide (j∈t.place.toList) with
 | some j =>
   have h1:=xE.mp (iD c);have h2:=List.find?_some c;exact ⟨j,by lia,by simpa using h2⟩
 | none =>
   exfalso
   have h:=mS.mp c;have sub:(List.range (t.mask+1)) ⊆ t.place.toList:=λj hj=>by simpa using h j hj
   have nd:(List.range (t.mask+1)).Nodup:=List.nodup_range;have:=dc nd sub;rw [ym,zT] at this;lia
end
def Ow (owner:Array (Option Nat))(j:Nat):Prop:=∃ k,owner[j]?=some (some k)
theorem not_fr {mask j:Nat}{owner:Array (Option Nat)}(sz:owner.size=mask+1)(hj:j<=mask)(h:¬(owner.getD j (some 0)).isNone=true):Ow owner j:=by
 rw [uE,xx (by lia)] at h;unfold Ow;rw [xx (by lia)];cases e:owner[j]'(by lia) with
 | none=>rw [e] at h;exact absurd rfl h
 | some k=>exact ⟨k,rfl⟩
theorem da {α:Type}{p:α->Bool}:∀ {l:List α} {x:α},l.find? p=some x->∃ n:Nat,l[n]?=some x/\∀ q:Nat,q<n->∃ y,l[q]?=some y/\p y=false
 | [],_,h=>by cases h
 | a :: l,x,h=>by
   rw [vG] at h;cases c:p a with
   | true=>rw [c] at h;cases h;exact ⟨0,rfl,λq hq=>absurd hq (vh _)⟩
   | false =>
     rw [c] at h;obtain ⟨n,h1,h2⟩:=da h;refine ⟨n+1,h1,λq hq=>?_⟩;cases q with
     | zero=>exact ⟨a,rfl,c⟩
     | succ q=>exact h2 q (by lia)
theorem dZ {mask:Nat} {owner:Array (Option Nat)} (sz:owner.size=mask+1):∀ (n i p j:Nat),i<=mask->layClean.free mask owner n i p=some j->∃ r,(pth mask r (run0 mask i p)).j=j/\∀ q,q<r->Ow owner (pth mask q (run0 mask i p)).j
 | 0,_,_,_,_,h=>by cases h
 | n + 1,i,p,j,hi,h=>by
   unfold layClean.free at h;have rl:=pI hi;have rg:=pJ mask i;have at_:∀ q,q<=runEnd mask i-i->(pth mask q (run0 mask i p)).j=i+q:=λq hq=>by rw [run0,kP mask q _ _ _ _ hq]
   split at h
   . rename_i k hk
     cases h;obtain ⟨r,h1,h2⟩:=da hk;have hr:r<runEnd mask i+1-i:=by have:=(xT.mp h1).1;rw [ym] at this;exact this
     rw [qX hr] at h1;have hrk:r=k:=Option.some.inj h1;subst hrk;refine ⟨r,at_ r (by lia),λq hq=>?_⟩;rw [at_ q (by lia)];obtain ⟨y,hy,hn⟩:=h2 q hq;rw [qX (by lia)] at hy;cases hy;exact not_fr sz (by lia) (by rw [hn];decide)
   . rename_i hk
     obtain ⟨r,h1,h2⟩:=dZ sz n _ _ j (by show (i*5+1+p/32)%(mask+1)<=mask;have:=yd (i*5+1+p/32) (show 0<mask+1 by lia);lia) h;refine ⟨runEnd mask i-i+1+r,by rw [pH,kO];exact h1,λq hq=>?_⟩;by_cases c:q<=runEnd mask i-i;{rw [at_ q c];have:=mS.mp hk q (xE.mpr (by lia));exact not_fr sz (by lia) this};{rw [show q=runEnd mask i-i+1+(q-(runEnd mask i-i+1)) by lia,pH,kO];exact h2 _ (by lia)}
structure OwI (mask:Nat)(owner:Array (Option Nat))(hs:List Int):Prop where
 sz:owner.size=mask+1
 rc:∀ j k,owner[j]?=some (some k)->∃ h,hs[k]?=some h/\Rc (Ow owner) mask h j
theorem dY {mask:Nat}:∀ (hs pre:List Int) (owner owner':Array (Option Nat)) (n:Nat),OwI mask owner pre->hs.foldl (init:=some (owner,pre.length)) (λacc h=>do let (owner,k) <- acc;let j <- layClean.free mask owner (turns mask) (bits h%(mask+1)) (bits h);pure (owner.setIfInBounds j (some k),k+1))=some (owner',n)->OwI mask owner' (pre++hs)
 | [],pre,owner,owner',n,I,e=>by
   cases e;rw [yx];exact I
 | h :: hs,pre,owner,owner',n,I,e=>by
   rw [wu] at e;have none_all:∀ (l:List Int),l.foldl (init:=(none:Option (Array (Option Nat) × Nat))) (λacc h=>do let (owner,k) <- acc;let j <- layClean.free mask owner (turns mask) (bits h%(mask+1)) (bits h);pure (owner.setIfInBounds j (some k),k+1))=none:=λl=>by
     induction l with
     | nil=>rfl
     | cons a l ih=>exact ih
   cases c:layClean.free mask owner (turns mask) (bits h%(mask+1)) (bits h) with
   | none =>
     have:(do let (owner,k) <- some (owner,pre.length);let j <- layClean.free mask owner (turns mask) (bits h%(mask+1)) (bits h);pure (owner.setIfInBounds j (some k),k+1):Option (Array (Option Nat) × Nat))=none:=by show (layClean.free mask owner (turns mask) (bits h%(mask+1)) (bits h)).bind _=none;rw [c];rfl
     rw [this,none_all] at e;cases e
   | some j =>
     have:(do let (owner,k) <- some (owner,pre.length);let j <- layClean.free mask owner (turns mask) (bits h%(mask+1)) (bits h);pure (owner.setIfInBounds j (some k),k+1):Option (Array (Option Nat) × Nat))=some (owner.setIfInBounds j (some pre.length),pre.length+1):=by show (layClean.free mask owner (turns mask) (bits h%(mask+1)) (bits h)).bind _=_;rw [c];rfl
     rw [this] at e;have hi:bits h%(mask+1)<=mask:=by have:=yd (bits h) (show 0<mask+1 by lia);lia
     obtain ⟨jm,jf⟩:=kT _ _ _ _ hi c;have grow:∀ x,Ow owner x->Ow (owner.setIfInBounds j (some pre.length)) x:=λx ⟨k,hx⟩=>by
       by_cases z:j=x;{subst z;exact ⟨_,iN (by rw [I.sz];lia)⟩};{exact ⟨k,by rw [iI z];exact hx⟩}
     have I':OwI mask (owner.setIfInBounds j (some pre.length)) (pre++[h]):=by
       refine ⟨by rw [qf];exact I.sz,λx k hx=>?_⟩;by_cases z:j=x;{subst z;rw [iN (by rw [I.sz];lia)] at hx;cases hx;refine ⟨h,by rw [yq (zk _),wt];rfl,?_⟩;obtain ⟨r,r1,r2⟩:=dZ I.sz _ _ _ _ hi c;exact ⟨r,r1,λq hq=>grow _ (r2 q hq)⟩};{rw [iI z] at hx;obtain ⟨h',e1,e2⟩:=I.rc x k hx;exact ⟨h',by rw [xA (xT.mp e1).1];exact e1,e2.mono grow⟩}
     rw [show pre.length+1=(pre++[h]).length by rw [zh];rfl] at e;have:=dY hs (pre++[h]) _ owner' n I' e;rw [zX] at this;exact this
abbrev El:=Int × Value
theorem pF {α:Type}(xs:Array α)(p:Nat)(x:α):(insertAt xs p x).toList=xs.toList.take p++x::xs.toList.drop p:=by unfold insertAt;simp [qZ,List.extract];exact yZ (by rw [yH,zT];exact zk _)
theorem pE {α:Type}{xs:Array α}{p:Nat}{x:α}(h:p<=xs.size):(insertAt xs p x).size=xs.size+1:=by rw [<- zT,pF,zh,zE,zZ,yH,zT];lia
theorem ins_get {α:Type}{xs:Array α}{p:Nat}{x:α}(h:p<=xs.size)(i:Nat):(insertAt xs p x)[i]?=if i<p then xs[i]? else if i=p then some x else xs[i-1]?:=by
 rw [<- zA,pF];have tl:(xs.toList.take p).length=p:=by rw [zE,zT];lia
 by_cases c:i<p;{rw [if_pos c,xA (by rw [tl];exact c),ml c,zA]}
 . rw [if_neg c,yq (by rw [tl];lia),tl];by_cases d:i=p
   . rw [if_pos d,d,wt];rfl
   . rw [if_neg d,show i-p=(i-p-1)+1 by lia,bH,sQ,zA];congr 1
     lia
structure S0 (t:SetTable)(es:Array El):Prop where
 pw:∃ k,t.mask+1=2^k/\3<=k
 ris:Ris t.place
 le:∀ j∈t.place.toList,j<=t.mask
 sz:t.place.size=es.size
 dm:t.dummies=#[]
 pl:t.plain=true
 ro:t.place.size<=t.mask
 rc:∀ (i j:Nat) (e:El),t.place[i]?=some j->es[i]?=some e->Rc (·∈t.place.toList) t.mask e.1 j
structure SS (t:SetTable)(es:Array El):Prop extends S0 t es where
 nf:t.tooFull=false
theorem S0.room {t:SetTable}{es:Array El}(s:S0 t es)(h:t.tooFull=false):t.place.size+1<=t.mask:=by obtain ⟨k,h1,h2⟩:=s.pw;unfold tooFull fill at h;rw [s.dm] at h;have h:=of_decide_eq_false h;have:(#[]:Array Nat).size=0:=rfl;have:2^3<=2^k:=vL (by decide) h2;lia
theorem fresh_SS (f m:Nat)(l:Bool):SS (fresh f m l) #[] where
 pw:=⟨3,rfl,by decide⟩
 ris:=λi j hj=>absurd hj (vh _)
 le:=λj (hj:j∈([]:List Nat))=>nomatch hj
 sz:=rfl
 dm:=rfl
 pl:=rfl
 ro:=(by show 0<=7;decide)
 rc:=λi j e (h:(#[]:Array Nat)[i]?=some j)=>by simp at h
 nf:=rfl
theorem S0.put {t:SetTable} {es:Array El} {j:Nat} {e:El} (s:S0 t es) (hr:t.place.size+1<=t.mask) (hj:j<=t.mask) (nj:j∉t.place.toList) (rc:Rc (·∈t.place.toList) t.mask e.1 j):S0 (t.put j).1 (insertAt es (t.put j).2 e)/\(t.put j).2=below t.place j/\below t.place j<=es.size:=by
 have bl:=(pQ s.ris j).2.2;have hd:has t.dummies j=false:=by rw [s.dm];simp [has]
 have ep:(t.put j).1={ t with place:=insertAt t.place (below t.place j) j }:=by unfold SetTable.put;simp only [hd];rfl
 have es2:(t.put j).2=below t.place j:=rfl;have mem:∀ x,x∈(insertAt t.place (below t.place j) j).toList↔x∈t.place.toList\/x=j:=λx=>by
   rw [pF,zY,zQ]
   conv=>rhs;rw [<- ye (below t.place j) t.place.toList,zY]
   constructor
   . rintro (h | h | h)
     . exact .inl (.inl h)
     . exact .inr h
     . exact .inl (.inr h)
   . rintro ((h | h) | h)
     . exact .inl h
     . exact .inr (.inr h)
     . exact .inr (.inl h)
 have nb:t.place[below t.place j]?≠some j:=λz=>nj (by rw [<- zA] at z;exact yb z)
 refine ⟨?_,es2,by rw [<- s.sz];exact bl⟩;rw [ep,es2];have grow:∀ x,x∈t.place.toList->x∈(insertAt t.place (below t.place j) j).toList:=λx hx=>(mem x).mpr (.inl hx)
 refine ⟨s.pw,eZ s.ris nb,λx hx=>?_,?_,s.dm,s.pl,?_,λi x e' h1 h2=>?_⟩
 . rcases (mem x).mp hx with h | h
   . exact s.le x h
   . rw [h];exact hj
 . show (insertAt t.place (below t.place j) j).size=_;rw [pE bl,pE (by rw [<- s.sz];exact bl),s.sz]
 . show (insertAt t.place (below t.place j) j).size<=t.mask;rw [pE bl];exact hr
 . have h1:(insertAt t.place (below t.place j) j)[i]?=some x:=h1;rw [ins_get bl] at h1;rw [ins_get (by rw [<- s.sz];exact bl)] at h2;show Rc (·∈(insertAt t.place (below t.place j) j).toList) t.mask e'.1 x;by_cases c:i<below t.place j
   . rw [if_pos c] at h1 h2;exact (s.rc i x e' h1 h2).mono grow
   . rw [if_neg c] at h1 h2;by_cases d:i=below t.place j
     . rw [if_pos d] at h1 h2;cases h1;cases h2;exact rc.mono grow
     . rw [if_neg d] at h1 h2;exact (s.rc _ x e' h1 h2).mono grow
theorem dX {α β:Type}{f:α->Option β}:∀ {l:List α},(∀ x∈l,(f x).isSome=true)->∀ i:Nat,(l.filterMap f)[i]?=l[i]?.bind f
 | [],_,i=>rfl
 | a::l,h,i=>by
   obtain ⟨b,hb⟩:=uC.mp (h a (.head _));rw [hZ hb];cases i with
   | zero=>exact hb.symm
   | succ i=>exact dX (λx hx=>h x (.tail _ hx)) i
theorem dW {n:Nat} (h:n<=200000):∃ k,sizeAbove n=2^k/\3<=k/\n<sizeAbove n/\sizeAbove n<=2*n+8:=by
 have go:∀ (f k:Nat),3<=k->n<2^(k+f)->2^k<=2*n+8->∃ k',sizeAbove.go n f (2^k)=2^k'/\3<=k'/\n<sizeAbove.go n f (2^k)/\sizeAbove.go n f (2^k)<=2*n+8:=by
   intro f;induction f with
   | zero=>intro k h1 h2 h3;exact ⟨k,rfl,h1,h2,h3⟩
   | succ f ih =>
     intro k h1 h2 h3;unfold sizeAbove.go;by_cases c:2^k<=n;{rw [if_pos c,<- yN];exact ih (k+1) (by lia) (by rw [show k+1+f=k+(f+1) by lia];exact h2) (by rw [yN];lia)};{rw [if_neg c];exact ⟨k,rfl,h1,by lia,h3⟩}
 exact go 64 3 (by decide) (wc h (by decide)) (by lia)
theorem ZS {t:SetTable} {es:Array El} (n2:es.size<=50000) (n0:0<es.size) (pl:t.plain=true):∃ t' order,t.relaid (es.map (·.1)) (grown es.size)=some (t',order)/\order.toList.Perm (List.range es.size)/\SS t' (order.filterMap (es[·]?))/\t'.led=t.led:=by
 have eg:grown es.size=es.size*4:=by unfold grown;rw [if_neg (by lia)]
 obtain ⟨k,k1,k2,k3,k4⟩:=dW (n:=es.size*4) (by lia);have hk:sizeAbove (es.size*4)-1+1=2^k:=by rw [<- k1];lia
 obtain ⟨t',order,e1,e2,e3,e4,e5,e6,e7,e8,e9⟩:=di (finger:=t.finger) (moves:=t.movedTo (sizeAbove (es.size*4)-1)) (led:=t.led) (plain:=t.plain) hk (es.map (·.1)) (by rw [tZ];lia);rw [tZ] at e2 e9;refine ⟨t',order,by unfold relaid;rw [eg];exact e1,e2,?_,e5⟩;have om:∀ x∈order.toList,(es[x]?).isSome=true:=λx hx=>by
   have:=xE.mp (e2.mem_iff.mp hx);rw [xx this];rfl
 have fm:∀ i,(order.filterMap (es[·]?))[i]?=order[i]?.bind (es[·]?):=λi=>by
   rw [<- zA,mh,dX om,zA]
 have fs:(order.filterMap (es[·]?)).size=es.size:=by
   rw [<- zT,mh];have:∀ l:List Nat,(∀ x∈l,(es[x]?).isSome=true)->(l.filterMap (es[·]?)).length=l.length:=λl=>by
     induction l with
     | nil=>intro _;rfl
     | cons a l ih =>
       intro h;obtain ⟨b,hb⟩:=uC.mp (h a (.head _));rw [hZ hb,zZ,zZ,ih λx hx=>h x (.tail _ hx)]
   rw [this _ om,e2.length_eq,ym]
 have mk:t'.mask=sizeAbove (es.size*4)-1:=e3;unfold laid at e1;cases el:layClean (sizeAbove (es.size*4)-1) (es.map (·.1)) with
 | none=>rw [el] at e1;cases e1
 | some owner =>
   rw [el] at e1;have e1:=Option.some.inj e1;have ep:t'.place=(((List.range (sizeAbove (es.size*4)-1+1)).filterMap λj=>(owner.getD j none).map (j,·)).map (·.1)).toArray:=(congrArg (λz=>z.1.place) e1).symm;have eo:order=(((List.range (sizeAbove (es.size*4)-1+1)).filterMap λj=>(owner.getD j none).map (j,·)).map (·.2)).toArray:=(congrArg (λz=>z.2) e1).symm;have OI:OwI (sizeAbove (es.size*4)-1) owner (es.map (·.1)).toList:=by
     unfold layClean at el;rw [<- Array.foldl_toList] at el;cases ef:(es.map (·.1)).toList.foldl (init:=some (Array.replicate (sizeAbove (es.size*4)-1+1) none,0)) (λacc h=>do let (owner,k) <- acc;let j <- layClean.free (sizeAbove (es.size*4)-1) owner (turns (sizeAbove (es.size*4)-1)) (bits h%(sizeAbove (es.size*4)-1+1)) (bits h);pure (owner.setIfInBounds j (some k),k+1)) with
     | none=>rw [ef] at el;cases el
     | some z =>
       rw [ef] at el;cases el;have:=dY _ [] _ z.1 z.2 ⟨by rw [Array.size_replicate],λj k h=>by
         rw [Array.getElem?_replicate] at h;split at h<;>cases h⟩ ef
       rw [yY] at this;exact this
   generalize hlive:((List.range (sizeAbove (es.size*4)-1+1)).filterMap λj=>(owner.getD j none).map (j,·))=live at ep eo;have lm:∀ j k,(j,k)∈live->owner[j]?=some (some k)/\j<=sizeAbove (es.size*4)-1:=λj k h=>by
     rw [<- hlive] at h;obtain ⟨x,hx,hx2⟩:=qW.mp h;have xl:=xE.mp hx;rw [uE,xx (by rw [OI.sz];lia)] at hx2;cases z:owner[x]'(by rw [OI.sz];lia) with
     | none=>rw [Option.getD_some,z] at hx2;cases hx2
     | some y =>
       rw [Option.getD_some,z] at hx2;cases hx2;exact ⟨by rw [xx (by rw [OI.sz];lia),z],by lia⟩
   have ow:∀ x,Ow owner x->x∈t'.place.toList:=λx ⟨k,hx⟩=>by
     have xl:=(uD.mp hx).1;rw [ep,mT];refine zR.mpr ⟨(x,k),?_,rfl⟩;rw [<- hlive];refine qW.mpr ⟨x,xE.mpr (by rw [<- OI.sz];exact xl),?_⟩;rw [uE,hx];rfl
   have lp:∀ i j,t'.place[i]?=some j->∃ k,live[i]?=some (j,k)/\order[i]?=some k:=λi j h=>by
     rw [ep,g9,yp] at h;cases z:live[i]? with
     | none=>rw [z] at h;cases h
     | some y =>
       rw [z] at h;obtain ⟨a,b⟩:=y;cases h;exact ⟨b,z,by rw [eo,g9,yp,z];rfl⟩
   have nf:t'.tooFull=false:=by unfold tooFull fill;rw [e4,e9,mk];have:(#[]:Array Nat).size=0:=rfl;exact yw (by lia)
   refine ⟨⟨⟨k,by rw [mk];exact hk,k2⟩,ris_iff.mpr e8,λj hj=>?_,by rw [fs];exact e9,e4,by rw [e6];exact pl,by rw [e9,mk];lia,λi j e h1 h2=>?_⟩,nf⟩;{obtain ⟨i,hi⟩:=qY hj;rw [zA] at hi;obtain ⟨k',l1,_⟩:=lp i j hi;rw [mk];exact (lm j k' (yb l1)).2};{obtain ⟨k',l1,l2⟩:=lp i j h1;rw [fm,l2] at h2;have h2:es[k']?=some e:=h2;obtain ⟨h,hh,r⟩:=OI.rc j k' (lm j k' (yb l1)).1;rw [zA,Array.getElem?_map,h2] at hh;cases hh;rw [mk];exact r.mono ow}
end SG
namespace SG
open PySem PySem.Spec PyProof.Rows PySem.SetTable
theorem dU (m:Nat):∀ (n:Nat) (p:Probe),p.j+p.more<=m->(pth m n p).j<=m
 | 0,p,h=>by show p.j<=m;lia
 | n + 1,p,h=>by
   rw [pth];refine dU m n _ ?_;unfold advM;split;{show p.j+1+(p.more-1)<=m;lia}
   . show (leap m p.i p.perturb).1+(runEnd m (leap m p.i p.perturb).1-(leap m p.i p.perturb).1)<=m;have l:(leap m p.i p.perturb).1<=m:=by
       have:=yd (p.i*5+1+p.perturb/32) (show 0<m+1 by lia);show (p.i*5+1+p.perturb/32)%(m+1)<=m;lia
     have:=pI l;have:=pJ m (leap m p.i p.perturb).1;lia
theorem run0_le (m:Nat)(h:Int)(n:Nat):(pth m n (run0 m (bits h%(m+1)) (bits h))).j<=m:=by
 refine dU m n _ ?_;have l:bits h%(m+1)<=m:=by have:=yd (bits h) (show 0<m+1 by lia);lia
 show bits h%(m+1)+(runEnd m (bits h%(m+1))-bits h%(m+1))<=m;have:=pI l;have:=pJ m (bits h%(m+1));lia
theorem Ris.inj {xs:Array Nat}(r:Ris xs){i j x:Nat}(h1:xs[i]?=some x)(h2:xs[j]?=some x):i=j:=by
 obtain ⟨l1,e1⟩:=uD.mp h1;obtain ⟨l2,e2⟩:=uD.mp h2;rcases qU i j with q | q | q
 . have:=r i j l2 q;lia
 . exact q
 . have:=r j i l1 q;lia
theorem SS.meets {t:SetTable} {es:Array El} (s:SS t es) (f:Nat->Int) (h:Int):∃ m,t.probe f h (t.probeStart h)=some m /\
   ((∃ j,m=.empty j none/\j<=t.mask/\j∉t.place.toList/\Rc (·∈t.place.toList) t.mask h j/\((∀ (i:Nat) (e:El),es[i]?=some e->f i=e.1)->∀ e∈es.toList,e.1≠h))\/∃ j i nx,m=.candidate j i nx/\f i=h/\t.place[i]?=some j):=by
 obtain ⟨k,k1,k2⟩:=s.pw;have rm:=s.toS0.room s.nf;obtain ⟨j0,j1,j2⟩:=ZU s.ris s.le s.ro;obtain ⟨m,hm⟩:=ZV (f:=f) (h:=h) s.ris s.dm k1 j1 j2;refine ⟨m,hm,?_⟩;have e0:t.probeStart h=run0 t.mask (bits h%(t.mask+1)) (bits h):=rfl;unfold probe at hm;rw [e0] at hm;rcases de s.ris s.dm _ _ _ rfl hm with ⟨n,e1,e2,e3⟩ | ⟨n,i,nx,e1,e2,e3⟩
 . refine .inl ⟨_,e1,run0_le _ _ _,e2,⟨n,rfl,λq hq=>?_⟩,λhf e he eh=>?_⟩
   . obtain ⟨i,hi,_⟩:=e3 q hq;rw [<- zA] at hi;exact yb hi
   . obtain ⟨i,hi⟩:=qY he;rw [zA] at hi;have il:i<es.size:=(uD.mp hi).1;have hp:t.place[i]?=some (t.place[i]'(by rw [s.sz];exact il)):=xx _;generalize t.place[i]'(by rw [s.sz];exact il)=j' at hp;have jm:j'∈t.place.toList:=by
       have hp:=hp;rw [<- zA] at hp;exact yb hp
     obtain ⟨n',r1,r2⟩:=s.rc i j' e hp hi;rw [eh] at r1 r2;rcases qU n n' with q | q | q
     . exact e2 (r2 n q)
     . rw [q,r1] at e2;exact e2 jm
     . obtain ⟨i2,a1,a2⟩:=e3 n' q;rw [r1] at a1;rw [s.ris.inj a1 hp,hf i e hi] at a2;exact a2 eh
 . exact .inr ⟨_,i,nx,e1,e3,e2⟩
theorem S0.fits {t:SetTable}{es:Array El}(s:S0 t es):t.fits es.size=true:=by unfold SetTable.fits SetTable.fill;rw [s.sz,s.dm];have:=s.ro;rw [s.sz] at this;have z:(#[]:Array Nat).size=0:=rfl;rw [wx];exact ⟨by simp,zJ (by lia)⟩
theorem S0.good {t:SetTable}{es:Array El}{b:Bool}(s:S0 t es)(l:t.led=!b):Good b t:=⟨l,λ_=>s.ris⟩
def STL (prog:Program)(w:World)(h:Heap)(a:Addr)(ks:List Int):Prop :=
 ∃ o es ep t,h.get? a=some o/\o.ExactSet/\o.data=.set es ep t/\ElemsOf (intKind prog w) es.toList/\es.size<=20000/\SS t es/\t.led=(!(bt w))/\(es.toList.map λe=>iv e.2)=ks/\ks.Nodup/\∀ k∈ks,0<=k/\k<2^60
theorem ZR {k:Int}(h0:0<=k)(h1:k<2^60):rawHash k=k:=by
 have e:((k.natAbs:Nat):Int)%((2^61-1:Nat):Int)=k:=by rw [<- mL,uj (by lia)];lia
 have e3:(k==-1)=false:=by simp;lia
 have e4:¬k<0:=by lia
 simp only [rawHash,e,e4,yO,e3,xk]
theorem dS {k:Int}(h0:0<=k)(h1:k<2^60):hashInt k=k:=by
 have e3:(k==-1)=false:=by simp;lia
 simp only [hashInt,ZR h0 h1,e3,xk,yO]
theorem dR {t:SetTable}{es:Array El}(n2:es.size<=50000)(n0:0<es.size)(pl:t.plain=true):∃ es' t',relayAll t es (grown es.size)=(es',t',false)/\es'.toList.Perm es.toList/\SS t' es'/\t'.led=t.led/\∃ order,t.relaid (es.map (·.1)) (grown es.size)=some (t',order)/\es'=order.filterMap (es[·]?):=by
 obtain ⟨t',order,e1,e2,ss,ld⟩:=ZS (t:=t) n2 n0 pl;have pp:=relayAll_perm t es (grown es.size);have er:relayAll t es (grown es.size)=(order.filterMap (es[·]?),t',false):=by unfold relayAll;rw [e1];dsimp only;have h1:coversAll order es.size=true:=List.isPerm_iff.mpr e2;have h2:t'.fits (order.filterMap (es[·]?)).size=true:=ss.toS0.fits;rw [h1,h2];rfl
 rw [er] at pp;exact ⟨_,t',er,pp,ss,ld,order,e1,rfl⟩
theorem unseen {k:Int}{tk:Tok}{Q:Bool->Shared->Prop}:∀ (l:List Value),(∀ y∈l,∃ k t,y=Value.int k t)->Q false s->wpAny (model prog w) A (searchCouldBeSeen (.int k tk) l) Q E s:=by
 intro l h q;unfold searchCouldBeSeen;refine zt (wpAny_forIn_list _ (λrest b s'=>(∀ y∈rest,∃ k t,y=Value.int k t)/\b=(none,())/\s'=s) _ ?_ ?_ l _ ⟨h,rfl,rfl⟩);{rintro x rest b s' ⟨h,rfl,rfl⟩;obtain ⟨k',t',rfl⟩:=h x (.head _);exact zi ⟨λy hy=>h y (.tail _ hy),rfl,rfl⟩};{rintro b s' ⟨_,rfl,rfl⟩;exact zi q}
theorem gave_no {t:SetTable}{es:Array El}(s:S0 t es):t.gaveWay=false:=by
 obtain ⟨k,h1,h2⟩:=s.pw;unfold gaveWay;have:2^k=2*2^(k-1):=by
   rw [<- Nat.pow_succ'];congr 1
   lia
 rw [u0];lia
theorem ZQ {a:Addr} {o:Obj} {es:Array El} {t:SetTable} {k:Int} {tk:Tok} {R:SetFound->Shared->Prop} (ho:s.heap.get? a=some o) (hd:o.data=.set es ep t) (el:ElemsOf (intKind prog w) es.toList) (ss:SS t es) (e1:∀ e∈es.toList,e.1=iv e.2)
   (q1:k∈(es.toList.map λe=>iv e.2)->R (.there none) s) (q2:∀ j,k∉(es.toList.map λe=>iv e.2)->j<=t.mask->j∉t.place.toList->Rc (·∈t.place.toList) t.mask k j->R (.free j false) s):wpAny (model prog w) A (setSearch a (.int k tk) k true) R E s:=by
 have hf:=ss.toS0.fits;unfold setSearch;show wpAny _ _ (setSearchFrom a (.int k tk) k true (99999+1) none) _ _ _;unfold setSearchFrom;refine zt (xV ho hd hf ?_);dsimp only;rw [gave_no ss.toS0,if_neg (by decide)];refine zt (zi ?_);obtain ⟨m,hp,hc⟩:=ss.meets (λi=>(es[i]?.map (·.1)).getD 0) k;split
 case h_2 =>
   rename_i heq
   exact (heq _ hp).elim
 rename_i met heq
 have em:met=m:=Option.some.inj (heq.symm.trans hp);subst em;clear heq hp;rcases hc with ⟨j,rfl,j1,j2,j3,j4⟩ | ⟨j,i,nx,rfl,h2,h3⟩
 . dsimp only;refine zi (q2 j (λz=>?_) j1 j2 j3);obtain ⟨e,he,ek⟩:=zR.mp z;exact j4 (λi e h=>by rw [h];rfl) e he (by rw [e1 e he];exact ek)
 . have il:i<es.size:=by
     rw [<- ss.sz];exact (uD.mp h3).1
   have hi:es[i]?=some es[i]:=xx il;have im:es[i]∈es.toList:=by simp
   rw [hi] at h2;have h2:es[i].1=k:=h2;obtain ⟨⟨k',a1,a2⟩,_⟩:=el _ im;obtain ⟨t',a3⟩:=uy a1;have ek:k'=k:=by rw [<- h2,e1 _ im,a3];rfl
   have hm:k∈es.toList.map λe=>iv e.2:=zR.mpr ⟨_,im,by rw [a3,ek];rfl⟩
   have allInt:∀ y∈((es.filter (·.1==k)).toList.map (·.2)),∃ k t,y=Value.int k t:=λy hy=>by
     obtain ⟨e,he,rfl⟩:=zR.mp hy;have he':e∈es.toList:=by rw [Array.toList_filter] at he;exact (yv.mp he).1
     obtain ⟨⟨k'',b1,_⟩,_⟩:=el e he';obtain ⟨t'',b3⟩:=uy b1;exact ⟨_,_,b3⟩
   dsimp only;rw [hi];have ee:es[i]=(es[i].1,es[i].2):=rfl;rw [ee];dsimp only;by_cases ld:t.led=true;{rw [ld,if_neg (by decide)];rw [a3,ek];refine zt (xI (nG ?_));refine zt (xV ho hd hf ?_);rw [show (k==k)=true by simp,if_pos (by decide)];exact zi (q1 hm)};{rw [show t.led=false by simpa using ld,if_pos (by decide)];refine zt (unseen _ allInt ?_);rw [if_neg (by decide)];rw [a3,ek];refine zt (xI (nG ?_));refine zt (xV ho hd hf ?_);rw [show (k==k)=true by simp,if_pos (by decide)];exact zi (q1 hm)}
theorem fits2 {n:Nat}(h:n<=20001):n<=sizeLine:=by rw [wg];lia
theorem add_intL {a:Addr} {k:Int} {tk:Tok} {Q:Bool->Shared->Prop} (hS:STL prog w s.heap a ks) (k0:0<=k) (k1:k<2^60) (room:ks.length+1<=20000)
   (q:∀ b h' ks',Heap.SameBut a s.heap h'->STL prog w h' a ks'->(∀ y,y∈ks'↔y∈ks\/y=k)->ks'.length<=ks.length+1->Q b { s with heap:=h' }):wpAny (model prog w) A (setAddHashed a (.int k tk) ((intKind prog w).hash k)) Q E s:=by
 obtain ⟨o,es,ep,t,ho,hx,hd,el,hb,ss,hled,rfl,nd,rg⟩:=hS;have hf:=ss.toS0.fits;have hk:=sZ prog w k tk;have hh:(intKind prog w).hash k=k:=dS k0 k1;have lz:(es.toList.map λe=>iv e.2).length=es.size:=by rw [zg,zT]
 rw [lz] at room;have old:k∈(es.toList.map λe=>iv e.2)->∀ b,Q b s:=λhm b=>q b s.heap _ (nH a s.heap) ⟨o,es,ep,t,ho,hx,hd,el,hb,ss,hled,rfl,nd,rg⟩ (λy=>⟨.inl,λz=>z.elim id λe=>e ▸ hm⟩) (wa _)
 have e1:∀ e∈es.toList,e.1=iv e.2:=λe he=>by
   obtain ⟨⟨k',h1,h2⟩,_⟩:=el e he;obtain ⟨t',e2⟩:=uy h1;have r:=rg k' (by rw [show k'=iv e.2 by rw [e2];rfl];exact zR.mpr ⟨e,he,rfl⟩);rw [h2,e2];exact dS r.1 r.2
 have rm:=ss.toS0.room ss.nf;have fin:∀ (j:Nat),k∉(es.toList.map λe=>iv e.2)->j<=t.mask->j∉t.place.toList->Rc (·∈t.place.toList) t.mask k j ->
     S0 (t.put j).1 (insertAt es (t.put j).2 (k,.int k tk))/\(insertAt es (t.put j).2 (k,Value.int k tk)).size=es.size+1/\((t.put j).1.led=(!(bt w))) /\
     ∀ es2 t2 ep2 h',SS t2 es2->t2.led=(!(bt w))->es2.toList.Perm (insertAt es (t.put j).2 (k,.int k tk)).toList->Heap.SameBut a s.heap h'->h'.get? a=some { o with data:=.set es2 ep2 t2 }->Q true { s with heap:=h' }:=λj hm j1 j2 j3=>by
   obtain ⟨s0,p1,p2⟩:=ss.toS0.put (e:=(k,.int k tk)) rm j1 j2 j3;refine ⟨s0,by rw [p1];exact pE p2,hled,λes2 t2 ep2 h' s2 l2 pe sb ho2=>?_⟩;have pm:(insertAt es (t.put j).2 (k,Value.int k tk)).toList.Perm (es.toList++[(k,.int k tk)]):=by rw [p1,pF];have:=List.perm_middle (l₁:=es.toList.take (below t.place j)) (l₂:=es.toList.drop (below t.place j)) (a:=(k,Value.int k tk));rw [ye] at this;exact this.trans (my _ _).symm
   have pk:(es2.toList.map λe=>iv e.2).Perm ((es.toList.map λe=>iv e.2)++[k]):=by
     have:=(pe.trans pm).map λe=>iv e.2
     rwa [zD] at this
   have sz2:es2.size=es.size+1:=by have:=(pe.trans pm).length_eq;rw [zh,zT,zT] at this;exact this
   have el1:ElemsOf (intKind prog w) (es.toList++[(k,.int k tk)]):=by have:=el.push hk rfl;rw [hh] at this;exact this
   refine q true h' _ sb ⟨_,es2,ep2,t2,ho2,hx,rfl,el1.perm (pe.trans pm),by lia,s2,l2,rfl,?_,λx hx'=>?_⟩ (λy=>?_) ?_;{rw [pk.nodup_iff,qV];exact ⟨nd,(by simp),λx hx y hy e=>hm (by rw [zS.mp hy] at e;rw [<- e];exact hx)⟩}
   . rcases zY.mp (pk.mem_iff.mp hx') with h | h
     . exact rg x h
     . rw [zS.mp h];exact ⟨k0,k1⟩
   . rw [pk.mem_iff,zY,zS]
   . rw [zg,zT,sz2,lz];exact zk _
 unfold setAddHashed;unfold setAddHashedIn;refine xI (zt (xV ho hd hf ?_));dsimp only;by_cases sb:es.size<scanBound
 . rw [byScan_of (x:=Value.int k tk) rfl sb el,if_pos rfl]
   unfold setAddByScan;refine zt (zt (we (zt (wpAny_setScan_of hk ho hd hf el ?_))));cases hr:List.findIdx? (λe=>(intKind prog w).is k e.2) es.toList with
   | some j =>
     dsimp only;obtain ⟨hj,pj,_⟩:=iM.mp hr;have hm:k∈es.toList.map λe=>iv e.2:=zR.mpr ⟨_,y9 hj,(pP el (y9 hj)).mp pj⟩
     exact zi (zi (old hm false))
   | none =>
     dsimp only;have hm:k∉es.toList.map λe=>iv e.2:=by intro z;obtain ⟨e,he,e1⟩:=zR.mp z;have:=iE.mp hr e he;rw [(pP el he).mpr e1] at this;cases this
     obtain ⟨m,hp,hc⟩:=ss.meets (λ_=>k+1) k;rcases hc with ⟨j,rfl,j1,j2,j3,_⟩ | ⟨j,i,nx,_,h2,_⟩
     . obtain ⟨s0,z1,ld,fin⟩:=fin j hm j1 j2 j3;have lay:layNew t es ((intKind prog w).hash k) (.int k tk)=(insertAt es (t.put j).2 (k,.int k tk),(t.put j).1,false,false):=by
         rw [hh];unfold layNew freeSlot;rw [hp];dsimp only;unfold orStandIn;have f1:((t.put j).1.fits (insertAt es (t.put j).2 (k,Value.int k tk)).size)=true:=s0.fits;simp only [mN,f1];rfl
       rw [lay];generalize insertAt es (t.put j).2 (k,Value.int k tk)=es1 at s0 z1 fin ⊢;generalize (t.put j).1=t1 at s0 ld fin ⊢;dsimp only;refine zt (zi ?_);rw [s0.pl,if_pos rfl,nP 8 (x:=Value.int k tk) rfl];refine zt (zi ?_);simp only [show plainKind (Value.int k tk)=true from rfl,xU,qT,l7];refine zt (ux ho hd ?_ (fits2 (by lia)));have ho1:=uR ho hd es1 t1;have sb1:=uz s.heap a (Obj.putSet es1 t1);by_cases tf:t1.tooFull=true
       . rw [tf,if_pos rfl];obtain ⟨es2,t2,er,pe,s2,l2,_⟩:=dR (t:=t1) (es:=es1) (by lia) (by lia) s0.pl;rw [er];dsimp only;have z2:es2.size<=20001:=by rw [rH pe];lia
         refine zt (zi (zt (ux ho1 rfl ?_ (fits2 z2))));exact zi (zi (fin es2 t2 _ _ s2 (l2.trans ld) pe (sb1.trans (uz _ a _)) (uR ho1 rfl es2 t2)))
       . rw [if_neg tf];exact zi (zi (fin es1 t1 _ _ ⟨s0,by simpa using tf⟩ ld (.refl _) sb1 ho1))
     . exact absurd h2 (by lia)
 . have nb:byScan (.int k tk) es=false:=by
     unfold byScan;rw [yw sb,Bool.and_false,mD]
   rw [nb,if_neg (by decide),hh];refine zt (ZQ ho hd el ss e1 (λhm=>zi (old hm false)) λj hm j1 j2 j3=>?_);obtain ⟨s0,z1,ld,fin⟩:=fin j hm j1 j2 j3;dsimp only;refine zt (xV ho hd hf ?_);dsimp only;generalize insertAt es (t.put j).2 (k,Value.int k tk)=es1 at s0 z1 fin ⊢;generalize (t.put j).1=t1 at s0 ld fin ⊢;rw [s0.pl,if_pos rfl,nP 8 (x:=Value.int k tk) rfl];refine zt (zi ?_);simp only [show plainKind (Value.int k tk)=true from rfl,xU,qT,l7];refine zt (ux ho hd ?_ (fits2 (by lia)));have ho1:=uR ho hd es1 t1;have sb1:=uz s.heap a (Obj.putSet es1 t1);by_cases tf:t1.tooFull=true
   . rw [tf,if_pos rfl];obtain ⟨es2,t2,er,pe,s2,l2,order,e5,e6⟩:=dR (t:=t1) (es:=es1) (by lia) (by lia) s0.pl;have z2:es2.size<=20001:=by rw [rH pe];lia
     unfold setRelay;refine zt (zt (xV ho1 rfl s0.fits ?_));dsimp only;rw [<- z1];obtain ⟨_,_,_,_,k4⟩:=dW (n:=grown es1.size) (by unfold grown;rw [if_neg (by lia)];lia);have g4:grown es1.size=es1.size*4:=by unfold grown;rw [if_neg (by lia)]
     rw [if_neg (by rw [wg];lia),e5];have ro:wpAny (model prog w) A (do let x <- (if (order.filterMap (es1[·]?)).size != es1.size then (do unsupported "internal:set-table-lost-an-element";pure (order.filterMap (es1[·]?),t2)) else pure (order.filterMap (es1[·]?),t2));storeSet a x.1 x.2) (λa s'=>wpAny (model prog w) A (pure true) Q E s') E { s with heap:=s.heap.update a (Obj.putSet es1 t1) }:=by
       have ne:((order.filterMap (es1[·]?)).size != es1.size)=false:=by rw [<- e6,rH pe];simp
       rw [ne,if_neg (by decide)];refine zt (zi ?_);rw [<- e6];exact ux ho1 rfl (zi (fin es2 t2 _ _ s2 (l2.trans ld) pe (sb1.trans (uz _ a _)) (uR ho1 rfl es2 t2))) (fits2 z2)
     exact ro
   . rw [if_neg tf];exact zi (fin es1 t1 _ _ ⟨s0,by simpa using tf⟩ ld (.refl _) sb1 ho1)
end SG
namespace SG
open PySem PySem.Spec PyProof.Rows
section
theorem STL.sw {h:Heap}{a:Addr}(x:STL prog w h a ks):SW prog w h a ks:=let ⟨o,es,ep,t,e,a1,a2,a3,hb,ss,ld,r,nd,_⟩:=x;⟨o,es,ep,t,e,a1,a2,a3,fits2 (by lia),ss.toS0.fits,ss.toS0.good ld,r,nd⟩
theorem STL.but {h:Heap}{a d:Addr}(x:STL prog w h a ks)(k:∀ o,h.get? a=some o->h'.get? a=some o):STL prog w h' a ks:=let ⟨o,es,ep,t,e,r⟩:=x;⟨o,es,ep,t,k o e,r⟩
theorem ZP {h:Heap}{a:Addr}(e:h.get? a=some (emptyObj w)):STL prog w h a [] :=
 ⟨_,#[],0,.fresh 0 0 (!bt w),e,⟨rfl,rfl,rfl⟩,rfl,(λx hx=>nomatch hx),(by decide),fresh_SS _ _ _,rfl,rfl,mB,λk hk=>nomatch hk⟩
theorem ZO {R:Result->Shared->Prop} {I:Addr} {wr:List Addr} {n:Nat} {P:Nat->Value->Prop} {St:Nat->Heap->Prop} (W:Walks prog w A.in1 I fp wr n P St) (S:Addr) (hS:S∉fp) (val:Nat->Int) (hv:∀ i v,P i v->∃ t,v=.int (val i) t) (hr:∀ i,i<n->0<=val i/\val i<2^60) (hb:n<=20000) :
   ∀ (d i:Nat) (s:Shared) (ks:List Int),n-i=d->i<=n->St i s.heap->STL prog w s.heap S ks->(∀ y,y∈ks↔∃ j,j<i/\y=val j)->ks.length<=i ->
   (∀ h' tk ks',(∀ b o,b≠S->b∉wr->s.heap.get? b=some o->h'.get? b=some o)->STL prog w h' S ks'->(∀ y,y∈ks'↔∃ j,j<n/\y=val j)->R (.ok (.ret .none)) { s with heap:=h',toks:=tk }) ->
   codeAny (model prog w) A (Code.builtin "set.update.loop" ⟨[.ref S,.ref I],[]⟩) R s:=by
 have hSw:S∉wr:=λz=>hS (W.sub _ z)
 intro d;induction d with
 | zero =>
   intro i s ks hd hi st hk hm hl q;have e:i=n:=by lia
   subst e;refine uI F.entry_set_update_loop ?_;rw [so nX _];refine zt (m:=pyNext (.ref I)) (W.done s _ _ st λh' tk k=>?_);exact zi (q h' tk ks (λb o _ n2 e=>k b o n2 e) (hk.but (d:=S) λo e=>k S o hSw e) hm)
 | succ d ih =>
   intro i s ks hd hi st hk hm hl q;refine uI F.entry_set_update_loop ?_;rw [so nX _];refine zt (m:=pyNext (.ref I)) (W.item i s _ _ (by lia) st λv h1 tk pv st1 k1=>?_);obtain ⟨t,rfl⟩:=hv i v pv;have hk1:STL prog w h1 S ks:=hk.but (d:=S) λo e=>k1 S o hSw e
   refine zt (m:=holding [Value.int (val i) t] (setAdd S (.int (val i) t))) (xI ?_);unfold setAdd;refine xI (zt ((intKind prog w).pyHash (k:=val i) (sZ _ _ _ _) ?_));refine add_intL (s:={ s with heap:=h1,toks:=tk+1 }) hk1 (hr i (by lia)).1 (hr i (by lia)).2 (by lia) λb h2 ks2 sb st2 m2 l2=>?_
   refine zi ⟨se nX _,ih (i+1) _ ks2 (by lia) (by lia) (W.frame _ h1 h2 st1 λc hc o e=>?_) st2 (λy=>?_) (by lia) λh3 tk3 ks3 k3 st3 m3=>?_⟩;{rw [sb.2 c (λz=>hS (z ▸ hc))];exact e}
   . rw [m2,hm]
     constructor
     . rintro (⟨j,hj,e⟩ | e)
       . exact ⟨j,by lia,e⟩
       . exact ⟨i,by lia,e⟩
     . rintro ⟨j,hj,e⟩;by_cases c:j<i
       . exact .inl ⟨j,c,e⟩
       . have:j=i:=by lia
         subst this;exact .inr e
   . refine q h3 tk3 ks3 (λc o n1 n2 e=>k3 c o n1 n2 ?_) st3 m3;show h2.get? c=some o;rw [sb.2 c n1];exact k1 c o n2 e
set_option maxHeartbeats 3200000 in
theorem call_setL {l:Addr} {its:Array Value} {ns:List Int} (hh:A.handled=none) (hl:s.heap.IsList l its) (hi:IntsAre its.toList ns) (hr:∀ z∈ns,0<=z/\z<2^60) (hb:its.size<=20000)
   (q:∀ (h':Heap) (tk:Nat) (ks:List Int),STL prog w h' s.heap.objs.size ks->(∀ y,y∈ks↔y∈ns)->(∀ b o,b<s.heap.objs.size->s.heap.get? b=some o->h'.get? b=some o)->Q (.ref s.heap.objs.size) { s with heap:=h',toks:=tk }) :
   wpAny (model prog w) A (call (.type "set") [.ref l]) Q E s:=by
 have ln:its.size=ns.length:=by rw [<- zT];exact qi hi
 obtain ⟨c,tl,hmro⟩:=PySem.F.called_set.mro;have hmade:=PySem.F.called_set.made;have hsub:=PySem.F.called_set.sub;refine uG (codeAny_of_tree ?_);refine zi ⟨Code.quiet_builtin _ (by decide +kernel),uI F.entry_type_call ?_⟩;rw [Around.under_plain (weight_type_call_type "set" [.ref l] []) rfl];have h1:=PySem.F.called_set.notType;have h2:=PySem.F.called_set.canCreate;have hct:=PySem.F.typeCall_set_1 (.ref l)
 repeat (any_goals (first | assumption | wp_step))
 refine vo (new_set (.ref l) (E:=E) (Q:=λobj s1=>obj=.ref s.heap.objs.size/\s1={ s with heap:=s.heap.push (emptyObj w) }) ⟨rfl,rfl⟩) λr s1 hr=>?_
 cases r with
 | error e=>exact hr
 | ok fl =>
   cases fl with
   | ret obj =>
     obtain ⟨rfl,rfl⟩:=hr;have hS:(s.heap.push (emptyObj w)).get? s.heap.objs.size=some (emptyObj w):=yi _ rfl;have hT:Shared.TypeIs { s with heap:=s.heap.push (emptyObj w) } (.ref s.heap.objs.size) "set":=⟨_,hS,rfl⟩
     have hli:=PySem.F.called_set.init.lookup;have hbi:=PySem.F.called_set.init.bind (.ref s.heap.objs.size)
     repeat (any_goals (first | assumption | wp_step))
     refine vo (codeAny_call_builtin (R:=wants (λr s2=>r=.none/\∃ h' tk ks,s2={ s with heap:=h',toks:=tk }/\STL prog w h' s.heap.objs.size ks/\(∀ y,y∈ks↔y∈ns)/\∀ b o,b<s.heap.objs.size->s.heap.get? b=some o->h'.get? b=some o) E) PySem.F.called_set.init.plain PySem.F.entry_set_init (check_set_init_1 hT ?_)) λr2 s2 hr2=>?_
     . obtain ⟨ol,hol,hcl,nl,hdl⟩:=hl;obtain ⟨ocls,odict,odata,oslots⟩:=ol;simp only at hcl hdl;subst hcl;subst hdl;have hol1:(s.heap.push (emptyObj w)).get? l=some { cls:=.type "list",dict:=odict,data:=.seq its nl,slots:=oslots }:=zU _ hol;have g1:=PySem.F.sub_list_set;have g2:=PySem.F.sub_list_frozenset;have g3:(Value.type "list"==Value.type "dict")=false:=by decide
       have hl1:(s.heap.push (emptyObj w)).IsList l its:=⟨_,hol1,rfl,nl,rfl⟩
       unfold Builtin.«set.__init__»;unfold noKeywords;unfold Builtin.Frozenset.updateFrom;generalize hPI:pyIter=PI
       wp_walk
       subst hPI;refine nK hl1 (zt (wpAny_runValue ?_));have lt:l<s.heap.objs.size:=zW hol;have hh3:A.in1.in1.in1.handled=none:=by simp [hh]
       have sz:(s.heap.push (emptyObj w)).objs.size=s.heap.objs.size+1:=uv ..;have neI:l≠(s.heap.push (emptyObj w)).objs.size:=by rw [sz];exact zC (w4 lt)
       have neS:s.heap.objs.size∉[(s.heap.push (emptyObj w)).objs.size,l]:=by
         rw [sz];intro z;rcases zQ.mp z with z | z
         . exact zC (wb _) z
         . exact wC lt (zS.mp z)
       refine ZO (Walks.list hh3 _ l neI its) s.heap.objs.size neS (λi=>ns.getD i 0) (λi v hv=>IntsAre.int_at hi i v (by rw [zA];exact hv)) (λi hi'=>by rw [ln] at hi';rw [xy,zO hi'];exact hr _ (y9 hi')) hb its.size 0 _ [] rfl (zV _) ⟨⟨_,yi _ rfl,rfl,rfl⟩,hl1.push _⟩ (ZP (zU _ hS)) (λy=>⟨λz=>(nomatch z),λ⟨j,hj,_⟩=>absurd hj (vh _)⟩) (zk _) λh' tk ks k st m=>?_
       refine zi (zi ⟨rfl,h',tk,ks,rfl,st,λy=>?_,λb o lb e=>?_⟩)
       . rw [m,ln];constructor
         . rintro ⟨j,hj,rfl⟩;show ns.getD j 0∈ns;rw [xy,zO hj];exact y9 hj
         . intro hy;obtain ⟨j,hj,rfl⟩:=xR.mp hy;refine ⟨j,hj,?_⟩;show _=ns.getD j 0;rw [xy,zO hj];rfl
       . refine k b o (zC lb) (λz=>?_) (zU _ (zU _ e));have:=zS.mp z;rw [sz] at this;exact zC (w4 lb) this
     . cases r2 with
       | error e=>exact hr2
       | ok f2 =>
         cases f2 with
         | ret r =>
           obtain ⟨rfl,h',tk,ks,rfl,st,m,k⟩:=hr2
           repeat (any_goals (first | assumption | wp_step))
           exact q _ _ _ st m k
         | _=>exact hr2.elim
   | _=>exact hr.elim
end
end SG
namespace L2
open PySem PySem.Spec PyProof.Rows
def tSortSetL (K:zj)(te:TE):TE:=λσ H Q=>te σ H λx H1=>∃ (l:Addr) (ns:List Int),x=.ref l/\SqL K H1 l (ns.map V.int)/\ns.length<=19000/\(∀ z∈ns,0<=z/\z<2^60)/\∀ (p:Addr) (ks:List Int),H1 p=none->ks.Pairwise (·<·)->(∀ y,y∈ks↔y∈ns)->Q (.ref p) (upd H1 p (.lst (ks.map V.int)))
section
variable {e:Expr}{p p' pos:Pos}
theorem ZN (K:zj)(hc:X.calm=true)(hgl:Gl X "sorted")(hml:X.mg "sorted"=none)(hgr:Gl X "set")(hmr:X.mg "set"=none)(he:PE X e te)(hK:X.K=K:=by rfl)
   (hs1:starEach [.Call (.Name "set" p') [e] [] pos'] X.env=[(false,eval (.Call (.Name "set" p') [e] [] pos') X.env)]:=by rfl) (hs2:starEach [e] X.env=[(false,eval e X.env)]:=by rfl) :
   PE X (.Call (.Name "sorted" p) [.Call (.Name "set" p') [e] [] pos'] [] pos) (tSortSetL K te):=by
 subst hK;intro pins s σ H Q I h;refine wN (vE I hgl hml boot_sorted (ie ?_ hs1 rfl));rw [hs1];show wpAny _ _ (spliced ((false,eval (.Call (.Name "set" p') [e] [] pos') X.env)::backTo pos [])) _ _ s;refine vp ?_;refine wN (vE I hgr hmr boot_set (tF ?_ hs2 rfl));rw [hs2];show wpAny _ _ (spliced ((false,eval e X.env)::backTo pos' [])) _ _ s;refine vp (thn (he pins s σ H _ I h) λu s1 hq=>?_);obtain ⟨x,H1,I1,r1,l,ns,ex,hq,hn,hr,q⟩:=hq;subst ex;cases r1;obtain ⟨its,rv,pl,hz⟩:=I1.list hq;have hi:=ag rv;have li:its.length=ns.length:=by rw [<- rv.length,zg]
 refine uJ (SG.call_setL (its:=its.toArray) (ns:=ns) (I.ok.hd hc) pl.isList (by simpa using hi) hr (by rw [yn,li];lia) λh2 tk ks st mem old=>?_);have old':∀ b o,s1.heap.get? b=some o->h2.get? b=some o:=λb o z=>old b o (zW z) z
 have I2:Inv X pins σ H1 { s1 with heap:=h2,toks:=tk }:=I1.kept old';have lk:ks.length<=sizeLine:=by obtain ⟨o,es,ep,t,_,_,_,_,hb,_,_,rfl,_⟩:=st.sw;rw [zg,zT];exact hb
 have nd:ks.Nodup:=by obtain ⟨_,_,_,_,_,_,_,_,_,_,_,_,z⟩:=st.sw;exact z
 refine uJ (SG.sorted_set (s:={ s1 with heap:=h2,toks:=tk }) (I.ok.hd hc) st.sw lk λh3 tk3 d l3 out ns3 e3 old3 le3 at3 hi3 pm3 so3=>?_);have lo:(ns3.map V.int).length<=sizeLine:=by rw [zg,pm3.length_eq];exact lk
 have I3:Inv X pins σ (upd H1 l3 (.lst (ns3.map V.int))) { s1 with heap:=h3,toks:=tk3 }:=I2.laid (t':=tk3) (o:=.lst (ns3.map V.int)) old3 le3 ⟨lo,out.toList,e3,qD hi3,by rw [Array.toArray_toList];exact at3⟩;refine ⟨.ref l3,_,I3.redrawn d,rfl,q l3 ns3 (I2.hok.fresh le3) ?_ λy=>(pm3.mem_iff).trans (mem y)⟩;have nd3:ns3.Nodup:=pm3.nodup_iff.mpr nd;exact List.Pairwise.imp₂ (λa b h1 h2=>by lia) so3 nd3
end
end L2
namespace L2
open PySem PySem.Spec PyProof.Rows Srt SG
theorem hu1 {k:Nat}(hr:Room k A):A.units+1<cLine:=wc (by lia) (hu64 hr)
section
variable {td ty tx tv:TE}{Q:VK}
end
theorem dQ:∀ {vs:List Value} {ns:List Int},vs.length=ns.length->(∀ (j:Nat) (v:Value),vs[j]?=some v->∃ i t,ns[j]?=some i/\v=Value.int i t)->IntsAre vs ns
 | [],[],_,_=>.nil
 | [],_::_,h,_=>by cases h
 | _::_,[],h,_=>by cases h
 | v::vs,n::ns,h,g=>by
   obtain ⟨i,t,e,rfl⟩:=g 0 v rfl;cases (show n=i from Option.some.inj e);exact .cons n t (dQ (Nat.succ.inj h) λj v e=>g (j+1) v e)
section
variable {x:Str}{p pos:Pos}
theorem ZM {ps:List Str}{k:Nat}(F:MakeAt X.prog X.w X.K X.mg X.base x C ps k sp)(hr:Room (k+1) X.A)(hg:Gl X x)(hdb:(x==("__debug__":Str))=false:=by decide):PE X (.Call (.Name x p) [] [] pos) (tMake C sp [] E0 tNil):=by obtain ⟨hm,f,fd,M,F,b⟩:=F;exact pe_make0 M F hr hg hm b .nil pass0 hdb
end
def rSortD:List V->Hp->VK->Prop:=λxs H Q=>∃ (a:Addr) (kvs:List (Key × V)) (ns:List Int),xs=[.ref a]/\H a=some (.dK kvs)/\kvs.map (·.1)=ns.map Sum.inl/\∀ (l:Addr) (ns':List Int),H l=none->ns'.Perm ns->ns'.Pairwise (·<=·)->Q (.ref l) (upd H l (.lst (ns'.map V.int)))
theorem ZL (hc:X.calm=true:=by rfl):CallR X (.builtin "sorted") rSortD:=by
 intro pins s σ H xs us Q I r h;obtain ⟨a,kvs,ns,rfl,ha,hk,q⟩:=h;obtain ⟨u,rfl,ru⟩:=r.one;cases (show u=Value.ref a from ru);obtain ⟨hz,lo,vs,kv,o,es,ep,g1,g2,g3,g4,g5,g6⟩:=dk_of I.hok ha;have lk:kvs.length=vs.length:=kv.length;have ln:ns.length=kvs.length:=by have:=congrArg List.length hk;rw [zg,zg] at this;exact this.symm
 refine Calls.call_function_entry kind_sorted plain_sorted entry_sorted (args_sorted1 _) ?_;unfold Builtin.«sorted»;refine zt (m:=checkCount "sorted" 1 1 _) (zi ?_);refine zt (PySem.W.kdu_collect (A:=X.A.in1) (PySem.W.kdl_dict (knd:=mixKind X.prog X.w) (kvs:=vs) (ep:=ep) lo) (show X.A.in1.handled=none from I.ok.hd hc) ⟨o,es,g1,g2,g3,g4,g5,g6⟩ (by lia) λh1 tk acc old hacc=>?_);have hi:IntsAre acc.toList ns:=by
   refine dQ (by rw [zT,hacc.1];lia) λj v hv=>?_
   obtain ⟨k,y,e1,e2⟩:=hacc.2 j v (by rw [<- zA];exact hv);have ek:(vs.map (·.1))[j]?=some k:=by rw [yp,e1];rfl
   rw [<- kv.keys,hk,yp] at ek;cases en:ns[j]? with
   | none=>rw [en] at ek;cases ek
   | some i =>
     rw [en] at ek;cases (show Sum.inl i=k from Option.some.inj ek);rw [bD] at e2;rcases wZ e2 with ⟨i',t,z1,z2⟩ | ⟨x,t,z1,z2⟩
     . cases z1;exact ⟨i,t,rfl,z2⟩
     . cases z1
 have lv:acc.toList.length<=sizeLine:=by rw [qi hi];lia
 refine zt (qh ?_ (by simpa using lv));have oL:(h1.push (seqObj "list" acc.toList.toArray 0)).get? h1.objs.size=some (seqObj "list" acc.toList.toArray 0):=yi _ rfl;show wpAny _ _ _ _ _ { s with heap:=h1.push (seqObj "list" acc.toList.toArray 0),toks:=tk };refine zt (xI (vR slot_list_sort ⟨_,oL,rfl⟩ entry_list_sort (Srt.sort_ints oL hi lv λout ns' g1 g2 g3=>⟨_,rfl,?_⟩) (args_list_sort _)));obtain ⟨e,he⟩:=sortedHeap_at (out:=out) oL;have I1:Inv X pins σ H { s with heap:=h1,toks:=tk }:=I.kept old;have lo2:(ns'.map V.int).length<=sizeLine:=by rw [zg,g2.length_eq];lia
 refine zi ⟨_,rfl,.ref h1.objs.size,_,I1.laid (t':=tk) (o:=.lst (ns'.map V.int)) (λb u e2=>?_) (zk _) ⟨lo2,out.toList,e,qD g1,by rw [Array.toArray_toList];exact he⟩,rfl,q _ ns' (I1.hok.fresh (zk _)) g2 g3⟩;have lb:b<h1.objs.size:=zW e2;rw [sortedHeap_old (zC lb) (by rw [size_push'];exact w4 lb)];exact zU _ e2
end L2
namespace L2
open PySem PySem.Spec PyProof.Rows
def del (H:Hp)(p:Addr):Hp:=λb=>if b=p then none else H b
theorem wo {p:Addr}:del H p p=none:=by unfold del;rw [if_pos rfl]
theorem yT {p b:Addr}(h:b≠p):del H p b=H b:=by unfold del;rw [if_neg h]
theorem wR {p b:Addr}{o:HO}(h:del H p b=some o):b≠p/\H b=some o:=by
 have n:b≠p:=λz=>by rw [z,wo] at h;cases h
 rw [yT n] at h;exact ⟨n,h⟩
theorem pC {p b:Addr}(h:H b=none):del H p b=none:=by
 by_cases n:b=p;{rw [n];exact wo};{rw [yT n];exact h}
section
variable {p:Addr}
theorem Inv.aside (I:Inv X pins σ H s)(hp:H p=some (.lst xs)):Inv X pins σ (del H p) s:=by
 have np:∀ b o,H b=some o->(∀ ys,o≠.lst ys)->del H p b=some o:=λb o e n=>by
   rw [yT λz=>by rw [z,hp] at e;cases e;exact n _ rfl];exact e
 refine ⟨I.ok,I.os,I.bare,⟨I.base.keep,I.base.slot,λb o e n x=>pC (I.base.free b o e n x),I.base.there,λb ys e=>np b _ (I.base.tups b ys e) (λ_ z=>by cases z),λb o u e=>np b _ (I.base.frzs b o u e) (λ_ z=>by cases z),λb ps e=>?_⟩,I.loc,I.cell,pC I.free,λx c h=>pC (I.freeC x c h),λq hq=>?_,λa o e=>?_,I.len⟩;{obtain ⟨more,e⟩:=I.base.tbls b ps e;exact ⟨more,np b _ e λ_ z=>by cases z⟩};{obtain ⟨e1,e2,r⟩:=I.pin q hq;exact ⟨e1,pC e2,r⟩};{obtain ⟨_,e⟩:=wR e;exact (I.hok a o e).stay (λ_ _ _ q=>q) (λb q=>np b _ q λ_ z=>by cases z) λb ys q=>np b _ q λ_ z=>by cases z}
theorem Inv.back {s':Shared}(I0:Inv X pins σ H s)(hp:H p=some (.lst xs))(I:Inv X pins σ H' s')(hn:H' p=none)(ok:ObjOk X.prog X.w H s.heap p (.lst xs))(keep:∀ o,s.heap.get? p=some o->s'.heap.get? p=some o):Inv X pins σ (upd H' p (.lst xs)) s':=by
 have np:∀ b o,H' b=some o->upd H' p (.lst xs) b=some o:=λb o e=>by rw [zr (zI e hn)];exact e
 refine ⟨I.ok,I.os,I.bare,⟨I.base.keep,I.base.slot,λb o e n x=>?_,I.base.there,λb ys e=>np b _ (I.base.tups b ys e),λb o u e=>np b _ (I.base.frzs b o u e),λb ps e=>?_⟩,I.loc,I.cell,?_,λx c h=>?_,λq hq=>?_,λa o e=>?_,I.len⟩;{rw [zr λz=>by have:=I0.base.free b o e n x;rw [z,hp] at this;cases this];exact I.base.free b o e n x};{obtain ⟨more,e⟩:=I.base.tbls b ps e;exact ⟨more,np b _ e⟩};{rw [zr λz=>by have:=I0.free;rw [z,hp] at this;cases this];exact I.free};{rw [zr λz=>by have:=I0.freeC x c h;rw [z,hp] at this;cases this];exact I.freeC x c h};{obtain ⟨e1,e2,r⟩:=I.pin q hq;refine ⟨e1,?_,r⟩;rw [zr λz=>by have:=(I0.pin q hq).2.1;rw [z,hp] at this;cases this];exact e2}
 . by_cases z:a=p
   . subst z;rw [zq] at e;cases e;obtain ⟨z1,its,n,r,e⟩:=ok;exact ⟨z1,its,n,r,keep _ e⟩
   . rw [zr z] at e;exact (I.hok a o e).stay (λ_ _ _ q=>q) (λb q=>np b _ q) λb ys q=>np b _ q
end
def tMeA (P:Program)(w:World)(K:zj)(mg:Str->Option Value)(base:Heap)(k0:Nat)(m:Str)(ta:TE)(t:TA):TE:=λσ H Q=>ta σ H λx H1=>∃ a C dx fs ps sp,x=.ref a/\H1 a=some (.ins C dx fs)/\fs.lookup m=none /\
 MethAt P w K mg base C m ps k0 sp/\t σ H1 λvs H2=>∃ p xs,H2 p=some (.lst xs)/\sp (x::vs) (del H2 p) (λv H3=>H3 p=none->Q v (upd H3 p (.lst xs))) E0
section
variable {o e:Expr}{es:List Expr}{m:Str}{ta:TE}{apos pos:Pos}
theorem pe_meA (k0:Nat){pl:Sem Bool}(hr:Room k0 X.A)(he:PE X o ta)(ha:PA X (e::es) t)(hP:X.prog=P:=by rfl)(hw:X.w=w:=by rfl)(hK:X.K=K:=by rfl)(hmg:X.mg=mg:=by rfl)(hbs:X.base=base:=by rfl)
   (hst:starEach (e::es) X.env=(false,eval e X.env)::starEach es X.env:=by rfl) (hpl:(backTo pos (starEach es X.env)).any (·.1)=false:=by rfl)
   (ht:eval (.Call (.Attribute o m apos) (e::es) [] pos) X.env=(do
     let ov <- eval o X.env
     standAt apos.atName
     let (f,first) <- holding [ov] (getMethod ov m pl)
     callWith pos f first (backTo pos (starEach (e::es) X.env)) (backToKw pos (keywordEach [] X.env))):=by rfl) :
   PE X (.Call (.Attribute o m apos) (e::es) [] pos) (tMeA P w K mg base k0 m ta t):=by
 subst hP hw hK hmg hbs;intro pins s σ H Q I h;refine nQ (pl:=pl) (thn (he pins s σ H _ I h) λu s1 hq=>?_) ht;obtain ⟨x,H1,I1,rx,a,C,dx,fs,ps,sp,ex,ea,l,M,q⟩:=hq;subst ex;obtain rfl:u=Value.ref a:=rx;obtain ⟨c,f,fd,hm,F,hb⟩:=M;refine lQ I1 ea c hm l ?_;refine uM (first:=[.ref a]) (h₀:=X.base) I.ok.mod.kin hm.kp (thn (ha pos pins s1 σ H1 _ I1 q) λus s2 hq=>?_) hst hpl;obtain ⟨vs,H2,I2,r,p,xs,hp,q2⟩:=hq;refine ⟨I2.kIn,?_⟩;have J:=I2.aside hp;have r2:Vals (V.ref a::vs) (Value.ref a::us):=.cons rfl r;have hl:(Value.ref a::us).length=ps.length:=by rw [<- r2.length];exact F.len _ _ _ _ q2
 have hb2:=hb s2 (Value.ref a::us) I2.kIn (by simpa using hl);rw [yx] at hb2;refine uG (vo (F.run X.A X.stack s2 (del H2 p) ⟨Value.ref a::us,[]⟩ (Value.ref a::us) (V.ref a::vs) _ _ hr J.env0 hb2 r2 q2) λr s' hq=>?_);cases r with
 | error e=>exact False.elim hq
 | ok fl =>
   cases fl with
   | ret u =>
     obtain ⟨v,H3,os,bare,un,hok,rv,q3⟩:=hq;have I3:=J.call' os un hok bare (λb hb=>(nomatch hb));obtain ⟨o,ho⟩:∃ o,s2.heap.get? p=some o:=let ⟨_,_,_,_,e⟩:=I2.hok p _ hp;⟨_,e⟩
     have hn:H3 p=none:=un.free p o ho wo (λz=>(nomatch z));refine ⟨v,_,I2.back hp I3 hn (I2.hok p _ hp) (λo' e'=>un.keep p o' e' wo (λhm=>?_) (λz=>(nomatch z))),rv,q3 hn⟩;have:=I2.stkFree p hm;rw [hp] at this;cases this
   | next=>exact False.elim hq
   | brk=>exact False.elim hq
   | cont=>exact False.elim hq
end
end L2
namespace BM
structure Ent where
 key:Nat
 ps:List Nat
 loc:Nat
def kys (es:List Ent):List Nat:=es.map (·.key)
def tot:List Ent->Nat
 | []=>0
 | e::r=>e.ps.length+tot r
def ahs:Nat->List Ent->List Nat
 | _,[]=>[]
 | a,e::r=>a::ahs (a+e.ps.length) r
def flat:List Ent->List Nat
 | []=>[]
 | e::r=>e.ps.map (λp=>256*e.key+p)++flat r
structure EsOk (es:List Ent):Prop where
 up:Up 0 (kys es)
 klt:∀ e∈es,e.key<256
 pup:∀ e∈es,Up 0 e.ps
 plt:∀ e∈es,∀ p∈e.ps,p<256
 ne:∀ e∈es,e.ps≠[]
def loE (k:Nat)(es:List Ent):List Ent:=es.filter λe=>decide (e.key<k)
def miE (k:Nat)(es:List Ent):List Ent:=es.filter λe=>decide (e.key=k)
def hiE (k:Nat)(es:List Ent):List Ent:=es.filter λe=>decide (k<e.key)
def plcE (k:Nat)(es:List Ent):List Nat:=match miE k es with
 | []=>[]
 | e::_=>e.ps
def keepE (k:Nat)(ps:List Nat)(a:Nat)(es:List Ent):List Ent:=loE k es++(if ps=[] then [] else [⟨k,ps,a⟩])++hiE k es
theorem above {k:Nat}{es:List Ent}(h:∀ e∈es,k<e.key):loE k es=[]/\miE k es=[]/\hiE k es=es:=by
 refine ⟨vO.mpr λe he=>?_,vO.mpr λe he=>?_,uB.mpr λe he=>?_⟩;{have:=h e he;simp;lia};{have:=h e he;simp;lia};{exact zJ (h e he)}
theorem dP {a:Nat}{es:List Ent}(h:Up a (kys es)):∀ e∈es,a<=e.key:=λe he=>h.of_lt _ (zR.mpr ⟨e,he,rfl⟩)
theorem split:∀ {a:Nat} {es:List Ent} (k:Nat),Up a (kys es)->es=loE k es++miE k es++hiE k es
 | _,[],_,_=>rfl
 | a,e::r,k,h=>by
   obtain ⟨h1,h2⟩:a<=e.key/\Up (e.key+1) (kys r):=h;have ab:=dP h2;rcases qU e.key k with c | c | c
   . have ih:=split k h2;have e1:loE k (e::r)=e::loE k r:=qd (zJ c);have e2:miE k (e::r)=miE k r:=ur (by simp;lia);have e3:hiE k (e::r)=hiE k r:=ur (by simp;lia);rw [e1,e2,e3,vn,vn,<- ih]
   . obtain ⟨a1,a2,a3⟩:=above (k:=k) (es:=r) λx hx=>by have:=ab x hx;lia
     have e1:loE k (e::r)=loE k r:=ur (by simp;lia);have e2:miE k (e::r)=e::miE k r:=qd (zJ c);have e3:hiE k (e::r)=hiE k r:=ur (by simp;lia);rw [e1,e2,e3,a1,a2,a3];rfl
   . obtain ⟨a1,a2,a3⟩:=above (k:=k) (es:=r) λx hx=>by have:=ab x hx;lia
     have e1:loE k (e::r)=loE k r:=ur (by simp;lia);have e2:miE k (e::r)=miE k r:=ur (by simp;lia);have e3:hiE k (e::r)=e::hiE k r:=qd (zJ c);rw [e1,e2,e3,a1,a2,a3];rfl
theorem wm:∀ {a:Nat} {es:List Ent} (k:Nat),Up a (kys es)->miE k es=[]\/∃ e,miE k es=[e]/\e.key=k/\e∈es
 | _,[],_,_=>.inl rfl
 | a,e::r,k,h=>by
   obtain ⟨h1,h2⟩:a<=e.key/\Up (e.key+1) (kys r):=h;by_cases c:e.key=k
   . obtain ⟨a1,a2,a3⟩:=above (k:=k) (es:=r) λx hx=>by have:=dP h2 x hx;lia
     have e2:miE k (e::r)=e::miE k r:=qd (zJ c);exact .inr ⟨e,by rw [e2,a2],c,.head _⟩
   . have e2:miE k (e::r)=miE k r:=ur (by simp;lia);rw [e2];rcases wm k h2 with z | ⟨x,z1,z2,z3⟩
     . exact .inl z
     . exact .inr ⟨x,z1,z2,.tail _ z3⟩
theorem pB {k:Nat}{es:List Ent}{e:Ent}(h:e∈loE k es):e∈es/\e.key<k:=⟨(yv.mp h).1,vJ (yv.mp h).2⟩
theorem pA {k:Nat}{es:List Ent}{e:Ent}(h:e∈hiE k es):e∈es/\k<e.key:=⟨(yv.mp h).1,vJ (yv.mp h).2⟩
theorem Up.append {b:Nat}:∀ {a:Nat} {xs ys:List Nat},Up a xs->(∀ x∈xs,x<b)->Up b ys->a<=b->Up a (xs++ys)
 | _,[],_,_,_,h,l=>h.mono l
 | a,x::xs,ys,h,hb,h2,_=>by
   obtain ⟨h1,h3⟩:a<=x/\Up (x+1) xs:=h;exact ⟨h1,h3.append (λy hy=>hb y (.tail _ hy)) h2 (hb x (.head _))⟩
theorem dO (p:Nat->Bool)(es:List Ent):kys (es.filter λe=>p e.key)=(kys es).filter p:=by unfold kys;rw [tq];rfl
theorem u7:∀ x y:List Ent,tot (x++y)=tot x+tot y
 | [],y=>by show tot y=0+tot y;lia
 | e::r,y=>by
   show e.ps.length+tot (r++y)=e.ps.length+tot r+tot y;rw [u7 r y];lia
theorem rF:∀ (a:Nat) (x y:List Ent),ahs a (x++y)=ahs a x++ahs (a+tot x) y
 | _,[],_=>rfl
 | a,e::r,y=>by
   show a::ahs (a+e.ps.length) (r++y)=a::(ahs (a+e.ps.length) r++ahs (a+(e.ps.length+tot r)) y);rw [rF,wF]
theorem u6:∀ (a:Nat) (es:List Ent),(ahs a es).length=es.length
 | _,[]=>rfl
 | a,e::r=>congrArg (·+1) (u6 (a+e.ps.length) r)
theorem dN:∀ (a:Nat) (es:List Ent) (i:Nat),i<es.length->(ahs a es)[i]?=some (a+tot (es.take i))
 | _,[],_,h=>by cases h
 | a,e::r,0,_=>rfl
 | a,e::r,i+1,h=>by
   show (ahs (a+e.ps.length) r)[i]?=some (a+(e.ps.length+tot (r.take i)));rw [dN (a+e.ps.length) r i (Nat.lt_of_succ_lt_succ h),wF]
theorem dM (m:Int):∀ (a b:Nat) (es:List Ent),(b:Int)=a+m->(ahs a es).map (λ(x:Nat)=>(x:Int)+m)=(ahs b es).map (λ(x:Nat)=>(x:Int))
 | _,_,[],_=>rfl
 | a,b,e::r,h=>by
   show ((a:Int)+m)::(ahs (a+e.ps.length) r).map _=(b:Int)::(ahs (b+e.ps.length) r).map _;rw [dM m (a+e.ps.length) (b+e.ps.length) r (by lia),h]
theorem rE {n:Nat}:∀ {es:List Ent},(∀ e∈es,∀ p∈e.ps,p<256)->(n∈flat es↔∃ e∈es,e.key=n/256/\n%256∈e.ps)
 | [],_=>by
   constructor;{intro h;cases h}
   . rintro ⟨_,h,_⟩;cases h
 | e :: r,h=>by
   show n∈e.ps.map _++flat r↔_;rw [zY,rE (λx hx=>h x (.tail _ hx))];constructor
   . rintro (z | ⟨x,x1,x2⟩)
     . obtain ⟨p,hp,rfl⟩:=zR.mp z;have:=h e (.head _) p hp;exact ⟨e,.head _,by lia,by rw [show (256*e.key+p)%256=p by lia];exact hp⟩
     . exact ⟨x,.tail _ x1,x2⟩
   . rintro ⟨x,x1,x2,x3⟩;rcases zQ.mp x1 with rfl | x1
     . exact .inl (zR.mpr ⟨_,x3,by lia⟩)
     . exact .inr ⟨x,x1,x2,x3⟩
theorem wQ {n:Nat}{es:List Ent}(h:EsOk es):n∈flat es↔n%256∈plcE (n/256) es:=by
 rw [rE h.plt];rcases wm (n/256) h.up with z | ⟨e,z1,z2,z3⟩
 . have:plcE (n/256) es=[]:=by unfold plcE;rw [z]
   rw [this];constructor;{rintro ⟨x,x1,x2,x3⟩;have:x∈miE (n/256) es:=yv.mpr ⟨x1,zJ x2⟩;rw [z] at this;cases this};{intro x;cases x}
 . have:plcE (n/256) es=e.ps:=by unfold plcE;rw [z1]
   rw [this];constructor;{rintro ⟨x,x1,x2,x3⟩;have:x∈miE (n/256) es:=yv.mpr ⟨x1,zJ x2⟩;rw [z1] at this;cases zS.mp this;exact x3};{intro x;exact ⟨e,z3,z2,x⟩}
theorem dJ {k:Nat}:∀ {a:Nat} {ps:List Nat},Up a ps->Up (256*k+a) (ps.map λp=>256*k+p)
 | _,[],_=>trivial
 | a,p::r,h=>by
   obtain ⟨h1,h2⟩:a<=p/\Up (p+1) r:=h;exact ⟨by show 256*k+a<=256*k+p;lia,dJ h2⟩
theorem dI:∀ {a:Nat} {es:List Ent},Up a (kys es)->(∀ e∈es,Up 0 e.ps)->(∀ e∈es,∀ p∈e.ps,p<256)->Up (256*a) (flat es)
 | _,[],_,_,_=>trivial
 | a,e::r,h,h2,h3=>by
   obtain ⟨g1,g2⟩:a<=e.key/\Up (e.key+1) (kys r):=h;have u1:=(dJ (k:=e.key) (h2 e (.head _))).mono (a:=256*a) (by lia);refine u1.append (b:=256*(e.key+1)) (λx hx=>?_) (dI g2 (λx hx=>h2 x (.tail _ hx)) λx hx=>h3 x (.tail _ hx)) (by lia);obtain ⟨p,hp,rfl⟩:=zR.mp hx;have:=h3 e (.head _) p hp;lia
theorem EsOk.flat_up {es:List Ent}(h:EsOk es):Up 0 (flat es):=dI h.up h.pup h.plt
theorem lo_up {k:Nat}{es:List Ent}(h:Up 0 (kys es)):Up 0 (kys (loE k es)):=by have:=dO (λx=>decide (x<k)) es;show Up 0 (kys (es.filter λe=>decide (e.key<k)));rw [this];exact h.filter
theorem hi_up {k:Nat}{es:List Ent}(h:Up 0 (kys es)):Up (k+1) (kys (hiE k es)):=by have:=dO (λx=>decide (k<x)) es;show Up (k+1) (kys (es.filter λe=>decide (k<e.key)));rw [this];exact up_from h.filter λp hp=>vJ (yv.mp hp).2
theorem rD {k:Nat} {a:Nat} {es:List Ent} {e:Ent} (h:e∈keepE k ps a es):(e∈es/\e.key≠k)\/(ps≠[]/\e=⟨k,ps,a⟩):=by
 unfold keepE at h;rcases zY.mp h with h | h
 . rcases zY.mp h with h | h
   . exact .inl ⟨(pB h).1,zC (pB h).2⟩
   . split at h
     . cases h
     . rename_i n
       exact .inr ⟨n,zS.mp h⟩
 . exact .inl ⟨(pA h).1,wC (pA h).2⟩
theorem EsOk.keep {k:Nat}{a:Nat}{es:List Ent}(h:EsOk es)(hk:k<256)(hu:Up 0 ps)(hl:∀ p∈ps,p<256):EsOk (keepE k ps a es):=by
 refine ⟨?_,λe he=>?_,λe he=>?_,λe he=>?_,λe he=>?_⟩
 . unfold keepE kys;rw [zD,zD,zX];refine Up.append (b:=k) (lo_up h.up) (λx hx=>?_) ?_ (zV _)
   . obtain ⟨e,he,rfl⟩:=zR.mp hx;exact (pB he).2
   . have:=hi_up (k:=k) h.up;split
     . exact this.mono (wa _)
     . exact ⟨zk _,this⟩
 . rcases rD he with ⟨z,_⟩ | ⟨_,rfl⟩
   . exact h.klt e z
   . exact hk
 . rcases rD he with ⟨z,_⟩ | ⟨_,rfl⟩
   . exact h.pup e z
   . exact hu
 . rcases rD he with ⟨z,_⟩ | ⟨_,rfl⟩
   . exact h.plt e z
   . exact hl
 . rcases rD he with ⟨z,_⟩ | ⟨z,rfl⟩
   . exact h.ne e z
   . exact z
theorem mi_keep {k j:Nat}{a:Nat}{es:List Ent}:miE j (keepE k ps a es)=if j=k then (if ps=[] then [] else [⟨k,ps,a⟩]) else miE j es:=by
 unfold keepE miE;rw [uo,uo];by_cases c:j=k
 . subst c;rw [if_pos rfl];have l1:(loE j es).filter (λe=>decide (e.key=j))=[]:=vO.mpr λe he=>by have:=(pB he).2;simp;lia
   have l2:(hiE j es).filter (λe=>decide (e.key=j))=[]:=vO.mpr λe he=>by have:=(pA he).2;simp;lia
   rw [l1,l2];split<;>simp
 . rw [if_neg c];have l3:(if ps=[] then [] else [(⟨k,ps,a⟩:Ent)]).filter (λe=>decide (e.key=j))=[]:=by
     split;{rfl};{simp;lia}
   rw [l3,yx];unfold loE hiE;rw [List.filter_filter,List.filter_filter];rcases Nat.lt_or_gt_of_ne c with d | d
   . rw [show (es.filter λe=>decide (e.key=j)&&decide (k<e.key))=[] from vO.mpr λe he=>by simp;lia,yx];exact um λe he=>by by_cases z:e.key=j<;>simp [z,d]
   . rw [show (es.filter λe=>decide (e.key=j)&&decide (e.key<k))=[] from vO.mpr λe he=>by simp;lia,yY];exact um λe he=>by by_cases z:e.key=j<;>simp [z];lia
theorem o9 {k j:Nat}{a:Nat}{es:List Ent}:plcE j (keepE k ps a es)=if j=k then ps else plcE j es:=by
 unfold plcE;rw [mi_keep];by_cases c:j=k
 . rw [if_pos c,if_pos c];by_cases n:ps=[]
   . rw [if_pos n,n]
   . rw [if_neg n]
 . rw [if_neg c,if_neg c]
end BM
namespace L2
open PySem PySem.Spec PyProof.Rows
structure Cov (l:List Env)(h:Heap)(H:Hp)(B:Heap):Prop where
 old:∀ b o,h.get? b=some o->b∉frs l->∃ u,B.get? b=some u
 trk:∀ b u,H b=some u->∃ o,B.get? b=some o
section
variable {f:Addr}{cd:Value}{s0:Shared}{H0:Hp}{E:XK}
end
section
variable {f:Addr}{cd:Value}{s0:Shared}{H0:Hp}{E:XK}
end
def XP (X:Cx)(pins:List (Addr × Obj))(σ:St)(W:Addr->Hp->Prop)(e:Value)(s':Shared):Prop:=∃ (ea C:Addr) (a0:Value) (B:Heap) (H':Hp),
 e=.ref ea/\Inv X pins σ H' s'/\Heap.FlyingW B X.stack ea (.ref C) a0 s'.heap/\Cov X.stack X.s₀.heap H' B/\(∀ p∈X.pn++pins,∃ o,B.get? p.1=some o)/\W C H'
abbrev TX:=(Addr->St->Hp->Prop)->TS
section
variable {sts rest:List Stmt}{t u:TX}{pos:Pos}
end
def tDSet (td ty tx:TE):TE:=λσ H Q=>td σ H λx H1=>∃ a,x=.ref a/\IsD H1 a/\ty σ H1 λy H2=>tx σ H2 λz H3=>∃ kvs k,H3 a=some (.dK kvs)/\y=kV k/\kvs.length<sizeLine /\
 (∀ v,valV kvs k=some v->Q v H3)/\(valV kvs k=none->Q z (upd H3 a (.dK (putK kvs k z))))
section
variable {o e f:Expr}{apos cpos:Pos}{td ty tx:TE}
theorem d_setDef {a:Addr}{k:Key}{r:Value}{z:V}(I:Inv X pins σ H s)(e:H a=some (.dK kvs))(ry:RelV (kV k) u)(rz:RelV z r)(hl:kvs.length<sizeLine)
   (h1:∀ v w' s',valV kvs k=some v->Inv X pins σ H s'->RelV v w'->Q w' s') (h2:valV kvs k=none->∀ s',Inv X pins σ (upd H a (.dK (putK kvs k z))) s'->Q r s') :
   wpAny (model X.prog X.w) A (call (.builtin "dict.setdefault") [.ref a,u,r]) Q E s:=by
 obtain ⟨zz,hd,vs,rel,dd⟩:=dk_of I.hok e;refine qg iZ dd.typeIs PySem.F.entry_dict_setdefault (PySem.F.args_dict_setdefault_3 _ _ _) (kt_meets_setdefault (mixKind X.prog X.w) a (rX ry) hd r) ⟨vs,dd,by rw [<- rel.length];exact zz,λv hv=>?_,λhn h' dd' hs=>?_⟩
 . have:=rel.val k;rw [hv] at this;cases l:valV kvs k with
   | none=>rw [l] at this;exact absurd this (by intro q;cases q)
   | some v' =>
     rw [l] at this;exact h1 v' v _ l (I.tok _) this
 . have l:valV kvs k=none:=by
     have:=rel.val k;rw [hn] at this;cases l:valV kvs k with
     | none=>rfl
     | some v'=>rw [l] at this;exact absurd this (by intro q;cases q)
   refine h2 l _ ?_;have he:∃ q,h'.get? a=some q:=let ⟨q,_,_,hq,_⟩:=dd';⟨q,hq⟩
   exact lN I (by rw [e];exact True.intro) hs he (dk_new (by have:=lO kvs k z;lia) hd (rel.put k rz) dd')
theorem pe_dset (ho:PE X o td)(he:PE X e ty)(hf:PE X f tx)(m:M2 X o "setdefault" apos e f cpos):PE X (.Call (.Attribute o "setdefault" apos) [e,f] [] cpos) (tDSet td ty tx):=by intro pins s σ H Q I h;refine wpAny_Call_method m.base m.few m.line nY iZ PySem.F.type_dict_setdefault (thn (ho pins s σ H _ I h) λu s1 hq=>?_);obtain ⟨x,H1,I1,rx,a,ex,d,q1⟩:=hq;subst ex;obtain rfl:u=Value.ref a:=rx;obtain ⟨t1,t2,_⟩:=lM I1 d;refine ⟨t1,t2,?_⟩;rw [m.trees];refine su rfl (nO (vp (thn (he pins s1 σ H1 _ I1 q1) λiv s2 hq=>?_)));obtain ⟨y,H2,I2,ry,q2⟩:=hq;refine vp (thn (hf pins s2 σ H2 _ I2 q2) λfv s3 hq=>uJ ?_);obtain ⟨z,H3,I3,rz,kvs,k,ea,ey,hl,q3,q4⟩:=hq;subst ey;exact d_setDef I3 ea ry rz hl (λv w' s4 l I4 rw'=>⟨v,H3,I4,rw',q3 v l⟩) λl s4 I4=>⟨z,_,I4,rz,q4 l⟩
end
def PrOf (H:Hp)(us:List V)(ps:List (V × V)):Prop:=Paired (λv p=>∃ t:Addr,v=.ref t/\H t=some (.tup [p.1,p.2])) us ps
def lay (L:List (Addr × HO))(H:Hp):Hp:=λb=>match L.lookup b with
 | some o=>some o
 | none=>H b
def tLZip (K:zj)(ta:TA):TE:=λσ H Q=>ta σ H λvs H1=>∃ a b xs ys,vs=[.ref a,.ref b]/\SqL K H1 a xs/\SqL K H1 b ys/\xs.length=ys.length/\∀ (p:Addr) (us:List V) (H2:Hp),Same H1 H2->H1 p=none->H2 p=some (.lst us)->PrOf H2 us (xs.zip ys)->(∀ t,V.ref t∈us->H1 t=none)->Q (.ref p) H2
section
variable {a b:Expr}{ta:TA}{p p' pos:Pos}
end
theorem ZK:bootBuiltins "sum"=some (.builtin "sum"):=by decide +kernel
def rSum (K:zj):List V->Hp->VK->Prop:=λxs H Q=>∃ (p:Addr) (ns:List Int),xs=[.ref p]/\SqL K H p (ns.map V.int)/\Q (.int ns.sum) H
theorem dH (ns:List Int):∀ j,j<=ns.length->preSum (λi=>ns.getD i 0) j=(ns.take j).sum
 | 0,_=>rfl
 | j+1,h=>by
   have hj:j<ns.length:=by lia
   show preSum _ j+ns.getD j 0=_;rw [dH ns j (by lia),yG,zO hj,mF,xy,zO hj];simp
theorem ZJ (K:zj)(hK:X.K=K:=by rfl)(hc:X.calm=true:=by rfl):CallR X (.builtin "sum") (rSum K):=by
 subst hK;intro pins s σ H xs us Q I r h;obtain ⟨p,ns,rfl,hS,q⟩:=h;obtain ⟨u,rfl,ru⟩:=r.one;cases (show u=Value.ref p from ru);obtain ⟨its,vi,pl,hz⟩:=I.list hS;have ne:p≠s.heap.objs.size:=by obtain ⟨o,e,_⟩:=pl.isList;exact zC (zW e)
 have hl:its.length=ns.length:=by have:=vi.length;rw [zg] at this;exact this.symm
 have hb:∀ (i:Nat) (v:Value),its.toArray[i]?=some v->∃ t,v=.int (ns.getD i 0) t:=λi v e=>by
   have e2:its[i]?=some v:=by simpa using e
   have hi:i<ns.length:=by have:=(xT.mp e2).1;lia
   obtain ⟨u,hu,ru⟩:=vi.get (i:=i) (x:=.int (ns.getD i 0)) (by rw [yp,zO hi,xy,zO hi];rfl);rw [hu] at e2;cases e2;exact ru
 refine call_sum_walkG (nK pl.isList ?_);refine ⟨s.heap.objs.size,_,_,_,_,_,λi=>ns.getD i 0,rfl,Walks.list (A:=X.A.in1) (show X.A.in1.handled=none from I.ok.hd hc) s.heap.objs.size p ne its.toArray,⟨⟨_,yi _ rfl,rfl,rfl⟩,pl.isList.push _⟩,λb hb=>?_,hb,λh' tk t' hk=>?_⟩
 . obtain ⟨o,e,_⟩:=pl.isList;have lp:=zW e;have:b=s.heap.objs.size\/b=p:=by simpa using hb
   show b<(s.heap.push _).objs.size;rw [size_push'];rcases this with rfl | rfl
   . exact wb _
   . exact w4 lp
 . have e:preSum (λi=>ns.getD i 0) its.toArray.size=ns.sum:=by
     rw [yn,hl,dH ns _ (zk _),uh]
   rw [e];refine ⟨.int ns.sum,H,?_,⟨t',rfl⟩,q⟩;exact I.kept (t':=tk) λb o q2=>hk b o (by
     intro z;have:b=s.heap.objs.size:=by simpa using z
     exact absurd (zW q2) (by rw [this];exact xh _)) (zU _ q2)
theorem ZI {n:Nat}:gOwn 2 (gTup K n (gCons (gName 0) (gCons (gName 1) gNil))):=by intro v σ H Q h;simp only [gTup,gCons,gName,gNil] at h ⊢;obtain ⟨a,xs,e1,e2,e3,u,r,e4,u1,r1,e5,e6,q⟩:=h;exact ⟨a,xs,e1,e2,e3,u,r,e4,u1,r1,e5,e6,⟨by simp,by rcases σ with _ | ⟨_,_ | ⟨_,_⟩⟩<;>simp⟩,q⟩
section
variable {R:Result->Shared->Prop}{I S:Addr}{wr:List Addr}{n:Nat}{P:Nat->Value->Prop}{St:Nat->Heap->Prop}
end
section
variable {x:Str}{p pos:Pos}{e:Expr}{es:List Expr}{kws:List Keyword}{ks:List Str}{tk:TA}{id:String}{r:List V->List V->Hp->VK->Prop}
def tCBK (r:List V->List V->Hp->VK->Prop)(t tk:TA):TE:=λσ H Q=>t σ H λvs H1=>tk σ H1 λzs H2=>r vs zs H2 Q
def rMaxD (K:zj):List V->List V->Hp->VK->Prop:=λxs zs H Q=>∃ (p:Addr) (ns:List Int) (d:Int),xs=[.ref p]/\zs=[.int d]/\SqL K H p (ns.map V.int)/\Q (.int (ns.max?.getD d)) H
end
section
variable {x:Str}{p pos:Pos}
end
def New (H H':Hp):Hp:=λa=>match H a with | none=>H' a | some _=>none
theorem New.of {a:Addr}{o:HO}(h:H a=none)(e:H' a=some o):New H H' a=some o:=by unfold New;rw [h];exact e
theorem New.some {H H':Hp}{a:Addr}{o:HO}(h:New H H' a=some o):H a=none/\H' a=some o:=by
 unfold New at h;split at h
 . rename_i e
   exact ⟨e,h⟩
 . cases h
section
variable {a:Addr}{m:Nat}{Q:VK}
theorem compA (Rl:Nat->V->Hp->Prop)(mono:∀ i y H H',Same H H'->Rl i y H->Rl i y H')(hS:SqL K H1 a xs)(hn:xs.length<=1000000)
   (he:∀ i x H2 (R:VK),xs[i]?=some x->Same H1 H2->(∀ y H3,Same H2 H3->Rl i y (New H2 H3)->R y H3)->te ((capSt m caps σ).set 0 (some x)) H2 R)
   (hq:∀ D ys H2,H1 D=none->Same H1 H2->H2 D=some (.lst ys)->ys.length=xs.length->(∀ j y,ys[j]?=some y->Rl j y (del (New H1 H2) D))->Q (.ref D) H2):CompJ (Itl K a) m caps (gName 0) tNoTest te σ H1 Q:=by
 refine compG (n:=xs.length) (λD i ys H2=>i<=xs.length/\Same H1 H2/\H2 D=some (.lst ys)/\ys.length=i/\∀ j y,ys[j]?=some y->Rl j y (del (New H1 H2) D)) (λD hD=>⟨zV _,Same.new hD,zq,rfl,λj y h=>by cases h⟩) (λD i ys H2 h=>h.1)
   (λD ys H2 hD h=>⟨xs,h.2.1.seq hS,zk _⟩) (λD i ys H2 hD hi h=>⟨xs,_,h.2.1.seq hS,zO hi⟩) ?_ (λD ys H2 hD h=>hq D ys H2 hD h.2.1 h.2.2.1 h.2.2.2.1 h.2.2.2.2)
 rintro D i ys H2 x H3 hD hi ⟨_,s2,h2,rfl,h3⟩ ⟨rfl,y⟩;have hx:=y xs (s2.seq hS);rw [gName,tNoTest];rw [if_pos rfl];refine he _ x H3 _ hx s2 λz H4 s4 rz=>compYes hn hi (zk _) (s4 _ _ h2) ⟨hi,(s2.trans s4).put hD,zq,by rw [zh];rfl,λj y hj=>?_⟩
 by_cases hl:j<ys.length;{rw [xA hl] at hj;refine mono _ _ _ _ (λb o hb=>?_) (h3 j y hj);obtain ⟨n1,e1⟩:=wR hb;obtain ⟨e1,e2⟩:=New.some e1;rw [yT n1];refine New.of e1 ?_;rw [zr n1];exact s4 _ _ e2}
 . rw [yq (by lia)] at hj;have e0:j-ys.length=0:=by
     have:=(xT.mp hj).1;simp at this;lia
   rw [e0] at hj;cases hj;have e1:j=ys.length:=by lia
   subst e1;refine mono _ _ _ _ (λb o hb=>?_) rz;obtain ⟨e1,e2⟩:=New.some hb;have n1:b≠D:=λz=>by rw [z,h2] at e1;cases e1
   rw [yT n1];refine New.of ?_ ?_
   . cases e:H1 b with
     | none=>rfl
     | some o=>rw [s2 _ _ e] at e1;cases e1
   . rw [zr n1];exact e2
end
section
variable {p:Addr}{o:Obj}
theorem Inv.swap {u u':HO}(I:Inv X pins σ H s)(hp:H p=some u)(ok:ObjOk X.prog X.w H s.heap p u')(n1:∀ xs,u≠.tup xs)(n2:∀ x,u≠.own x)(n3:∀ ps,u≠.tbl ps)(nf:∀ o v,X.H₀ p≠some (.frz o v)):Inv X pins σ (upd H p u') s:=by
 have np:∀ b o,H b=some o->o≠u->upd H p u' b=some o:=λb o e n=>by
   rw [zr λz=>by rw [z,hp] at e;cases e;exact n rfl];exact e
 have nn:∀ b,H b=none->upd H p u' b=none:=λb e=>by
   rw [zr λz=>by rw [z,hp] at e;cases e];exact e
 refine ⟨I.ok,I.os,I.bare,⟨I.base.keep,I.base.slot,λb o e n x=>nn b (I.base.free b o e n x),I.base.there,λb ys e=>np b _ (I.base.tups b ys e) (n1 _).symm,λb o v e=>?_,λb ps e=>?_⟩,I.loc,I.cell,nn _ I.free,λx c h=>nn _ (I.freeC x c h),λq hq=>?_,λa o e=>?_,I.len⟩;{have z:=I.base.frzs b o v e;rw [zr λz=>by rw [z] at e;exact nf _ _ e];exact z};{obtain ⟨more,e⟩:=I.base.tbls b ps e;exact ⟨more,np b _ e (n3 _).symm⟩};{obtain ⟨e1,e2,r⟩:=I.pin q hq;exact ⟨e1,nn _ e2,r⟩}
 . by_cases z:a=p
   . subst z;rw [zq] at e;cases e;exact ok.stay (λ_ _ _ q=>q) (λb q=>np b _ q (n2 _).symm) λb ys q=>np b _ q (n1 _).symm
   . rw [zr z] at e;exact (I.hok a o e).stay (λ_ _ _ q=>q) (λb q=>np b _ q (n2 _).symm) λb ys q=>np b _ q (n1 _).symm
theorem Inv.nofrz (I:Inv X pins σ H s)(hp:H p=some (.dK kvs)):∀ o v,X.H₀ p≠some (.frz o v):=λo v e=>by
 have:=I.base.frzs p o v e;rw [hp] at this;cases this
theorem Inv.freeze (I:Inv X pins σ H s)(hp:H p=some (.dK kvs))(ho:s.heap.get? p=some o):Inv X pins σ (upd H p (.frz o (.dK kvs))) s :=
 I.swap hp ⟨ho,I.hok _ _ hp⟩ (λ_ z=>by cases z) (λ_ z=>by cases z) (λ_ z=>by cases z) (I.nofrz hp)
theorem Inv.thaw (I:Inv X pins σ H s)(hp:H p=some (.frz o (.dK kvs)))(nf:∀ o v,X.H₀ p≠some (.frz o v)):Inv X pins σ (upd H p (.dK kvs)) s :=
 I.swap hp (I.hok _ _ hp).2 (λ_ z=>by cases z) (λ_ z=>by cases z) (λ_ z=>by cases z) nf
end
def sThaw (t:TS):TS:=λD σ H=>∃ p kvs,H p=some (.dK kvs)/\t { nx:=λσ' H'=>∃ o,H' p=some (.frz o (.dK kvs))/\D.nx σ' (upd H' p (.dK kvs)),rt:=λv H'=>∃ o,H' p=some (.frz o (.dK kvs))/\D.rt v (upd H' p (.dK kvs)),bk:=λσ' H'=>∃ o,H' p=some (.frz o (.dK kvs))/\D.bk σ' (upd H' p (.dK kvs)),ct:=λσ' H'=>∃ o,H' p=some (.frz o (.dK kvs))/\D.ct σ' (upd H' p (.dK kvs)) } σ H
theorem ps_thaw {t:TS}(h:PS X st t):PS X st (sThaw t):=by
 intro pins s σ H D I q;obtain ⟨p,kvs,hp,q⟩:=q;have nf:=I.nofrz hp;refine thn (h pins s σ H _ I q) λf s1 hq=>?_
 cases f with
 | next =>
   obtain ⟨σ',H1,I1,o,h1,q1⟩:=hq;exact ⟨σ',_,I1.thaw h1 nf,q1⟩
 | brk =>
   obtain ⟨σ',H1,I1,o,h1,q1⟩:=hq;exact ⟨σ',_,I1.thaw h1 nf,q1⟩
 | cont =>
   obtain ⟨σ',H1,I1,o,h1,q1⟩:=hq;exact ⟨σ',_,I1.thaw h1 nf,q1⟩
 | ret u =>
   obtain ⟨v,σ',H1,I1,r1,o,h1,q1⟩:=hq;exact ⟨v,σ',_,I1.thaw h1 nf,r1,q1⟩
theorem key_rel {k:Key}(h:keyIs k u=true):RelV (kV k) u:=by
 rcases wZ h with ⟨i,t,rfl,rfl⟩ | ⟨x,t,rfl,rfl⟩
 . exact ⟨t,rfl⟩
 . exact ⟨t,rfl⟩
end L2
namespace L2
open PySem
end L2
namespace L2
open PySem PySem.Spec PyProof.Rows
section
variable {h:Heap}{g:Array GenState}{d:Drawn}{t:Nat}{os:OsState}
variable {nm q:Str}{N:Addr}{bs bm bmB:List Value}{hdc:Bool}{sn:List Str}{sub:List Value}{ab:Bool}{col:Option Bool}{dd:Option Addr}{k0 k1 k2 k3 k5:Option Value}{B Bn newId nid initId inN:String}{bmN:List Value}
abbrev excB (C t:Addr):Obj:={ cls:=.ref C,data:=.fields #[.ref t,.none,.none,.none,.bool false,.none] }
end
section
variable {x:Str}{e:Expr}{j:Nat}{p1 p3 pos:Pos}
end
end L2
namespace L2
open PySem PySem.Spec PyProof.Rows Builtin Builtin.ObjectAttr PySem.W
abbrev excD (C t dx:Addr):Obj:={ excB C t with dict:=some dx }
section
variable {K:Frag}{e ta dx:Addr}{name:Str}{v:Value}
end
end L2
namespace L2
open PySem PySem.Spec PyProof.Rows
def excH (e C dx:Addr):HO:=.ext λh=>∃ t,h.get? e=some (excD C t dx)
section
variable {o value:Expr}{f:Str}{ta tv:TE}{pos:Pos}
end
section
variable {α β:Type}
def DictAt (h:Heap)(e:Addr)(d:Option Addr):Prop:=∃ o,h.get? e=some o/\o.dict=d
end
section
variable {f:Addr}{cd:Value}{s0:Shared}{H0:Hp}{E:XK}
def tRaiseX (C:Addr)(sp:Sp)(E:XK)(t:TA):TS:=λ_ σ H=>t σ H λvs H1=>vs.length<=1000/\∀ ea,H1 ea=none->sp (.ref ea::vs) (upd H1 ea (excO ea C)) (λv H2=>v=.non/\∃ dx,H2 ea=some (excH ea C dx)/\E (.ref C) (some dx) (del H2 ea)) E0
end
section
variable {f:Addr}{cd:Value}{s0:Shared}{H0:Hp}{E:XK}
end
abbrev WX:=Addr->Option Addr->Hp->Prop
abbrev TXD:=(Addr->Option Addr->St->Hp->Prop)->TS
section
variable {k:Nat}{f:Addr}{ps:List Str}
def eW (W:WX):XK:=λcls dx H3=>∃ C',cls=.ref C'/\W C' dx H3
end
section
variable {sts rest:List Stmt}{t u:TXD}{pos:Pos}
end
theorem kv_at {κ:Type}{kvs:List (κ × V)}{vs:List (κ × Value)}{i:Nat}{k:κ}{v:V}(r:KV kvs vs)(h:kvs[i]?=some (k,v)):∃ v',vs[i]?=some (k,v')/\RelV v v':=by
 induction r generalizing i with
 | nil=>cases h
 | cons q _ ih =>
   cases i with
   | zero =>
     cases h;obtain ⟨q1,q2⟩:=q;exact ⟨_,congrArg some (Prod.ext q1.symm rfl),q2⟩
   | succ i=>exact ih h
def Iti (a:Addr)(o:Obj)(kvs:List (Key × V)):It :=
 ⟨λi H=>H a=some (.frz o (.dK kvs))/\i<kvs.length,λi H v H'=>∃ T kv,v=.ref T/\H T=none/\kvs[i]?=some kv/\H'=upd H T (.tup [kV kv.1,kv.2]),λi H=>H a=some (.frz o (.dK kvs))/\kvs.length<=i⟩
def ItemTn (it a:Addr)(n ep:Nat)(i:Nat)(h:Heap):Prop:=∃ ok ov,IsItemIter h it a i n ep ok ov
theorem ZH {xs:List Expr}{x1}{pos:Pos}{o:Obj}{es:Array DictEntry}(a it:Addr)(ho:o.data=.dict es ep):Turn P w K (.Tuple xs x1 pos) (Iti a o kvs) [it] it (ItemTn it a kvs.length ep) where
 mem:=by simp
 obj:=λi h st b hb=>by
   have e:b=it:=by simpa using hb
   subst e;obtain ⟨ok,ov,e⟩:=st;exact ⟨_,e,λv z=>by cases z⟩
 keep:=λi h h' st k=>by
   obtain ⟨ok,ov,e⟩:=st;exact ⟨ok,ov,k it (by simp) _ e⟩
 item:=by
   intro X hP hw hK hc i pins s σ H E I hf st hg;subst hP hw hK;obtain ⟨hq,hi⟩:=hg;obtain ⟨e1,_,_,vs,rel,o',es',ep',e2,ex,dt,ko,pr,nd⟩:=(show ObjOk X.prog X.w H s.heap a (.frz o (.dK kvs)) from I.hok _ _ hq)
   cases e1.symm.trans e2;cases ho.symm.trans dt;have gk:kvs[i]?=some (kvs[i].1,kvs[i].2):=zO hi;obtain ⟨v',gv,rv⟩:=kv_at rel gk;have ll:kvs.length=vs.length:=wj rel;rw [ll] at st;obtain ⟨ok,ov,st⟩:=st;refine wpAny_pyNext_items_item (knd:=mixKind X.prog X.w) st ⟨o,es,e1,ex,dt,ko,pr,nd⟩ gv λkey h' hk st' hT hz kk=>?_
   refine ⟨_,rfl,wpAny_letOwnedTupleGo_items st' λh2 st2 hs2=>?_⟩;have lt:s.heap.objs.size≠it:=wC (zW st);have hT2:h2.get? s.heap.objs.size=some { cls:=.type "tuple",data:=.seq #[key,v'] }:=(hs2.2 _ lt).trans hT;have keep:∀ b o,b∉[it]->s.heap.get? b=some o->h2.get? b=some o:=λb o hb q=>by
     simp only [zQ,t6,sY] at hb;exact (hs2.2 b hb).trans (kk b o hb q)
   have rk:RelV (kV kvs[i].1) key:=key_rel hk;have I1:Inv X pins σ (upd H s.heap.objs.size (.tup [kV kvs[i].1,kvs[i].2])) { s with heap:=h2 }:=I.turnedNew (t':=s.toks) hf keep (zk _) ⟨by show 2<=sizeLine;decide,[key,v'],.cons rk (.cons rv .nil),_,hT2,rfl,_,rfl⟩;refine ⟨.ref s.heap.objs.size,_,I1,rfl,⟨_,_,rfl,I.hok.fresh (zk _),gk,rfl⟩,⟨_,_,ll ▸ st2⟩,λb hb=>?_⟩;rw [zr ?_];{exact (hf b hb).1};{rintro rfl;exact lt (by simpa using hb)}
 done:=by
   intro X hP hw hK hc i pins s σ H E I hf st hg;subst hP hw hK;obtain ⟨hq,hi⟩:=hg;obtain ⟨e1,_,_,vs,rel,o',es',ep',e2,ex,dt,ko,pr,nd⟩:=(show ObjOk X.prog X.w H s.heap a (.frz o (.dK kvs)) from I.hok _ _ hq)
   cases e1.symm.trans e2;cases ho.symm.trans dt;have ll:kvs.length=vs.length:=wj rel;rw [ll] at st;obtain ⟨ok,ov,st⟩:=st;exact wpAny_pyNext_items_end (knd:=mixKind X.prog X.w) (I.ok.hd hc) st ⟨o,es,e1,ex,dt,ko,pr,nd⟩ (qc (by lia)) λh' eb=>⟨rfl,I.turnedL (t':=s.toks) hf λb o hb e=>eb b o (by simpa using hb) e⟩
 self:=λ_ _ _ _ _ st h=>let ⟨ok,ov,e⟩:=st;PySem.W.kcp_self e h
def iDItem (tl:TE):TI:=λσ H R=>tl σ H λx H1=>∃ a kvs,x=.ref a/\H1 a=some (.dK kvs)/\∀ o,R (Iti a o kvs) (upd H1 a (.frz o (.dK kvs)))
theorem ZG {xs:List Expr}{x1}{p3:Pos}{l:Expr}{tl:TE}{apos cpos:Pos}(hl:PE X l tl)(hbase:attributeBase l "items" X.env (eval l X.env)=eval l X.env:=by rfl)(hline:(apos.endLine==cpos.line)=true:=by rfl):PI X (.Tuple xs x1 p3) (.Call (.Attribute l "items" apos) [] [] cpos) (iDItem tl):=by
 intro pins s σ H R I h;refine wpAny_Call_method0_late hbase hline (thn (hl pins s σ H _ I h) λu s1 hq=>?_);obtain ⟨x,H1,I1,rx,a,kvs,ex,hq,q⟩:=hq;subst ex;obtain rfl:u=Value.ref a:=rx;obtain ⟨t1,t2,_⟩:=lM I1 (.inl ⟨kvs,.inl hq⟩);refine ⟨_,_,nY,iU,PySem.F.type_dict_items,t1,t2,su rfl (PySem.evalArgs_none ?_)⟩;obtain ⟨hz,lo,vs,rel,o,es,ep,e2,ex,dt,ko,pr,nd⟩:=(show ObjOk X.prog X.w H1 s1.heap a (.dK kvs) from I1.hok _ _ hq)
 refine qg iU t1 PySem.F.entry_dict_items (PySem.F.args_dict_items_1 _) (meets_dict_items (mixKind X.prog X.w) a lo) ⟨⟨vs,o,es,ep,e2,ex,dt,ko,pr,nd⟩,?_⟩;have ll:kvs.length=vs.length:=wj rel;have hv:(s1.heap.push { cls:=.type "dict_items",data:=.fields #[.ref a] }).get? s1.heap.objs.size=some { cls:=.type "dict_items",data:=.fields #[.ref a] }:=yi _ rfl;refine wpAny_pyIter_items (knd:=mixKind X.prog X.w) (kvs:=vs) ⟨_,hv,rfl,rfl⟩ (Heap.DictAt.push ⟨o,es,e2,ex,dt,ko,pr,nd⟩ _) ?_;have I1b:Inv X pins σ H1 { s1 with heap:=s1.heap.push { cls:=.type "dict_items",data:=.fields #[.ref a] } }:=I1.kept λb o z=>zU _ z
 have e2b:(s1.heap.push { cls:=.type "dict_items",data:=.fields #[.ref a] }).get? a=some o:=zU _ e2;generalize s1.heap.push { cls:=.type "dict_items",data:=.fields #[.ref a] }=h0 at I1b e2b ⊢;have I2:=I1b.freeze hq e2b;have hn:upd H1 a (.frz o (.dK kvs)) h0.objs.size=none:=I2.hok.fresh (zk _);refine ⟨h0.objs.size,[h0.objs.size],_,_,_,rfl,I2.kept (t':=s1.toks) λb o e=>zU _ e,ZH a _ dt,⟨.none,.none,?_⟩,λb hb=>?_,q o⟩;{rw [ll];exact yi _ rfl}
 have e:b=h0.objs.size:=by simpa using hb
 subst e;exact I2.fpOk (zk _) hn
theorem loopI {a:Addr}{o:Obj}{g:TG}{tb:TS}(Pv:Nat->St->Hp->Prop)(h0:Pv 0 σ H)(hf:∀ i σ H,Pv i σ H->H a=some (.frz o (.dK kvs)))
   (hs:∀ i kv T σ H,kvs[i]?=some kv->H T=none->Pv i σ H->g (.ref T) σ (upd H T (.tup [kV kv.1,kv.2])) λσ2 H2=>tb { D with nx:=Pv (i+1),ct:=Pv (i+1),bk:=D.nx } σ2 H2)
   (hd:∀ σ H,Pv kvs.length σ H->D.nx σ H):LoopJ (Iti a o kvs) g tb D σ H:=by
 refine ⟨λi m σ H=>m=kvs.length-i/\i<=kvs.length/\Pv i σ H,⟨_,rfl,zV _,h0⟩,?_⟩;rintro i m σ H ⟨rfl,hi,hp⟩;have h1:=hf i σ H hp;by_cases hlt:i<kvs.length;{refine .inr ⟨⟨h1,hlt⟩,Pv (i+1),λσ' H' q=>⟨_,by lia,rfl,by lia,q⟩,?_⟩;rintro v H' ⟨T,kv,rfl,nT,hk,rfl⟩;exact hs i kv T σ H hk nT hp}
 . have e:i=kvs.length:=by lia
   subst e;exact .inl ⟨⟨h1,zk _⟩,hd σ H hp⟩
def tCallA (sp:Sp)(t:TA):TE:=λσ H Q=>t σ H λvs H2=>∃ p xs,H2 p=some (.lst xs)/\sp vs (del H2 p) (λv H3=>H3 p=none->Q v (upd H3 p (.lst xs))) E0
section
variable {x:Str}{ps:List Str}{k:Nat}{e:Expr}{es:List Expr}{p pos:Pos}
theorem dG (F:FnAt X.prog X.w X.K X.mg X.base x ps k sp)(hr:Room k X.A)(hg:Gl X x)(ha:PA X (e::es) t)
   (he:starEach (e::es) X.env=(false,eval e X.env)::starEach es X.env:=by rfl) (hdb:(x==("__debug__":Str))=false:=by decide) (hpl:(backTo pos (starEach es X.env)).any (·.1)=false:=by rfl):PE X (.Call (.Name x p) (e::es) [] pos) (tCallA sp t):=by
 obtain ⟨f,fd,F,m,kp,hb⟩:=F;intro pins s σ H Q I h;refine wN (tV I hg m ?_ hdb);refine uM (h₀:=X.base) I.ok.mod.kin kp (thn (ha pos pins s σ H _ I h) λus s2 hq=>?_) he hpl;obtain ⟨vs,H2,I2,r,p,xs,hp,q2⟩:=hq;refine ⟨I2.kIn,?_⟩;have J:=I2.aside hp;have hl:us.length=ps.length:=by rw [<- r.length];exact F.len _ _ _ _ q2
 have hb2:=hb s2 us I2.kIn (by simpa using hl);rw [yx] at hb2;refine uG (vo (F.run X.A X.stack s2 (del H2 p) ⟨us,[]⟩ us vs _ _ hr J.env0 hb2 r q2) λr s' hq=>?_);cases r with
 | error e=>exact False.elim hq
 | ok fl =>
   cases fl with
   | ret u =>
     obtain ⟨v,H3,os,bare,un,hok,rv,q3⟩:=hq;have I3:=J.call' os un hok bare (λb hb=>(nomatch hb));obtain ⟨o,ho⟩:∃ o,s2.heap.get? p=some o:=let ⟨_,_,_,_,e⟩:=I2.hok p _ hp;⟨_,e⟩
     have hn:H3 p=none:=un.free p o ho wo (λz=>(nomatch z));refine ⟨v,_,I2.back hp I3 hn (I2.hok p _ hp) (λo' e'=>un.keep p o' e' wo (λhm=>?_) (λz=>(nomatch z))),rv,q3 hn⟩;have:=I2.stkFree p hm;rw [hp] at this;cases this
   | next=>exact False.elim hq
   | brk=>exact False.elim hq
   | cont=>exact False.elim hq
end
section
variable {ts:Tabs}{p:Addr}
end
end L2
namespace SG
open PySem PySem.Spec PyProof.Rows
theorem dF (n:Nat):∀ (f j:Nat),n<2^(j+f)->∃ k,SetTable.sizeAbove.go n f (2^j)=2^k/\n<2^k/\(2^k<=2^j\/2^k<=2*n)
 | 0,j,h=>⟨j,rfl,h,.inl (zk _)⟩
 | f + 1,j,h=>by
   unfold SetTable.sizeAbove.go;split
   . rename_i c
     obtain ⟨k,e,h1,h2⟩:=dF n f (j+1) (by rw [show j+1+f=j+(f+1) by lia];exact h);rw [yN] at e h2;refine ⟨k,e,h1,?_⟩;rcases h2 with h2 | h2
     . exact .inr (by lia)
     . exact .inr h2
   . rename_i c
     exact ⟨j,rfl,by lia,.inl (zk _)⟩
theorem above {n:Nat}(h:n<100000):∃ k,SetTable.sizeAbove n=2^k/\n<2^k/\2^k<=2*n+8:=by obtain ⟨k,e,h1,h2⟩:=dF n 64 3 (ue h (by decide));exact ⟨k,e,h1,by rcases h2 with h2 | h2<;>lia⟩
theorem reord {order:Array Nat}(p:order.toList.Perm (List.range es.size)):(order.filterMap (es[·]?)).toList.Perm es.toList:=by rw [mh];exact (p.filterMap _).trans (by rw [filterMap_getElem?_range])
structure SA (prog:Program)(w:World)(h:Heap)(a:Addr)(o:Obj)(es:Array (Int × Value))(ep:Nat)(t:SetTable):Prop where
 ho:h.get? a=some o
 hx:o.ExactSet
 hd:o.data=.set es ep t
 el:ElemsOf (intKind prog w) es.toList
 hb:es.size<scanBound
 hf:t.fits es.size=true
 gd:Good (bt w) t
 nd:(es.toList.map λe=>iv e.2).Nodup
theorem SA.store {a:Addr}{o:Obj}{es':Array (Int × Value)}{t t':SetTable}{h:Heap}(x:SA prog w h a o es ep t)(el:ElemsOf (intKind prog w) es'.toList)(hb:es'.size<scanBound)(hf:t'.fits es'.size=true)(gd:Good (bt w) t')(nd:(es'.toList.map λe=>iv e.2).Nodup) :
   SA prog w (h.update a (Obj.putSet es' t')) a { o with data:=.set es' (ep+1) t' } es' (ep+1) t':=⟨uR x.ho x.hd es' t',x.hx,rfl,el,hb,hf,gd,nd⟩
theorem ris_good {bt:Bool}{t:SetTable}(l:t.led=!bt)(r:t.place.toList.Pairwise (·<·)):Good bt t:=⟨l,λ_=>ris_iff.mpr r⟩
theorem fits_mk {t:SetTable}{n:Nat}(h1:t.place.size=n)(h2:t.place.size+t.dummies.size<=t.mask):t.fits n=true:=by unfold SetTable.fits SetTable.fill;rw [wx,xC,w8];exact ⟨h1,h2⟩
theorem relay {a:Addr}{o:Obj}{wanted:Nat}{t:SetTable}{Q:Unit->Shared->Prop}(x:SA prog w s.heap a o es ep t)(hn:es.size<=wanted)(hw:wanted<100000)
   (q:∀ es' t',es'.toList.Perm es.toList->SA prog w (s.heap.update a (Obj.putSet es' t')) a { o with data:=.set es' (ep+1) t' } es' (ep+1) t'->t'.dummies=#[]->(∃ k,t'.mask+1=2^k)->wanted<=t'.mask->Q () { s with heap:=s.heap.update a (Obj.putSet es' t') }) :
   wpAny (model prog w) A (setRelay a wanted) Q E s:=by
 obtain ⟨k,ek,h1,h2⟩:=above hw;unfold setRelay;refine zt (xV x.ho x.hd x.hf ?_);dsimp only;rw [if_neg (by rw [ek,wg];lia)];have hp:0<2^k:=Nat.two_pow_pos k;obtain ⟨t',order,e1,e2,e3,e4,e5,e6,e7,e8,e9⟩:=di (mask:=2^k-1) (k:=k) (finger:=t.finger) (moves:=t.movedTo (2^k-1)) (led:=t.led) (plain:=t.plain) (by lia) (es.map (·.1)) (by rw [tZ];lia);rw [tZ] at e2 e9;have pe:=reord e2;have sz:=rH pe;have er:t.relaid (es.map (·.1)) wanted=some (t',order):=by unfold SetTable.relaid;rw [ek];exact e1
 rw [er];have hf:t'.fits (order.filterMap (es[·]?)).size=true:=fits_mk (by rw [sz,e9]) (by rw [e4,e9,e3];show es.size+0<=_;lia);have X:=x.store (es':=order.filterMap (es[·]?)) (t':=t') (x.el.perm pe) (by rw [sz];exact x.hb) hf (ris_good (e5.trans x.gd.led) e8) ((pe.map λe=>iv e.2).nodup_iff.mpr x.nd);refine zt ?_;show wpAny _ _ (if ((order.filterMap (es[·]?)).size != es.size)=true then _ else _) _ _ _;rw [if_neg (by rw [sz,nJ];decide)];refine zi ?_;refine ux x.ho x.hd (q _ t' pe X e4 ⟨k,by rw [e3];lia⟩ (by rw [e3];lia)) (nI (by rw [sz];exact x.hb))
theorem room {a:Addr}{o:Obj}{more:Nat}{t:SetTable}{Q:Unit->Shared->Prop}(x:SA prog w s.heap a o es ep t)(hm:es.size+more<10000)
   (q:∀ h' o' es' ep' t',Heap.SameBut a s.heap h'->SA prog w h' a o' es' ep' t'->es'.toList.Perm es.toList->((∃ k,t.mask+1=2^k)->∃ k,t'.mask+1=2^k)->es.size+more<=t'.mask->(t.dummies=#[]->t'.dummies=#[])->Q () { s with heap:=h' }) :
   wpAny (model prog w) A (setRoomFor a more) Q E s:=by
 unfold setRoomFor;refine zt (xV x.ho x.hd x.hf ?_);have hf:=x.hf;unfold SetTable.fits SetTable.fill at hf;rw [wx,xC,w8] at hf;dsimp only;unfold SetTable.roomFor;split
 . rename_i wanted hw
   split at hw
   . cases hw;refine relay x (by rw [hf.1];lia) (by rw [hf.1];lia) λes' t' pe X d2 hk hle=>q _ _ es' _ t' (uz _ a _) X pe (λ_=>hk) ?_ λ_=>d2
     rw [hf.1] at hle;lia
   . cases hw
 . rename_i hw
   split at hw;{exact (hw _ rfl).elim}
   . rename_i c
     unfold SetTable.fill at c;exact zi (q s.heap o es ep t (nH a s.heap) x (.refl _) id (by lia) id)
end SG
namespace L2
open PySem PySem.Spec PyProof.Rows
def revS (z:Str):Str:=⟨z.cps.toList.reverse.toArray⟩
theorem revS_len (z:Str):(revS z).length=z.length:=by show z.cps.toList.reverse.toArray.size=z.cps.size;simp
theorem ZF (z:Str):((Builtin.Str.strSliceIndices none none (-1) z.length).filterMap (z.cps[·]?))=z.cps.toList.reverse:=by
 unfold Builtin.Str.strSliceIndices sliceRange;have e0:¬((-1:Int) > 0):=by decide
 simp only [e0,yO];have en:(if ((z.length:Int)-1 > -1) then ((z.length:Int)-1 - -1 - -1-1)/(- -1) else 0).toNat=z.cps.size:=by show (if ((z.cps.size:Int)-1 > -1) then ((z.cps.size:Int)-1 - -1 - -1-1)/(- -1) else 0).toNat=z.cps.size;rw [show (- -1:Int)=1 by decide,lq];split<;>lia
 rw [en];show List.filterMap (λx=>z.cps[x]?) (List.map (λ(k:Nat)=>((z.cps.size:Int)-1+-1*(k:Int)).toNat) (List.range z.cps.size))=_;obtain ⟨⟨l⟩⟩:=z;show List.filterMap (λx=>l.toArray[x]?) (List.map (λ(k:Nat)=>((l.length:Int)-1+-1*(k:Int)).toNat) (List.range l.length))=l.reverse;have:∀ n,n<=l.length->List.filterMap (λx=>l.toArray[x]?) (List.map (λ(k:Nat)=>((l.length:Int)-1+-1*(k:Int)).toNat) (List.range n))=l.reverse.take n:=by
   intro n;induction n with
   | zero=>intro _;rfl
   | succ n ih =>
     intro h;rw [tw,zD,List.filterMap_append,ih (by lia),yG];congr 1
     have e1:((l.length:Int)-1+-1*(n:Int)).toNat=l.length-1-n:=by lia
     have e2:l.reverse[n]?=l[l.length-1-n]?:=by rw [mZ (by lia)]
     rw [e2,zL,sJ,e1];have hl:l.length-1-n<l.length:=by lia
     simp [zO hl]
 rw [this l.length (zk _),yZ (by simp)]
section
variable {e st:Expr}{ts:TE}{p2 pos:Pos}
def tRevS (te ts:TE):TE:=λσ H Q=>te σ H λx H1=>ts σ H1 λy H2=>∃ z,x=.str z/\y=.int (-1)/\z.length<=sizeLine/\Q (.str (revS z)) H2
theorem pe_revS (he:PE X e te)(hs:PE X st ts):PE X (.Subscript e (.Slice none none (some st) p2) pos) (tRevS te ts):=by
 intro pins s σ H Q I h;refine Subscript_ (thn (he pins s σ H _ I h) λv s1 ⟨x,H1,I1,r1,q1⟩=>?_);refine wpAny_Slice ?_;rw [evalPart_none,evalPart_some];refine zi (zi (thn (hs pins s1 σ H1 _ I1 q1) λu s3 hq=>?_));obtain ⟨y,H3,I3,r3,z,e1,e2,hz,q3⟩:=hq;subst e1 e2;obtain ⟨t,rfl⟩:=r1;obtain ⟨t2,rfl⟩:=r3;have I4:Inv X pins σ H3 { s3 with heap:=s3.heap.push { cls:=.type "slice",data:=.fields #[.none,.none,.int (-1) t2] } }:=I3.kept (t':=s3.toks) λb ob q=>zU _ q
 show wpAny (model X.prog X.w) X.A (subscriptTail e (.Slice none none (some st) p2) (.str z t) (.ref s3.heap.objs.size)) (EP X pins σ Q) X.xe { s3 with heap:=s3.heap.push { cls:=.type "slice",data:=.fields #[.none,.none,.int (-1) t2] } };refine tail_any (ops:=[.ref s3.heap.objs.size,.str z t]) (typeIs_str _ _ _) PySem.F.slot_str_getitem.lookup ?_ (by with_unfolding_all rfl);refine wpAny_getItem_str_slice (l:=none) (u:=none) (st:=some (-1,t2)) ⟨_,yi _ rfl,rfl,rfl⟩ rfl ?_;have em:sliceMade z t none none (some (-1,t2))=.str (revS z):=by unfold sliceMade;rw [if_neg (by intro h;simp at h)];unfold slicePicked;show Made.str ⟨(List.filterMap (z.cps[·]?) (Builtin.Str.strSliceIndices none none (-1) z.length)).toArray⟩=_;rw [ZF];rfl
 rw [em];exact ⟨by rw [revS_len];exact hz,⟨.str (revS z),H3,I4.tok _,⟨_,rfl⟩,q3⟩⟩
end
end L2
namespace Hk
open PySem PySem.W
def lk (x:Option Obj):Option Obj:=match x with
 | some ⟨_,_,.freed,_⟩=>none
 | o=>o
noncomputable def pick (l:List Obj):Nat->List Nat->List (Option Obj):=List.rec (motive:=λ_=>Nat->List Nat->List (Option Obj)) (λ_ as=>as.map λ_=>none) (λo _ ih i as=>match as with
 | []=>[]
 | a::r=>bif Nat.beq a i then lk (some o)::ih (i+1) r else ih (i+1) (a::r)) l
theorem kM:∀ (l:List Obj) (i:Nat) (as:List Nat),(∀ a∈as,i<=a)->as.Pairwise (·<·)->pick l i as=as.map λa=>lk l[a-i]?
 | [],i,as,_,_=>by
   show as.map _=_;refine xG λa _=>?_
   simp [lk]
 | o::l,i,[],_,_=>rfl
 | o :: l,i,a::r,h,p=>by
   have p1:∀ {b},b∈r->a<b:=λhb=>iC p hb
   have p2:=List.Pairwise.of_cons p;have ha:i<=a:=h a (by simp);show (bif Nat.beq a i then lk (some o)::pick l (i+1) r else pick l (i+1) (a::r))=_;have go:∀ b,i+1<=b->(o::l)[b-i]?=l[b-(i+1)]?:=λb hb=>by
     rw [show b-i=(b-(i+1))+1 by lia];rfl
   cases e:Nat.beq a i with
   | true =>
     have ea:a=i:=Nat.eq_of_beq_eq_true e;subst ea;have hr:∀ b∈r,a+1<=b:=λb hb=>p1 hb
     show lk (some o)::pick l (a+1) r=_;rw [kM l _ r hr p2,zL,wt];refine congrArg _ (xG λb hb=>?_);rw [go b (hr b hb)]
   | false =>
     have ea:a≠i:=λz=>by subst z;simp at e
     have hr:∀ b∈a::r,i+1<=b:=λb hb=>by
       rcases zQ.mp hb with rfl | hb
       . lia
       . have:=p1 hb;lia
     show pick l (i+1) (a::r)=_;rw [kM l _ (a::r) hr p];exact xG λb hb=>by rw [go b (hr b hb)]
def upB:List Nat->Bool
 | a::b::r=>Nat.ble (a+1) b&&upB (b::r)
 | _=>true
theorem up_of:∀ {as:List Nat},upB as=true->as.Pairwise (·<·)
 | [],_=>.nil
 | [a],_=>List.pairwise_singleton _ _
 | a::b::r,h=>by
   obtain ⟨h1,h2⟩:=Bool.and_eq_true_iff.mp h;have q:=up_of h2;have l:a<b:=Nat.le_of_ble_eq_true h1;refine .cons (λc hc=>?_) q;rcases zQ.mp hc with rfl | hc
   . exact l
   . exact ue l (iC q hc)
theorem pick_get {as:List Nat}(u:upB as=true)(h:Heap):pick h.objs.toList 0 as=as.map h.get?:=by
 rw [kM _ 0 as (λ_ _=>zV _) (up_of u)];refine xG λa _=>?_
 rw [r8,zA];rfl
noncomputable def fHook (K:Params->Frag) (as:List Addr) (e:∀ P,as=(K P).map (·.1)) (u:upB as=true):Hook :=
 ⟨List (Option Obj),λs=>pick s.heap.objs.toList 0 as,λw=>(K w.params).map λp=>some p.2,InK K,λw s x=>InK.of e w s ((pick_get u s.heap).symm.trans x),InK.keeps⟩
theorem f_in {K:Params->Frag}{as:List Addr}{e:∀ P,as=(K P).map (·.1)}{u:upB as=true}{h:Heap}(Y:(fHook K as e u).says w h):(K w.params).In h:=Y
end Hk
local macro_rules|`(tactic|ext k)=>`(tactic| exact L2.Room.mono (by assumption) (by decide))
namespace L2
open PySem PySem.Spec PyProof.Rows
section
variable {a b:Expr}{ta tb:TE}{pos:Pos}
theorem pe_c {op:CmpOp}{r:R2}(ho:OpR X (compareOp op) r)(ha:PE X a ta)(hb:PE X b tb)(hm:behindInMarks op b=false:=by exact nomark _):PE X (.Compare a [op] [b] pos) (tOp r ta tb):=pe_cmpR ho ha hb hm
theorem zG {op:CmpOp}{r:R2}(ho:OpR X (compareOp op) r)(ha:PE X a ta)(hb:PE X b tb)(hm:behindInMarks op b=false:=by exact nomark _):PT X (.Compare a [op] [b] pos) (tTest (tOp r ta tb)):=pt_cmpR ho ha hb hm
theorem xK {r:R2}(hr:IxR X r)(ha:PE X a ta)(hb:PE X b tb)(hs:PlainIx b:=by exact λ_ _=>rfl):PE X (.Subscript a b pos) (tOp r ta tb):=pe_ix hr ha hb hs
theorem zK {x:Str}{i:Int}{tk:Tok}(hm:X.mg x=some (.int i tk))(hg:Gl X x:=by rfl)(hd:(x==("__debug__":Str))=false:=by decide):PE X (.Name x pos) (tC (.int i)):=gx hg hm ⟨_,rfl⟩ hd
theorem zb (i:Nat){x:Str}{e:Expr}(he:PE X e te)(hN:X.N.Nodup:=by assumption)(hi:X.N[i]?=some x:=by rfl)(hx:Loc X.env.scope x:=by ext g)(hs:swapsWith e (some (.Name x pos')) pos.line X.env=pure false:=by rfl)(hf:X.fn x=true\/X.env.scope.names.lookup x=some .local:=by first | exact .inl rfl | exact .inr rfl | assumption):PS X (.Assign [.Name x pos'] e pos) (tAsg te (gName i)):=ps_set hN hi hx he hs hf
theorem yj (i:Nat){x:Str}(hN:X.N.Nodup:=by assumption)(hi:X.N[i]?=some x:=by rfl)(hx:Loc X.env.scope x:=by ext g)(hf:X.fn x=true\/X.env.scope.names.lookup x=some .local:=by first | exact .inl rfl | exact .inr rfl | assumption):PG X (.Name x pos) (gName i):=yM hN hi hx hf
end
end L2
namespace L2
open PySem
theorem oT{H:Hp}{b:Addr}{o:HO}(e:noT H b=some o):H b=some o:=(xM e).1
theorem sL{K:zj}{H:Hp}{b:Addr}{xs:List V}(e:noT H b=some (.lst xs)):SqL K H b xs:=SqL.of (xM e).1
theorem nU{H:Hp}{b:Addr}{xs:List V}:noT (upd H b (.lst xs)) b=some (.lst xs):=zM zq (nl _)
end L2
namespace My
open PySem L2 BM PyProof.Rows
def top (i:Nat):Stmt:=PySem.Challenge.pw_runmarks_k42_tapes_written.main.body.getD i (.Pass ⟨0,0,0,0⟩)
abbrev o8:Stmt:=top 7
theorem jbt:FnScope ["thing"] ["thing"] (defScope o8):=by ext b
abbrev o7:Stmt:=top 8
theorem jbY:FnScope ["word","place"] ["word","place"] (defScope o7):=by ext b
abbrev o6:Stmt:=top 9
theorem jaZ:FnScope ["place"] ["place"] (defScope o6):=by ext b
abbrev o5:Stmt:=top 10
theorem jaf:FnScope ["word"] ["word"] (defScope o5):=by ext b
abbrev o4:Stmt:=top 11
theorem jbB:FnScope ["word","by_two","by_four","by_eight","by_sixteen"] ["word"] (defScope o4):=by ext b
abbrev o3:Stmt:=top 12
theorem ja0:FnScope ["word"] ["word"] (defScope o3):=by ext b
abbrev oz:Stmt:=top 13
theorem jbu:FnScope ["word"] ["word"] (defScope oz):=by ext b
abbrev oy:Stmt:=top 14
theorem ja1:FnScope ["first","last"] ["first","last"] (defScope oy):=by ext b
abbrev ox:Stmt:=top 15
theorem jbC:FnScope ["places","word","place"] ["places"] (defScope ox):=by ext b
abbrev ot:Stmt:=top 16
theorem ja2:FnScope ["word","places"] ["word"] (defScope ot):=by ext b
abbrev oq:Stmt:=top 17
theorem jbD:FnScope ["word","runs","first","behind"] ["word"] (defScope oq):=by ext b
abbrev oo:Stmt:=top 18
theorem jao:FnScope ["runs","word","first","last"] ["runs"] (defScope oo):=by ext b
abbrev rC:Stmt:=top 19
theorem ja3:FnScope ["number","many"] ["number","many"] (defScope rC):=by ext b
abbrev oj:Stmt:=top 29
theorem jaL:FnScope ["at"] ["at"] (defScope oj):=by ext b
abbrev s_written:Stmt:=top 31
theorem jai:FnScope ["marks","heads","bodies","numbers","stop","key","stretch"] ["marks"] (defScope s_written):=by ext b
abbrev oi:Stmt:=top 32
theorem ja4:FnScope ["key","kind","last","stop"] ["key","kind","last","stop"] (defScope oi):=by ext b
abbrev oh:Stmt:=top 33
theorem ja5:FnScope ["stretch","kind","body"] ["stretch"] (defScope oh):=by ext b
abbrev oe:Stmt:=top 34
theorem ja6:FnScope ["marks"] ["marks"] (defScope oe):=by ext b
abbrev kK:Stmt:=top 36
theorem jbZ:FnScope ["many","goes_on","low","high","looks","at"] ["many","goes_on"] (defScope kK):=by ext b
abbrev oa:Stmt:=top 37
theorem ZE:FnScope ["keys","key"] ["keys","key"] (defScope oa):=by ext b
abbrev oZ:Stmt:=top 47
theorem jcf:FnScope ["word","begins"] ["word"] (defScope oZ):=by ext b
abbrev oY:Stmt:=top 48
theorem jcl:FnScope ["word","as_list","as_bits","as_runs"] ["word"] (defScope oY):=by ext b
abbrev oX:Stmt:=top 49
theorem jcg:FnScope ["stretch","place"] ["stretch","place"] (defScope oX):=by ext b
abbrev oW:Stmt:=top 50
theorem jbE:FnScope ["stretch","place"] ["stretch","place"] (defScope oW):=by ext b
abbrev oV:Stmt:=top 53
theorem jap:FnScope ["thing"] ["thing"] (defScope oV):=by ext b
abbrev oU:Stmt:=top 54
theorem jaq:FnScope ["first","last","spans","key","base"] ["first","last"] (defScope oU):=by ext b
abbrev oS:Stmt:=top 56
theorem jbv:FnScope ["numbers","words","n"] ["numbers"] (defScope oS):=by ext b
abbrev oR:Stmt:=top 57
theorem jbw:FnScope ["words"] ["words"] (defScope oR):=by ext b
abbrev oQ:Stmt:=top 58
theorem jbx:FnScope ["pairs","made","key","stretch"] ["pairs"] (defScope oQ):=by ext b
abbrev oP:Stmt:=top 60
theorem ja7:FnScope ["_law_script","_law_k"] ["_law_script","_law_k"] (defScope oP):=by ext b
abbrev oO:Stmt:=top 61
theorem jbF:FnScope ["_law_found"] ["_law_found"] (defScope oO):=by ext b
abbrev oN:Stmt:=top 62
theorem jbG:FnScope ["_law_cell","_law_k","_law_number"] ["_law_cell","_law_k"] (defScope oN):=by ext b
abbrev oM:Stmt:=top 63
theorem jbH:FnScope ["_law_cell","_law_key","_law_x","_law_low","_law_first","_law_way","_law_more"] ["_law_cell","_law_key"] (defScope oM):=by ext b
abbrev oK:Stmt:=top 64
theorem jaj:FnScope ["_law_script","_law_cell","_law_keys","_law_some","_law_one"] ["_law_script"] (defScope oK):=by ext b
abbrev oJ:Stmt:=top 65
theorem jb0:FnScope ["_law_number","_law_many","_law_signs","_law_k"] ["_law_number","_law_many"] (defScope oJ):=by ext b
abbrev oI:Stmt:=top 66
theorem jb1:FnScope ["_law_places","_law_runs_here","_law_place"] ["_law_places"] (defScope oI):=by ext b
abbrev oH:Stmt:=top 67
theorem jb2:FnScope ["_law_numbers_here","_law_groups","_law_number","_law_rows_here","_law_key","_law_places","_law_runs_here","_law_kind"] ["_law_numbers_here"] (defScope oH):=by ext b
abbrev oG:Stmt:=top 68
theorem jb3:FnScope ["_law_places","_law_runs_here","_law_kind","_law_held","_law_place","_law_fields_here","_law_first","_law_last"] ["_law_places","_law_runs_here","_law_kind"] (defScope oG):=by ext b
abbrev oF:Stmt:=top 69
theorem jby:FnScope ["_law_rows_here","_law_fields_here","_law_bodies","_law_many","_law_stop","_law_key","_law_places","_law_runs_here","_law_kind","_law_body_here"] ["_law_rows_here"] (defScope oF):=by ext b
abbrev oE:Stmt:=top 70
theorem jbI:FnScope ["_law_marks","_law_numbers_here","_law_due","_law_tape","_law_size"] ["_law_marks","_law_numbers_here"] (defScope oE):=by ext b
abbrev u5:Stmt:=top 71
theorem jch:FnScope ["_law_script","_law_some","_law_others","_law_one","_law_x","_law_last","_law_other","_law_number","_law_gone","_law_left"] ["_law_script"] (defScope u5):=by ext b
abbrev qz:Stmt:=inClass (top 42) 0
theorem jar:FnScope ["self"] ["self"] (defScope qz):=by ext b
abbrev qy:Stmt:=inClass (top 42) 1
theorem jas:FnScope ["self"] ["self"] (defScope qy):=by ext b
abbrev qx:Stmt:=inClass (top 42) 2
theorem jau:FnScope ["self","place"] ["self","place"] (defScope qx):=by ext b
abbrev dE:Stmt:=inClass (top 43) 0
theorem jq:FnScope ["self","places"] ["self","places"] (defScope dE):=by ext b
abbrev dD:Stmt:=inClass (top 43) 1
theorem jE:FnScope ["self"] ["self"] (defScope dD):=by ext b
abbrev dC:Stmt:=inClass (top 43) 2
theorem jF:FnScope ["self"] ["self"] (defScope dC):=by ext b
abbrev dB:Stmt:=inClass (top 43) 3
theorem jG:FnScope ["self"] ["self"] (defScope dB):=by ext b
abbrev dA:Stmt:=inClass (top 43) 4
theorem jH:FnScope ["self"] ["self"] (defScope dA):=by ext b
abbrev c9:Stmt:=inClass (top 44) 0
theorem jr:FnScope ["self","word"] ["self","word"] (defScope c9):=by ext b
abbrev c8:Stmt:=inClass (top 44) 1
theorem jO:FnScope ["self"] ["self"] (defScope c8):=by ext b
abbrev cz:Stmt:=inClass (top 44) 2
theorem jP:FnScope ["self"] ["self"] (defScope cz):=by ext b
abbrev cy:Stmt:=inClass (top 44) 3
theorem jQ:FnScope ["self"] ["self"] (defScope cy):=by ext b
abbrev cx:Stmt:=inClass (top 44) 4
theorem jR:FnScope ["self"] ["self"] (defScope cx):=by ext b
abbrev cw:Stmt:=inClass (top 45) 0
theorem jt:FnScope ["self","runs"] ["self","runs"] (defScope cw):=by ext b
abbrev cu:Stmt:=inClass (top 45) 1
theorem jS:FnScope ["self"] ["self"] (defScope cu):=by ext b
abbrev cq:Stmt:=inClass (top 45) 2
theorem jT:FnScope ["self"] ["self"] (defScope cq):=by ext b
abbrev cp:Stmt:=inClass (top 45) 3
theorem jU:FnScope ["self"] ["self"] (defScope cp):=by ext b
abbrev cm:Stmt:=inClass (top 45) 4
theorem jV:FnScope ["self"] ["self"] (defScope cm):=by ext b
abbrev ck:Stmt:=inClass (top 55) 0
theorem j7:FnScope ["self"] ["self"] (defScope ck):=by ext b
abbrev cj:Stmt:=inClass (top 55) 1
theorem ja8:FnScope ["self","n","stretch","place"] ["self","n"] (defScope cj):=by ext b
abbrev cg:Stmt:=inClass (top 55) 2
theorem jaM:FnScope ["self","n"] ["self","n"] (defScope cg):=by ext b
abbrev cf:Stmt:=inClass (top 55) 3
theorem j8:FnScope ["self","first","last","before","key","span"] ["self","first","last"] (defScope cf):=by ext b
abbrev cZ:Stmt:=inClass (top 55) 5
theorem ja9:FnScope ["self","n","stretch"] ["self","n"] (defScope cZ):=by ext b
abbrev cY:Stmt:=inClass (top 55) 13
theorem jaN:FnScope ["self"] ["self"] (defScope cY):=by ext b
abbrev cX:Stmt:=inClass (top 55) 17
theorem j9:FnScope ["self"] ["self"] (defScope cX):=by ext b
abbrev cW:Stmt:=inClass (top 55) 18
theorem jI:FnScope ["self","key","at"] ["self","key"] (defScope cW):=by ext b
abbrev cV:Stmt:=inClass (top 55) 20
theorem jag:FnScope ["self","key","stretch"] ["self","key"] (defScope cV):=by ext b
abbrev cU:Stmt:=inClass (top 55) 23
theorem jav:FnScope ["self","key"] ["self","key"] (defScope cU):=by ext b
abbrev cT:Stmt:=inClass (top 55) 24
theorem jat:FnScope ["self","at","key"] ["self","at","key"] (defScope cT):=by ext b
abbrev cS:Stmt:=inClass (top 55) 25
theorem jaa:FnScope ["self","at"] ["self","at"] (defScope cS):=by ext b
abbrev cQ:Stmt:=inClass (top 55) 26
theorem jaO:FnScope ["self","key","stretch","at","behind","ahead","more","mine"] ["self","key","stretch"] (defScope cQ):=by ext b
structure Blt (mg:Str->Option Value):Prop where
 len:mg "len"=none
 range:mg "range"=none
 isi:mg "isinstance"=none
 int:mg "int"=none
 bool:mg "bool"=none
 str:mg "str"=none
 lst:mg "list"=none
 min:mg "min"=none
 max:mg "max"=none
 sorted:mg "sorted"=none
 st:mg "set"=none
 sum:mg "sum"=none
 zip:mg "zip"=none
 ValueError:mg "ValueError"=none
structure CD_ListStretch (K:zj)(mg:Str->Option Value)(C:Addr):Prop where
 at_:mg "ListStretch"=some (.ref C)
 c:Cls K C
 init:MakerAt K C "ListStretch.__init__" dE ["self","places"]
 m_kind:MDefAt K C "kind" "ListStretch.kind" dD ["self"]
 m_body:MDefAt K C "body" "ListStretch.body" dC ["self"]
 m_word:MDefAt K C "word" "ListStretch.word" dB ["self"]
 m_size:MDefAt K C "size" "ListStretch.size" dA ["self"]
 m_told:MDefAt K C "told" "Stretch.told" qz ["self"]
 m_many:MDefAt K C "many" "Stretch.many" qy ["self"]
 m_has:MDefAt K C "has" "Stretch.has" qx ["self","place"]
 n_places:NoAttr K C "places"
structure CD_BitStretch (K:zj)(mg:Str->Option Value)(C:Addr):Prop where
 at_:mg "BitStretch"=some (.ref C)
 c:Cls K C
 init:MakerAt K C "BitStretch.__init__" c9 ["self","word"]
 m_kind:MDefAt K C "kind" "BitStretch.kind" c8 ["self"]
 m_body:MDefAt K C "body" "BitStretch.body" cz ["self"]
 m_word:MDefAt K C "word" "BitStretch.word" cy ["self"]
 m_size:MDefAt K C "size" "BitStretch.size" cx ["self"]
 m_told:MDefAt K C "told" "Stretch.told" qz ["self"]
 m_many:MDefAt K C "many" "Stretch.many" qy ["self"]
 m_has:MDefAt K C "has" "Stretch.has" qx ["self","place"]
 n_ones:NoAttr K C "ones"
structure CD_RunStretch (K:zj)(mg:Str->Option Value)(C:Addr):Prop where
 at_:mg "RunStretch"=some (.ref C)
 c:Cls K C
 init:MakerAt K C "RunStretch.__init__" cw ["self","runs"]
 m_kind:MDefAt K C "kind" "RunStretch.kind" cu ["self"]
 m_body:MDefAt K C "body" "RunStretch.body" cq ["self"]
 m_word:MDefAt K C "word" "RunStretch.word" cp ["self"]
 m_size:MDefAt K C "size" "RunStretch.size" cm ["self"]
 m_told:MDefAt K C "told" "Stretch.told" qz ["self"]
 m_many:MDefAt K C "many" "Stretch.many" qy ["self"]
 m_has:MDefAt K C "has" "Stretch.has" qx ["self","place"]
 n_runs:NoAttr K C "runs"
structure CD_Marks (K:zj)(mg:Str->Option Value)(C:Addr):Prop where
 at_:mg "Marks"=some (.ref C)
 c:Cls K C
 init:MakerAt K C "Marks.__init__" ck ["self"]
 m_put:MDefAt K C "put" "Marks.put" cj ["self","n"]
 m_take:MDefAt K C "take" "Marks.take" cg ["self","n"]
 m_put_span:MDefAt K C "put_span" "Marks.put_span" cf ["self","first","last"]
 m_has:MDefAt K C "has" "Marks.has" cZ ["self","n"]
 m_size:MDefAt K C "size" "Marks.size" cY ["self"]
 m_key_list:MDefAt K C "key_list" "Marks.key_list" cX ["self"]
 m_stretch_at:MDefAt K C "stretch_at" "Marks.stretch_at" cW ["self","key"]
 m_word_at:MDefAt K C "word_at" "Marks.word_at" cV ["self","key"]
 m_found:MDefAt K C "found" "Marks.found" cU ["self","key"]
 m_stands:MDefAt K C "stands" "Marks.stands" cT ["self","at","key"]
 m_ahead_of:MDefAt K C "ahead_of" "Marks.ahead_of" cS ["self","at"]
 m_keep:MDefAt K C "keep" "Marks.keep" cQ ["self","key","stretch"]
 n_keyed:NoAttr K C "keyed"
 n_aheads:NoAttr K C "aheads"
 n_stretches:NoAttr K C "stretches"
 n_held:NoAttr K C "held"
def rzX (C:Addr)(sp:Sp)(E:XK)(vs:List V)(H1:Hp):Prop:=vs.length<=1000/\∀ ea,H1 ea=none->sp (.ref ea::vs) (upd H1 ea (excO ea C)) (λv H2=>v=.non/\∃ dx,H2 ea=some (excH ea C dx)/\E (.ref C) (some dx) (del H2 ea)) E0
theorem cO {E:XK}{σ:L2.St}:tRaiseX C sp E t D σ H=t σ H λvs H1=>rzX C sp E vs H1:=rfl
local macro_rules|`(tactic|ext a)=>do
 let f:=λ(s:String)=>(s.splitOn ",").toArray.map λx=>Lean.mkIdent x.toName
 let a:=f "rIndexT,rCatT,rSlT,tRevS,tPar,tDSet,tSeq,cO,tNext,tAsg,gName,tVar,tC,tOp,tUn,rI,rI0,rU,rEq,rNe,fZ,fY,fX,tRet,tDrop,tIfS,tTest,tB,tAnd,tOr,tNot,tAndV,tNotV,tIf,tCall,tNil,tCons,tTup,tLst,tCB,tBM,tBM0,rIxL,rIxT,gSub,rSetL,rAppend,rBitLen,rCat,rRep,iRng1,iRng2,iList,tDGet,tDGet2,sDPut,tChain,rReverse,tAug,ipI,tNoTest,fg,fc,rLen,rListOf,rRng2,rListRng,tDNewK,tMeD,rExtend,rSum,rSortD,sThaw,tMake,tFld,sFld,gTup,gCons,gNil,tSl,tNoPart,tPart,rSlL,iRng3,rJoin,CDiv,CMul,CPow,CShl,L2.start,capSt,List.map_cons,List.map_nil,List.nil_append,List.cons_append,List.getElem?_cons_zero,List.getElem?_cons_succ,List.set_cons_zero,List.set_cons_succ,Nat.reduceAdd,Nat.reduceSub,tDGet1,tMeA,tSortSetL,tCallA,tCallV,tCallLam,tNever,iDItem,onV_s,onI_i,onB_b,onR_r,onT_t,tLZip"
 let b:=a++f "wA,vg,qJ,onR_ap,onT_ap,tyV_int,tyV_list,rIsi_int,aB,tCBK,rMaxD,tyV_str,List.length_cons,List.length_nil,List.append_nil,List.getD_cons_zero,List.getD_cons_succ,rep0,rep1,rep2,rep3,rep4,rep5,rep6,rep7,rep9,Int.reduceLT,Int.reduceLE,Int.reducePow,Int.reduceNeg,Int.reduceMul,Int.reduceAdd,Int.reduceSub,Int.reduceToNat,Int.reduceEq,reduceIte,Option.some.injEq,V.int.injEq,V.bl.injEq,V.ref.injEq,V.str.injEq,V.ty.injEq,List.cons.injEq,exists_and_left,exists_eq_left,exists_eq_left',exists_eq_right,exists_eq',exists_eq,and_true,true_and,Int.zero_add,decide_eq_true_eq,Bool.not_eq_true',decide_eq_false_iff_not,if_true,if_false,Bool.false_eq_true,Bool.true_eq_false,ite_not,not_true_eq_false,not_false_eq_true,Bool.not_true,Bool.not_false,decide_true,decide_false,or_true,true_or,reduceCtorEq,false_and,and_false,exists_false,false_or,or_false"
 `(tactic| ((try dsimp only [$[$a:ident],*]);try simp only [$[$b:ident],*]))
def mixI (c k:Int):Int:=((c*48271+k*7919+104729)%2147483647)*((c*48271+k*7919+104729)%2147483647)%2147483629
def spMixed:Sp:=λvs H Q _=>∃ c k:Int,vs=[.int c,.int k]/\Q (.int (mixI c k)) H
theorem ok_mixed (d:DefAt K mg "_law_mixed" oN ["_law_cell","_law_k"]):FnAt P w K mg base "_law_mixed" ["_law_cell","_law_k"] 1 spMixed:=by
 refine FnAt.of d jbG ?_ ?_;ext c;have nd:=jbG.nd;obtain ⟨c,k,rfl,q⟩:=h;refine ⟨_,(zp (zb 2 (zw zB (zw zN (zw zN (zw xc (pv 0) zu) (zw xc (pv 1) zu)) zu) zu)) (zo (zd (zw zB (zw xc (pv 2) (pv 2)) zu)))),?_⟩
 ext a;have h1:=sE (c*48271+k*7919+104729) (b:=2147483647) (by decide);have h2:=sP (c*48271+k*7919+104729) (b:=2147483647) (by decide);exact ⟨.inl ⟨by lia,by lia⟩,q⟩
def spCell (K:zj):Sp:=λvs H Q _=>∃ (a:Addr) (ns:List Int) (k:Nat),vs=[.ref a,.int k]/\SqL K H a (ns.map V.int)/\Q (.int (ns.getD k 0)) H
theorem ZD (B:Blt mg)(d:DefAt K mg "_law_cell_at" oP ["_law_script","_law_k"]):FnAt P w K mg base "_law_cell_at" ["_law_script","_law_k"] 1 (spCell K):=by
 refine FnAt.of d ja7 ?_ ?_;ext c;have nd:=ja7.nd;obtain ⟨a,ns,k,rfl,hS,q⟩:=h;refine ⟨_,(zp (yu (zG uZ (pv 1) (yk (xp K) rfl B.len yE (zy (pv 0) zx))) (zo (zd (xK (wV K) (pv 0) (pv 1)))) yh) (zo (zd zu))),?_⟩
 ext a;refine ⟨_,.inl hS,?_⟩;rw [zg];by_cases hk:k<ns.length;{rw [if_pos (by lia)];refine ⟨_,hS,.int (ns.getD k 0),qF ?_,q⟩;rw [yp,zO hk,xy,zO hk];rfl}
 . rw [if_neg (by lia)];have e:ns.getD k 0=0:=by rw [xy,qc (by lia)];rfl
   rw [e] at q;exact q
def spWhole:Sp:=λvs H Q _=>∃ i:Int,vs=[.int i]/\Q (.bl true) H
theorem ok_whole (B:Blt mg)(d:DefAt K mg "_law_whole" oO ["_law_found"]):FnAt P w K mg base "_law_whole" ["_law_found"] 1 spWhole:=by refine FnAt.of d jbF ?_ ?_;ext c;have nd:=jbF.nd;obtain ⟨k,rfl,q⟩:=h;refine ⟨_,(zo (zd (vC (yk (rO K) rfl B.isi rP (zy (pv 0) (zy (rj (v:=.ty "int") rfl B.int boot_int rfl) zx))) (tU (pe_not (yk (rO K) rfl B.isi rP (zy (pv 0) (zy (rj (v:=.ty "bool") rfl B.bool boot_bool rfl) zx)))))))),?_⟩;ext a;exact q
theorem yf {m:Addr}{nm:Str}{k:Nat}{dx:Addr}{fs:List (Str × V)}{ns:List Str}{F:Sp->Prop}(h:H m=some (.ins C dx fs))(l:fs.lookup nm=none)(M:MethAt P w K mg base C nm ns k sp)(q:F sp):∃ C dx fs,H m=some (.ins C dx fs)/\List.lookup nm fs=none/\∃ ns sp,MethAt P w K mg base C nm ns k sp/\F sp:=⟨C,dx,fs,h,l,ns,sp,M,q⟩
theorem yQ {m:Addr}{nm:Str}{dx:Addr}{fs:List (Str × V)}{v:V}{Q:V->Prop}(h:H m=some (.ins C dx fs))(c:Cls K C)(n:NoAttr K C nm)(l:fs.lookup nm=some v)(q:Q v):∃ C dx fs,H m=some (.ins C dx fs)/\Cls K C/\NoAttr K C nm/\∃ v,List.lookup nm fs=some v/\Q v:=⟨C,dx,fs,h,c,n,v,l,q⟩
def halvF:Nat->Nat->Nat->Nat->List Nat
 | 0,_,_,_=>[]
 | n+1,lo,hi,m=>if lo<hi then (lo+hi)/2::(if (lo+hi)/2<m then halvF n ((lo+hi)/2+1) hi m else halvF n lo ((lo+hi)/2) m) else []
def halv (lo hi m:Nat):List Nat:=halvF (hi-lo) lo hi m
theorem qw (m:Nat):∀ (n k lo hi:Nat),hi-lo<=n->hi-lo<=k->halvF n lo hi m=halvF k lo hi m
 | 0,0,_,_,_,_=>rfl
 | 0,k+1,lo,hi,h,_=>by rw [halvF,halvF,if_neg (by lia)]
 | n+1,0,lo,hi,_,h=>by rw [halvF,halvF,if_neg (by lia)]
 | n+1,k+1,lo,hi,h,h'=>by
   rw [halvF,halvF];by_cases c:lo<hi;{rw [qw m n k _ hi (by lia) (by lia),qw m n k lo _ (by lia) (by lia)]};{rw [if_neg c,if_neg c]}
theorem halv_pos {lo hi m:Nat}(h:lo<hi):halv lo hi m=(lo+hi)/2::(if (lo+hi)/2<m then halv ((lo+hi)/2+1) hi m else halv lo ((lo+hi)/2) m):=by unfold halv;rw [qw m (hi-lo) (hi-lo-1+1) lo hi (by lia) (by lia),halvF,if_pos h,qw m (hi-lo-1) (hi-((lo+hi)/2+1)) _ hi (by lia) (by lia),qw m (hi-lo-1) ((lo+hi)/2-lo) lo _ (by lia) (by lia)]
theorem halv_neg {lo hi m:Nat}(h:¬ lo<hi):halv lo hi m=[]:=by unfold halv;rw [show hi-lo=0 by lia,halvF]
def spHalved (P:Program)(w:World)(K:zj)(mg:Str->Option Value)(base:Heap):Sp:=λvs H Q _=>∃ (n m:Nat) (f:Addr) (pn:Str) (tb:TE) (cvs:List V) (H0:Hp),vs=[.int n,.ref f]/\m<=n/\n<=1000/\Ready P w K mg base 1 pn tb cvs H0 H f /\
 (∀ (H':Hp) (i:Nat) (R:VK),Same H H'->i<n->R (.bl (decide (i<m))) H'->tb (some (.int i)::cvs.map some) H' R)/\∀ t l H',Same H H'->H t=none->H l=none->H' t=some (.tup [.int m,.ref l])->H' l=some (.lst (pint (halv 0 n m)))->Q (.ref t) H'
structure HalvI (n m:Nat)(f l:Addr)(H:Hp)(σ:L2.St)(H':Hp):Prop where
 ex:∃ (lo hi:Nat) (pr:List Nat) (v5:Option V),σ=[some (.int n),some (.ref f),some (.int lo),some (.int hi),some (.ref l),v5]/\lo<=m/\m<=hi/\hi<=n/\pr.length+(hi-lo)<=n/\pr++halv lo hi m=halv 0 n m/\H' l=some (.lst (pint pr))
 same:Same H H'
def gapN:L2.St->Nat
 | _::_::some (.int lo)::some (.int hi)::_=>(hi-lo).toNat
 | _=>0
theorem ZC (d:DefAt K mg "halved" kK ["many","goes_on"]):FnAt P w K mg base "halved" ["many","goes_on"] 2 (spHalved P w K mg base):=by
 refine FnAt.of d jbZ ?_ ?_;ext c;have nd:=jbZ.nd;obtain ⟨n,m,fl,pn,tb,cvs,H0,rfl,mn,n1000,⟨o,fd,c',oc,hf,hfd,hc,nf,LA⟩,htb,q⟩:=h;refine ⟨_,(zp (zb 2 zu) (zp (zb 3 (pv 0)) (zp (zb 4 (yg zx)) (zp (lW yF (zG uZ (pv 2) (pv 3)) (zp (zb 5 (zw yW (zw zN (pv 2) (pv 3)) zu)) (zp (yz (yt K yP xY xX xb (pv 4) (zy (pv 5) zx))) (zo (yu (vD (pe_callV (k:=1) 1 (hr.mono (by decide)) (zy (pv 5) zx))) (zo (zb 2 (zw zN (pv 5) zu))) (zo (zb 3 (pv 5)))))))) (zo (zd (va (zy (pv 2) (zy (pv 4) zx))))))))),?_⟩
 ext a;refine ⟨zV _,λl nl=>?_⟩;refine lU (HalvI n m fl l H) (λσ _=>gapN σ) ⟨⟨0,n,[],_,rfl,zV _,mn,zk _,by show 0+(n-0)<=n;lia,rfl,zq⟩,Same.new nl⟩ ?_ (λσ H R R' h z=>by
   simp only [tTest,tOp,wA,vg,tVar,rI0,wA,vg,qJ] at z ⊢;obtain ⟨v,e,v2,e',i,e1,j,e2,k,e3,q⟩:=z;exact ⟨v,e,v2,e',i,e1,j,e2,k,e3,h _ _ q⟩)
 rintro σ H1 ⟨⟨lo,hi,pr,v5,rfl,h1,h2,h3,h4,h5,h6⟩,sm⟩;ext a;have nlf:fl≠l:=λz=>by rw [z,nl] at hf;cases hf
 have nlc:c'≠l:=λz=>by rw [z,nl] at hc;cases hc
 by_cases lt:lo<hi
 . rw [if_pos (by lia)];have em:((lo:Int)+(hi:Int))/2=(((lo+hi)/2:Nat):Int):=by lia
   rw [em];have hv:halv lo hi m=(lo+hi)/2::(if (lo+hi)/2<m then halv ((lo+hi)/2+1) hi m else halv lo ((lo+hi)/2) m):=by exact halv_pos lt
   rw [hv] at h5;have l1:lo<=(lo+hi)/2:=by lia
   have l2:(lo+hi)/2<hi:=by lia
   generalize (lo+hi)/2=mid at h5 hv l1 l2 ⊢;have s2:Same H (upd H1 l (.lst (pint pr++[V.int mid]))):=sm.put nl;have hl2:upd H1 l (.lst (pint pr++[V.int mid])) l=some (.lst (pint (pr++[mid]))):=by rw [zq];unfold pint;rw [zD];rfl
   refine ⟨⟨_,SqL.of h6⟩,_,h6,small1000 (by rw [zH];lia),?_⟩;generalize upd H1 l (.lst (pint pr++[V.int mid]))=H2 at s2 hl2 ⊢;refine ⟨o,s2 _ _ hf,fd,hfd,_,_,LA,s2 _ _ hf,_,rfl,s2 _ _ hf,s2 _ _ hc,htb H2 mid _ s2 (by lia) ⟨_,rfl,?_⟩⟩;by_cases c:mid<m
   . rw [if_pos c] at h5;rw [zJ c,if_pos rfl];refine ⟨⟨⟨mid+1,hi,pr++[mid],_,rfl,by lia,h2,h3,by rw [zh];show pr.length+1+_<=_;lia,by rw [zX];exact h5,hl2⟩,s2⟩,?_⟩;show (((hi:Int)-((mid:Int)+1)).toNat)<((hi:Int)-(lo:Int)).toNat
     lia
   . rw [if_neg c] at h5;rw [yw c,if_neg (by decide)];refine ⟨⟨⟨lo,mid,pr++[mid],_,rfl,h1,by lia,by lia,by rw [zh];show pr.length+1+_<=_;lia,by rw [zX];exact h5,hl2⟩,s2⟩,?_⟩;show (((mid:Int)-(lo:Int)).toNat)<((hi:Int)-(lo:Int)).toNat
     lia
 . rw [if_neg (by lia)];refine ⟨by decide,λt nt=>?_⟩;have e1:lo=m:=by lia
   have hv:halv lo hi m=[]:=halv_neg lt;rw [hv,yx] at h5;have sT:=Same.new (o:=.tup [V.int lo,V.ref l]) nt;refine q t l _ (sm.trans sT) (sm.free nt) nl (by rw [zq,e1]) ?_;rw [<- h5];exact sT _ _ h6
def cnt (p:Int->Bool)(ks:List Int):Nat:=(ks.filter p).length
def Pre (p:Int->Bool)(ks:List Int):Prop:=∀ (i:Nat) (k:Int),ks[i]?=some k->p k=decide (i<cnt p ks)
def spHK (pr:Int->Int->Bool)(df:Int)(c P1:Addr)(qual:Str)(lp:Pos):Sp:=λvs H Q _=>∃ (a:Addr) (ks:List Int) (y:Int),vs=[.ref a,.int y]/\H a=some (.lst (ks.map V.int))/\ks.length<=1000/\Pre (pr y) ks/\Tb H P1 qual lp /\
 ∀ t l H',SameT P1 H H'->Tb H' P1 qual lp->H t=none->H l=none->H' t=some (.tup [.int ((cnt (pr y) ks:Int)-df),.ref l])->H' l=some (.lst (pint (halv 0 ks.length (cnt (pr y) ks))))->Q (.ref t) H'
theorem cnt_le (p:Int->Bool)(ks:List Int):cnt p ks<=ks.length:=vN _ _
theorem freeT {H2:Hp}{Pt b:Addr}{q:Str}{lp:Pos}(s:SameT Pt H H2)(t:Tb H2 Pt q lp)(f:H2 b=none):H b=none:=by
 cases e:H b with
 | none=>rfl
 | some o =>
   by_cases z:b=Pt
   . rw [z] at f;rcases t with h | ⟨_,_,h,_⟩<;>(rw [f] at h;cases h)
   . rw [s _ _ z e] at f;cases f
def lpK:Pos:=match defBody oa with | [.Return (some (.Call _ [_,.Lambda _ _ _ p] _ _)) _]=>p | _=>⟨0,0,0,0⟩
def qK:Str:=(Str.ofString "halved_keys"++Str.ofString ".<locals>.")++Str.ofString "<lambda>"
theorem get_int {i:Nat}(h:i<ks.length):atI (ks.map V.int) (i:Int)=some (.int (ks.getD i 0)):=qF (by rw [yp,xy,zO h];rfl)
section
variable {c1 P1 c2 P2:Addr}
theorem ok_hkeys (B:Blt mg)(T_halved_keys:TabIn base mg (c1,P1))(jbJ:∀ base,FnAt P w K mg base "halved" ["many","goes_on"] 2 (spHalved P w K mg base))(d:DefAtC K mg "halved_keys" oa ["keys","key"] c1):FnAt P w K mg base "halved_keys" ["keys","key"] 3 (spHK (λy k=>decide (k<y)) 0 c1 P1 qK lpK):=by
 refine FnAt.ofC d ZE (λvs H Q E h=>?_) (λf A outer s H vs Q E hr h=>?_);{obtain ⟨a,ks,y,rfl,_⟩:=h;rfl}
 obtain ⟨a,ks,y,rfl,ha,hl,hp,hT,q⟩:=h;refine ⟨_,(zo (zd (Zd (k:=0) (caps:=["key","keys"]) (ixs:=[1,0]) (lamIn_mk T_halved_keys (Zb rfl rfl rfl (by decide +kernel) rfl (by decide +kernel) (by decide +kernel) (by decide +kernel)) rfl ⟨rfl,⟨rfl,trivial⟩⟩ ⟨⟨rfl,rfl,_,rfl⟩,⟨⟨rfl,rfl,_,rfl⟩,trivial⟩⟩) rfl (λ_ _ _ _=>rfl) (λ_ _ _ _ _ _ _ _=>(pe_c uZ (xK (wV K) (pv 2) (pv 0)) (pv 1))) jbJ (hr.mono (by decide)) rfl (yk (xp K) rfl B.len yE (zy (pv 0) zx))))),?_⟩;ext a;refine ⟨_,.inl (SqL.of ha),λj hj=>?_,hT,λbase' fl H2 sT hT2 R=>?_⟩
 . simp only [zQ,t6,sY] at hj;rcases hj with rfl | rfl
   . exact ⟨_,rfl⟩
   . exact ⟨_,rfl⟩
 rw [zg];have naP:a≠P1:=λz=>by
   rcases hT with h | ⟨_,_,h,_⟩<;>(rw [<- z,ha] at h;cases h)
 have ha2:=sT a _ naP ha;refine ⟨ks.length,cnt (λk=>decide (k<y)) ks,fl,_,_,_,H,rfl,cnt_le _ _,hl,R,λH' i R' s' hi hR=>?_,λt l H' s' f1 f2 h1 h2=>?_⟩;{ext a;refine ⟨a,rfl,_,SqL.of (s' _ _ ha2),.int (ks.getD i 0),get_int hi,_,rfl,y,rfl,?_⟩;have e:decide (ks.getD i 0<y)=decide (i<cnt (λk=>decide (k<y)) ks):=hp i _ (by rw [xy,zO hi];rfl);rw [e];exact hR};{refine q t l H' (λb o n e=>s' _ _ (sT b o n e)) (hT2.same s') (freeT sT hT2 f1) (freeT sT hT2 f2) ?_ h2;rw [Int.sub_zero];exact h1}
end
theorem za {t u:TS}{σ:L2.St}(h:∀ k:L2.St->Hp->Prop,(∀ σ' H',u D σ' H'->k σ' H')->t { D with nx:=k } σ H):tSeq t u D σ H:=h (u D) λ_ _ x=>x
theorem none_of {p:Addr}(s:Same H H')(h:H' p=none):H p=none:=by
 cases e:H p with
 | none=>rfl
 | some o=>rw [s _ _ e] at h;cases h
theorem small5 {n:Nat}(h:n<=100000):n<=sizeLine:=yl h (by decide)
def Ev (te:TE)(σ:L2.St)(v:V):Prop:=∀ (H:Hp) (Q:VK),Q v H->te σ H Q
def Evs (ta:TA)(σ:L2.St)(vs:List V):Prop:=∀ (H:Hp) (R:List V->Hp->Prop),R vs H->ta σ H R
theorem Ev.c {v:V}{σ:L2.St}:Ev (tC v) σ v:=λH Q q=>q
theorem Evs.nil {σ:L2.St}:Evs tNil σ []:=λH R r=>r
theorem Evs.cons {ta:TA}{σ:L2.St}{v:V}(a:Ev te σ v)(b:Evs ta σ vs):Evs (tCons te ta) σ (v::vs):=λH R r=>by
 rw [tCons];exact a H _ (b H _ r)
theorem compV {a:Addr}{m:Nat}{σ:L2.St}{Q:VK}(f:Nat->V)(hS:SqL K H1 a xs)(hn:xs.length<=1000000)
   (he:∀ (i:Nat) x H2 (R:VK),xs[i]?=some x->Same H1 H2->(∀ H3,Same H2 H3->R (f i) H3)->te ((capSt m caps σ).set 0 (some x)) H2 R)
   (hq:∀ D H2,H1 D=none->Same H1 H2->H2 D=some (.lst ((List.range xs.length).map f))->Q (.ref D) H2):CompJ (Itl K a) m caps (gName 0) tNoTest te σ H1 Q:=by
 refine compA (xs:=xs) (λi y _=>y=f i) (λ_ _ _ _ _ h=>h) hS hn (λi x H2 R hx s2 q2=>he i x H2 R hx s2 λH3 s3=>q2 _ H3 s3 rfl) (λD ys H2 hD s2 h2 l2 h3=>?_);have e:ys=(List.range xs.length).map f:=by
   refine vk (by rw [zg,ym,l2]) λi a1 a2=>?_
   rw [h3 i _ (zO a1),vj,sO]
 exact hq D H2 hD s2 (e ▸ h2)
theorem pair_get {α β:Type}{F:α->β->Prop}{us:List α}{es:List β}{i:Nat}{u:α}(h:Paired F us es)(e:us[i]?=some u):∃ e,es[i]?=some e/\F u e:=by
 induction h generalizing i with
 | nil=>cases e
 | cons r _ ih =>
   cases i with
   | zero=>cases e;exact ⟨_,rfl,r⟩
   | succ i=>exact ih e
theorem kJ {α β:Type}{F:α->β->Prop}{us:List α}{es:List β}{i:Nat}{u:α}{e:β}(h:Paired F us es)(e1:us[i]?=some u)(e2:es[i]?=some e):F u e:=by obtain ⟨z,h1,h2⟩:=pair_get h e1;rw [e2] at h1;cases h1;exact h2
theorem kH {α β:Type}(f:α->β)(g:α->β):∀ l:List α,(l.flatMap λr=>[f r,g r]).length=2*l.length
 | []=>rfl
 | x::r=>by
   rw [vm,zh,kH f g r];show 2+_=2*(r.length+1);lia
theorem ixN_nat {n p:Nat}(h:p<n):ixN n (p:Int)=some p:=by unfold ixN;rw [if_pos (by lia),if_pos (by lia)];rfl
def Tups (H:Hp):List V->List (Nat × Nat)->Prop:=Paired λv r=>∃ t,v=.ref t/\H t=some (.tup [.int (r.1:Nat),.int (r.2:Nat)])
def RunsL (H:Hp)(p:Addr)(rs:List (Nat × Nat)):Prop:=∃ vs,H p=some (.lst vs)/\Tups H vs rs
theorem Tups.same (h:Tups H vs rs)(s:Same H H'):Tups H' vs rs:=Paired.mapP h λ_ _ ⟨t,e,ht⟩=>⟨t,e,s _ _ ht⟩
theorem RunsL.same {p:Addr}(h:RunsL H p rs)(s:Same H H'):RunsL H' p rs:=let ⟨vs,e,t⟩:=h;⟨vs,s _ _ e,t.same s⟩
theorem Tups.length (h:Tups H vs rs):vs.length=rs.length:=wj h
theorem Tups.snoc {t:Addr}{r:Nat × Nat}(h:Tups H vs rs)(e:H t=some (.tup [.int (r.1:Nat),.int (r.2:Nat)])):Tups H (vs++[.ref t]) (rs++[r]):=by
 induction h with
 | nil=>exact .cons ⟨_,rfl,e⟩ .nil
 | cons r _ ih=>exact .cons r ih
theorem Tups.last {r:Nat × Nat}(h:Tups H vs (rs++[r])):∃ vs0 t,vs=vs0++[.ref t]/\Tups H vs0 rs/\H t=some (.tup [.int (r.1:Nat),.int (r.2:Nat)]):=by
 induction rs generalizing vs with
 | nil =>
   cases h with
   | cons q n =>
     cases n;obtain ⟨t,e,h⟩:=q;exact ⟨[],t,by rw [e];rfl,.nil,h⟩
 | cons x xs ih =>
   cases h with
   | cons q n =>
     obtain ⟨vs0,t,e,h1,h2⟩:=ih n;exact ⟨_::vs0,t,by rw [e];rfl,.cons q h1,h2⟩
def pairD (r:Nat × Nat):PyData:=.tuple [.int (r.1:Nat),.int (r.2:Nat)]
theorem cN (h:Tups H vs rs):RdDs K H vs (rs.map pairD):=by
 induction h with
 | nil=>exact .nil
 | cons r _ ih =>
   obtain ⟨t,e,h⟩:=r;subst e;exact .cons (.tup (SqT.of h) (.cons (.int _) (.cons (.int _) .nil))) ih
theorem cJ:∀ rs:List (Nat × Nat),PyData.canLayAll0 (rs.map pairD)=true
 | []=>rfl
 | r::rs=>by
   rw [zL];simp only [PyData.canLayAll0,pairD,PyData.canLay0,cJ rs,Bool.and_self]
theorem cI:∀ rs:List (Nat × Nat),PyData.depthAll (rs.map pairD)<=1
 | []=>by decide
 | r::rs=>by
   have:=cI rs;rw [zL];simp only [PyData.depthAll,pairD,PyData.depth];lia
theorem cF (rs:List (Nat × Nat)):SeqAt.shaped (.list (rs.map pairD))=true:=by
 have h1:=cI rs;have h2:PyData.depth (.list (rs.map pairD))<=64:=by simp only [PyData.depth];lia
 show (PyData.canLay0 (.list (rs.map pairD))&&decide (PyData.depth (.list (rs.map pairD))<=64))=true;rw [wx];exact ⟨by simp only [PyData.canLay0];exact cJ rs,zJ h2⟩
theorem ZA (rs qs:List (Nat × Nat)):SeqAt.noMix (.list (rs.map pairD)) (.list (qs.map pairD))=true :=
 SeqAt.noMix_of_shape (.list (.tuple [.int,.int])) rfl _ _ (list_map_has λ_=>rfl) (list_map_has λ_=>rfl)
theorem cE:∀ rs qs:List (Nat × Nat),PySem.Spec.sameAll (rs.map pairD) (qs.map pairD)=decide (rs=qs)
 | [],[]=>by simp [PySem.Spec.sameAll]
 | [],_::_=>by simp [PySem.Spec.sameAll]
 | _::_,[]=>by simp [PySem.Spec.sameAll]
 | (a,b)::r,(c,d)::q=>by
   simp only [zL,PySem.Spec.sameAll,PySem.Spec.same,pairD,cE r q,Bool.and_true];rw [vI];simp;lia
section
variable {Q:VK}{a b:Addr}
theorem Y9 {qs:List (Nat × Nat)}(h1:RunsL H a rs)(h2:RunsL H b qs)(q:Q (.bl (!decide (rs=qs))) H):rNeD K (.ref a) (.ref b) H Q:=by obtain ⟨vs,e1,t1⟩:=h1;obtain ⟨us,e2,t2⟩:=h2;exact ⟨_,_,.lst (SqL.of e1) (cN t1),.lst (SqL.of e2) (cN t2),cF rs,cF qs,ZA rs qs,by simp only [PySem.Spec.same];rw [cE];exact q⟩
end
theorem Tups.upd {H:Hp}{r:Addr}{xs ys:List V}{vs:List V}{rs:List (Nat × Nat)}(h:Tups H vs rs)(e:H r=some (.lst xs)):Tups (upd H r (.lst ys)) vs rs :=
 Paired.mapP h λ_ _ ⟨t,z,ht⟩=>⟨t,z,by rw [zr (ne_of ht e (by intro q;cases q))];exact ht⟩
theorem ixN_last {v:V}:ixN (vs++[v]).length (-1)=some vs.length:=by
 have hl:(vs++[v]).length=vs.length+1:=by simp
 unfold ixN;rw [hl,if_neg (by decide),if_pos (by lia)];congr 1
 lia
theorem set_last {v u:V}:(vs++[v]).set vs.length u=vs++[u]:=by rw [ma _ _ (zk _),wt];rfl
theorem Up.lt256 (h:Up 0 ps)(hk:∀ p∈ps,p<256):ps.length<=256:=by
 have:∀ (qs:List Nat) (a:Nat),Up a qs->(∀ p∈qs,p<256)->a<=256->qs.length+a<=256:=by
   intro qs;induction qs with
   | nil=>intro a _ _ h;show 0+a<=256;lia
   | cons p r ih =>
     intro a u w _;have h1:=w p xu;have h2:=u.1;have:=ih (p+1) u.2 (λq hq=>w q (xm _ hq)) h1;rw [zZ];lia
 exact this ps 0 h hk (by lia)
def spBelow:Sp:=λvs H Q _=>∃ p:Nat,vs=[.int p]/\p<=1000/\Q (.int ((2^p-1:Nat):Int)) H
theorem Y8 (d:DefAt K mg "all_below" o6 ["place"]):FnAt P w K mg base "all_below" ["place"] 1 spBelow:=by
 refine FnAt.of d jaZ ?_ ?_;ext c;have nd:=jaZ.nd;obtain ⟨p,rfl,hp,q⟩:=h;refine ⟨_,(zo (zd (zw yA (zw vA zu (pv 0)) zu))),?_⟩;ext a;refine ⟨⟨by lia,by lia,by decide⟩,?_⟩;have e:(1:Int)*2^(p:Int).toNat-1=((2^p-1:Nat):Int):=by have:0<2^p:=yB (by decide);rw [yo,r6,Int.ofNat_sub this];simp
 rw [e];exact q
def spSpan:Sp:=λvs H Q _=>∃ a b:Nat,vs=[.int a,.int b]/\a<=b+1/\b<1000/\Q (.int (wd (List.range' a (b+1-a)):Nat)) H
theorem Y7 (jbz:FnAt P w K mg base "all_below" ["place"] 1 spBelow)(d:DefAt K mg "span_word" oy ["first","last"]):FnAt P w K mg base "span_word" ["first","last"] 2 spSpan:=by
 refine FnAt.of d ja1 ?_ ?_;ext c;have nd:=ja1.nd;obtain ⟨x,y,rfl,h1,h2,q⟩:=h;refine ⟨_,(zo (zd (zw yA (zc jbz (zy (zw zN (pv 1) zu) zx)) (zc jbz (zy (pv 0) zx))))),?_⟩;ext a;refine ⟨y+1,by rw [tm];rfl,by lia,x,rfl,by lia,?_⟩;ext a;have e:=p6 (y+1-x) x;rw [show x+(y+1-x)=y+1 by lia] at e;have p1:0<2^x:=yB (by decide);have p2:0<2^(y+1):=yB (by decide);have e2:((2^(y+1)-1:Nat):Int)-((2^x-1:Nat):Int)=((wd (List.range' x (y+1-x)):Nat):Int):=by lia
 rw [e2];exact q
def spDrop:Sp:=λvs H Q _=>∃ w:Nat,vs=[.int w]/\Q (.int ((w &&& (w-1):Nat):Int)) H
theorem Y6 (d:DefAt K mg "without_first" o5 ["word"]):FnAt P w K mg base "without_first" ["word"] 1 spDrop:=by
 refine FnAt.of d jaf ?_ ?_;ext c;have nd:=jaf.nd;obtain ⟨n,rfl,q⟩:=h;refine ⟨_,(zo (zd (zw xD (pv 0) (zw yA (pv 0) zu)))),?_⟩;ext a;have e:Builtin.bitAnd (n:Int) ((n:Int)-1)=((n &&& (n-1):Nat):Int):=by
   cases n with
   | zero=>decide
   | succ m =>
     rw [bitAnd_pp (by lia) (by lia)];have e1:((m+1:Nat):Int).toNat=m+1:=yo _;have e2:(((m+1:Nat):Int)-1).toNat=m+1-1:=by lia
     rw [e1,e2]
 rw [e];exact q
def spCount:Sp:=λvs H Q _=>∃ ps:List Nat,vs=[.int (wd ps:Nat)]/\Up 0 ps/\(∀ p∈ps,p<256)/\Q (.int ps.length) H
structure LowC (mg:Str->Option Value):Prop where
 a:∃ t,mg "LOWER_1"=some (.int 38597363079105398474523661669562635951089994888546854679819194669304376546645 t)
 b:∃ t,mg "LOWER_2"=some (.int 23158417847463239084714197001737581570653996933128112807891516801582625927987 t)
 c:∃ t,mg "LOWER_4"=some (.int 6811299366900952671974763824040465167839410862684739061144563765171360567055 t)
 d:∃ t,mg "LOWER_8"=some (.int 450552876409790643671482431940419874915447411150352389258589821042463539455 t)
theorem Y5 (L:LowC mg)(d:DefAt K mg "counted" o4 ["word"]):FnAt P w K mg base "counted" ["word"] 2 spCount:=by
 obtain ⟨⟨t1,jJ⟩,⟨t2,jK⟩,⟨t4,jL⟩,⟨t8,jM⟩⟩:=L;refine FnAt.of d jbB ?_ ?_;ext c;have nd:=jbB.nd;obtain ⟨ps,rfl,up,h256,q⟩:=h;refine ⟨_,(zp (zb 1 (zw zN (zw xD (pv 0) (zK jJ)) (zw xD (zw rf (pv 0) zu) (zK jJ)))) (zp (zb 2 (zw zN (zw xD (pv 1) (zK jK)) (zw xD (zw rf (pv 1) zu) (zK jK)))) (zp (zb 3 (zw zN (zw xD (pv 2) (zK jL)) (zw xD (zw rf (pv 2) zu) (zK jL)))) (zp (zb 4 (zw zN (zw xD (pv 3) (zK jM)) (zw xD (zw rf (pv 3) zu) (zK jM)))) (zo (zd (zw zB (pv 4) zu))))))),?_⟩
 ext a;rw [swarI (k:=1) (n:=128) (d:=2) (w:=wd ps) (by rw [msk1];rfl) rfl];rw [swarI (k:=2) (n:=64) (d:=4) (by rw [msk2];rfl) rfl];rw [swarI (k:=4) (n:=32) (d:=16) (by rw [msk4];rfl) rfl];rw [swarI (k:=8) (n:=16) (d:=256) (by rw [msk8];rfl) rfl];rw [countI up h256];exact q
def spLast:Sp:=λvs H Q _=>∃ ps:List Nat,vs=[.int (wd ps:Nat)]/\Up 0 ps/\Q (match ps.getLast? with | none=>.non | some p=>.int (p:Nat)) H
def spFirst:Sp:=λvs H Q _=>∃ ps:List Nat,vs=[.int (wd ps:Nat)]/\Up 0 ps/\Q (match ps with | []=>.non | p::_=>.int (p:Nat)) H
theorem Y4 (d:DefAt K mg "last_one" oz ["word"]):FnAt P w K mg base "last_one" ["word"] 1 spLast:=by
 refine FnAt.of d jbu ?_ ?_;ext c;have nd:=jbu.nd;obtain ⟨ps,rfl,up,q⟩:=h;refine ⟨_,(zp (yu (zG yL (pv 0) zu) (zo (zd vf)) yh) (zo (zd (zw yA (fW K PySem.F.plainAttrs_int PySem.F.slot_int_bit_length PySem.F.type_int_bit_length aC (pv 0)) zu)))),?_⟩
 ext a;rcases wJ ps with rfl | ⟨qs,p,rfl⟩
 . rw [if_pos (show ((wd []:Nat):Int)=0 from rfl)];exact q
 . rw [wI] at up q ⊢;have h0:0<wd (qs++[p]):=by
     rw [uV];have:0<2^p:=yB (by decide);show 0<wd qs+(2^p+0)
     lia
   rw [if_neg (by lia),Z6 up];have e:((p+1:Nat):Int)-1=(p:Nat):=by lia
   rw [e];rw [mW] at q;exact q
theorem Y3 (jci:FnAt P w K mg base "last_one" ["word"] 1 spLast)(d:DefAt K mg "first_one" o3 ["word"]):FnAt P w K mg base "first_one" ["word"] 2 spFirst:=by
 refine FnAt.of d ja0 ?_ ?_;ext c;have nd:=ja0.nd;obtain ⟨ps,rfl,up,q⟩:=h;refine ⟨_,(zo (zd (zc jci (zy (zw xD (pv 0) (vb ua (pv 0))) zx)))),?_⟩;ext a;cases ps with
 | nil=>exact ⟨[],rfl,trivial,q⟩
 | cons p r =>
   refine ⟨[p],?_,⟨zV _,trivial⟩,q⟩;rw [Z7 up.2];rfl
def fstN:L2.St->Nat
 | some (.int w)::_=>w.toNat
 | _=>0
def spBit:Sp:=λvs H Q _=>∃ (w k:Nat),vs=[.int w,.int k]/\Q (.int ((w.testBit k).toNat:Nat)) H
theorem Y2 (d:DefAt K mg "bit_at" o7 ["word","place"]):FnAt P w K mg base "bit_at" ["word","place"] 1 spBit:=by
 refine FnAt.of d jbY ?_ ?_;ext c;have nd:=jbY.nd;obtain ⟨v,k,rfl,q⟩:=h;refine ⟨_,(zo (zd (zw xD (zw rf (pv 0) (pv 1)) zu))),?_⟩;ext a;refine ⟨by lia,?_⟩;have e:Builtin.bitAnd ((v:Int)/2^((k:Nat):Int).toNat) 1=((v.testBit k).toNat:Nat):=by
   rw [bitAnd_m1,yo];have e1:(v:Int)/2^k%2=((v/2^k%2:Nat):Int):=by rw [mL,Int.natCast_ediv,mE];rfl
   rw [e1,iJ];by_cases h1:v/2^k%2=1;{rw [zJ h1,h1];rfl}
   . rw [yw h1];have:v/2^k%2=0:=by lia
     rw [this];rfl
 rw [e];exact q
def spRunsOf:Sp:=λvs H Q _=>∃ ps:List Nat,vs=[.int (wd ps:Nat)]/\Up 0 ps/\(∀ p∈ps,p<256)/\∀ (r:Addr) (H':Hp),Same H H'->H r=none->RunsL H' r (runsOf ps)->Q (.ref r) H'
structure RoI (ps:List Nat)(r:Addr)(H:Hp)(σ:L2.St)(H':Hp):Prop where
 ex:∃ (qs:List Nat) (rs:List (Nat × Nat)) (v2 v3:Option V),σ=[some (.int (wd qs:Nat)),some (.ref r),v2,v3]/\Up 0 qs/\(∀ p∈qs,p<256)/\runsOf ps=rs++runsOf qs/\RunsL H' r rs/\rs.length+qs.length<=ps.length
 same:Same H H'
theorem Y1 (jn:FnAt P w K mg base "first_one" ["word"] 2 spFirst)(jh:FnAt P w K mg base "span_word" ["first","last"] 2 spSpan)(d:DefAt K mg "runs_of" oq ["word"]):FnAt P w K mg base "runs_of" ["word"] 3 spRunsOf:=by
 refine FnAt.of d jbD ?_ ?_;ext c;have nd:=jbD.nd;obtain ⟨ps,rfl,up,h256,q⟩:=h;have hlen:=Up.lt256 up h256;refine ⟨_,(zp (zb 1 (yg zx)) (zp (lW yF (zG op_gt (pv 0) zu) (zp (zb 2 (zc jn (zy (pv 0) zx))) (zp (zb 3 (zc jn (zy (zw zN (pv 0) (zw vA zu (pv 2))) zx))) (zp (yz (yt K yP xY xX xb (pv 1) (zy (va (zy (pv 2) (zy (zw yA (pv 3) zu) zx))) zx))) (zo (zb 0 (zw yA (pv 0) (zc jh (zy (pv 2) (zy (zw yA (pv 3) zu) zx)))))))))) (zo (zd (pv 1))))),?_⟩
 ext a;refine ⟨zV _,λr nr=>?_⟩;refine lU (RoI ps r H) (λσ _=>fstN σ) ⟨⟨ps,[],none,none,rfl,up,h256,rfl,⟨[],zq,.nil⟩,by simp⟩,Same.new nr⟩ ?_ (λσ H R R' h z=>by
   simp only [tTest,tOp,wA,vg,tVar,tC,rI0,wA,vg,qJ] at z ⊢;obtain ⟨v,e,i,e1,j,e2,k,e3,q⟩:=z;exact ⟨v,e,i,e1,j,e2,k,e3,h _ _ q⟩)
 rintro σ H1 ⟨⟨qs,rs,v2,v3,rfl,upq,q256,er,⟨vs,hv,ht⟩,hl⟩,sm⟩;ext a;cases qs with
 | nil =>
   rw [if_neg (by show ¬ (0:Int)<((0:Nat):Int);decide)];ext a;refine q r H1 sm nr ⟨vs,hv,?_⟩;rw [er];simpa [runsOf] using ht
 | cons p rr =>
   have hw:0<wd (p::rr):=qB;rw [if_pos (by lia)];obtain ⟨n,rest,e1,u1,l1⟩:=lC rr p upq.2;obtain ⟨f1,f2⟩:=aI u1;have p256:p<256:=q256 p xu;have pn:p+n<256:=q256 (p+n) (by rw [e1];exact zY.mpr (.inl (vK.mpr (by lia))));have rest256:∀ z∈rest,z<256:=λz hz=>q256 z (by rw [e1];exact zY.mpr (.inr hz))
   have upr:Up 0 rest:=u1.mono (zV _);refine ⟨p::rr,rfl,upq,?_⟩;ext a;refine ⟨⟨by lia,by lia,by decide⟩,(p+n+1)::rest,?_,⟨zV _,by rw [show p+n+1+1=p+n+2 by lia];exact u1⟩,?_⟩;{rw [r6,yo,e1,<- f1,tm,mE];rfl}
   ext a;refine ⟨⟨_,SqL.of hv⟩,by decide,λt nt=>?_⟩;have eb:(((p+n+1:Nat):Int)-1)=((p+n:Nat):Int):=by lia
   rw [eb];have smT:Same H1 (upd H1 t (.tup [.int (p:Nat),.int ((p+n:Nat):Int)])):=Same.new nt;have hv2:=smT _ _ hv;have lv:=ht.length;rw [zZ] at hl;refine ⟨vs,hv2,small1000 (by lia),p,p+n,rfl,by lia,by lia,?_⟩;ext a;have e2:((wd (p::rr):Nat):Int)-((wd (List.range' p (p+n+1-p)):Nat):Int)=((wd rest:Nat):Int):=by rw [show p+n+1-p=n+1 by lia,e1];have:=uV (List.range' p (n+1)) rest;lia
   rw [e2];refine ⟨⟨⟨rest,rs++[(p,p+n)],_,_,rfl,upr,rest256,?_,⟨_,zq,((ht.same smT).snoc (r:=(p,p+n)) zq).upd hv2⟩,?_⟩,λb o z=>?_⟩,?_⟩;{rw [er,e1,aH u1,zX];rfl};{rw [zh];show rs.length+1+_<=_;lia};{rw [zr (zI z nr)];exact smT _ _ (sm b o z)}
   . show (((wd rest:Nat):Int)).toNat<(((wd (p::rr):Nat):Int)).toNat
     rw [e1,uV];have:=p6 (n+1) p;have k1:2^p<2^(p+(n+1)):=mY (by decide) (by lia);lia
def spPlacesOf:Sp:=λvs H Q _=>∃ ps:List Nat,vs=[.int (wd ps:Nat)]/\Up 0 ps/\(∀ p∈ps,p<256)/\∀ (r:Addr) (H':Hp),Same H H'->H r=none->H' r=some (.lst (pint ps))->Q (.ref r) H'
structure PoI (ps:List Nat)(r:Addr)(H:Hp)(σ:L2.St)(H':Hp):Prop where
 ex:∃ qs rs:List Nat,σ=[some (.int (wd qs:Nat)),some (.ref r)]/\Up 0 qs/\ps=rs++qs/\H' r=some (.lst (pint rs))
 same:Same H H'
theorem Y0 (jn:FnAt P w K mg base "first_one" ["word"] 2 spFirst)(jbA:FnAt P w K mg base "without_first" ["word"] 1 spDrop)(d:DefAt K mg "places_of" ot ["word"]):FnAt P w K mg base "places_of" ["word"] 3 spPlacesOf:=by
 refine FnAt.of d ja2 ?_ ?_;ext c;have nd:=ja2.nd;obtain ⟨ps,rfl,up,h256,q⟩:=h;have hlen:=Up.lt256 up h256;refine ⟨_,(zp (zb 1 (yg zx)) (zp (lW yF (zG op_gt (pv 0) zu) (zp (yz (yt K yP xY xX xb (pv 1) (zy (zc jn (zy (pv 0) zx)) zx))) (zo (zb 0 (zc jbA (zy (pv 0) zx)))))) (zo (zd (pv 1))))),?_⟩
 ext a;refine ⟨zV _,λr nr=>?_⟩;refine lU (PoI ps r H) (λσ _=>fstN σ) ⟨⟨ps,[],rfl,up,rfl,zq⟩,Same.new nr⟩ ?_ (λσ H R R' h z=>by
   simp only [tTest,tOp,wA,vg,tVar,tC,rI0,wA,vg,qJ] at z ⊢;obtain ⟨v,e,i,e1,j,e2,k,e3,q⟩:=z;exact ⟨v,e,i,e1,j,e2,k,e3,h _ _ q⟩)
 rintro σ H1 ⟨⟨qs,rs,rfl,upq,er,hv⟩,sm⟩;ext a;cases qs with
 | nil =>
   rw [if_neg (by show ¬ (0:Int)<((0:Nat):Int);decide)];ext a;refine q r H1 sm nr ?_;rw [er,yx];exact hv
 | cons p rr =>
   have hw:0<wd (p::rr):=qB;rw [if_pos (by lia)];have hl:rs.length<ps.length:=by rw [er,zh,zZ];lia
   refine ⟨⟨_,SqL.of hv⟩,p::rr,rfl,upq,?_⟩;ext a;refine ⟨_,hv,small1000 (by rw [zH];lia),_,rfl,?_⟩;ext a;refine ⟨⟨⟨rr,rs++[p],?_,upq.2.mono (zV _),?_,?_⟩,λb o z=>?_⟩,?_⟩;{rw [lK upq.2]};{rw [er,zX];rfl};{rw [zq];unfold pint;rw [zD];rfl};{rw [zr (zI z nr)];exact sm b o z}
   . show ((((wd (p::rr) &&& (wd (p::rr)-1):Nat):Int)).toNat)<((wd (p::rr):Nat):Int).toNat
     rw [lK upq.2,yo,yo];have:0<2^p:=yB (by decide);show wd rr<2^p+wd rr;lia
def spWordOf (K:zj):Sp:=λvs H Q _=>∃ (a:Addr) (ps:List Nat),vs=[.ref a]/\SqL K H a (pint ps)/\(∀ p∈ps,p<1000)/\Q (.int (orW ps:Nat)) H
structure WordOfI (a:Addr)(ps:List Nat)(H:Hp)(i:Nat)(σ:L2.St)(H':Hp):Prop where
 ex:∃ v,σ=[some (.ref a),some (.int (orW (ps.take i):Nat)),v]
 hp:H'=H
theorem Yz (d:DefAt K mg "word_of" ox ["places"]):FnAt P w K mg base "word_of" ["places"] 1 (spWordOf K):=by
 refine FnAt.of d jbC ?_ ?_;ext c;have nd:=jbC.nd;obtain ⟨a,ps,rfl,hS,h1000,q⟩:=h;refine ⟨_,(zp (zb 1 zu) (zp (xg yF rfl (yK K (pv 0)) (yj 2) (zo (zb 1 (zw rZ (pv 1) (zw vA zu (pv 2)))))) (zo (zd (pv 1))))),?_⟩
 ext a;refine ⟨⟨_,hS⟩,loopL (xs:=pint ps) (WordOfI a ps H) ⟨⟨_,rfl⟩,rfl⟩ ?_ ?_ ?_⟩;{rintro i σ H' hi ⟨_,rfl⟩;exact hS}
 . rintro i x σ H' hi ⟨⟨v,rfl⟩,rfl⟩;obtain ⟨p,hp,rfl⟩:=vW hi;have hmem:p<1000:=h1000 p (yb hp);have tk:ps.take (i+1)=ps.take i++[p]:=by rw [yG,hp];rfl
   ext a;refine ⟨⟨by lia,by lia,by decide⟩,⟨some (.int p),?_⟩,rfl⟩;rw [tk,orW_snoc,lJ (w6 _) (by rw [r6];exact gs _)];rw [yo,yo,r6];congr
 . rintro σ H' ⟨⟨v,rfl⟩,rfl⟩;ext a;rw [yZ (by rw [zH];exact zk _)];exact q
def spWordOfRuns:Sp:=λvs H Q _=>∃ (a:Addr) (rs:List (Nat × Nat)),vs=[.ref a]/\RunsL H a rs/\(∀ r∈rs,r.1<=r.2/\r.2<999)/\Q (.int (orR rs:Nat)) H
structure WordRI (a:Addr)(rs:List (Nat × Nat))(H:Hp)(i:Nat)(σ:L2.St)(H':Hp):Prop where
 ex:∃ v v',σ=[some (.ref a),some (.int (orR (rs.take i):Nat)),v,v']
 hp:H'=H
theorem Tups.get {i:Nat}{x:V}(h:Tups H vs rs)(e:vs[i]?=some x):∃ t r,x=.ref t/\rs[i]?=some r/\H t=some (.tup [.int (r.1:Nat),.int (r.2:Nat)]):=by
 induction h generalizing i with
 | nil=>cases e
 | cons z _ ih =>
   cases i with
   | zero =>
     cases e;obtain ⟨t,z,h⟩:=z;exact ⟨t,_,z,rfl,h⟩
   | succ i=>exact ih e
theorem Yy (jh:FnAt P w K mg base "span_word" ["first","last"] 2 spSpan)(d:DefAt K mg "word_of_runs" oo ["runs"]):FnAt P w K mg base "word_of_runs" ["runs"] 3 spWordOfRuns:=by
 refine FnAt.of d jao ?_ ?_;ext c;have nd:=jao.nd;obtain ⟨a,rs,rfl,⟨vs,hv,ht⟩,hb,q⟩:=h;refine ⟨_,(zp (zb 1 zu) (zp (xg yF rfl (yK K (pv 0)) (vT K rfl (yR (yj 2) (yR (yj 3) ve))) (zo (zb 1 (zw rZ (pv 1) (zc jh (zy (pv 2) (zy (pv 3) zx))))))) (zo (zd (pv 1))))),?_⟩
 ext a;refine ⟨⟨_,SqL.of hv⟩,loopL (xs:=vs) (WordRI a rs H) ⟨⟨_,_,rfl⟩,rfl⟩ ?_ ?_ ?_⟩;{rintro i σ H' hi ⟨_,rfl⟩;exact SqL.of hv}
 . rintro i x σ H' hi ⟨⟨v,v',rfl⟩,rfl⟩;obtain ⟨t,r,rfl,hr1,htt⟩:=ht.get hi;obtain ⟨b1,b2⟩:=hb r (yb hr1);have tk:rs.take (i+1)=rs.take i++[r]:=by rw [yG,hr1];rfl
   ext a;refine ⟨_,SqT.of htt,rfl,?_⟩;ext a;refine ⟨_,_,⟨rfl,rfl⟩,?_⟩;ext a;refine ⟨_,_,⟨rfl,rfl⟩,?_⟩;ext a;refine ⟨r.1,r.2,rfl,by lia,by lia,?_⟩;ext a;refine ⟨⟨some (.int (r.1:Nat)),some (.int (r.2:Nat)),?_⟩,rfl⟩;rw [tk,orR_snoc,lJ (w6 _) (w6 _),yo,yo]
 . rintro σ H' ⟨⟨v,v',rfl⟩,rfl⟩;ext a;rw [yZ (by rw [ht.length];exact zk _)];exact q
inductive Kd where
 | l | b | r
def kS:Kd->Str
 | .l=>"list"
 | .b=>"bits"
 | .r=>"runs"
def szS:Kd->List Nat->Nat
 | .l,ps=>ps.length
 | .b,_=>32
 | .r,ps=>2*(runsOf ps).length
def BodyIs (H:Hp):Kd->List Nat->V->Prop
 | .l,ps,v=>∃ l,v=.ref l/\H l=some (.lst (pint ps))
 | .b,ps,v=>v=.int (wd ps:Nat)
 | .r,ps,v=>∃ l,v=.ref l/\RunsL H l (runsOf ps)
theorem BodyIs.same {k:Kd}{v:V}(h:BodyIs H k ps v)(s:Same H H'):BodyIs H' k ps v:=by
 cases k with
 | l=>obtain ⟨l,e,h⟩:=h;exact ⟨l,e,s _ _ h⟩
 | b=>exact h
 | r=>obtain ⟨l,e,h⟩:=h;exact ⟨l,e,h.same s⟩
def StAt (c:Kd->Addr)(k:Kd)(H:Hp)(a:Addr)(ps:List Nat):Prop:=match k with
 | .l=>∃ dx l,H a=some (.ins (c .l) dx [("places",.ref l)])/\H l=some (.lst (pint ps))
 | .b=>∃ dx,H a=some (.ins (c .b) dx [("ones",.int (wd ps:Nat))])
 | .r=>∃ dx l,H a=some (.ins (c .r) dx [("runs",.ref l)])/\RunsL H l (runsOf ps)
theorem StAt.same {c:Kd->Addr}{k:Kd}{a:Addr}(h:StAt c k H a ps)(s:Same H H'):StAt c k H' a ps:=by
 cases k with
 | l=>obtain ⟨dx,l,e,h⟩:=h;exact ⟨dx,l,s _ _ e,s _ _ h⟩
 | b=>obtain ⟨dx,e⟩:=h;exact ⟨dx,s _ _ e⟩
 | r=>obtain ⟨dx,l,e,h⟩:=h;exact ⟨dx,l,s _ _ e,h.same s⟩
def noF (fs:List (Str × V)):Prop:=fs.lookup (Str.ofString "kind")=none/\fs.lookup (Str.ofString "body")=none/\fs.lookup (Str.ofString "word")=none/\fs.lookup (Str.ofString "size")=none/\fs.lookup (Str.ofString "told")=none/\fs.lookup (Str.ofString "many")=none/\fs.lookup (Str.ofString "has")=none/\fs.lookup (Str.ofString "below")=none/\fs.lookup (Str.ofString "chosen")=none/\fs.lookup (Str.ofString "onward")=none/\fs.lookup (Str.ofString "backward")=none
theorem Yx (v:V):noF [("places",v)]:=⟨rfl,rfl,rfl,rfl,rfl,rfl,rfl,rfl,rfl,rfl,rfl⟩
theorem noF_ones (v:V):noF [("ones",v)]:=⟨rfl,rfl,rfl,rfl,rfl,rfl,rfl,rfl,rfl,rfl,rfl⟩
theorem noF_runs (v:V):noF [("runs",v)]:=⟨rfl,rfl,rfl,rfl,rfl,rfl,rfl,rfl,rfl,rfl,rfl⟩
theorem StAt.obj {c:Kd->Addr}{k:Kd}{a:Addr}(h:StAt c k H a ps):∃ dx fs,H a=some (.ins (c k) dx fs)/\noF fs:=by
 cases k with
 | l=>obtain ⟨dx,l,e,_⟩:=h;exact ⟨dx,_,e,Yx _⟩
 | b=>obtain ⟨dx,e⟩:=h;exact ⟨dx,_,e,noF_ones _⟩
 | r=>obtain ⟨dx,l,e,_⟩:=h;exact ⟨dx,_,e,noF_runs _⟩
def spKindS (k:Kd):Sp:=λvs H Q _=>∃ a:Addr,vs=[.ref a]/\Q (.str (kS k)) H
def spBodyS (c:Kd->Addr)(k:Kd):Sp:=λvs H Q _=>∃ (a:Addr) (ps:List Nat),vs=[.ref a]/\StAt c k H a ps/\∀ v H',Same H H'->BodyIs H' k ps v->Q v H'
def spToldS (c:Kd->Addr)(k:Kd):Sp:=λvs H Q _=>∃ (a:Addr) (ps:List Nat),vs=[.ref a]/\StAt c k H a ps/\∀ t v H',Same H H'->H' t=some (.tup [.str (kS k),v])->BodyIs H' k ps v->Q (.ref t) H'
def spWordM (c:Kd->Addr)(k:Kd):Sp:=λvs H Q _=>∃ (a:Addr) (ps:List Nat),vs=[.ref a]/\StAt c k H a ps/\Up 0 ps/\(∀ p∈ps,p<256)/\Q (.int (wd ps:Nat)) H
def spManyM (c:Kd->Addr)(k:Kd):Sp:=λvs H Q _=>∃ (a:Addr) (ps:List Nat),vs=[.ref a]/\StAt c k H a ps/\Up 0 ps/\(∀ p∈ps,p<256)/\Q (.int ps.length) H
def spSizeM (c:Kd->Addr)(k:Kd):Sp:=λvs H Q _=>∃ (a:Addr) (ps:List Nat),vs=[.ref a]/\StAt c k H a ps/\Q (.int (szS k ps:Nat)) H
def spInitS (K:zj)(c:Kd->Addr):Kd->Sp
 | .l=>λvs H Q _=>∃ (x dx p:Addr) (ps:List Nat),vs=[.ref x,.ref p]/\H x=some (.ins (c .l) dx [])/\SqL K H p (pint ps)/\∀ l,H l=none->Q .non (upd (upd H l (.lst (pint ps))) x (.ins (c .l) dx [("places",.ref l)]))
 | .b=>λvs H Q _=>∃ (x dx:Addr) (v:V),vs=[.ref x,v]/\H x=some (.ins (c .b) dx [])/\Q .non (upd H x (.ins (c .b) dx [("ones",v)]))
 | .r=>λvs H Q _=>∃ (x dx p:Addr) (us:List V),vs=[.ref x,.ref p]/\H x=some (.ins (c .r) dx [])/\H p=some (.lst us)/\∀ l,H l=none->Q .non (upd (upd H l (.lst us)) x (.ins (c .r) dx [("runs",.ref l)]))
section
variable {c:Kd->Addr}
theorem Yw (B:Blt mg)(cd:CD_ListStretch K mg (c .l)):MakeAt P w K mg base "ListStretch" (c .l) ["self","places"] 1 (spInitS K c .l):=by
 refine MakeAt.of cd.at_ cd.init jq ?_ ?_;ext c;have nd:=jq.nd;obtain ⟨x,dx,p,ps,rfl,hx,hp,q⟩:=h;refine ⟨_,(zo (wU K (pv 0) (wY (uU K) rfl B.lst vQ (zy (pv 1) zx)))),?_⟩;ext a;refine ⟨_,.inl hp,λl hl=>?_⟩;have hx2:upd H l (.lst (pint ps)) x=some (.ins (c .l) dx []):=by rw [zr (zI hx hl)];exact hx
 exact ⟨_,_,_,hx2,cd.c,cd.n_places,by decide,q l hl⟩
theorem Yv (cd:CD_BitStretch K mg (c .b)):MakeAt P w K mg base "BitStretch" (c .b) ["self","word"] 1 (spInitS K c .b):=by refine MakeAt.of cd.at_ cd.init jr ?_ ?_;ext c;have nd:=jr.nd;obtain ⟨x,dx,v,rfl,hx,q⟩:=h;refine ⟨_,(zo (wU K (pv 0) (pv 1))),?_⟩;ext a;exact ⟨_,_,_,hx,cd.c,cd.n_ones,by decide,q⟩
theorem Yu (B:Blt mg)(cd:CD_RunStretch K mg (c .r)):MakeAt P w K mg base "RunStretch" (c .r) ["self","runs"] 1 (spInitS K c .r):=by
 refine MakeAt.of cd.at_ cd.init jt ?_ ?_;ext c;have nd:=jt.nd;obtain ⟨x,dx,p,us,rfl,hx,hp,q⟩:=h;refine ⟨_,(zo (wU K (pv 0) (wY (uU K) rfl B.lst vQ (zy (pv 1) zx)))),?_⟩;ext a;refine ⟨_,.inl (SqL.of hp),λl hl=>?_⟩;have hx2:upd H l (.lst us) x=some (.ins (c .r) dx []):=by rw [zr (zI hx hl)];exact hx
 exact ⟨_,_,_,hx2,cd.c,cd.n_runs,by decide,q l hl⟩
end
section
variable {c:Kd->Addr}
theorem Yt (jbc:FnAt P w K mg base "word_of" ["places"] 1 (spWordOf K))(cd:CD_ListStretch K mg (c .l)):MethAt P w K mg base (c .l) "word" ["self"] 4 (spWordM c .l):=by refine MethAt.of cd.c cd.m_word jG ?_ ?_;ext c;have nd:=jG.nd;obtain ⟨a,ps,rfl,⟨dx,l,ha,hl⟩,up,h256,q⟩:=h;refine ⟨_,(zo (zd (zc jbc (zy (yc K (pv 0)) zx)))),?_⟩;ext a;refine (yQ ha cd.c cd.n_places (v:=.ref l) rfl ⟨l,ps,rfl,SqL.of hl,λp hp=>ue (h256 p hp) (by decide),?_⟩);rw [orW_up up];exact q
theorem Ys (cd:CD_BitStretch K mg (c .b)):MethAt P w K mg base (c .b) "word" ["self"] 4 (spWordM c .b):=by refine MethAt.of cd.c cd.m_word jQ ?_ ?_;ext c;have nd:=jQ.nd;obtain ⟨a,ps,rfl,⟨dx,ha⟩,up,h256,q⟩:=h;refine ⟨_,(zo (zd (yc K (pv 0)))),?_⟩;ext a;exact (yQ ha cd.c cd.n_ones rfl q)
theorem Yr (jW:FnAt P w K mg base "word_of_runs" ["runs"] 3 spWordOfRuns)(cd:CD_RunStretch K mg (c .r)):MethAt P w K mg base (c .r) "word" ["self"] 4 (spWordM c .r):=by refine MethAt.of cd.c cd.m_word jU ?_ ?_;ext c;have nd:=jU.nd;obtain ⟨a,ps,rfl,⟨dx,l,ha,hl⟩,up,h256,q⟩:=h;refine ⟨_,(zo (zd (zc jW (zy (yc K (pv 0)) zx)))),?_⟩;ext a;refine (yQ ha cd.c cd.n_runs (v:=.ref l) rfl ⟨l,_,rfl,hl,λr hr=>⟨px ps r hr,ue (gD h256 r hr) (by decide)⟩,?_⟩);rw [aM up];exact q
end
section
variable {c:Kd->Addr}
theorem ok_many (hw:∀ k,MethAt P w K mg base (c k) "word" ["self"] 4 (spWordM c k))(jy:FnAt P w K mg base "counted" ["word"] 2 spCount)(k:Kd)(cc:Cls K (c k))(d:MDefAt K (c k) "many" "Stretch.many" qy ["self"]):MethAt P w K mg base (c k) "many" ["self"] 5 (spManyM c k):=by refine MethAt.of cc d jas ?_ ?_;ext c;have nd:=jas.nd;obtain ⟨a,ps,rfl,hst,up,h256,q⟩:=h;obtain ⟨dx,fs,ha,nf⟩:=hst.obj;refine ⟨_,(zo (zd (zc jy (zy (xo P w K mg base 4 (pv 0)) zx)))),?_⟩;ext a;exact (yf ha nf.2.2.1 (hw k) ⟨a,ps,rfl,hst,up,h256,ps,rfl,up,h256,q⟩)
end
def spHasM (c:Kd->Addr)(k:Kd):Sp:=λvs H Q _=>∃ (a:Addr) (ps:List Nat) (p:Nat),vs=[.ref a,.int p]/\StAt c k H a ps/\Up 0 ps/\(∀ p∈ps,p<256)/\Q (.bl (decide (p∈ps))) H
section
variable {c:Kd->Addr}
theorem ok_has (hw:∀ k,MethAt P w K mg base (c k) "word" ["self"] 4 (spWordM c k))(jA:FnAt P w K mg base "bit_at" ["word","place"] 1 spBit)(k:Kd)(cc:Cls K (c k))(d:MDefAt K (c k) "has" "Stretch.has" qx ["self","place"]):MethAt P w K mg base (c k) "has" ["self","place"] 5 (spHasM c k):=by
 refine MethAt.of cc d jau ?_ ?_;ext c;have nd:=jau.nd;obtain ⟨a,ps,p,rfl,hst,up,h256,q⟩:=h;obtain ⟨dx,fs,ha,nf⟩:=hst.obj;refine ⟨_,(zo (zd (pe_c yL (zc jA (zy (xo P w K mg base 4 (pv 0)) (zy (pv 1) zx))) zu))),?_⟩;ext a;refine ⟨_,_,_,ha,nf.2.2.1,_,_,hw k,a,ps,rfl,hst,up,h256,?_⟩;ext a;refine ⟨wd ps,p,rfl,?_⟩;rw [vz up];ext a;have e:decide ((((decide (p∈ps)).toNat:Nat):Int)=1)=decide (p∈ps):=by by_cases h:p∈ps<;>simp [h]
 rw [e];exact q
end
section
variable {c:Kd->Addr}
theorem Yq (cd:CD_ListStretch K mg (c .l)):MethAt P w K mg base (c .l) "kind" ["self"] 1 (spKindS .l):=by refine MethAt.of cd.c cd.m_kind jE ?_ ?_;ext c;have nd:=jE.nd;obtain ⟨a,rfl,q⟩:=h;refine ⟨_,(zo (zd xr)),?_⟩;ext a;exact q
theorem Yp (cd:CD_BitStretch K mg (c .b)):MethAt P w K mg base (c .b) "kind" ["self"] 1 (spKindS .b):=by refine MethAt.of cd.c cd.m_kind jO ?_ ?_;ext c;have nd:=jO.nd;obtain ⟨a,rfl,q⟩:=h;refine ⟨_,(zo (zd xr)),?_⟩;ext a;exact q
theorem Yo (cd:CD_RunStretch K mg (c .r)):MethAt P w K mg base (c .r) "kind" ["self"] 1 (spKindS .r):=by refine MethAt.of cd.c cd.m_kind jS ?_ ?_;ext c;have nd:=jS.nd;obtain ⟨a,rfl,q⟩:=h;refine ⟨_,(zo (zd xr)),?_⟩;ext a;exact q
theorem Yn (B:Blt mg)(cd:CD_ListStretch K mg (c .l)):MethAt P w K mg base (c .l) "body" ["self"] 1 (spBodyS c .l):=by refine MethAt.of cd.c cd.m_body jF ?_ ?_;ext c;have nd:=jF.nd;obtain ⟨a,ps,rfl,⟨dx,l,ha,hl⟩,q⟩:=h;refine ⟨_,(zo (zd (wY (uU K) rfl B.lst vQ (zy (yc K (pv 0)) zx)))),?_⟩;ext a;refine (yQ ha cd.c cd.n_places (v:=.ref l) rfl ⟨l,rfl,_,.inl (SqL.of hl),λp hp=>?_⟩);exact q _ _ (λb o e=>by rw [zr (zI e hp)];exact e) ⟨p,rfl,zq⟩
theorem Ym (cd:CD_BitStretch K mg (c .b)):MethAt P w K mg base (c .b) "body" ["self"] 1 (spBodyS c .b):=by refine MethAt.of cd.c cd.m_body jP ?_ ?_;ext c;have nd:=jP.nd;obtain ⟨a,ps,rfl,⟨dx,ha⟩,q⟩:=h;refine ⟨_,(zo (zd (yc K (pv 0)))),?_⟩;ext a;exact (yQ ha cd.c cd.n_ones rfl (q _ _ (Same.refl _) rfl))
theorem Yl (B:Blt mg)(cd:CD_RunStretch K mg (c .r)):MethAt P w K mg base (c .r) "body" ["self"] 1 (spBodyS c .r):=by
 refine MethAt.of cd.c cd.m_body jT ?_ ?_;ext c;have nd:=jT.nd;obtain ⟨a,ps,rfl,⟨dx,l,ha,us,hl,ht⟩,q⟩:=h;refine ⟨_,(zo (zd (wY (uU K) rfl B.lst vQ (zy (yc K (pv 0)) zx)))),?_⟩;ext a;refine (yQ ha cd.c cd.n_runs (v:=.ref l) rfl ⟨l,rfl,_,.inl (SqL.of hl),λp hp=>?_⟩);have sm:Same H (upd H p (.lst us)):=λb o e=>by rw [zr (zI e hp)];exact e
 exact q _ _ sm ⟨p,rfl,us,zq,ht.same sm⟩
end
section
variable {c:Kd->Addr}
theorem ok_told (hk:∀ k,MethAt P w K mg base (c k) "kind" ["self"] 4 (spKindS k))(hb:∀ k,MethAt P w K mg base (c k) "body" ["self"] 4 (spBodyS c k))(k:Kd)(cc:Cls K (c k))(d:MDefAt K (c k) "told" "Stretch.told" qz ["self"]):MethAt P w K mg base (c k) "told" ["self"] 5 (spToldS c k):=by
 refine MethAt.of cc d jar ?_ ?_;ext c;have nd:=jar.nd;obtain ⟨a,ps,rfl,hst,q⟩:=h;obtain ⟨dx,fs,ha,nf⟩:=hst.obj;refine ⟨_,(zo (zd (va (zy (xo P w K mg base 4 (pv 0)) (zy (xo P w K mg base 4 (pv 0)) zx))))),?_⟩;ext a;refine (yf ha nf.1 (hk k) ⟨a,rfl,?_⟩);ext a;refine (yf ha nf.2.1 (hb k) ⟨a,ps,rfl,hst,λv H1 sm hv=>?_⟩);ext a;refine ⟨by decide,λt ht=>?_⟩;have sm2:Same H1 (upd H1 t (.tup [.str (kS k),v])):=λb o e=>by rw [zr (zI e ht)];exact e
 exact q t v _ (sm.trans sm2) zq (hv.same sm2)
theorem Yk (B:Blt mg)(cd:CD_ListStretch K mg (c .l)):MethAt P w K mg base (c .l) "size" ["self"] 1 (spSizeM c .l):=by refine MethAt.of cd.c cd.m_size jH ?_ ?_;ext c;have nd:=jH.nd;obtain ⟨a,ps,rfl,⟨dx,l,ha,hl⟩,q⟩:=h;refine ⟨_,(zo (zd (yk (xp K) rfl B.len yE (zy (yc K (pv 0)) zx)))),?_⟩;ext a;refine (yQ ha cd.c cd.n_places (v:=.ref l) rfl ⟨l,rfl,_,.inl (SqL.of hl),?_⟩);rw [zH];exact q
theorem Yj (cP:∃ t,mg "PLACES"=some (.int 256 t))(cd:CD_BitStretch K mg (c .b)):MethAt P w K mg base (c .b) "size" ["self"] 1 (spSizeM c .b):=by obtain ⟨tP,ja⟩:=cP;refine MethAt.of cd.c cd.m_size jR ?_ ?_;ext c;have nd:=jR.nd;obtain ⟨a,ps,rfl,⟨dx,ha⟩,q⟩:=h;refine ⟨_,(zo (zd (zw yW (zK ja) zu))),?_⟩;ext a;exact q
theorem Yi (B:Blt mg)(cd:CD_RunStretch K mg (c .r)):MethAt P w K mg base (c .r) "size" ["self"] 1 (spSizeM c .r):=by refine MethAt.of cd.c cd.m_size jV ?_ ?_;ext c;have nd:=jV.nd;obtain ⟨a,ps,rfl,⟨dx,l,ha,us,hl,ht⟩,q⟩:=h;refine ⟨_,(zo (zd (zw xc zu (yk (xp K) rfl B.len yE (zy (yc K (pv 0)) zx))))),?_⟩;ext a;refine (yQ ha cd.c cd.n_runs (v:=.ref l) rfl ⟨l,rfl,_,.inl (SqL.of hl),?_⟩);rw [ht.length];exact q
end
def kdOf (ps:List Nat):Kd:=if ps.length<=32/\ps.length<=2*(runsOf ps).length then .l else if 32<=2*(runsOf ps).length then .b else .r
def spSizes:Sp:=λvs H Q _=>∃ ps:List Nat,vs=[.int (wd ps:Nat)]/\Up 0 ps/\(∀ p∈ps,p<256)/\∀ t,H t=none->Q (.ref t) (upd H t (.tup [.int ps.length,.int 32,.int ((2*(runsOf ps).length:Nat):Int)]))
def KeptIs (c:Kd->Addr)(H:Hp)(ps:List Nat)(v:V):Prop:=(ps=[]->v=.non)/\(ps≠[]->∃ x,v=.ref x/\StAt c (kdOf ps) H x ps)
theorem KeptIs.same {c:Kd->Addr}{v:V}(h:KeptIs c H ps v)(s:Same H H'):KeptIs c H' ps v:=⟨h.1,λe=>let ⟨x,a,b⟩:=h.2 e;⟨x,a,b.same s⟩⟩
def spKept (c:Kd->Addr):Sp:=λvs H Q _=>∃ ps:List Nat,vs=[.int (wd ps:Nat)]/\Up 0 ps/\(∀ p∈ps,p<256)/\∀ v H',Same H H'->KeptIs c H' ps v->Q v H'
theorem wd_eq0:((wd ps:Nat):Int)=0↔ps=[]:=by
 cases ps with
 | nil=>exact ⟨λ_=>rfl,λ_=>rfl⟩
 | cons p r =>
   have:0<wd (p::r):=qB;exact ⟨λh=>by lia,λh=>by cases h⟩
section
variable {c:Kd->Addr}{Q:VK}{E:XK}
theorem mkS_l {l1:Addr}(hl:SqL K H l1 (pint ps))(q:∀ a H',Same H H'->H a=none->StAt c .l H' a ps->Q (.ref a) H') :
   ∀ x dx,H x=none->H dx=none->dx≠x->spInitS K c .l [.ref x,.ref l1] (upd (upd H dx (.own x)) x (.ins (c .l) dx [])) (λv H'=>v=.non/\Q (.ref x) H') E:=by
 intro x dx nx ndx dne;have m2:Same H (upd (upd H dx (.own x)) x (.ins (c .l) dx [])):=(Same.new ndx).put nx;refine ⟨x,dx,l1,ps,rfl,zq,m2.seq hl,λl nl=>⟨rfl,?_⟩⟩;have m4:=(m2.put (o:=.lst (pint ps)) (m2.free nl)).put (o:=.ins (c .l) dx [("places",.ref l)]) nx;refine q x _ m4 nx ⟨dx,l,zq,?_⟩;have:l≠x:=λz=>by rw [z,zq] at nl;cases nl
 rw [zr this,zq]
theorem mkS_b (q:∀ a H',Same H H'->H a=none->StAt c .b H' a ps->Q (.ref a) H') :
   ∀ x dx,H x=none->H dx=none->dx≠x->spInitS K c .b [.ref x,.int (wd ps:Nat)] (upd (upd H dx (.own x)) x (.ins (c .b) dx [])) (λv H'=>v=.non/\Q (.ref x) H') E:=by
 intro x dx nx ndx dne;have m2:Same H (upd (upd H dx (.own x)) x (.ins (c .b) dx [])):=(Same.new ndx).put nx;exact ⟨x,dx,_,rfl,zq,rfl,q x _ (m2.put nx) nx ⟨dx,zq⟩⟩
theorem mkS_r {l1:Addr}(hl:RunsL H l1 (runsOf ps))(q:∀ a H',Same H H'->H a=none->StAt c .r H' a ps->Q (.ref a) H') :
   ∀ x dx,H x=none->H dx=none->dx≠x->spInitS K c .r [.ref x,.ref l1] (upd (upd H dx (.own x)) x (.ins (c .r) dx [])) (λv H'=>v=.non/\Q (.ref x) H') E:=by
 intro x dx nx ndx dne;obtain ⟨us,hu,ht⟩:=hl;have m2:Same H (upd (upd H dx (.own x)) x (.ins (c .r) dx [])):=(Same.new ndx).put nx;refine ⟨x,dx,l1,us,rfl,zq,m2 _ _ hu,λl nl=>⟨rfl,?_⟩⟩;have m4:=(m2.put (o:=.lst us) (m2.free nl)).put (o:=.ins (c .r) dx [("runs",.ref l)]) nx;refine q x _ m4 nx ⟨dx,l,zq,us,?_,ht.same m4⟩;have:l≠x:=λz=>by rw [z,zq] at nl;cases nl
 rw [zr this,zq]
end
section
variable {c:Kd->Addr}
theorem ok_sizes (cP:∃ t,mg "PLACES"=some (.int 256 t))(jy:FnAt P w K mg base "counted" ["word"] 2 spCount)(d:DefAt K mg "sizes" oZ ["word"]):FnAt P w K mg base "sizes" ["word"] 3 spSizes:=by
 obtain ⟨tP,ja⟩:=cP;refine FnAt.of d jcf ?_ ?_;ext c;have nd:=jcf.nd;obtain ⟨ps,rfl,up,h256,q⟩:=h;refine ⟨_,(zp (zb 1 (zw xD (pv 0) (vb un_inv (zw vA (pv 0) zu)))) (zo (zd (va (zy (zc jy (zy (pv 0) zx)) (zy (zw yW (zK ja) zu) (zy (zw xc zu (zc jy (zy (pv 1) zx))) zx))))))),?_⟩
 ext a;refine ⟨wd_abs up h256,ps,rfl,up,h256,bgs ps,by rw [bgs_wdI2 up],up.filter,bgs_lt h256,_,rfl,by decide,λt nt=>?_⟩;have e:=q t nt;rw [runs_bgs up,Int.natCast_mul] at e;exact e
theorem ok_kept (jb4:FnAt P w K mg base "sizes" ["word"] 3 spSizes)(jaw:FnAt P w K mg base "places_of" ["word"] 3 spPlacesOf)(jbd:FnAt P w K mg base "runs_of" ["word"] 3 spRunsOf)
   (jbU:MakeAt P w K mg base "ListStretch" (c .l) ["self","places"] 1 (spInitS K c .l)) (jb5:MakeAt P w K mg base "BitStretch" (c .b) ["self","word"] 1 (spInitS K c .b)) (jb6:MakeAt P w K mg base "RunStretch" (c .r) ["self","runs"] 1 (spInitS K c .r))
   (d:DefAt K mg "kept" oY ["word"]):FnAt P w K mg base "kept" ["word"] 4 (spKept c):=by
 refine FnAt.of d jcl ?_ ?_;ext c;have nd:=jcl.nd;obtain ⟨ps,rfl,up,h256,q⟩:=h;refine ⟨_,(zp (yu (zG yL (pv 0) zu) (zo (zd vf)) yh) (zp (qI (zc jb4 (zy (pv 0) zx)) (vT K rfl (yR (yj 1) (yR (yj 2) (yR (yj 3) ve))))) (zp (yu (PW.pt (lX (zG uY (pv 1) (pv 2)) (lY (zG uY (pv 1) (pv 3))))) (zo (zd (kx jbU (hr.mono (by decide)) rfl (zy (zc jaw (zy (pv 0) zx)) zx)))) yh) (zp (yu (zG uY (pv 2) (pv 3)) (zo (zd (kx jb5 (hr.mono (by decide)) rfl (zy (pv 0) zx)))) yh) (zo (zd (kx jb6 (hr.mono (by decide)) rfl (zy (zc jbd (zy (pv 0) zx)) zx)))))))),?_⟩
 ext a;by_cases e0:ps=[];{rw [if_pos (wd_eq0.mpr e0)];exact q _ _ (Same.refl _) ⟨λ_=>rfl,λz=>absurd e0 z⟩}
 rw [if_neg (λz=>e0 (wd_eq0.mp z))];have q:∀ x H',Same H H'->StAt c (kdOf ps) H' x ps->Q (.ref x) H':=λx H' s st=>q _ _ s ⟨λz=>absurd z e0,λ_=>⟨x,rfl,st⟩⟩
 refine ⟨ps,rfl,up,h256,λt nt=>?_⟩;have smT:Same H (upd H t (.tup [.int ps.length,.int 32,.int ((2*(runsOf ps).length:Nat):Int)])):=Same.new nt;refine ⟨t,rfl,_,SqT.of zq,rfl,_,_,rfl,_,_,rfl,_,_,rfl,rfl,_,rfl,_,rfl,?_⟩;generalize upd H t (.tup [.int ps.length,.int 32,.int ((2*(runsOf ps).length:Nat):Int)])=H1 at smT ⊢;have rest:¬ (ps.length<=32/\ps.length<=2*(runsOf ps).length)->∃ i,V.int 32=V.int i/\∃ x,V.int ((2*(runsOf ps).length:Nat):Int)=V.int x /\
     if i<=x then ∀ (x dx:Addr),H1 x=none->H1 dx=none->dx≠x->spInitS K c Kd.b [V.ref x,V.int ((wd ps:Nat):Int)] (upd (upd H1 dx (HO.own x)) x (HO.ins (c Kd.b) dx [])) (λv H2=>v=V.non/\Q (V.ref x) H2) E0
     else spRunsOf [V.int ((wd ps:Nat):Int)] H1 (λx H1=>∀ (x_1 dx:Addr),H1 x_1=none->H1 dx=none->dx≠x_1->spInitS K c Kd.r [V.ref x_1,x] (upd (upd H1 dx (HO.own x_1)) x_1 (HO.ins (c Kd.r) dx [])) (λv H2=>v=V.non/\Q (V.ref x_1) H2) E0) E0:=λn1=>by
   refine ⟨_,rfl,_,rfl,?_⟩;by_cases c3:32<=2*(runsOf ps).length
   . rw [if_pos (by lia)];have e:kdOf ps=.b:=by unfold kdOf;rw [if_neg n1,if_pos c3]
     rw [e] at q;exact mkS_b λx H' sm nx st=>q x H' (smT.trans sm) st
   . rw [if_neg (by lia)];have e:kdOf ps=.r:=by unfold kdOf;rw [if_neg n1,if_neg c3]
     rw [e] at q;refine ⟨ps,rfl,up,h256,λr H2 s2 nr hr2=>?_⟩;exact mkS_r hr2 λx H' sm nx st=>q x H' (smT.trans (s2.trans sm)) st
 by_cases c1:ps.length<=32
 . rw [if_pos (by lia)];refine ⟨_,rfl,_,rfl,?_⟩;by_cases c2:ps.length<=2*(runsOf ps).length
   . rw [if_pos (by lia)];have e:kdOf ps=.l:=by unfold kdOf;rw [if_pos ⟨c1,c2⟩]
     rw [e] at q;refine ⟨ps,rfl,up,h256,λr H2 s2 nr hr2=>?_⟩;exact mkS_l (SqL.of hr2) λx H' sm nx st=>q x H' (smT.trans (s2.trans sm)) st
   . rw [if_neg (by lia)];exact rest λz=>c2 z.2
 . rw [if_neg (by lia)];exact rest λz=>c1 z.1
end
def gJoin (ps qs:List Nat):List Nat:=(List.range 256).filter λp=>decide (p∈ps)||decide (p∈qs)
def gLess (ps qs:List Nat):List Nat:=ps.filter λp=>!decide (p∈qs)
theorem tK {f:Nat->Bool}:∀ p∈(List.range 256).filter f,p<256:=λp hp=>xE.mp (yv.mp hp).1
theorem flt_lt {f:Nat->Bool}(h:∀ p∈ps,p<256):∀ p∈ps.filter f,p<256:=λp hp=>h p (yv.mp hp).1
def gAdd (ps:List Nat)(p:Nat):List Nat:=gJoin ps [p]
def gRem (ps:List Nat)(p:Nat):List Nat:=gLess ps [p]
def spPut (c:Kd->Addr)(g:List Nat->Nat->List Nat):Sp:=λvs H Q _=>∃ (a:Addr) (k:Kd) (ps:List Nat) (p:Nat),vs=[.ref a,.int p]/\StAt c k H a ps/\Up 0 ps/\(∀ p∈ps,p<256)/\p<256/\∀ v H',Same H H'->KeptIs c H' (g ps p) v->Q v H'
theorem qv (p:Nat):Up 0 [p]:=⟨zV _,trivial⟩
theorem oC {p:Nat}(h:p<256):∀ q∈[p],q<256:=λq hq=>by
 have:q=p:=by simpa using hq
 lia
theorem oB (p:Nat):(1:Int)*2^((p:Nat):Int).toNat=((wd [p]:Nat):Int):=by
 rw [yo,r6];show (2:Int)^p=((2^p+0:Nat):Int)
 rw [xt,mE];rfl
section
variable {c:Kd->Addr}
theorem ok_added (hw:∀ k,MethAt P w K mg base (c k) "word" ["self"] 4 (spWordM c k))(jo:FnAt P w K mg base "kept" ["word"] 4 (spKept c))(d:DefAt K mg "added" oX ["stretch","place"]):FnAt P w K mg base "added" ["stretch","place"] 5 (spPut c gAdd):=by refine FnAt.of d jcg ?_ ?_;ext c;have nd:=jcg.nd;obtain ⟨a,k,ps,p,rfl,st,up,l,hp,q⟩:=h;obtain ⟨dx,fs,hx,nf⟩:=st.obj;refine ⟨_,(zo (zd (zc jo (zy (zw rZ (xo P w K mg base 4 (pv 0)) (zw vA zu (pv 1))) zx)))),?_⟩;ext a;refine (yf hx nf.2.2.1 (hw k) ⟨a,ps,rfl,st,up,l,?_⟩);ext a;refine ⟨⟨by lia,by lia,by decide⟩,gAdd ps p,?_,vB _ _,tK (f:=λx=>decide (x∈ps)||decide (x∈[p])),q⟩;rw [oB,ku up (qv p) l (oC hp)];rfl
theorem Yh (hw:∀ k,MethAt P w K mg base (c k) "word" ["self"] 4 (spWordM c k))(jo:FnAt P w K mg base "kept" ["word"] 4 (spKept c))(d:DefAt K mg "removed" oW ["stretch","place"]):FnAt P w K mg base "removed" ["stretch","place"] 5 (spPut c gRem):=by refine FnAt.of d jbE ?_ ?_;ext c;have nd:=jbE.nd;obtain ⟨a,k,ps,p,rfl,st,up,l,hp,q⟩:=h;obtain ⟨dx,fs,hx,nf⟩:=st.obj;refine ⟨_,(zo (zd (zc jo (zy (zw xD (xo P w K mg base 4 (pv 0)) (vb un_inv (zw vA zu (pv 1)))) zx)))),?_⟩;ext a;refine (yf hx nf.2.2.1 (hw k) ⟨a,ps,rfl,st,up,l,?_⟩);ext a;refine ⟨⟨by lia,by lia,by decide⟩,gRem ps p,?_,up.filter,flt_lt (f:=λx=>!decide (x∈[p])) l,q⟩;rw [oB,less_wdI up (qv p)];rfl
end
def spIsWhole:Sp:=λvs H Q _=>∃ i:Int,vs=[.int i]/\Q (.bl true) H
def spChk:Sp:=λvs H Q _=>∃ n:Nat,vs=[.int n]/\n<=65535/\Q .non H
theorem Yg (B:Blt mg)(d:DefAt K mg "is_whole" o8 ["thing"]):FnAt P w K mg base "is_whole" ["thing"] 1 spIsWhole:=by refine FnAt.of d jbt ?_ ?_;ext c;have nd:=jbt.nd;obtain ⟨k,rfl,q⟩:=h;refine ⟨_,(zo (zd (vC (yk (rO K) rfl B.isi rP (zy (pv 0) (zy (rj (v:=.ty "int") rfl B.int boot_int rfl) zx))) (tU (pe_not (yk (rO K) rfl B.isi rP (zy (pv 0) (zy (rj (v:=.ty "bool") rfl B.bool boot_bool rfl) zx)))))))),?_⟩;ext a;exact q
theorem ok_check (cG:∃ t,mg "GREATEST"=some (.int 65535 t))(jaP:FnAt P w K mg base "is_whole" ["thing"] 1 spIsWhole)(d:DefAt K mg "check_number" oV ["thing"]):FnAt P w K mg base "check_number" ["thing"] 2 spChk:=by obtain ⟨tG,jX⟩:=cG;refine FnAt.of d jap ?_ ?_;ext c;have nd:=jap.nd;obtain ⟨n,rfl,hn,q⟩:=h;refine ⟨_,(zo (yu (PW.pt (pw_or (rh (vD (zc jaP (zy (pv 0) zx)))) (pw_or1 (rh (pt_chain uY uY zu (pv 0) (zK jX)))))) (zo (ps_never)) yh)),?_⟩;ext a;refine ⟨_,rfl,_,rfl,?_⟩;rw [if_neg (by decide),if_pos (by lia),if_pos (by lia)];exact q
theorem kG (xs:List V)(k:Nat):cutV xs none (some (k:Int))=xs.take k:=by
 unfold cutV;rw [HT.sIx_none,HT.sIx_nat,vF,r8];rcases Nat.le_total k xs.length with h | h
 . rw [sG h]
 . rw [Nat.min_eq_right h,uh,yZ h]
theorem kF (xs:List V)(k:Nat):cutV xs (some (k:Int)) none=xs.drop k:=by
 unfold cutV;rw [HT.sIx_none,HT.sIx_nat];rcases Nat.le_total k xs.length with h | h
 . rw [sG h,yZ (by rw [yH];lia)]
 . rw [Nat.min_eq_right h,wK h,List.drop_length,List.take_nil]
def spHKt (ts:Tabs)(pr:Int->Int->Bool)(df:Int):Sp:=λvs H Q _=>∃ (a:Addr) (ks:List Int) (y:Int),vs=[.ref a,.int y]/\noT H a=some (.lst (ks.map V.int))/\ks.length<=1000/\Pre (pr y) ks/\Tbs ts H /\
 ∀ t l H',Nx ts H H'->noT H t=none->noT H l=none->noT H' t=some (.tup [.int ((cnt (pr y) ks:Int)-df),.ref l])->noT H' l=some (.lst (pint (halv 0 ks.length (cnt (pr y) ks))))->Q (.ref t) H'
theorem hkT {ts:Tabs}{pr:Int->Int->Bool}{df:Int}{c P1:Addr}{lp:Pos}(u:TabsUq ts)(hm:(P1,qual,lp)∈ts):∀ vs H Q E,spHKt ts pr df vs H Q E->spHK pr df c P1 qual lp vs H Q E:=by rintro vs H Q E ⟨a,ks,y,rfl,ha,hl,hp,hT,q⟩;exact ⟨a,ks,y,rfl,(oT ha),hl,hp,hT _ hm,λt l H' s t' f1 f2 h1 h2=>q t l H' (Tbs.grow u hT hm s t') (wq f1) (wq f2) (zM h1 (nt _)) (zM h2 (nl _))⟩
theorem pre_of {p:Int->Bool} (hd:∀ a b:Int,a<b->p b=true->p a=true):∀ {ks:List Int},ks.Pairwise (·<·)->Pre p ks
 | [],_=>λi k h=>by cases h
 | x :: r,h=>by
   obtain ⟨h1,h2⟩:=uA.mp h;cases hp:p x with
   | false =>
     have no:∀ k∈x::r,p k=false:=λk hk=>by
       rcases zQ.mp hk with rfl | hk
       . exact hp
       . cases q:p k with
         | false=>rfl
         | true=>rw [hd x k (h1 k hk) q] at hp;cases hp
     have c0:cnt p (x::r)=0:=by unfold cnt;rw [uu,vO];intro k hk;rw [no k hk];decide
     intro i k hk;rw [c0,no k (yb hk)];simp
   | true =>
     have c1:cnt p (x::r)=cnt p r+1:=by unfold cnt;rw [wG,if_pos hp];rfl
     intro i k hk;rw [c1];cases i with
     | zero=>cases (show x=k from Option.some.inj hk);rw [hp];simp
     | succ i =>
       rw [pre_of hd h2 i k hk];simp
theorem cD (ps:List Nat):pint ps=(ps.map λ(p:Nat)=>(p:Int)).map V.int:=by unfold pint;rw [zF];rfl
theorem kE:∀ {a:Nat} {ps:List Nat},Up a ps->(ps.map λ(p:Nat)=>(p:Int)).Pairwise (·<·)
 | _,[],_=>.nil
 | a,p::r,h=>by
   refine uA.mpr ⟨λy hy=>?_,kE h.2⟩;obtain ⟨x,hx,rfl⟩:=zR.mp hy;have:=Up.of_lt h.2 x hx;show (p:Int)<(x:Int);lia
theorem cnt_lo (k:Nat)(es:List Ent):cnt (λx=>decide (x<(k:Int))) ((kys es).map λ(p:Nat)=>(p:Int))=(loE k es).length:=by unfold cnt kys loE;rw [zF,tq,zg];refine congrArg List.length (um λe _=>?_);show decide ((e.key:Int)<(k:Int))=decide (e.key<k);rw [qR];lia
theorem qu {es:List Ent}(h:EsOk es):es.length<=256:=by
 have:=Up.lt256 h.up λp hp=>by obtain ⟨e,he,rfl⟩:=zR.mp hp;exact h.klt e he
 unfold kys at this;rw [zg] at this;exact this
theorem get_lo {es:List Ent}(k:Nat)(h:EsOk es):es[(loE k es).length]?=(miE k es++hiE k es).head?:=by
 have hs:es=loE k es++(miE k es++hiE k es):=by rw [<- zX];exact split k h.up
 have:(loE k es++(miE k es++hiE k es))[(loE k es).length]?=(miE k es++hiE k es).head?:=by rw [yq (zk _),wt,List.head?_eq_getElem?]
 rw [<- hs] at this;exact this
theorem cC {es:List Ent}(k:Nat)(h:EsOk es):es.take (loE k es).length=loE k es:=by
 have hs:es=loE k es++(miE k es++hiE k es):=by rw [<- zX];exact split k h.up
 have:(loE k es++(miE k es++hiE k es)).take (loE k es).length=loE k es:=List.take_left;rw [<- hs] at this;exact this
theorem drop_lo {es:List Ent}(k:Nat)(h:EsOk es):es.drop (loE k es).length=miE k es++hiE k es:=by
 have hs:es=loE k es++(miE k es++hiE k es):=by rw [<- zX];exact split k h.up
 have:(loE k es++(miE k es++hiE k es)).drop (loE k es).length=miE k es++hiE k es:=sC;rw [<- hs] at this;exact this
theorem len_lo {es:List Ent}(k:Nat):(loE k es).length<=es.length:=vN _ _
theorem kD {ks:List Nat}{i x:Nat}(h:ks[i]?=some x):atI (pint ks) (i:Int)=some (.int (x:Nat)):=qF (by unfold pint;rw [yp,h];rfl)
theorem cA {es:List Ent}{i:Nat}{e:Ent}(h:es[i]?=some e):(kys es)[i]?=some e.key:=by unfold kys;rw [yp,h];rfl
structure MkAt (c:Kd->Addr)(CM:Addr)(H:Hp)(m:Addr)(es:List Ent):Prop where
 ex:∃ dx kd ah sr:Addr,H m=some (.ins CM dx [("keyed",.ref kd),("aheads",.ref ah),("stretches",.ref sr),("held",.int (tot es:Nat))])/\H kd=some (.lst (pint (kys es)))/\H ah=some (.lst (pint (ahs 0 es)))/\H sr=some (.lst (es.map λe=>V.ref e.loc))
 st:∀ e∈es,StAt c (kdOf e.ps) H e.loc e.ps
theorem MkAt.same {c:Kd->Addr}{m:Addr}{es:List Ent}(h:MkAt c CM H m es)(s:Same H H'):MkAt c CM H' m es:=by obtain ⟨⟨dx,kd,ah,sr,h1,h2,h3,h4⟩,st⟩:=h;exact ⟨⟨dx,kd,ah,sr,s _ _ h1,s _ _ h2,s _ _ h3,s _ _ h4⟩,λe he=>(st e he).same s⟩
def noM (fs:List (Str × V)):Prop:=fs.lookup (Str.ofString "found")=none/\fs.lookup (Str.ofString "stands")=none/\fs.lookup (Str.ofString "ahead_of")=none/\fs.lookup (Str.ofString "stretch_at")=none/\fs.lookup (Str.ofString "keep")=none/\fs.lookup (Str.ofString "has")=none/\fs.lookup (Str.ofString "put")=none/\fs.lookup (Str.ofString "take")=none/\fs.lookup (Str.ofString "below")=none/\fs.lookup (Str.ofString "below_looks")=none/\fs.lookup (Str.ofString "numbers")=none/\fs.lookup (Str.ofString "many")=none/\fs.lookup (Str.ofString "chosen")=none/\fs.lookup (Str.ofString "onward")=none/\fs.lookup (Str.ofString "backward")=none/\fs.lookup (Str.ofString "word_at")=none
theorem noM_of (a b d e:V):noM [("keyed",a),("aheads",b),("stretches",d),("held",e)]:=⟨rfl,rfl,rfl,rfl,rfl,rfl,rfl,rfl,rfl,rfl,rfl,rfl,rfl,rfl,rfl,rfl⟩
theorem MkAt.obj {c:Kd->Addr}{m:Addr}{es:List Ent}(h:MkAt c CM H m es):∃ dx fs,H m=some (.ins CM dx fs)/\noM fs:=by obtain ⟨dx,kd,ah,sr,h1,_⟩:=h.ex;exact ⟨dx,_,h1,noM_of _ _ _ _⟩
def stV (k:Nat)(es:List Ent):V:=match miE k es with
 | []=>.non
 | e::_=>.ref e.loc
def spFound (c:Kd->Addr)(CM:Addr)(ts:Tabs):Sp:=λvs H Q _=>∃ (m:Addr) (k:Nat) (es:List Ent),vs=[.ref m,.int k]/\MkAt c CM (noT H) m es/\EsOk es/\Tbs ts H/\∀ H',Nx ts H H'->Q (.int (loE k es).length) H'
def spStands (c:Kd->Addr)(CM:Addr):Sp:=λvs H Q _=>∃ (m:Addr) (k:Nat) (es:List Ent),vs=[.ref m,.int (loE k es).length,.int k]/\MkAt c CM (noT H) m es/\EsOk es/\Q (.bl (decide (miE k es≠[]))) H
def spAhead (c:Kd->Addr)(CM:Addr):Sp:=λvs H Q _=>∃ (m:Addr) (i:Nat) (es:List Ent),vs=[.ref m,.int i]/\MkAt c CM (noT H) m es/\i<=es.length/\Q (.int (tot (es.take i):Nat)) H
def spStAt (c:Kd->Addr)(CM:Addr)(ts:Tabs):Sp:=λvs H Q _=>∃ (m:Addr) (k:Nat) (es:List Ent),vs=[.ref m,.int k]/\MkAt c CM (noT H) m es/\EsOk es/\Tbs ts H/\∀ H',Nx ts H H'->Q (stV k es) H'
section
variable {c:Kd->Addr}{ts:Tabs}
theorem ok_found (jbV:FnAt P w K mg base "halved_keys" ["keys","key"] 3 (spHKt ts (λy k=>decide (k<y)) 0))(cd:CD_Marks K mg CM):MethAt P w K mg base CM "found" ["self","key"] 4 (spFound c CM ts):=by
 refine MethAt.of cd.c cd.m_found jav ?_ ?_;ext c;have nd:=jav.nd;obtain ⟨m,k,es,rfl,hm,ok,ht,q⟩:=h;obtain ⟨dx,kd,ah,sr,h1,h2,h3,h4⟩:=hm.ex;refine ⟨_,(zo (zd (xK (k6 K) (zc jbV (zy (yc K (pv 0)) (zy (pv 1) zx))) zu))),?_⟩;ext a;refine (yQ (oT h1) cd.c cd.n_keyed (v:=.ref kd) rfl ⟨kd,_,k,rfl,by rw [h2,cD],?_,pre_of (λa b h p=>zJ (Int.lt_trans h (vJ p))) (kE ok.up),ht,λt l H' nx f1 f2 g1 g2=>?_⟩);{have:=qu ok;rw [zg];unfold kys;rw [zg];lia};{refine ⟨t,rfl,_,SqT.of (oT g1),_,rfl,?_⟩;rw [cnt_lo,Int.sub_zero];exact q H' nx}
theorem Yf (B:Blt mg) (cd:CD_Marks K mg CM):MethAt P w K mg base CM "stands" ["self","at","key"] 1 (spStands c CM):=by
 refine MethAt.of cd.c cd.m_stands jat ?_ ?_;ext c;have nd:=jat.nd;obtain ⟨m,k,es,rfl,hm,ok,q⟩:=h;obtain ⟨dx,kd,ah,sr,h1,h2,h3,h4⟩:=hm.ex;refine ⟨_,(zo (zd (vC (pe_c uZ (pv 1) (yk (xp K) rfl B.len yE (zy (yc K (pv 0)) zx))) (tU (pe_c yL (xK (wV K) (yc K (pv 0)) (pv 1)) (pv 2)))))),?_⟩;ext a;have hkd:=(oT h2)
 have hm1:=(oT h1)
 refine (yQ hm1 cd.c cd.n_keyed (v:=.ref kd) rfl ⟨kd,rfl,_,.inl (SqL.of hkd),?_⟩);have lk:(pint (kys es)).length=es.length:=by rw [zH];unfold kys;rw [zg]
 rw [lk];have g:=get_lo k ok;by_cases lt:(loE k es).length<es.length
 . rw [if_pos (by lia)]
   rw [zO lt] at g;have ge:es[(loE k es).length]?=some es[(loE k es).length]:=zO lt;refine (yQ hm1 cd.c cd.n_keyed (v:=.ref kd) rfl ⟨kd,rfl,_,SqL.of hkd,_,kD (cA ge),rfl,?_⟩);have e:decide (V.int ((es[(loE k es).length].key:Nat):Int)=V.int (k:Int))=decide (miE k es≠[]):=by
     rcases wm k ok.up with z | ⟨e,z1,z2,z3⟩
     . rw [z,yY] at g;have hh:es[(loE k es).length]∈hiE k es:=List.mem_of_head? g.symm;have:=(pA hh).2;rw [yw (by simp;lia),yw (by simp [z])]
     . rw [z1] at g;have:es[(loE k es).length]=e:=Option.some.inj g;rw [this,z2,z1];simp
   rw [e];exact q
 . rw [if_neg (by lia)];have z:miE k es=[]:=by
     rw [qc (by lia)] at g;have:=List.head?_eq_none_iff.mp g.symm;exact (List.append_eq_nil_iff.mp this).1
   rw [yw (by simp [z])] at q;exact q
theorem ok_ahead (B:Blt mg)(cd:CD_Marks K mg CM):MethAt P w K mg base CM "ahead_of" ["self","at"] 1 (spAhead c CM):=by
 refine MethAt.of cd.c cd.m_ahead_of jaa ?_ ?_;ext c;have nd:=jaa.nd;obtain ⟨m,i,es,rfl,hm,hi,q⟩:=h;obtain ⟨dx,kd,ah,sr,h1,h2,h3,h4⟩:=hm.ex;refine ⟨_,(zo (zd (uc (zG uZ (pv 1) (yk (xp K) rfl B.len yE (zy (yc K (pv 0)) zx))) (xK (wV K) (yc K (pv 0)) (pv 1)) (yc K (pv 0))))),?_⟩;ext a;have hah:=(oT h3)
 have hm1:=(oT h1)
 refine (yQ hm1 cd.c cd.n_aheads (v:=.ref ah) rfl ⟨ah,rfl,_,.inl (SqL.of hah),?_⟩);rw [zH,u6];by_cases lt:i<es.length;{rw [if_pos (by lia)];have g:=dN 0 es i lt;rw [yX] at g;exact (yQ hm1 cd.c cd.n_aheads (v:=.ref ah) rfl ⟨ah,rfl,_,SqL.of hah,_,kD g,q⟩)};{rw [if_neg (by lia)];rw [yZ (by lia)] at q;exact (yQ hm1 cd.c cd.n_held rfl q)}
theorem Ye (jaK:MethAt P w K mg base CM "found" ["self","key"] 4 (spFound c CM ts))(jah:MethAt P w K mg base CM "stands" ["self","at","key"] 1 (spStands c CM))(cd:CD_Marks K mg CM):MethAt P w K mg base CM "stretch_at" ["self","key"] 5 (spStAt c CM ts):=by
 refine MethAt.of cd.c cd.m_stretch_at jI ?_ ?_;ext c;have nd:=jI.nd;obtain ⟨m,k,es,rfl,hm,ok,ht,q⟩:=h;obtain ⟨dx,fs,ho,nf⟩:=hm.obj;refine ⟨_,(zp (zb 2 (yJ P w K mg base 4 (pv 0) (zy (pv 1) zx))) (zo (zd (uc (vD (yJ P w K mg base 1 (pv 0) (zy (pv 2) (zy (pv 1) zx)))) (xK (wV K) (yc K (pv 0)) (pv 2)) vf)))),?_⟩
 ext a;refine (yf (oT ho) nf.1 jaK ⟨m,k,es,rfl,hm,ok,ht,λH' nx=>?_⟩);have hm2:=hm.same nx.same;refine (yf (oT (nx.at ho)) nf.2.1 jah ⟨m,k,es,rfl,hm2,ok,_,rfl,?_⟩);have q:=q H' nx;unfold stV at q;have g:=get_lo k ok;rcases wm k ok.up with z | ⟨e,z1,z2,z3⟩
 . rw [z] at q;rw [yw (by simp [z]),if_neg (by decide)];exact q
 . rw [z1] at q g;obtain ⟨dx2,kd,ah,sr,h1,h2,h3,h4⟩:=hm2.ex;rw [zJ (by simp [z1]),if_pos rfl];ext a;refine (yQ (oT h1) cd.c cd.n_stretches (v:=.ref sr) rfl ⟨sr,rfl,_,sL h4,.ref e.loc,qF (by rw [yp,g];rfl),q⟩)
end
def KeptA (c:Kd->Addr)(H:Hp)(ps:List Nat)(v:V)(a:Addr):Prop:=(ps=[]->v=.non)/\(ps≠[]->v=.ref a/\StAt c (kdOf ps) H a ps)
theorem KeptIs.at {c:Kd->Addr}{v:V}(h:KeptIs c H ps v):∃ a,KeptA c H ps v a:=by
 by_cases e:ps=[];{exact ⟨0,λ_=>h.1 e,λn=>absurd e n⟩};{obtain ⟨x,rfl,st⟩:=h.2 e;exact ⟨x,λz=>absurd z e,λ_=>⟨rfl,st⟩⟩}
theorem KeptA.same {c:Kd->Addr}{v:V}{a:Addr}(h:KeptA c H ps v a)(s:Same H H'):KeptA c H' ps v a:=⟨h.1,λe=>⟨(h.2 e).1,(h.2 e).2.same s⟩⟩
theorem tups_noT (h:Tups H vs rs):Tups (noT H) vs rs:=Paired.mapP h λ_ _ ⟨t,e,ht⟩=>⟨t,e,zM ht (nt _)⟩
theorem StAt.noT {c:Kd->Addr}{k:Kd}{H:Hp}{a:Addr}{ps:List Nat}(h:StAt c k H a ps):StAt c k (noT H) a ps:=by
 cases k with
 | l=>obtain ⟨dx,l,e,h⟩:=h;exact ⟨dx,l,zM e (ni _ _ _),zM h (nl _)⟩
 | b=>obtain ⟨dx,e⟩:=h;exact ⟨dx,zM e (ni _ _ _)⟩
 | r =>
   obtain ⟨dx,l,e,us,h,t⟩:=h;refine ⟨dx,l,zM e (ni _ _ _),us,zM h (nl _),?_⟩;exact tups_noT t
theorem KeptIs.noT {c:Kd->Addr}{H:Hp}{ps:List Nat}{v:V}(h:KeptIs c H ps v):KeptIs c (noT H) ps v:=⟨h.1,λe=>let ⟨x,a,b⟩:=h.2 e;⟨x,a,b.noT⟩⟩
theorem rep_one (ps:List Nat)(y:V):(List.replicate (if ps=[] then 0 else 1:Int).toNat [y]).flatten=if ps=[] then [] else [y]:=by
 by_cases e:ps=[];{rw [if_pos e,if_pos e];rfl};{rw [if_neg e,if_neg e];rfl}
theorem drop_hi {es:List Ent}(k:Nat)(h:EsOk es):es.drop ((loE k es).length+(miE k es).length)=hiE k es:=by rw [<- ug,drop_lo k h,sC]
theorem b9 {es:List Ent}{k:Nat}{a:Nat}(f:Ent->V){y:V}(h:EsOk es)(hy:ps≠[]->y=f ⟨k,ps,a⟩) :
   (es.map f).take (loE k es).length++(if ps=[] then [] else [y])++(es.map f).drop ((loE k es).length+(miE k es).length)=(keepE k ps a es).map f:=by
 rw [<- ly,<- List.map_drop,cC k h,drop_hi k h];unfold keepE;rw [zD,zD];by_cases e:ps=[];{rw [if_pos e,if_pos e];rfl};{rw [if_neg e,if_neg e,hy e];rfl}
theorem b8 (es:List Ent):pint (kys es)=es.map λe=>V.int (e.key:Nat):=by unfold pint kys;rw [zF];rfl
theorem tot_mi {es:List Ent}(k:Nat)(h:EsOk es):tot es=tot (loE k es)+tot (miE k es)+tot (hiE k es):=by have:=congrArg tot (split k h.up);rw [u7,u7] at this;exact this
theorem ahs_take {es:List Ent}(k:Nat)(h:EsOk es):(pint (ahs 0 es)).take (loE k es).length=pint (ahs 0 (loE k es)):=by
 have hs:es=loE k es++(miE k es++hiE k es):=by rw [<- zX];exact split k h.up
 have:(pint (ahs 0 (loE k es++(miE k es++hiE k es)))).take (loE k es).length=pint (ahs 0 (loE k es)):=by rw [rF];unfold pint;rw [zD,List.take_left' (by rw [zg,u6])]
 rw [<- hs] at this;exact this
theorem ahs_drop {es:List Ent}(k:Nat)(h:EsOk es):(pint (ahs 0 es)).drop ((loE k es).length+(miE k es).length)=pint (ahs (tot (loE k es)+tot (miE k es)) (hiE k es)):=by
 have hs:es=(loE k es++miE k es)++hiE k es:=split k h.up;have:(pint (ahs 0 ((loE k es++miE k es)++hiE k es))).drop ((loE k es).length+(miE k es).length)=pint (ahs (tot (loE k es)+tot (miE k es)) (hiE k es)):=by rw [rF];unfold pint;rw [zD,List.drop_left' (by rw [zg,u6,zh]),u7,yX]
 rw [<- hs] at this;exact this
theorem ahs_keep {es:List Ent}{k:Nat}{a:Nat}:ahs 0 (keepE k ps a es)=ahs 0 (loE k es)++(if ps=[] then [] else [tot (loE k es)])++ahs (tot (loE k es)+ps.length) (hiE k es):=by
 unfold keepE;rw [rF,rF,u7];by_cases e:ps=[];{rw [if_pos e,if_pos e,e];show ahs 0 (loE k es)++[]++ahs (0+(tot (loE k es)+0)) (hiE k es)=_;rw [yX];rfl};{rw [if_neg e,if_neg e];show ahs 0 (loE k es)++[0+tot (loE k es)]++ahs (0+(tot (loE k es)+(ps.length+0))) (hiE k es)=_;rw [yX,yX,xt]}
theorem tot_keep {es:List Ent}{k:Nat}{a:Nat}:tot (keepE k ps a es)=tot (loE k es)+ps.length+tot (hiE k es):=by
 unfold keepE;rw [u7,u7];by_cases e:ps=[];{rw [if_pos e,e];rfl};{rw [if_neg e];rfl}
theorem b7 {es:List Ent}(k:Nat)(h:EsOk es):tot (es.take ((loE k es).length+(miE k es).length))=tot (loE k es)+tot (miE k es):=by have hs:es=(loE k es++miE k es)++hiE k es:=split k h.up;have:((loE k es++miE k es)++hiE k es).take ((loE k es).length+(miE k es).length)=loE k es++miE k es:=List.take_left' (by rw [zh]);rw [<- hs] at this;rw [this,u7]
section
variable {m dx l:Addr}{fs:List (Str × V)}{f:Str}{n:Nat}{v1 v2 v3 v4 v5 v6 v7:Option V}{Q:VK}
theorem cat_a {i:Nat}{y:V}(hc:Cls K C)(hna:NoAttr K C f)(ho:H m=some (.ins C dx fs))(hf:fs.lookup f=some (.ref l))(hl:H l=some (.lst xs))(lx:xs.length<=900)(hi:[some (.ref m),v1,v2,some (.int (n:Nat)),v4,v5,v6,some (.int (if ps=[] then 0 else 1))][i]?=some (some y))
   (q:∀ p H',Same H H'->H p=none->H' p=some (.lst (xs.take n++(if ps=[] then [] else [y])))->Q (.ref p) H') :
   tOp rCat (tSl (rSlL K) (tFld K (tVar 0) f) tNoPart (tPart (tVar 3))) (tOp rRep (tLst (tCons (tVar i) tNil)) (tVar 7)) [some (.ref m),v1,v2,some (.int (n:Nat)),v4,v5,v6,some (.int (if ps=[] then 0 else 1))] H Q:=by
 simp only [tOp,tSl,tFld,wA,vg,tVar,tNoPart,tPart,rSlL,tLst,tCons,tNil,rRep,rCat];refine ⟨_,rfl,_,_,_,_,_,rfl,ho,hc,hna,hf,_,rfl,_,rfl,_,_,rfl,SqL.of hl,λp1 n1=>⟨y,hi,by show 1<=sizeLine;decide,λp2 n2=>⟨_,rfl,?_⟩⟩⟩;rw [kG] at n2 ⊢;have s1:=Same.new (o:=.lst (xs.take n)) n1;have g1:upd H p1 (.lst (xs.take n)) p1=some (.lst (xs.take n)):=zq;generalize upd H p1 (.lst (xs.take n))=H1 at n2 s1 g1 ⊢;have s2:=Same.new (o:=.lst [y]) n2;have g2:upd H1 p2 (.lst [y]) p2=some (.lst [y]):=zq;have g1:=s2 _ _ g1;generalize upd H1 p2 (.lst [y])=H2 at s2 g1 g2 ⊢;refine ⟨_,_,_,rfl,rfl,g2,?_,?_,?_,λp3 n3=>?_⟩;{split<;>decide};{split<;>decide};{show 1*_<=sizeLine;split<;>decide}
 rw [rep_one];have s3:=Same.new (o:=.lst (if ps=[] then [] else [y])) n3;have g3:upd H2 p3 (.lst (if ps=[] then [] else [y])) p3=some (.lst (if ps=[] then [] else [y])):=zq;have g1:=s3 _ _ g1;generalize upd H2 p3 (.lst (if ps=[] then [] else [y]))=H3 at s3 g1 g3 ⊢;refine ⟨_,_,_,_,rfl,rfl,g1,g3,?_,λp4 n4=>?_⟩
 . have:(if ps=[] then [] else [y]).length<=1:=by split<;>simp
   rw [zE];exact wD (small1000 (by lia))
 . have S:=s1.trans (s2.trans s3);exact q p4 _ (S.trans (Same.new n4)) (S.free n4) zq
theorem cat_b (hc:Cls K C)(hna:NoAttr K C f)(ho:H m=some (.ins C dx fs))(hf:fs.lookup f=some (.ref l))(hl:H l=some (.lst xs))(q:∀ p H',Same H H'->H p=none->H' p=some (.lst (xs.drop n))->Q (.ref p) H') :
   tSl (rSlL K) (tFld K (tVar 0) f) (tPart (tVar 4)) tNoPart [some (.ref m),v1,v2,v3,some (.int (n:Nat)),v5,v6,v7] H Q:=by
 simp only [tSl,tFld,wA,vg,tVar,tNoPart,tPart,rSlL];refine ⟨_,rfl,_,_,_,_,_,rfl,ho,hc,hna,hf,_,rfl,_,rfl,_,_,rfl,SqL.of hl,λp1 n1=>?_⟩;rw [kF];exact q _ _ (Same.new n1) n1 zq
theorem bz {i j:Nat}{y:V}(hc:Cls K C)(hna:NoAttr K C f)(ho:H m=some (.ins C dx fs))(hf:fs.lookup f=some (.ref l))(hl:H l=some (.lst xs))(lx:xs.length<=400)(lf:fs.length<1000)(hi:[some (.ref m),v1,v2,some (.int (n:Nat)),some (.int (j:Nat)),v5,v6,some (.int (if ps=[] then 0 else 1))][i]?=some (some y))
   (q:∀ p H',Same H H'->H p=none->H' p=some (.lst (xs.take n++(if ps=[] then [] else [y])++xs.drop j))->D.nx [some (.ref m),v1,v2,some (.int (n:Nat)),some (.int (j:Nat)),v5,v6,some (.int (if ps=[] then 0 else 1))] (upd H' m (.ins C dx (putF f (.ref p) fs)))) :
   sFld K (tVar 0) (tOp rCat (tOp rCat (tSl (rSlL K) (tFld K (tVar 0) f) tNoPart (tPart (tVar 3))) (tOp rRep (tLst (tCons (tVar i) tNil)) (tVar 7))) (tSl (rSlL K) (tFld K (tVar 0) f) (tPart (tVar 4)) tNoPart)) f D [some (.ref m),v1,v2,some (.int (n:Nat)),some (.int (j:Nat)),v5,v6,some (.int (if ps=[] then 0 else 1))] H:=by
 rw [sFld,tOp];refine cat_a hc hna ho hf hl (by lia) hi λp1 H1 s1 n1 g1=>cat_b hc hna (s1 _ _ ho) hf (s1 _ _ hl) λp2 H2 s2 n2 g2=>?_
 rw [rCat];refine ⟨_,_,_,_,rfl,rfl,s2 _ _ g1,g2,?_,λp3 n3=>?_⟩
 . have:(if ps=[] then [] else [y]).length<=1:=by split<;>simp
   rw [zh,zE,yH];exact wD (small1000 (by lia))
 . have S:=s1.trans s2;have S3:=S.trans (Same.new (o:=.lst (xs.take n++(if ps=[] then [] else [y])++xs.drop j)) n3);simp only [wA,tVar];exact ⟨_,rfl,_,_,_,_,rfl,S3 _ _ ho,hc,hna,lf,q p3 _ S3 (S.free n3) zq⟩
end
def Four (o:HO):Prop:=∃ C dx a b d e,o=.ins C dx [("keyed",a),("aheads",b),("stretches",d),("held",e)]
theorem StAt.nb {c:Kd->Addr}{k:Kd}{m x:Addr}{o:HO}(h:StAt c k H x ps)(hm:H m=some o)(f:Four o)(s:∀ b o,b≠m->H b=some o->H' b=some o):StAt c k H' x ps:=by
 obtain ⟨C,dx0,f1,f2,f3,f4,rfl⟩:=f;cases k with
 | l =>
   obtain ⟨dx,l,e,h⟩:=h;refine ⟨dx,l,s _ _ (λz=>?_) e,s _ _ (λz=>?_) h⟩;{rw [z,hm] at e;cases e}
   . rw [z,hm] at h;cases h
 | b =>
   obtain ⟨dx,e⟩:=h;refine ⟨dx,s _ _ (λz=>?_) e⟩;rw [z,hm] at e;cases e
 | r =>
   obtain ⟨dx,l,e,us,h,t⟩:=h;refine ⟨dx,l,s _ _ (λz=>?_) e,us,s _ _ (λz=>?_) h,Paired.mapP t λ_ _ ⟨t,e,ht⟩=>⟨t,e,s _ _ (λz=>?_) ht⟩⟩;{rw [z,hm] at e;cases e};{rw [z,hm] at h;cases h};{rw [z,hm] at ht;cases ht}
theorem MkAt.four {c:Kd->Addr}{m:Addr}{es:List Ent}(h:MkAt c CM H m es):∃ o,H m=some o/\Four o:=by obtain ⟨dx,kd,ah,sr,h1,_⟩:=h.ex;exact ⟨_,h1,_,_,_,_,_,_,rfl⟩
theorem MkAt.nb {c:Kd->Addr}{m m2:Addr}{es:List Ent}{o:HO}(h:MkAt c CM H m2 es)(hm:H m=some o)(f:Four o)(n:m2≠m)(s:∀ b o,b≠m->H b=some o->H' b=some o):MkAt c CM H' m2 es:=by
 obtain ⟨⟨dx,kd,ah,sr,h1,h2,h3,h4⟩,st⟩:=h;have ne:∀ {b:Addr} {xs:List V},H b=some (.lst xs)->b≠m:=λe z=>by
   obtain ⟨C,dx0,f1,f2,f3,f4,rfl⟩:=f;rw [z,hm] at e;cases e
 exact ⟨⟨dx,kd,ah,sr,s _ _ n h1,s _ _ (ne h2) h2,s _ _ (ne h3) h3,s _ _ (ne h4) h4⟩,λe he=>(st e he).nb hm f s⟩
def fAdd (m:Int):V->V
 | .int c=>.int (c+m)
 | v=>v
theorem Yd (m:Int)(zs:List Nat):(pint zs).map (fAdd m)=zs.map λ(x:Nat)=>V.int ((x:Int)+m):=by unfold pint;rw [zF];rfl
def spKeep (c:Kd->Addr)(CM:Addr)(ts:Tabs):Sp:=λvs H Q _=>∃ (m:Addr) (k:Nat) (es:List Ent) (ps:List Nat) (v:V) (a:Addr),vs=[.ref m,.int k,v]/\MkAt c CM (noT H) m es/\EsOk es/\KeptA c (noT H) ps v a/\Up 0 ps/\(∀ p∈ps,p<256)/\Tbs ts H/\∀ H',Nb ts m H H'->MkAt c CM (noT H') m (keepE k ps a es)->Q .non H'
section
variable {c:Kd->Addr}{ts:Tabs}
theorem ok_keep (jaK:MethAt P w K mg base CM "found" ["self","key"] 4 (spFound c CM ts))(jah:MethAt P w K mg base CM "stands" ["self","at","key"] 1 (spStands c CM))(jba:MethAt P w K mg base CM "ahead_of" ["self","at"] 1 (spAhead c CM))(hn:∀ k,MethAt P w K mg base (c k) "many" ["self"] 5 (spManyM c k))(cd:CD_Marks K mg CM):MethAt P w K mg base CM "keep" ["self","key","stretch"] 6 (spKeep c CM ts):=by
 refine MethAt.of cd.c cd.m_keep jaO ?_ ?_;ext c;have nd:=jaO.nd;obtain ⟨m,k,es,ps,v,a,rfl,hm,ok,hv,up,lt,ht,q⟩:=h;obtain ⟨dx,fs,ho,nf⟩:=hm.obj;refine ⟨_,(zp (zb 3 (yJ P w K mg base 4 (pv 0) (zy (pv 1) zx))) (tO (zb 4 (uc (vD (yJ P w K mg base 1 (pv 0) (zy (pv 3) (zy (pv 1) zx)))) (zw zN (pv 3) zu) (pv 3))) (zp (zb 5 (yJ P w K mg base 1 (pv 0) (zy (pv 3) zx))) (tO (zb 6 (zw yA (uc (zG qH (pv 2) vf) zu (xo P w K mg base 5 (pv 2))) (zw yA (yJ P w K mg base 1 (pv 0) (zy (pv 4) zx)) (pv 5)))) (tO (zb 7 (uc (zG qH (pv 2) vf) zu zu)) (tO (wU K (pv 0) (zw uX (zw uX (vX (vU K) (yc K (pv 0)) vZ (vY (pv 3))) (zw qE (yg (zy (pv 1) zx)) (pv 7))) (vX (vU K) (yc K (pv 0)) (vY (pv 4)) vZ))) (tO (wU K (pv 0) (zw uX (zw uX (vX (vU K) (yc K (pv 0)) vZ (vY (pv 3))) (zw qE (yg (zy (pv 5) zx)) (pv 7))) (xZ ["each"] [6] rfl (yK K (vX (vU K) (yc K (pv 0)) (vY (pv 4)) vZ)) (λ_ _ _ _ _=>yM (i:=0) (by show List.Nodup (["each","more"]:List Str);decide +kernel) rfl (Or.inl rfl)) (λ_ _ _ _ _=>xa) (λ_ _ _ _ _=>(zw zN (pv 0) (pv 1))) ⟨⟨_,rfl,rfl,.inl rfl⟩,trivial⟩ xq))) (tO (wU K (pv 0) (zw uX (zw uX (vX (vU K) (yc K (pv 0)) vZ (vY (pv 3))) (zw qE (yg (zy (pv 2) zx)) (pv 7))) (vX (vU K) (yc K (pv 0)) (vY (pv 4)) vZ))) (zo (wU K (pv 0) (zw zN (yc K (pv 0)) (pv 6)))))))))))),?_⟩
 have ll:=len_lo (es:=es) k;have lm:(loE k es).length+(miE k es).length<=es.length:=by have:=congrArg List.length (split k ok.up);rw [zh,zh] at this;lia
 ext a;refine (yf (oT ho) nf.1 jaK ⟨m,k,es,rfl,hm,ok,ht,λH1 nx=>?_⟩);refine ⟨λσ H2=>σ=[some (.ref m),some (.int k),some v,some (.int (loE k es).length),some (.int (((loE k es).length+(miE k es).length:Nat):Int)),none,none,none]/\H2=H1,?_,?_⟩
 . have hm2:=hm.same nx.same;have ho:=nx.at ho;ext a;refine (yf (oT ho) nf.2.1 jah ⟨m,k,es,rfl,hm2,ok,_,rfl,?_⟩);rcases wm k ok.up with z | ⟨e,z1,z2,z3⟩
   . rw [yw (by simp [z]),if_neg (by decide),z];exact ⟨rfl,rfl⟩
   . rw [zJ (by simp [z1]),if_pos rfl,z1];ext a;show ((loE k es).length:Int)+1=(((loE k es).length+1:Nat):Int)
     lia
 rintro σ Ha ⟨rfl,rfl⟩;have hm:=hm.same nx.same;have hv:=hv.same nx.same;have ho:=nx.at ho;ext a;refine (yf (oT ho) nf.2.2.1 jba ⟨m,_,es,rfl,hm,ll,?_⟩);rw [cC k ok];refine ⟨λσ H2=>σ=[some (.ref m),some (.int k),some v,some (.int (loE k es).length),some (.int (((loE k es).length+(miE k es).length:Nat):Int)),some (.int (tot (loE k es):Nat)),some (.int ((ps.length:Int)-(tot (miE k es):Nat))),none]/\H2=Ha,?_,?_⟩
 . ext a;by_cases e0:ps=[]
   . rw [if_pos (hv.1 e0)];refine (yf (oT ho) nf.2.2.1 jba ⟨m,_,es,rfl,hm,lm,_,rfl,?_,rfl⟩);rw [b7 k ok,e0];show 0-(((tot (loE k es)+tot (miE k es):Nat):Int)-_)=((0:Nat):Int)-_;lia
   . obtain ⟨rfl,st⟩:=hv.2 e0;obtain ⟨dx2,fs2,ho2,nf2⟩:=(st.same noT_sub).obj;rw [if_neg (by intro z;cases z)];refine ⟨_,rfl,yf ho2 nf2.2.2.2.2.2.1 (hn _) ⟨a,ps,rfl,st.same noT_sub,up,lt,?_⟩⟩;refine (yf (oT ho) nf.2.2.1 jba ⟨m,_,es,rfl,hm,lm,_,rfl,_,rfl,?_,rfl⟩);rw [b7 k ok];lia
 rintro σ Hb ⟨rfl,rfl⟩;refine ⟨λσ H2=>σ=[some (.ref m),some (.int k),some v,some (.int (loE k es).length),some (.int (((loE k es).length+(miE k es).length:Nat):Int)),some (.int (tot (loE k es):Nat)),some (.int ((ps.length:Int)-(tot (miE k es):Nat))),some (.int (if ps=[] then 0 else 1))]/\H2=Hb,?_,?_⟩
 . ext a;by_cases e0:ps=[]
   . rw [if_pos (hv.1 e0),if_pos e0]
   . rw [if_neg (by rw [(hv.2 e0).1];intro z;cases z),if_neg e0]
 rintro σ Hc ⟨rfl,rfl⟩;obtain ⟨dx2,kd,ah,sr,h1,h2,h3,h4⟩:=hm.ex;have les:=qu ok;have ln:=b9 (es:=es) (k:=k) (ps:=ps) (a:=a) (λe=>V.ref e.loc) (y:=v) ok λe=>(hv.2 e).1
 have lk:=b9 (es:=es) (k:=k) (ps:=ps) (a:=a) (λe=>V.int (e.key:Nat)) (y:=V.int k) ok λ_=>rfl
 refine ⟨λσ H2=>σ=[some (.ref m),some (.int k),some v,some (.int (loE k es).length),some (.int (((loE k es).length+(miE k es).length:Nat):Int)),some (.int (tot (loE k es):Nat)),some (.int ((ps.length:Int)-(tot (miE k es):Nat))),some (.int (if ps=[] then 0 else 1))]/\Nb ts m Hc H2 /\
   ∃ kd',H2 m=some (.ins CM dx2 [("keyed",.ref kd'),("aheads",.ref ah),("stretches",.ref sr),("held",.int (tot es:Nat))])/\noT H2 kd'=some (.lst (pint (kys (keepE k ps a es)))),?_,?_⟩
 . refine bz cd.c cd.n_keyed (oT h1) rfl (oT h2) (by rw [zH];unfold kys;rw [zg];lia) (by show 4<1000;decide) rfl λp H' sm np hp=>⟨rfl,((nx.tb.nx sm).nb (m:=m)).put (sm _ _ (oT h1)) trivial,p,zq,?_⟩
   have:p≠m:=λz=>by rw [z,(oT h1)] at np;cases np
   refine zM ?_ (nl _);rw [zr this,hp,b8,b8,lk]
 rintro σ H5 ⟨rfl,nb5,kd5,h51,h52⟩;have kdm:kd5≠m:=λz=>by have:=(oT h52);rw [z,h51] at this;cases this
 have ahm:ah≠m:=λz=>by rw [z,h1] at h3;cases h3
 have srm:sr≠m:=λz=>by rw [z,h1] at h4;cases h4
 have h53:=nb5.same _ _ ahm h3;have h54:=nb5.same _ _ srm h4;refine ⟨λσ H2=>σ=[some (.ref m),some (.int k),some v,some (.int (loE k es).length),some (.int (((loE k es).length+(miE k es).length:Nat):Int)),some (.int (tot (loE k es):Nat)),some (.int ((ps.length:Int)-(tot (miE k es):Nat))),some (.int (if ps=[] then 0 else 1))]/\Nb ts m H5 H2 /\
   ∃ ah',H2 m=some (.ins CM dx2 [("keyed",.ref kd5),("aheads",.ref ah'),("stretches",.ref sr),("held",.int (tot es:Nat))])/\noT H2 ah'=some (.lst (pint (ahs 0 (keepE k ps a es)))),?_,?_⟩
 . rw [sFld,tOp];refine cat_a cd.c cd.n_aheads h51 rfl (oT h53) (by rw [zH,u6];lia) rfl λp1 H6 s1 n1 g1=>?_
   ext a;refine (yQ (s1 _ _ h51) cd.c cd.n_aheads (v:=.ref ah) rfl ⟨ah,rfl,_,SqL.of (s1 _ _ (oT h53)),λp2 n2=>?_⟩);rw [kF,ahs_drop k ok];have s2:=Same.new (o:=.lst (pint (ahs (tot (loE k es)+tot (miE k es)) (hiE k es)))) n2;have g2:upd H6 p2 (.lst (pint (ahs (tot (loE k es)+tot (miE k es)) (hiE k es)))) p2=some (.lst (pint (ahs (tot (loE k es)+tot (miE k es)) (hiE k es)))):=zq;generalize upd H6 p2 (.lst (pint (ahs (tot (loE k es)+tot (miE k es)) (hiE k es))))=H7 at s2 g2 ⊢;have lh:(hiE k es).length<=es.length:=vN _ _;refine ⟨⟨_,SqL.of g2⟩,compL (λ_=>true) (fAdd ((ps.length:Int)-(tot (miE k es):Nat))) (SqL.of g2) (by rw [zH,u6];lia) (λx H R hx s h=>?_) (λx H R hx _ s h=>?_) (λb1 n3=>?_)⟩;{ext a;exact h};{obtain ⟨z,hz,rfl⟩:=gH hx;ext a;exact h}
   rw [uB.mpr (λ_ _=>rfl),Yd];have s3:=Same.new (o:=.lst ((ahs (tot (loE k es)+tot (miE k es)) (hiE k es)).map λ(x:Nat)=>V.int ((x:Int)+((ps.length:Int)-(tot (miE k es):Nat))))) n3;have g3:upd H7 b1 (.lst ((ahs (tot (loE k es)+tot (miE k es)) (hiE k es)).map λ(x:Nat)=>V.int ((x:Int)+((ps.length:Int)-(tot (miE k es):Nat))))) b1=some (.lst (pint (ahs (tot (loE k es)+ps.length) (hiE k es)))):=by have e:=congrArg (List.map V.int) (dM ((ps.length:Int)-(tot (miE k es):Nat)) (tot (loE k es)+tot (miE k es)) (tot (loE k es)+ps.length) (hiE k es) (by lia));rw [zF,zF] at e;rw [zq];exact congrArg (λz=>some (HO.lst z)) e
   generalize upd H7 b1 (.lst ((ahs (tot (loE k es)+tot (miE k es)) (hiE k es)).map λ(x:Nat)=>V.int ((x:Int)+((ps.length:Int)-(tot (miE k es):Nat)))))=H8 at s3 g3 ⊢;have g1:=s3 _ _ (s2 _ _ g1);refine ⟨b1,rfl,_,g1,_,g3,?_,λp4 n4=>?_⟩
   . have:(if ps=[] then [] else [V.int (tot (loE k es):Nat)]).length<=1:=by split<;>simp
     rw [zh,zE,zH,zH,u6,u6];exact wD (small1000 (by lia))
   have el:(pint (ahs 0 es)).take (loE k es).length++(if ps=[] then [] else [V.int (tot (loE k es):Nat)])++pint (ahs (tot (loE k es)+ps.length) (hiE k es))=pint (ahs 0 (keepE k ps a es)):=by
     rw [ahs_take k ok,ahs_keep];unfold pint;rw [zD,zD];by_cases e:ps=[];{rw [if_pos e,if_pos e];rfl};{rw [if_neg e,if_neg e];rfl}
   rw [el];have S:=s1.trans (s2.trans s3);have S4:=S.trans (Same.new (o:=.lst (pint (ahs 0 (keepE k ps a es)))) n4);refine ⟨_,_,_,S4 _ _ h51,cd.c,cd.n_aheads,by show 4<1000;decide,((nb5.tb.nx S4).nb (m:=m)).put (S4 _ _ h51) trivial,p4,zq,?_⟩;have pm:p4≠m:=λz=>by rw [z,S _ _ h51] at n4;cases n4
   refine zM ?_ (nl _);rw [zr pm,zq]
 rintro σ H6 ⟨rfl,nb6,ah6,h61,h62⟩;have h64:=nb6.same _ _ srm h54;have h63:=nb6.same _ _ kdm h52;refine ⟨λσ H2=>σ=[some (.ref m),some (.int k),some v,some (.int (loE k es).length),some (.int (((loE k es).length+(miE k es).length:Nat):Int)),some (.int (tot (loE k es):Nat)),some (.int ((ps.length:Int)-(tot (miE k es):Nat))),some (.int (if ps=[] then 0 else 1))]/\Nb ts m H6 H2 /\
   ∃ sr',H2 m=some (.ins CM dx2 [("keyed",.ref kd5),("aheads",.ref ah6),("stretches",.ref sr'),("held",.int (tot es:Nat))])/\noT H2 sr'=some (.lst ((keepE k ps a es).map λe=>V.ref e.loc)),?_,?_⟩
 . refine bz cd.c cd.n_stretches h61 rfl (oT h64) (by rw [zg];lia) (by show 4<1000;decide) rfl λp H' sm np hp=>⟨rfl,((nb6.tb.nx sm).nb (m:=m)).put (sm _ _ h61) trivial,p,zq,?_⟩
   have:p≠m:=λz=>by rw [z,h61] at np;cases np
   refine zM ?_ (nl _);rw [zr this,hp,ln]
 rintro σ H7 ⟨rfl,nb7,sr7,h71,h72⟩;have ahm6:ah6≠m:=λz=>by have:=(oT h62);rw [z,h61] at this;cases this
 have h73:=nb7.same _ _ kdm h63;have h74:=nb7.same _ _ ahm6 h62;ext a;refine (yQ h71 cd.c cd.n_held rfl ⟨_,rfl,_,_,_,h71,cd.c,cd.n_held,by show 4<1000;decide,?_⟩);have nbA:Nb ts m Hc H7:=(nb5.trans nb6).trans nb7;have sr7m:sr7≠m:=λz=>by have:=(oT h72);rw [z,h71] at this;cases this
 refine q _ ((nx.nb.trans nbA).put h71 trivial) ⟨⟨dx2,kd5,ah6,sr7,zM ?_ (ni _ _ _),zM ?_ (nl _),zM ?_ (nl _),zM ?_ (nl _)⟩,λe he=>?_⟩
 . rw [zq];have:((tot es:Nat):Int)+((ps.length:Int)-(tot (miE k es):Nat))=(tot (keepE k ps a es):Nat):=by
     rw [tot_keep];have:=tot_mi k ok;lia
   rw [this];rfl
 . rw [zr kdm];exact (oT h73)
 . rw [zr ahm6];exact (oT h74)
 . rw [zr sr7m];exact (oT h72)
 . have fr:=(nbA.put (o':=.ins CM dx2 (putF (Str.ofString "held") (V.int (((tot es:Nat):Int)+((ps.length:Int)-(tot (miE k es):Nat)))) [("keyed",.ref kd5),("aheads",.ref ah6),("stretches",.ref sr7),("held",.int (tot es:Nat))])) h71 trivial).same;rcases rD he with ⟨z,_⟩ | ⟨z,rfl⟩
   . exact (hm.st e z).nb h1 ⟨_,_,_,_,_,_,rfl⟩ fr
   . exact (hv.2 z).2.nb h1 ⟨_,_,_,_,_,_,rfl⟩ fr
end
theorem u4 {es:List Ent}{k:Nat}(z:miE k es=[]):stV k es=.non/\plcE k es=[]:=by unfold stV plcE;rw [z];exact ⟨rfl,rfl⟩
theorem wO {es:List Ent}{k:Nat}{e:Ent}(z:miE k es=[e]):stV k es=.ref e.loc/\plcE k es=e.ps:=by unfold stV plcE;rw [z];exact ⟨rfl,rfl⟩
theorem bx {p y:Nat}(hl:∀ q∈ps,q<256)(hp:p<256):y∈gAdd ps p↔y∈ps\/y=p:=by
 unfold gAdd gJoin;rw [yv,xE];simp only [qP,w8,zS];constructor;{exact λh=>h.2}
 . intro h;refine ⟨?_,h⟩;rcases h with h | h
   . exact hl y h
   . omega
theorem mem_gRem {p y:Nat}:y∈gRem ps p↔y∈ps/\y≠p:=by unfold gRem gLess;rw [yv];simp
theorem put_mem {n a:Nat}{es:List Ent}(ok:EsOk es)(ok2:EsOk (keepE (n/256) ps a es))(h:∀ y,y∈ps↔y∈plcE (n/256) es\/y=n%256)(x:Nat):x∈flat (keepE (n/256) ps a es)↔x∈flat es\/x=n:=by
 rw [wQ ok2,wQ ok,o9];by_cases c:x/256=n/256
 . rw [if_pos c,h,c];constructor
   . rintro (z | z)
     . exact .inl z
     . exact .inr (by omega)
   . rintro (z | z)
     . exact .inl z
     . exact .inr (by omega)
 . rw [if_neg c];constructor
   . exact .inl
   . rintro (z | z)
     . exact z
     . exact absurd (by rw [z]) c
theorem take_mem {n a:Nat}{es:List Ent}(ok:EsOk es)(ok2:EsOk (keepE (n/256) ps a es))(h:∀ y,y∈ps↔y∈plcE (n/256) es/\y≠n%256)(x:Nat):x∈flat (keepE (n/256) ps a es)↔x∈flat es/\x≠n:=by
 rw [wQ ok2,wQ ok,o9];by_cases c:x/256=n/256;{rw [if_pos c,h,c];exact ⟨λz=>⟨z.1,by omega⟩,λz=>⟨z.1,by omega⟩⟩};{rw [if_neg c];exact ⟨λz=>⟨z,λy=>c (by rw [y])⟩,λz=>z.1⟩}
def spInitM (c:Kd->Addr)(CM:Addr)(ts:Tabs):Sp:=λvs H Q _=>∃ x dx:Addr,vs=[.ref x]/\H x=some (.ins CM dx [])/\Tbs ts H/\∀ H',Nb ts x H H'->MkAt c CM (noT H') x []->Q .non H'
def spHas (c:Kd->Addr)(CM:Addr)(ts:Tabs):Sp:=λvs H Q _=>∃ (m:Addr) (n:Nat) (es:List Ent),vs=[.ref m,.int n]/\n<=65535/\MkAt c CM (noT H) m es/\EsOk es/\Tbs ts H/\∀ H',Nx ts H H'->Q (.bl (decide (n∈flat es))) H'
def spPutM (c:Kd->Addr)(CM:Addr)(ts:Tabs):Sp:=λvs H Q _=>∃ (m:Addr) (n:Nat) (es:List Ent),vs=[.ref m,.int n]/\n<=65535/\MkAt c CM (noT H) m es/\EsOk es/\Tbs ts H/\∀ H' es',Nb ts m H H'->MkAt c CM (noT H') m es'->EsOk es'->(∀ x,x∈flat es'↔x∈flat es\/x=n)->Q (.bl (!decide (n∈flat es))) H'
def spTakeM (c:Kd->Addr)(CM:Addr)(ts:Tabs):Sp:=λvs H Q _=>∃ (m:Addr) (n:Nat) (es:List Ent),vs=[.ref m,.int n]/\n<=65535/\MkAt c CM (noT H) m es/\EsOk es/\Tbs ts H/\∀ H' es',Nb ts m H H'->MkAt c CM (noT H') m es'->EsOk es'->(∀ x,x∈flat es'↔x∈flat es/\x≠n)->Q (.bl (decide (n∈flat es))) H'
section
variable {c:Kd->Addr}{ts:Tabs}
theorem ok_initM (cd:CD_Marks K mg CM):MakeAt P w K mg base "Marks" CM ["self"] 1 (spInitM c CM ts):=by
 refine MakeAt.of cd.at_ cd.init j7 ?_ ?_;ext c;have nd:=j7.nd;obtain ⟨x,dx,rfl,hx,ht,q⟩:=h;refine ⟨_,(zp (wU K (pv 0) (yg zx)) (zp (wU K (pv 0) (yg zx)) (zp (wU K (pv 0) (yg zx)) (zo (wU K (pv 0) zu))))),?_⟩
 ext a;refine ⟨zV _,λp1 n1=>?_⟩;have s1:Same H (upd H p1 (.lst [])):=Same.new n1;have g1:upd H p1 (.lst []) p1=some (.lst []):=zq;generalize upd H p1 (.lst [])=H1 at s1 g1 ⊢;have hx:=s1 _ _ hx;have px1:p1≠x:=λz=>by rw [z,hx] at g1;cases g1
 refine ⟨_,_,_,hx,cd.c,cd.n_keyed,by show 0<1000;decide,zV _,?_⟩;have b1:Nb ts x H (upd H1 x (.ins CM dx [("keyed",.ref p1)])):=((ht.nx s1).nb).put hx trivial;rw [show putF (Str.ofString "keyed") (V.ref p1) []=[(Str.ofString "keyed",V.ref p1)] from rfl];have hx:upd H1 x (.ins CM dx [("keyed",.ref p1)]) x=some (.ins CM dx [("keyed",.ref p1)]):=zq;have g1:upd H1 x (.ins CM dx [("keyed",.ref p1)]) p1=some (.lst []):=by rw [zr px1];exact g1
 intro p2 n2;generalize upd H1 x (.ins CM dx [("keyed",.ref p1)])=H2 at b1 hx g1 n2 ⊢;have s2:Same H2 (upd H2 p2 (.lst [])):=Same.new n2;have g2:upd H2 p2 (.lst []) p2=some (.lst []):=zq;generalize upd H2 p2 (.lst [])=H3 at s2 g2 ⊢;have hx:=s2 _ _ hx;have g1:=s2 _ _ g1;have px2:p2≠x:=λz=>by rw [z,hx] at g2;cases g2
 refine ⟨_,_,_,hx,cd.c,cd.n_aheads,by show 1<1000;decide,zV _,?_⟩;have b2:Nb ts x H (upd H3 x (.ins CM dx [("keyed",.ref p1),("aheads",.ref p2)])):=(b1.trans (b1.tb.nx s2).nb).put hx trivial;rw [show putF (Str.ofString "aheads") (V.ref p2) [(Str.ofString "keyed",V.ref p1)]=[(Str.ofString "keyed",V.ref p1),(Str.ofString "aheads",V.ref p2)] from rfl];have hx:upd H3 x (.ins CM dx [("keyed",.ref p1),("aheads",.ref p2)]) x=some (.ins CM dx [("keyed",.ref p1),("aheads",.ref p2)]):=zq;have g1:upd H3 x (.ins CM dx [("keyed",.ref p1),("aheads",.ref p2)]) p1=some (.lst []):=by rw [zr px1];exact g1
 have g2:upd H3 x (.ins CM dx [("keyed",.ref p1),("aheads",.ref p2)]) p2=some (.lst []):=by rw [zr px2];exact g2
 intro p3 n3;generalize upd H3 x (.ins CM dx [("keyed",.ref p1),("aheads",.ref p2)])=H4 at b2 hx g1 g2 n3 ⊢;have s3:Same H4 (upd H4 p3 (.lst [])):=Same.new n3;have g3:upd H4 p3 (.lst []) p3=some (.lst []):=zq;generalize upd H4 p3 (.lst [])=H5 at s3 g3 ⊢;have hx:=s3 _ _ hx;have g1:=s3 _ _ g1;have g2:=s3 _ _ g2;have px3:p3≠x:=λz=>by rw [z,hx] at g3;cases g3
 refine ⟨_,_,_,hx,cd.c,cd.n_stretches,by show 2<1000;decide,_,_,_,zq,cd.c,cd.n_held,by show 3<1000;decide,?_⟩;have b3:=(b2.trans (b2.tb.nx s3).nb).put (o':=.ins CM dx [("keyed",.ref p1),("aheads",.ref p2),("stretches",.ref p3)]) hx trivial;refine q _ (b3.put zq trivial) ⟨⟨dx,p1,p2,p3,zM zq (ni _ _ _),zM ?_ (nl _),zM ?_ (nl _),zM ?_ (nl _)⟩,λe he=>nomatch he⟩;{rw [zr px1,zr px1];exact g1};{rw [zr px2,zr px2];exact g2};{rw [zr px3,zr px3];exact g3}
theorem ok_hasM (cP:∃ t,mg "PLACES"=some (.int 256 t))(jj:FnAt P w K mg base "check_number" ["thing"] 2 spChk)(je:MethAt P w K mg base CM "stretch_at" ["self","key"] 5 (spStAt c CM ts))(hh:∀ k,MethAt P w K mg base (c k) "has" ["self","place"] 5 (spHasM c k))(cd:CD_Marks K mg CM):MethAt P w K mg base CM "has" ["self","n"] 6 (spHas c CM ts):=by
 obtain ⟨tP,ja⟩:=cP;refine MethAt.of cd.c cd.m_has ja9 ?_ ?_;ext c;have nd:=ja9.nd;obtain ⟨m,n,es,rfl,hn,hm,ok,ht,q⟩:=h;obtain ⟨dx,fs,ho,nf⟩:=hm.obj;refine ⟨_,(zp (yz (zc jj (zy (pv 1) zx))) (zp (zb 2 (yJ P w K mg base 5 (pv 0) (zy (zw yW (pv 1) (zK ja)) zx))) (zo (zd (vC (pe_c gj (pv 2) vf) (tU (yJ P w K mg base 5 (pv 2) (zy (zw zB (pv 1) (zK ja)) zx)))))))),?_⟩
 have e1:(n:Int)/256=((n/256:Nat):Int):=by omega
 have e2:(n:Int)%256=((n%256:Nat):Int):=by omega
 ext a;rw [e1,e2];refine ⟨n,rfl,hn,_,_,_,(oT ho),nf.2.2.2.1,_,_,je,m,n/256,es,rfl,hm,ok,ht,λH' nx=>?_⟩;have q:=q H' nx;have hm:=hm.same nx.same;rcases wm (n/256) ok.up with z | ⟨e,z1,z2,z3⟩
 . rw [(u4 z).1];rw [yw (by rw [wQ ok,(u4 z).2];intro y;cases y)] at q;show if V.non=V.non then _ else _
   rw [if_pos rfl];exact q
 . rw [(wO z1).1];have st:=(hm.st e z3).same noT_sub;obtain ⟨dx2,fs2,ho2,nf2⟩:=st.obj;show if V.ref e.loc=V.non then _ else _
   rw [if_neg (by intro y;cases y)];refine ⟨_,rfl,_,_,_,ho2,nf2.2.2.2.2.2.2.1,_,_,hh _,e.loc,e.ps,n%256,rfl,st,ok.pup e z3,ok.plt e z3,?_⟩;rw [qR.mpr (show n%256∈e.ps↔n∈flat es by rw [wQ ok,(wO z1).2])];exact q
theorem ok_putM (cP:∃ t,mg "PLACES"=some (.int 256 t))(jbe:MethAt P w K mg base CM "has" ["self","n"] 6 (spHas c CM ts))(je:MethAt P w K mg base CM "stretch_at" ["self","key"] 5 (spStAt c CM ts))(jC:MethAt P w K mg base CM "keep" ["self","key","stretch"] 6 (spKeep c CM ts))(jo:FnAt P w K mg base "kept" ["word"] 4 (spKept c))(jb7:FnAt P w K mg base "added" ["stretch","place"] 5 (spPut c gAdd))(cd:CD_Marks K mg CM):MethAt P w K mg base CM "put" ["self","n"] 7 (spPutM c CM ts):=by
 obtain ⟨tP,ja⟩:=cP;refine MethAt.of cd.c cd.m_put ja8 ?_ ?_;ext c;have nd:=ja8.nd;obtain ⟨m,n,es,rfl,hn,hm,ok,ht,q⟩:=h;obtain ⟨dx,fs,ho,nf⟩:=hm.obj;refine ⟨_,(zp (yu (vD (yJ P w K mg base 6 (pv 0) (zy (pv 1) zx))) (zo (zd rn)) yh) (zp (zb 2 (yJ P w K mg base 5 (pv 0) (zy (zw yW (pv 1) (zK ja)) zx))) (zp (zb 3 (zw zB (pv 1) (zK ja))) (zp (yz (yJ P w K mg base 6 (pv 0) (zy (zw yW (pv 1) (zK ja)) (zy (uc (zG qH (pv 2) vf) (zc jo (zy (zw vA zu (pv 3)) zx)) (zc jb7 (zy (pv 2) (zy (pv 3) zx)))) zx)))) (zo (zd rn)))))),?_⟩
 have e1:(n:Int)/256=((n/256:Nat):Int):=by omega
 have e2:(n:Int)%256=((n%256:Nat):Int):=by omega
 ext a;rw [e1,e2];refine ⟨_,_,_,(oT ho),nf.2.2.2.2.2.1,_,_,jbe,m,n,es,rfl,hn,hm,ok,ht,λH1 nx=>⟨_,rfl,?_⟩⟩;have hm1:=hm.same nx.same;have p0:n%256<256:=yd _ (by decide);have k0:n/256<256:=by omega
 by_cases hin:n∈flat es
 . rw [if_pos (zJ hin)];have q:=q H1 es nx.nb hm1 ok λx=>⟨.inl,λz=>z.elim id λz=>by rw [z];exact hin⟩
   rw [zJ hin] at q;exact q
 rw [if_neg (by rw [w8];exact hin)];rw [yw hin] at q;have ho:=nx.at ho;refine ⟨_,_,_,(oT ho),nf.2.2.2.1,_,_,je,m,n/256,es,rfl,hm1,ok,nx.tb,λH2 nx2=>?_⟩;have hm2:=hm1.same nx2.same;have ho:=nx2.at ho;refine ⟨_,_,_,(oT ho),nf.2.2.2.2.1,_,_,jC,?_⟩;have fin:∀ (ps:List Nat) (v:V) (H3:Hp),Up 0 ps->(∀ p∈ps,p<256)->(∀ y,y∈ps↔y∈plcE (n/256) es\/y=n%256)->Same H2 H3->KeptIs c H3 ps v->spKeep c CM ts [.ref m,.int ((n/256:Nat):Int),v] H3 (λx H1=>Q (V.bl true) H1) E0:=by
   intro ps v H3 up lt me s3 kp;obtain ⟨a,ka⟩:=kp.noT.at
   have nx3:=nx2.tb.nx s3;have ok2:EsOk (keepE (n/256) ps a es):=ok.keep k0 up lt;exact ⟨m,n/256,es,ps,v,a,rfl,hm2.same nx3.same,ok,ka,up,lt,nx3.tb,λH4 nb hm4=>q H4 _ (((nx.trans nx2).trans nx3).nb.trans nb) hm4 ok2 (put_mem ok ok2 me)⟩
 rcases wm (n/256) ok.up with z | ⟨e,z1,z2,z3⟩
 . rw [(u4 z).1,if_pos rfl];refine ⟨⟨by omega,by omega,by decide⟩,[n%256],by rw [oB],qv _,oC p0,λv H3 s3 kp=>fin _ v H3 (qv _) (oC p0) (λy=>?_) s3 kp⟩;rw [(u4 z).2];simp
 . rw [(wO z1).1,if_neg (by intro y;cases y)];refine ⟨e.loc,kdOf e.ps,e.ps,n%256,rfl,(hm2.st e z3).same noT_sub,ok.pup e z3,ok.plt e z3,p0,λv H3 s3 kp=>fin _ v H3 (vB _ _) (tK (f:=λx=>decide (x∈e.ps)||decide (x∈[n%256]))) (λy=>?_) s3 kp⟩;rw [(wO z1).2];exact bx (ok.plt e z3) p0
theorem ok_takeM (cP:∃ t,mg "PLACES"=some (.int 256 t))(jbe:MethAt P w K mg base CM "has" ["self","n"] 6 (spHas c CM ts))(je:MethAt P w K mg base CM "stretch_at" ["self","key"] 5 (spStAt c CM ts))(jC:MethAt P w K mg base CM "keep" ["self","key","stretch"] 6 (spKeep c CM ts))(jbf:FnAt P w K mg base "removed" ["stretch","place"] 5 (spPut c gRem))(cd:CD_Marks K mg CM):MethAt P w K mg base CM "take" ["self","n"] 7 (spTakeM c CM ts):=by
 obtain ⟨tP,ja⟩:=cP;refine MethAt.of cd.c cd.m_take jaM ?_ ?_;ext c;have nd:=jaM.nd;obtain ⟨m,n,es,rfl,hn,hm,ok,ht,q⟩:=h;obtain ⟨dx,fs,ho,nf⟩:=hm.obj;refine ⟨_,(zp (yu (rh (vD (yJ P w K mg base 6 (pv 0) (zy (pv 1) zx)))) (zo (zd rn)) yh) (zp (yz (yJ P w K mg base 6 (pv 0) (zy (zw yW (pv 1) (zK ja)) (zy (zc jbf (zy (yJ P w K mg base 5 (pv 0) (zy (zw yW (pv 1) (zK ja)) zx)) (zy (zw zB (pv 1) (zK ja)) zx))) zx)))) (zo (zd rn)))),?_⟩
 have e1:(n:Int)/256=((n/256:Nat):Int):=by omega
 have e2:(n:Int)%256=((n%256:Nat):Int):=by omega
 ext a;rw [e1,e2];refine ⟨_,_,_,(oT ho),nf.2.2.2.2.2.1,_,_,jbe,m,n,es,rfl,hn,hm,ok,ht,λH1 nx=>⟨_,rfl,?_⟩⟩;have hm1:=hm.same nx.same;have p0:n%256<256:=yd _ (by decide);have k0:n/256<256:=by omega
 by_cases hin:n∈flat es
 . rw [if_neg (by rw [zJ hin];decide)];rw [zJ hin] at q;have ho:=nx.at ho;refine ⟨_,_,_,(oT ho),nf.2.2.2.2.1,_,_,jC,_,_,_,(oT ho),nf.2.2.2.1,_,_,je,m,n/256,es,rfl,hm1,ok,nx.tb,λH2 nx2=>?_⟩;have hm2:=hm1.same nx2.same;rcases wm (n/256) ok.up with z | ⟨e,z1,z2,z3⟩
   . rw [wQ ok,(u4 z).2] at hin;cases hin
   . rw [(wO z1).1];refine ⟨e.loc,kdOf e.ps,e.ps,n%256,rfl,(hm2.st e z3).same noT_sub,ok.pup e z3,ok.plt e z3,p0,λv H3 s3 kp=>?_⟩;obtain ⟨a,ka⟩:=kp.noT.at
     have nx3:=nx2.tb.nx s3;have up:Up 0 (gRem e.ps (n%256)):=(ok.pup e z3).filter;have lt:∀ p∈gRem e.ps (n%256),p<256:=λp hp=>ok.plt e z3 p (mem_gRem.mp hp).1
     have ok2:EsOk (keepE (n/256) (gRem e.ps (n%256)) a es):=ok.keep k0 up lt;exact ⟨m,n/256,es,_,v,a,rfl,hm2.same nx3.same,ok,ka,up,lt,nx3.tb,λH4 nb hm4=>q H4 _ (((nx.trans nx2).trans nx3).nb.trans nb) hm4 ok2 (take_mem ok ok2 λy=>by rw [(wO z1).2];exact mem_gRem)⟩
 . rw [if_pos (yw hin)];have q:=q H1 es nx.nb hm1 ok λx=>⟨λz=>⟨z,λy=>hin (by rw [<- y];exact z)⟩,λz=>z.1⟩
   rw [yw hin] at q;exact q
end
section
variable {c:Kd->Addr}{ts:Tabs}
theorem esOk_nil:EsOk []:=⟨trivial,(λ_ h=>nomatch h),(λ_ h=>nomatch h),(λ_ h=>nomatch h),(λ_ h=>nomatch h)⟩
theorem mkM {R:Addr->Hp->Prop}{E:XK}(ht:Tbs ts H)(q:∀ x H',Nx ts H H'->noT H x=none->MkAt c CM (noT H') x []->R x H'):∀ x dx,H x=none->H dx=none->dx≠x->spInitM c CM ts [.ref x] (upd (upd H dx (.own x)) x (.ins CM dx [])) (λv H'=>v=.non/\R x H') E:=by intro x dx nx ndx dne;have m2:Same H (upd (upd H dx (.own x)) x (.ins CM dx [])):=(Same.new ndx).put nx;exact ⟨x,dx,rfl,zq,ht.same m2,λH' nb hm=>⟨rfl,q x H' (((ht.nx m2).nb.trans nb).of_new (wq nx)) (wq nx) hm⟩⟩
end
def KPair (c:Kd->Addr)(H:Hp)(g:Nat->List Nat)(v:V)(k:Nat):Prop:=∃ (t:Addr) (u:V),v=.ref t/\H t=some (.tup [.int (k:Nat),u])/\KeptIs c H (g k) u/\Up 0 (g k)
def Gp (c:Kd->Addr)(H:Hp)(g:Nat->List Nat):List V->List Nat->Prop:=Paired (KPair c H g)
theorem Gp.same {c:Kd->Addr}{us:List V}{ks:List Nat}(h:Gp c H g us ks)(s:Same H H'):Gp c H' g us ks:=Paired.mapP h λ_ _ ⟨t,u,e,h1,h2,h3⟩=>⟨t,u,e,s _ _ h1,h2.same s,h3⟩
theorem Gp.noT {c:Kd->Addr}{H:Hp}{g:Nat->List Nat}{us:List V}{ks:List Nat}(h:Gp c H g us ks):Gp c (noT H) g us ks:=Paired.mapP h λ_ _ ⟨t,u,e,h1,h2,h3⟩=>⟨t,u,e,zM h1 (nt _),h2.noT,h3⟩
theorem Gp.get {c:Kd->Addr}{us:List V}{ks:List Nat}(h:Gp c H g us ks){i:Nat}{v:V}(hi:us[i]?=some v):∃ k,ks[i]?=some k/\KPair c H g v k:=by
 induction h generalizing i with
 | nil=>cases hi
 | cons r q ih =>
   cases i with
   | zero=>cases (show _=v from Option.some.inj hi);exact ⟨_,rfl,r⟩
   | succ i=>exact ih hi
def spGath (c:Kd->Addr)(CM:Addr)(ts:Tabs):Sp:=λvs H Q _=>∃ (l:Addr) (us:List V) (ks:List Nat) (g:Nat->List Nat),vs=[.ref l]/\noT H l=some (.lst us)/\Gp c (noT H) g us ks/\ks.Nodup/\(∀ k∈ks,k<256/\Up 0 (g k)/\∀ p∈g k,p<256)/\us.length<=1000/\Tbs ts H /\
 ∀ m H' es,Nx ts H H'->noT H m=none->MkAt c CM (noT H') m es->EsOk es->(∀ k,plcE k es=if k∈ks then g k else [])->Q (.ref m) H'
structure GathI (c:Kd->Addr)(CM:Addr)(ts:Tabs)(l m:Addr)(ks:List Nat)(g:Nat->List Nat)(H:Hp)(i:Nat)(σ:L2.St)(H':Hp):Prop where
 ex:∃ (es:List Ent) (v2 v3:Option V),σ=[some (.ref l),some (.ref m),v2,v3]/\MkAt c CM (noT H') m es/\EsOk es/\∀ k,plcE k es=if k∈ks.take i then g k else []
 nx:Nx ts H H'
section
variable {c:Kd->Addr}{ts:Tabs}
theorem Yc (jb8:MakeAt P w K mg base "Marks" CM ["self"] 1 (spInitM c CM ts)) (jC:MethAt P w K mg base CM "keep" ["self","key","stretch"] 6 (spKeep c CM ts)) (d:DefAt K mg "gathered" oQ ["pairs"]):FnAt P w K mg base "gathered" ["pairs"] 7 (spGath c CM ts):=by
 refine FnAt.of d jbx ?_ ?_;ext c;have nd:=jbx.nd;obtain ⟨l,us,ks,g,rfl,hl,hg,nd,hk,ll,ht,q⟩:=h;refine ⟨_,(zp (zb 1 (ZM jb8 (hr.mono (by decide)) rfl)) (zp (xg yF rfl (yK K (pv 0)) (vT K rfl (yR (yj 2) (yR (yj 3) ve))) (zo (yu (zG gj (pv 3) vf) (zo (yz (yJ P w K mg base 6 (pv 1) (zy (pv 2) (zy (pv 3) zx))))) yh))) (zo (zd (pv 1))))),?_⟩
 ext a;refine mkM ht λm H1 nx1 nm hm1=>?_
 have hl1:=nx1.at hl;have hg1:=hg.same nx1.same;refine ⟨⟨_,sL hl1⟩,loopL (xs:=us) (GathI c CM ts l m ks g H) ⟨⟨[],_,_,rfl,hm1,esOk_nil,λk=>rfl⟩,nx1⟩ ?_ ?_ ?_⟩;{rintro i σ H2 hi ⟨_,nx⟩;exact sL (nx.at hl)}
 . rintro i x σ H2 hi ⟨⟨es,v2,v3,rfl,hm2,ok,pl⟩,nx⟩;obtain ⟨k,hki,t,u,rfl,h1,h2,_⟩:=(hg.same nx.same).get hi;obtain ⟨k0,up,lt⟩:=hk k (yb hki);have tk:ks.take (i+1)=ks.take i++[k]:=by rw [yG,hki];rfl
   have nk:k∉ks.take i:=λz=>by
     have nd2:=(ye i ks) ▸ nd;have dr:k∈ks.drop i:=yb (i:=0) (by rw [sQ,xt];exact hki);exact (qV.mp nd2).2.2 k z k dr rfl
   ext a;refine ⟨_,SqT.of (oT h1),rfl,_,_,rfl,_,_,rfl,rfl,?_⟩;have inT:∀ j,j∈ks.take (i+1)↔j∈ks.take i\/j=k:=λj=>by rw [tk,zY,zS]
   by_cases e0:g k=[]
   . rw [if_pos (h2.1 e0)];refine ⟨⟨es,_,_,rfl,hm2,ok,λj=>?_⟩,nx⟩;rw [pl j];by_cases c1:j∈ks.take i
     . rw [if_pos c1,if_pos ((inT j).mpr (.inl c1))]
     . rw [if_neg c1];by_cases c2:j=k
       . rw [if_pos ((inT j).mpr (.inr c2)),c2,e0]
       . rw [if_neg (λz=>((inT j).mp z).elim c1 c2)]
   . obtain ⟨a,rfl,st⟩:=h2.2 e0;rw [if_neg (by intro z;cases z)];obtain ⟨dx,fs,ho,nf⟩:=hm2.obj;obtain ⟨o,hmo,f4⟩:=hm2.four;refine ⟨_,_,_,(oT ho),nf.2.2.2.2.1,_,_,jC,m,k,es,g k,_,a,rfl,hm2,ok,⟨λz=>absurd z e0,λ_=>⟨rfl,st⟩⟩,up,lt,nx.tb,λH3 nb hm3=>⟨⟨_,_,_,rfl,hm3,ok.keep k0 up lt,λj=>?_⟩,?_⟩⟩
     . rw [o9,pl j];by_cases c2:j=k
       . rw [if_pos c2,if_pos ((inT j).mpr (.inr c2)),c2]
       . rw [if_neg c2];by_cases c1:j∈ks.take i
         . rw [if_pos c1,if_pos ((inT j).mpr (.inl c1))]
         . rw [if_neg c1,if_neg (λz=>((inT j).mp z).elim c1 c2)]
     . exact (nx.nb.trans nb).of_new nm
 . rintro σ H2 ⟨⟨es,v2,v3,rfl,hm2,ok,pl⟩,nx⟩;ext a;have ek:us.length=ks.length:=wj hg;rw [yZ (by omega)] at pl;exact q m H2 es nx nm hm2 ok pl
structure DW (kvs:List (Key × V))(ks:List Nat)(g:Nat->List Nat):Prop where
 keys:kvs.map (·.1)=ks.map λ(k:Nat)=>Sum.inl (k:Int)
 nd:ks.Nodup
 ok:∀ k∈ks,k<256/\Up 0 (g k)/\∀ p∈g k,p<256
 val:∀ k∈ks,valV kvs (Sum.inl (k:Int))=some (.int (wd (g k):Nat))
def spOfWords (c:Kd->Addr)(CM:Addr)(ts:Tabs):Sp:=λvs H Q _=>∃ (d:Addr) (kvs:List (Key × V)) (ks:List Nat) (g:Nat->List Nat),vs=[.ref d]/\noT H d=some (.dK kvs)/\DW kvs ks g/\ks.length<=256/\Tbs ts H /\
 ∀ m H' es,Nx ts H H'->noT H m=none->MkAt c CM (noT H') m es->EsOk es->(∀ k,plcE k es=if k∈ks then g k else [])->Q (.ref m) H'
structure OfI (c:Kd->Addr)(zs:List Nat)(g:Nat->List Nat)(H1:Hp)(D:Addr)(i:Nat)(ys:List V)(H2:Hp):Prop where
 le:i<=zs.length
 len:ys.length=i
 same:Same H1 H2
 hD:H2 D=some (.lst ys)
 gp:Gp c H2 g ys (zs.take i)
theorem Yb (u:Up 0 ps)(h:ps≠[]):runsOf ps≠[]:=λe=>h (by rw [<- (gA u).1,e];rfl)
theorem StAt.away {c:Kd->Addr} {k:Kd} {x D:Addr} {o:HO} (h:StAt c k H x ps) (u:Up 0 ps) (ne:ps≠[]) (hD:H D=some (.lst ys)) (al:∀ y∈ys,∃ (t:Addr) (i:Int) (v:V),y=.ref t/\H t=some (.tup [.int i,v])/\∀ z,v≠.int z):StAt c k (upd H D o) x ps:=by
 cases k with
 | l =>
   obtain ⟨dx,l,e,h⟩:=h;refine ⟨dx,l,?_,?_⟩;{rw [zr (λz=>by rw [z,hD] at e;cases e)];exact e}
   . rw [zr (λz=>?_)];exact h;rw [z,hD] at h;cases ps with
     | nil=>exact ne rfl
     | cons p r =>
       have:ys=pint (p::r):=by cases h;rfl
       obtain ⟨t,i,v,e1,_⟩:=al (.int (p:Nat)) (by rw [this];exact .head _);cases e1
 | b =>
   obtain ⟨dx,e⟩:=h;refine ⟨dx,?_⟩;rw [zr (λz=>by rw [z,hD] at e;cases e)];exact e
 | r =>
   obtain ⟨dx,l,e,us,h,t⟩:=h;refine ⟨dx,l,?_,us,?_,Paired.mapP t λ_ _ ⟨t,e,ht⟩=>⟨t,e,?_⟩⟩;{rw [zr (λz=>by rw [z,hD] at e;cases e)];exact e}
   . rw [zr (λz=>?_)];exact h;rw [z,hD] at h;have eu:ys=us:=by cases h;rfl
     have nr:=Yb u ne;generalize runsOf ps=rs at t nr;cases t with
     | nil=>exact nr rfl
     | cons r q =>
       obtain ⟨t1,e1,ht1⟩:=r;obtain ⟨t2,i,v,e2,ht2,nv⟩:=al _ (by rw [eu];exact .head _);rw [e1] at e2;cases e2;rw [ht1] at ht2;cases ht2;exact nv _ rfl
   . rw [zr (λz=>by rw [z,hD] at ht;cases ht)];exact ht
theorem KeptIs.noInt {c:Kd->Addr}{v:V}(h:KeptIs c H ps v):∀ z,v≠.int z:=λz e=>by
 by_cases c:ps=[];{rw [h.1 c] at e;cases e};{obtain ⟨x,e2,_⟩:=h.2 c;rw [e2] at e;cases e}
theorem Gp.all {c:Kd->Addr}{us:List V}{ks:List Nat}(h:Gp c H g us ks):∀ y∈us,∃ (t:Addr) (i:Int) (v:V),y=.ref t/\H t=some (.tup [.int i,v])/\∀ z,v≠.int z:=λy hy=>by
 obtain ⟨i,hi⟩:=qY hy;obtain ⟨k,_,t,u,e,h1,h2,_⟩:=h.get hi;exact ⟨t,k,u,e,h1,h2.noInt⟩
theorem KPair.away {c:Kd->Addr}{D:Addr}{v:V}{k:Nat}{o:HO}(h:KPair c H g v k)(hD:H D=some (.lst ys))(al:∀ y∈ys,∃ (t:Addr) (i:Int) (v:V),y=.ref t/\H t=some (.tup [.int i,v])/\∀ z,v≠.int z):KPair c (upd H D o) g v k:=by
 obtain ⟨t,u,e,h1,h2,h3⟩:=h;refine ⟨t,u,e,?_,⟨h2.1,λn=>?_⟩,h3⟩;{rw [zr (λz=>by rw [z,hD] at h1;cases h1)];exact h1};{obtain ⟨x,e2,st⟩:=h2.2 n;exact ⟨x,e2,st.away h3 n hD al⟩}
theorem Gp.snoc {c:Kd->Addr}:∀ {us:List V} {ks:List Nat} {v:V} {k:Nat},Gp c H g us ks->KPair c H g v k->Gp c H g (us++[v]) (ks++[k])
 | _,_,_,_,.nil,h=>.cons h .nil
 | _,_,_,_,.cons r q,h=>.cons r (Gp.snoc q h)
theorem Ya (B:Blt mg)(jo:FnAt P w K mg base "kept" ["word"] 4 (spKept c))(jaQ:FnAt P w K mg base "gathered" ["pairs"] 7 (spGath c CM ts))(d:DefAt K mg "of_words" oR ["words"]):FnAt P w K mg base "of_words" ["words"] 8 (spOfWords c CM ts):=by
 refine FnAt.of d jbw ?_ ?_;ext c;have nd:=jbw.nd;obtain ⟨d,kvs,ks,g,rfl,hd,dw,lk,ht,q⟩:=h;refine ⟨_,(zo (zd (zc jaQ (zy (xZ ["key"] [0] rfl (yK K (yk ZL rfl B.sorted L2.boot_sorted (zy (pv 0) zx))) (λ_ _ _ _ _=>yM (i:=0) (by show List.Nodup (["key","words"]:List Str);decide +kernel) rfl (Or.inl rfl)) (λ_ _ _ _ _=>xa) (λ_ _ _ _ _=>(va (zy (pv 0) (zy (zc jo (zy (pe_dget (hu1 hr) (pv 1) (pv 0) (λ_ _=>rfl)) zx)) zx)))) ⟨⟨_,rfl,rfl,.inl rfl⟩,trivial⟩ xq) zx)))),?_⟩;ext a;have hd:=(oT hd)
 refine ⟨kvs,hd,ks.map λ(k:Nat)=>(k:Int),by rw [dw.keys,zF];rfl,λl ns fl pm _=>?_⟩;obtain ⟨zs,rfl,pz⟩:∃ zs:List Nat,ns=zs.map (λ(k:Nat)=>(k:Int))/\zs.Perm ks:=by
   refine ⟨ns.map Int.toNat,?_,?_⟩
   . rw [zF];refine (rq ns).symm.trans (xG λy hy=>?_);obtain ⟨k,_,rfl⟩:=zR.mp (pm.mem_iff.mp hy);show (k:Int)=((k:Int).toNat:Int)
     rw [yo]
   . have:=pm.map Int.toNat
     rw [zF] at this;have e:ks.map (Int.toNat ∘ λ(k:Nat)=>(k:Int))=ks:=(xG λy hy=>yo y).trans (rq ks);rw [e] at this;exact this
 have lz:zs.length=ks.length:=pz.length_eq;rw [<- cD];have s1:=Same.new (o:=.lst (pint zs)) fl;have hl:upd H l (.lst (pint zs)) l=some (.lst (pint zs)):=zq;have hd:=s1 _ _ hd;generalize upd H l (.lst (pint zs))=H1 at s1 hl hd ⊢;refine ⟨⟨_,SqL.of hl⟩,compG (n:=zs.length) (OfI c zs g H1) (λD nD=>⟨zV _,rfl,Same.new nD,zq,.nil⟩) (λD i ys H h=>h.le) ?_ ?_ ?_ ?_⟩;{rintro D ys H3 nD ⟨_,_,sm,_,_⟩;exact ⟨_,SqL.of (sm _ _ hl),by rw [zH];exact zk _⟩};{rintro D i ys H3 nD hi ⟨_,_,sm,_,_⟩;exact ⟨_,_,SqL.of (sm _ _ hl),zO (by rw [zH];exact hi)⟩}
 . rintro D i ys H3 x H4 nD hi ⟨le,len,sm,hD,gp⟩ ⟨rfl,yy⟩;obtain ⟨p,hp,rfl⟩:=vW (yy _ (SqL.of (sm _ _ hl)));have pk:p∈ks:=pz.mem_iff.mp (yb hp);obtain ⟨p0,up,lt⟩:=dw.ok p pk;ext a;have dg:=DGet.k (k:=Sum.inl (p:Int)) (sm _ _ hd);rw [dw.val p pk] at dg;refine ⟨_,dg,g p,rfl,up,lt,λu H5 s5 kp=>⟨by decide,λt ft=>?_⟩⟩;have s6:=Same.new (o:=.tup [V.int (p:Nat),u]) ft;have g6:upd H5 t (.tup [V.int (p:Nat),u]) t=some (.tup [V.int (p:Nat),u]):=zq;have kp:=kp.same s6;generalize upd H5 t (.tup [V.int (p:Nat),u])=H6 at s6 g6 kp ⊢;have S:=s5.trans s6;have hD:=S _ _ hD;have gp:=gp.same S;have al:=gp.all;have tk:zs.take (i+1)=zs.take i++[p]:=by rw [yG,hp];rfl
   refine compYes (by omega) hi (by omega) hD ⟨hi,by rw [zh,len];rfl,(sm.trans S).put nD,zq,?_⟩;rw [tk];exact Gp.snoc (Paired.mapP gp λ_ _ h=>KPair.away h hD al) (KPair.away ⟨t,u,rfl,g6,kp,up⟩ hD al)
 . rintro D ys H3 nD ⟨le,len,sm,hD,gp⟩;rw [yZ (zk _)] at gp;have nx:=ht.nx (s1.trans sm);refine ⟨D,ys,zs,g,rfl,zM hD (nl _),gp.noT,pz.nodup_iff.mpr dw.nd,λk hk=>dw.ok k (pz.mem_iff.mp hk),by omega,nx.tb,λm H' es nx2 nm hm ok pl=>q m H' es (nx.trans nx2) (nx.free nm) hm ok λk=>?_⟩;rw [pl k];by_cases z:k∈ks
   . rw [if_pos z,if_pos (pz.mem_iff.mpr z)]
   . rw [if_neg z,if_neg (λy=>z (pz.mem_iff.mp y))]
theorem YZ (kvs:List (Key × V))(k:Key)(v:V):(putK kvs k v).map (·.1)=if (valV kvs k).isSome=true then kvs.map (·.1) else kvs.map (·.1)++[k]:=by
 unfold putK;rw [tR];split
 . rw [zF];refine xG λkv _=>?_
   show (if kv.1=k then (kv.1,v) else kv).1=kv.1;split<;>rfl
 . rw [zD];rfl
def spMarksOf (c:Kd->Addr)(CM:Addr)(ts:Tabs):Sp:=λvs H Q _=>∃ (l:Addr) (ns:List Nat),vs=[.ref l]/\noT H l=some (.lst (pint ns))/\(∀ n∈ns,n<=65535)/\ns.length<=1000/\Tbs ts H /\
 ∀ m H' es,Nx ts H H'->noT H m=none->MkAt c CM (noT H') m es->EsOk es->(∀ x,x∈flat es↔x∈ns)->Q (.ref m) H'
structure MoI (l:Addr)(ns:List Nat)(H:Hp)(i:Nat)(σ:L2.St)(H':Hp):Prop where
 ex:∃ (d:Addr) (kvs:List (Key × V)) (ks:List Nat) (g:Nat->List Nat) (v2:Option V),σ=[some (.ref l),some (.ref d),v2]/\H d=none/\H' d=some (.dK kvs)/\DW kvs ks g/\(∀ k,k∉ks->g k=[]/\valV kvs (Sum.inl (k:Int))=none)/\∀ x,x%256∈g (x/256)↔x∈ns.take i
 same:Same H H'
theorem bw {ks:List Nat}(nd:ks.Nodup)(h:∀ k∈ks,k<256):ks.length<=256:=by
 have:=nd.length_le_of_subset (l₂:=List.range 256) λk hk=>xE.mpr (h k hk)
 rw [ym] at this;exact this
theorem DW.put {ks:List Nat}{n:Nat}(dw:DW kvs ks g)(no:∀ k,k∉ks->g k=[]/\valV kvs (Sum.inl (k:Int))=none)(hn:n<=65535) :
   let g':Nat->List Nat:=λk=>if k=n/256 then gAdd (g (n/256)) (n%256) else g k
   let ks':List Nat:=if n/256∈ks then ks else ks++[n/256]
   let kvs':=putK kvs (Sum.inl ((n/256:Nat):Int)) (.int (wd (gAdd (g (n/256)) (n%256)):Nat))
   DW kvs' ks' g'/\(∀ k,k∉ks'->g' k=[]/\valV kvs' (Sum.inl (k:Int))=none):=by
 intro g' ks' kvs';have iff_ks:∀ k,k∈ks'↔k∈ks\/k=n/256:=λk=>by
   show k∈(if n/256∈ks then ks else ks++[n/256])↔_;split
   . rename_i h
     exact ⟨.inl,λz=>z.elim id λz=>by rw [z];exact h⟩
   . rw [zY,zS]
 have vals:∀ k:Nat,valV kvs' (Sum.inl (k:Int))=if k=n/256 then some (.int (wd (gAdd (g (n/256)) (n%256)):Nat)) else valV kvs (Sum.inl (k:Int)):=λk=>by
   show valV (putK kvs (Sum.inl ((n/256:Nat):Int)) _) (Sum.inl (k:Int))=_;rw [valV_put];by_cases c:k=n/256;{rw [if_pos (by rw [c]),if_pos c]};{rw [if_neg (by intro z;exact c (Int.ofNat.inj (Sum.inl.inj z))),if_neg c]}
 have some_iff:(valV kvs (Sum.inl ((n/256:Nat):Int))).isSome=true↔n/256∈ks:=by
   by_cases c:n/256∈ks;{rw [dw.val _ c];simp [c]};{rw [(no _ c).2];simp [c]}
 refine ⟨⟨?_,?_,λk hk=>?_,λk hk=>?_⟩,λk hk=>?_⟩
 . show (putK kvs _ _).map (·.1)=_;rw [YZ];show _=(if n/256∈ks then ks else ks++[n/256]).map _;by_cases c:n/256∈ks
   . rw [if_pos (some_iff.mpr c),if_pos c,dw.keys]
   . rw [if_neg (λz=>c (some_iff.mp z)),if_neg c,dw.keys,zD];rfl
 . show (if n/256∈ks then ks else ks++[n/256]).Nodup;split
   . exact dw.nd
   . rename_i h
     exact gI dw.nd h
 . have gk:g' k=if k=n/256 then gAdd (g (n/256)) (n%256) else g k:=rfl
   rw [gk];by_cases c:k=n/256;{rw [if_pos c];exact ⟨by omega,vB _ _,tK (f:=λx=>decide (x∈g (n/256))||decide (x∈[n%256]))⟩};{rw [if_neg c];exact dw.ok k (((iff_ks k).mp hk).resolve_right c)}
 . rw [vals];have gk:g' k=if k=n/256 then gAdd (g (n/256)) (n%256) else g k:=rfl
   rw [gk];by_cases c:k=n/256;{rw [if_pos c,if_pos c]};{rw [if_neg c,if_neg c];exact dw.val k (((iff_ks k).mp hk).resolve_right c)}
 . have nk:k∉ks/\k≠n/256:=⟨λz=>hk ((iff_ks k).mpr (.inl z)),λz=>hk ((iff_ks k).mpr (.inr z))⟩
   have gk:g' k=if k=n/256 then gAdd (g (n/256)) (n%256) else g k:=rfl
   rw [gk,vals,if_neg nk.2,if_neg nk.2];exact no k nk.1
theorem YY (cP:∃ t,mg "PLACES"=some (.int 256 t)) (jj:FnAt P w K mg base "check_number" ["thing"] 2 spChk) (jaR:FnAt P w K mg base "of_words" ["words"] 8 (spOfWords c CM ts)) (d:DefAt K mg "marks_of" oS ["numbers"]):FnAt P w K mg base "marks_of" ["numbers"] 9 (spMarksOf c CM ts):=by
 obtain ⟨tP,ja⟩:=cP;refine FnAt.of d jbv ?_ ?_;ext c;have nd:=jbv.nd;obtain ⟨l,ns,rfl,hl,hn,ll,ht,q⟩:=h;refine ⟨_,(zp (zb 1 gJ) (zp (xg yF rfl (yK K (pv 0)) (yj 2) (zp (yz (zc jj (zy (pv 2) zx))) (zo (ps_dput (hu1 hr) (pv 1) (zw yW (pv 2) (zK ja)) (zw rZ (pe_dget2 (hu1 hr) (pv 1) (zw yW (pv 2) (zK ja)) zu ⟨rfl,rfl,rfl,rfl⟩) (zw vA zu (zw zB (pv 2) (zK ja)))) rfl)))) (zo (zd (zc jaR (zy (pv 1) zx)))))),?_⟩
 ext a;have hl:=(oT hl)
 intro d nd;have sd:Same H (upd H d (.dK [])):=Same.new nd;refine ⟨⟨_,SqL.of (sd _ _ hl)⟩,loopL (xs:=pint ns) (MoI l ns H) ⟨⟨d,[],[],λ_=>[],_,rfl,nd,zq,⟨rfl,mB,(λ_ h=>nomatch h),(λ_ h=>nomatch h)⟩,λk _=>⟨rfl,rfl⟩,λx=>⟨(λh=>nomatch h),(λh=>nomatch h)⟩⟩,sd⟩ ?_ ?_ ?_⟩;{rintro i σ H2 hi ⟨_,sm⟩;exact SqL.of (sm _ _ hl)}
 . rintro i x σ H2 hi ⟨⟨d,kvs,ks,g,v2,rfl,nd,hd,dw,no,me⟩,sm⟩;obtain ⟨n,hni,rfl⟩:=vW hi;have n0:=hn n (yb hni);have tk:ns.take (i+1)=ns.take i++[n]:=by rw [yG,hni];rfl
   have e1:(n:Int)/256=((n/256:Nat):Int):=by omega
   have e2:(n:Int)%256=((n%256:Nat):Int):=by omega
   ext a;rw [e1,e2];have dg:=DGet.k (k:=Sum.inl ((n/256:Nat):Int)) hd;have p0:n%256<256:=yd _ (by decide);have gk:Up 0 (g (n/256))/\(∀ p∈g (n/256),p<256)/\(valV kvs (Sum.inl ((n/256:Nat):Int))).getD (V.int 0)=.int (wd (g (n/256)):Nat):=by
     by_cases z:n/256∈ks;{rw [dw.val _ z];exact ⟨(dw.ok _ z).2.1,(dw.ok _ z).2.2,rfl⟩};{rw [(no _ z).2,(no _ z).1];exact ⟨trivial,(λ_ h=>nomatch h),rfl⟩}
   obtain ⟨dw2,no2⟩:=dw.put no n0;refine ⟨n,rfl,n0,.inl ⟨kvs,.inl hd⟩,_,dg,⟨by omega,by omega,by decide⟩,_,gk.2.2,_,DPut.k (k:=Sum.inl ((n/256:Nat):Int)) hd ?_,⟨d,_,_,_,_,rfl,nd,?_,dw2,no2,λx=>?_⟩,sm.put nd⟩
   . have:=bw dw.nd λk hk=>(dw.ok k hk).1
     have l2:=congrArg List.length dw.keys;rw [zg,zg] at l2;exact small1000 (by omega)
   . rw [zq,oB,ku gk.1 (qv _) gk.2.1 (oC p0)];rfl
   . rw [tk,zY,zS,<- me]
     show x%256∈(if x/256=n/256 then gAdd (g (n/256)) (n%256) else g (x/256))↔_;by_cases c:x/256=n/256
     . rw [if_pos c,bx gk.2.1 p0,c];constructor
       . rintro (z | z)
         . exact .inl z
         . exact .inr (by omega)
       . rintro (z | z)
         . exact .inl z
         . exact .inr (by omega)
     . rw [if_neg c];constructor
       . exact .inl
       . rintro (z | z)
         . exact z
         . exact absurd (by rw [z]) c
 . rintro σ H2 ⟨⟨d,kvs,ks,g,v2,rfl,nd,hd,dw,no,me⟩,sm⟩;ext a;rw [zH,yZ (zk _)] at me;have nx:=ht.nx sm;refine ⟨d,kvs,ks,g,rfl,zM hd (L2.nd _),dw,bw dw.nd λk hk=>(dw.ok k hk).1,nx.tb,λm H' es nx2 nm hm ok pl=>q m H' es (nx.trans nx2) (nx.free nm) hm ok λx=>?_⟩;rw [wQ ok,pl,<- me];by_cases z:x/256∈ks
   . rw [if_pos z]
   . rw [if_neg z,(no _ z).1]
end
section
variable {c:Kd->Addr}{ts:Tabs}
def spKeyList (c:Kd->Addr)(CM:Addr):Sp:=λvs H Q _=>∃ (m:Addr) (es:List Ent),vs=[.ref m]/\MkAt c CM (noT H) m es/\∀ l,H l=none->Q (.ref l) (upd H l (.lst (pint (kys es))))
def spWordAt (c:Kd->Addr)(CM:Addr)(ts:Tabs):Sp:=λvs H Q _=>∃ (m:Addr) (k:Nat) (es:List Ent),vs=[.ref m,.int k]/\MkAt c CM (noT H) m es/\EsOk es/\Tbs ts H/\∀ H',Nx ts H H'->Q (.int (wd (plcE k es):Nat)) H'
theorem YX (B:Blt mg)(cd:CD_Marks K mg CM):MethAt P w K mg base CM "key_list" ["self"] 1 (spKeyList c CM):=by refine MethAt.of cd.c cd.m_key_list j9 ?_ ?_;ext c;have nd:=j9.nd;obtain ⟨m,es,rfl,hm,q⟩:=h;obtain ⟨dx,kd,ah,sr,h1,h2,_⟩:=hm.ex;refine ⟨_,(zo (zd (wY (uU K) rfl B.lst vQ (zy (yc K (pv 0)) zx)))),?_⟩;ext a;exact (yQ (oT h1) cd.c cd.n_keyed (v:=.ref kd) rfl ⟨kd,rfl,_,.inl (sL h2),q⟩)
theorem YW (je:MethAt P w K mg base CM "stretch_at" ["self","key"] 5 (spStAt c CM ts))(hw:∀ k,MethAt P w K mg base (c k) "word" ["self"] 4 (spWordM c k))(cd:CD_Marks K mg CM):MethAt P w K mg base CM "word_at" ["self","key"] 6 (spWordAt c CM ts):=by
 refine MethAt.of cd.c cd.m_word_at jag ?_ ?_;ext c;have nd:=jag.nd;obtain ⟨m,k,es,rfl,hm,ok,ht,q⟩:=h;obtain ⟨dx,fs,ho,nf⟩:=hm.obj;refine ⟨_,(zp (zb 2 (yJ P w K mg base 5 (pv 0) (zy (pv 1) zx))) (zo (zd (uc (zG qH (pv 2) vf) zu (xo P w K mg base 4 (pv 2)))))),?_⟩
 ext a;refine (yf (oT ho) nf.2.2.2.1 je ⟨m,k,es,rfl,hm,ok,ht,λH' nx=>?_⟩);have q:=q H' nx;have hm:=hm.same nx.same;rcases wm k ok.up with z | ⟨e,z1,z2,z3⟩
 . rw [(u4 z).1];rw [(u4 z).2] at q;show if V.non=V.non then _ else _
   rw [if_pos rfl];exact q
 . rw [(wO z1).1];rw [(wO z1).2] at q;have st:=(hm.st e z3).same noT_sub;obtain ⟨dx2,fs2,ho2,nf2⟩:=st.obj;show if V.ref e.loc=V.non then _ else _
   rw [if_neg (by intro y;cases y)];exact ⟨_,rfl,yf ho2 nf2.2.2.1 (hw _) ⟨e.loc,e.ps,rfl,st,ok.pup e z3,ok.plt e z3,q⟩⟩
theorem Paired.snoc {α β:Type}{F:α->β->Prop}:∀ {us:List α} {es:List β} {u:α} {e:β},Paired F us es->F u e->Paired F (us++[u]) (es++[e])
 | _,_,_,_,.nil,h=>.cons h .nil
 | _,_,_,_,.cons r q,h=>.cons r (Paired.snoc q h)
def kpE (e:Ent):Nat × List Nat:=(e.key,e.ps)
theorem ent_plc {es:List Ent}(ok:EsOk es){e:Ent}(he:e∈es):plcE e.key es=e.ps:=by
 rcases wm e.key ok.up with z | ⟨e',z1,z2,z3⟩
 . have:e∈miE e.key es:=yv.mpr ⟨he,zJ rfl⟩;rw [z] at this;cases this
 . have:e∈miE e.key es:=yv.mpr ⟨he,zJ rfl⟩;rw [z1,zS] at this;rw [(wO z1).2,this]
theorem bu {es:List Ent}(ok:EsOk es)(k:Nat):k∈kys es↔∃ n∈flat es,n/256=k:=by
 constructor
 . intro h;obtain ⟨e,he,rfl⟩:=zR.mp h;obtain ⟨p,r,ep⟩:=List.exists_cons_of_ne_nil (ok.ne e he);have hp:p∈e.ps:=by rw [ep];exact .head _
   have:=ok.plt e he p hp;exact ⟨256*e.key+p,(rE ok.plt).mpr ⟨e,he,by lia,by rw [show (256*e.key+p)%256=p by lia];exact hp⟩,by lia⟩
 . rintro ⟨n,hn,rfl⟩;obtain ⟨e,he,h1,_⟩:=(rE ok.plt).mp hn;exact zR.mpr ⟨e,he,h1⟩
theorem kB {es:List Ent}(ok:EsOk es)(k:Nat):Up 0 (plcE k es)/\∀ p∈plcE k es,p<256:=by
 rcases wm k ok.up with z | ⟨e,z1,z2,z3⟩
 . rw [(u4 z).2];exact ⟨trivial,λ_ h=>nomatch h⟩
 . rw [(wO z1).2];exact ⟨ok.pup e z3,ok.plt e z3⟩
theorem oA {es:List Ent}(ok:EsOk es){k p:Nat}(hp:p<256):p∈plcE k es↔256*k+p∈flat es:=by rw [wQ ok,show (256*k+p)%256=p by lia,show (256*k+p)/256=k by lia]
theorem kp_eq {es es':List Ent}(ok:EsOk es)(ok':EsOk es')(e:flat es=flat es'):es.map kpE=es'.map kpE:=by
 have hp:∀ k,plcE k es=plcE k es':=λk=>by
   obtain ⟨u1,l1⟩:=kB ok k;obtain ⟨u2,l2⟩:=kB ok' k;refine Up.ext u1 u2 λp=>⟨λh=>?_,λh=>?_⟩
   . have:=l1 p h;rw [oA ok' this,<- e,<- oA ok this];exact h
   . have:=l2 p h;rw [oA ok this,e,<- oA ok' this];exact h
 have hk:kys es=kys es':=Up.ext ok.up ok'.up λk=>by rw [bu ok,bu ok',e]
 have f:∀ {es:List Ent},EsOk es->es.map kpE=(kys es).map λk=>(k,plcE k es):=λ{es} ok=>by
   unfold kys;rw [zF];exact xG λe he=>by show (e.key,e.ps)=(e.key,plcE e.key es);rw [ent_plc ok he]
 rw [f ok,f ok',hk];exact xG λk _=>by rw [hp]
end
theorem up_nodup {a:Nat}(h:Up a ps):ps.Nodup:=by
 have h2:(ps.map λ(p:Nat)=>(p:Int)).Nodup:=(kE h).imp λh=>Int.ne_of_lt h
 exact List.Pairwise.of_map (λ(p:Nat)=>(p:Int)) (λa b h e=>h (by rw [e])) h2
def spanAt (f l k:Nat):List Nat:=List.range' (max f (256*k)-256*k) (min l (256*k+255)-256*k+1-(max f (256*k)-256*k))
def SpRow (f l:Nat)(H:Hp)(v:V)(k:Nat):Prop:=∃ t,v=.ref t/\H t=some (.tup [.int (k:Nat),.int (wd (spanAt f l k):Nat)])
def spSpans:Sp:=λvs H Q _=>∃ f l:Nat,vs=[.int f,.int l]/\f<=l/\l<=65535/\∀ sp us H',Same H H'->H' sp=some (.lst us)->Paired (SpRow f l H') us (List.range' (f/256) (l/256+1-f/256))->Q (.ref sp) H'
structure SpI (f l:Nat)(sp:Addr)(H:Hp)(i:Nat)(σ:L2.St)(H':Hp):Prop where
 ex:∃ (us:List V) (v3 v4:Option V),σ=[some (.int f),some (.int l),some (.ref sp),v3,v4]/\H' sp=some (.lst us)/\us.length=i/\Paired (SpRow f l H') us (List.range' (f/256) i)
 same:Same H H'
def spPutSpan (c:Kd->Addr)(CM:Addr)(ts:Tabs):Sp:=λvs H Q _=>∃ (m:Addr) (es:List Ent) (f l:Nat),vs=[.ref m,.int f,.int l]/\f<=l/\l<=65535/\MkAt c CM (noT H) m es/\EsOk es/\Tbs ts H/\∀ H' es' (r:Int),Nb ts m H H'->MkAt c CM (noT H') m es'->EsOk es'->(∀ x,x∈flat es'↔x∈flat es\/(f<=x/\x<=l))->Q (.int r) H'
theorem up_zero:∀ {a:Nat} {ps:List Nat},Up a ps->Up 0 ps
 | _,[],_=>trivial
 | _,_::_,h=>⟨zV _,h.2⟩
theorem span_up (f l k:Nat):Up 0 (spanAt f l k):=up_zero (qA _ _)
theorem span_lt {f l k:Nat}:∀ p∈spanAt f l k,p<256:=λp hp=>by
 unfold spanAt at hp;rw [vK] at hp;lia
def keysFl (f l:Nat):List Nat:=List.range' (f/256) (l/256+1-f/256)
structure TkI (c:Kd->Addr)(CM:Addr)(ts:Tabs)(m:Addr)(f l n:Nat)(es:List Ent)(H:Hp)(i:Nat)(σ:L2.St)(H':Hp):Prop where
 ex:∃ (es2:List Ent) (v4 v5:Option V),σ=[some (.ref m),some (.int f),some (.int l),some (.int n),v4,v5]/\MkAt c CM (noT H') m es2/\EsOk es2/\∀ k,plcE k es2=if k∈(keysFl f l).take i then gJoin (plcE k es) (spanAt f l k) else plcE k es
 nb:Nb ts m H H'
theorem pgetK {α β:Type}{F:α->β->Prop}{us:List α}{ks:List β}(h:Paired F us ks){i:Nat}{v:α}(hi:us[i]?=some v):∃ k,ks[i]?=some k/\F v k:=by
 induction h generalizing i with
 | nil=>cases hi
 | cons r q ih =>
   cases i with
   | zero=>cases (show _=v from Option.some.inj hi);exact ⟨_,rfl,r⟩
   | succ i=>exact ih hi
theorem nb_lst {ts:Tabs}{m a dx:Addr}{fs:List (Str × V)}(nb:Nb ts m H H')(hm:noT H m=some (.ins C dx fs))(h:noT H a=some (.lst xs)):noT H' a=some (.lst xs):=nb.same _ _ (λz=>by rw [z,hm] at h;cases h) h
theorem SpRow.away {f l k:Nat}{v:V}{D:Addr}{o:HO}(h:SpRow f l H v k)(hD:H D=some (.lst ys)):SpRow f l (upd H D o) v k:=by obtain ⟨t,e,h⟩:=h;exact ⟨t,e,by rw [zr (λz=>by rw [z,hD] at h;cases h)];exact h⟩
theorem SpRow.same {f l k:Nat}{v:V}(h:SpRow f l H v k)(s:Same H H'):SpRow f l H' v k:=by obtain ⟨t,e,h⟩:=h;exact ⟨t,e,s _ _ h⟩
theorem span_mem {f l x:Nat}(z:f/256<=x/256/\x/256<=l/256):x%256∈spanAt f l (x/256)↔f<=x/\x<=l:=by unfold spanAt;rw [vK];have hx:x=256*(x/256)+x%256:=(Nat.div_add_mod _ _).symm;have hr:x%256<256:=yd _ (by decide);generalize x/256=k at hx z ⊢;generalize x%256=r at hx hr ⊢;subst hx;lia
section
variable {c:Kd->Addr}{ts:Tabs}
theorem ok_spans (B:Blt mg)(cP:∃ t,mg "PLACES"=some (.int 256 t))(jh:FnAt P w K mg base "span_word" ["first","last"] 2 spSpan)(d:DefAt K mg "spans_by_key" oU ["first","last"]):FnAt P w K mg base "spans_by_key" ["first","last"] 3 spSpans:=by
 obtain ⟨tP,ja⟩:=cP;refine FnAt.of d jaq ?_ ?_;ext c;have nd:=jaq.nd;obtain ⟨f,l,rfl,hfl,hl,q⟩:=h;refine ⟨_,(zp (zb 2 (yg zx)) (zp (yu (zG op_gt (pv 0) (pv 1)) (zo (zd (pv 2))) yh) (zp (xg yF rfl (a7 rfl B.range (zy (zw yW (pv 0) (zK ja)) (zy (zw zN (zw yW (pv 1) (zK ja)) zu) zx))) (yj 3) (zp (zb 4 (zw xc (pv 3) (zK ja))) (zo (yz (yt K yP xY xX xb (pv 2) (zy (va (zy (pv 3) (zy (zc jh (zy (zw yA (yk (ax rfl) rfl B.max aE (zy (pv 0) (zy (pv 4) zx))) (pv 4)) (zy (zw yA (yk (gh rfl) rfl B.min fh (zy (pv 1) (zy (zw yA (zw zN (pv 4) (zK ja)) zu) zx))) (pv 4)) zx))) zx))) zx)))))) (zo (zd (pv 2)))))),?_⟩
 ext a;refine ⟨zV _,λsp fs=>?_⟩;rw [if_neg (by lia)];have e1:((l:Int)/256+1-(f:Int)/256).toNat=l/256+1-f/256:=by lia
 refine ⟨_,_,⟨rfl,rfl⟩,⟨by lia,by lia,by lia,by lia⟩,?_⟩;rw [e1];refine loopR (SpI f l sp H) ⟨⟨[],_,_,rfl,zq,rfl,.nil⟩,Same.new fs⟩ ?_ ?_
 . rintro i σ H1 hi ⟨⟨us,v3,v4,rfl,hs,lu,rows⟩,sm⟩;rw [show (f:Int)/256+(i:Int)=((f/256+i:Nat):Int) by lia];have tk:List.range' (f/256) (i+1)=List.range' (f/256) i++[f/256+i]:=by rw [List.range'_concat,Nat.one_mul]
   have kf:f/256<=f/256+i:=by lia
   have kl:f/256+i<=l/256:=by lia
   have ib:i<=256:=by lia
   generalize f/256+i=k at tk kf kl ⊢;ext a;refine ⟨⟨_,SqL.of hs⟩,_,_,⟨rfl,rfl⟩,_,_,⟨rfl,rfl⟩,?_⟩;have ea:((if (k:Int)*256 > (f:Int) then (k:Int)*256 else (f:Int))-(k:Int)*256)=((max f (256*k)-256*k:Nat):Int):=by split<;>lia
   have eb:((if (k:Int)*256+256-1<(l:Int) then (k:Int)*256+256-1 else (l:Int))-(k:Int)*256)=((min l (256*k+255)-256*k:Nat):Int):=by split<;>lia
   rw [ea,eb];refine ⟨_,_,rfl,by lia,by lia,by decide,λp fp=>?_⟩;have sp1:=Same.new (o:=.tup [V.int (k:Nat),V.int (wd (spanAt f l k):Nat)]) fp;have gp:upd H1 p (.tup [V.int (k:Nat),V.int (wd (spanAt f l k):Nat)]) p=some (.tup [V.int (k:Nat),V.int (wd (spanAt f l k):Nat)]):=zq;have hs2:=sp1 _ _ hs;refine ⟨us,hs2,small1000 (by lia),⟨us++[.ref p],_,_,rfl,zq,by rw [zh,lu];rfl,?_⟩,(sm.trans sp1).put fs⟩;rw [tk];exact Paired.snoc (Paired.mapP rows λ_ _ h=>(h.same sp1).away hs2) (SpRow.away ⟨p,rfl,gp⟩ hs2)
 . rintro σ H1 ⟨⟨us,v3,v4,rfl,hs,lu,rows⟩,sm⟩;ext a;exact q sp us H1 sm hs rows
theorem YV (jj:FnAt P w K mg base "check_number" ["thing"] 2 spChk)(jbK:FnAt P w K mg base "spans_by_key" ["first","last"] 3 spSpans)(jC:MethAt P w K mg base CM "keep" ["self","key","stretch"] 6 (spKeep c CM ts))(jo:FnAt P w K mg base "kept" ["word"] 4 (spKept c))(jbg:MethAt P w K mg base CM "word_at" ["self","key"] 6 (spWordAt c CM ts))(cd:CD_Marks K mg CM):MethAt P w K mg base CM "put_span" ["self","first","last"] 7 (spPutSpan c CM ts):=by
 refine MethAt.of cd.c cd.m_put_span j8 ?_ ?_;ext c;have nd:=j8.nd;obtain ⟨m,es,f,l,rfl,hfl,hl,hm,ok,ht,q⟩:=h;obtain ⟨dx,kd,ah,sr,h1,_⟩:=hm.ex;refine ⟨_,(zp (yz (zc jj (zy (pv 1) zx))) (zp (yz (zc jj (zy (pv 2) zx))) (zp (zb 3 (yc K (pv 0))) (zp (xg yF rfl (yK K (zc jbK (zy (pv 1) (zy (pv 2) zx)))) (vT K rfl (yR (yj 4) (yR (yj 5) ve))) (zo (yz (yJ P w K mg base 6 (pv 0) (zy (pv 4) (zy (zc jo (zy (zw rZ (yJ P w K mg base 6 (pv 0) (zy (pv 4) zx)) (pv 5)) zx)) zx)))))) (zo (zd (zw yA (yc K (pv 0)) (pv 3)))))))),?_⟩
 refine za λk hk=>?_
 ext a;refine ⟨f,rfl,by lia,hk _ _ (za λk hk=>?_)⟩;ext a;refine ⟨l,rfl,hl,hk _ _ (za λk hk=>?_)⟩;ext a;refine yQ (oT h1) cd.c cd.n_held rfl (hk _ _ (za λk hk=>?_));ext a;refine ⟨f,l,rfl,hfl,hl,λsp us H1 s1 hsp rows=>⟨sp,rfl,⟨_,SqL.of hsp⟩,?_⟩⟩;have nx1:=ht.nx s1;have hsp:=zM hsp (nl _);have rows:Paired (SpRow f l (noT H1)) us (List.range' (f/256) (l/256+1-f/256)):=Paired.mapP rows λ_ _ ⟨t,e,h⟩=>⟨t,e,zM h (nt _)⟩
 have h1:=nx1.at h1;refine loopL (xs:=us) (TkI c CM ts m f l (tot es) es H1) ⟨⟨es,_,_,rfl,hm.same nx1.same,ok,λk=>by rw [if_neg (by rw [qN];exact t6)]⟩,(Nx.refl nx1.tb).nb⟩ ?_ ?_ ?_;{rintro i σ H2 hi ⟨_,nb⟩;exact sL (nb_lst nb h1 hsp)}
 . rintro i v σ H2 hi ⟨⟨es2,v4,v5,rfl,hm2,ok2,pl⟩,nb⟩;obtain ⟨k,hk,t,rfl,htp⟩:=pgetK rows hi;have ht2:noT H2 t=some (.tup [.int (k:Nat),.int (wd (spanAt f l k):Nat)]):=nb.same _ _ (λz=>by rw [z,h1] at htp;cases htp) htp;ext a;refine ⟨_,SqT.of (oT ht2),rfl,?_⟩;ext a;obtain ⟨dx2,kd2,ah2,sr2,h12,_⟩:=hm2.ex;have hk:(keysFl f l)[i]?=some k:=hk;have kin:=yb hk;have k256:k<256:=by
     unfold keysFl at kin;rw [vK] at kin;lia
   have tk:(keysFl f l).take (i+1)=(keysFl f l).take i++[k]:=by rw [yG,hk];rfl
   have nk:k∉(keysFl f l).take i:=λz=>by
     have nd:((keysFl f l).take (i+1)).Nodup:=(up_nodup (qA _ _)).sublist (xj _ _);rw [tk,qV] at nd;exact nd.2.2 k z k (.head _) rfl
   have plk:plcE k es2=plcE k es:=by rw [pl,if_neg nk]
   obtain ⟨u1,l1⟩:=kB ok k;refine ⟨_,_,⟨rfl,rfl⟩,_,_,rfl,rfl,yf (oT h12) rfl jC (yf (oT h12) rfl jbg ⟨m,k,es2,rfl,hm2,ok2,nb.tb,λH3 nx3=>⟨_,rfl,_,rfl,?_⟩⟩)⟩;rw [plk];refine ⟨gJoin (plcE k es) (spanAt f l k),by rw [ku u1 (span_up f l k) l1 span_lt];rfl,vB _ _,tK,λv H4 s4 kp=>?_⟩;obtain ⟨a,ka⟩:=kp.noT.at
   have nx4:=nx3.trans (nx3.tb.nx s4);refine ⟨m,k,es2,_,v,a,rfl,hm2.same nx4.same,ok2,ka,vB _ _,tK,nx4.tb,λH5 nb5 hm5=>⟨⟨_,_,_,rfl,hm5,ok2.keep k256 (vB _ _) tK,λj=>?_⟩,(nb.trans nx4.nb).trans nb5⟩⟩;rw [o9,tk];by_cases c1:j=k;{rw [if_pos c1,if_pos (by rw [c1];exact yC _ (.head _)),c1]}
   . rw [if_neg c1,pl j];by_cases c2:j∈(keysFl f l).take i
     . rw [if_pos c2,if_pos (xS _ c2)]
     . rw [if_neg c2,if_neg (λz=>(zY.mp z).elim c2 λz=>c1 (zS.mp z))]
 . rintro σ H2 ⟨⟨es2,v4,v5,rfl,hm2,ok2,pl⟩,nb⟩;obtain ⟨dx2,kd2,ah2,sr2,h12,_⟩:=hm2.ex;refine hk _ _ ?_;ext a;refine (yQ (oT h12) cd.c cd.n_held rfl ⟨_,rfl,q H2 es2 _ (nx1.nb.trans nb) hm2 ok2 λx=>?_⟩);rw [wQ ok2,wQ ok,pl,yZ (show (keysFl f l).length<=us.length by rw [wj rows];exact zk _)];have km:x/256∈keysFl f l↔f/256<=x/256/\x/256<=l/256:=by
     unfold keysFl;rw [vK];lia
   split
   . rename_i z
     rw [km] at z;unfold gJoin;rw [yv,qP,w8,w8,xE,span_mem z];exact ⟨λh=>h.2,λh=>⟨yd _ (by decide),h⟩⟩
   . rename_i z
     rw [km] at z;exact ⟨.inl,λh=>h.elim id λh=>absurd ⟨Nat.div_le_div_right h.1,Nat.div_le_div_right h.2⟩ z⟩
end
section
variable {a:Addr}{m:Nat}{σ:L2.St}{Q:VK}{ts:Tabs}
theorem compX (hT:Tbs ts H1)(p:Nat->Bool)(fy:Nat->V)(hS:noT H1 a=some (.lst xs))(hn:xs.length<=1000000)
   (ht:∀ i x H2 (R:Bool->Hp->Prop),xs[i]?=some x->Nx ts H1 H2->(∀ H3,Nx ts H2 H3->R (p i) H3)->tt ((capSt m caps σ).set 0 (some x)) H2 R)
   (he:∀ i x H2 (R:VK),xs[i]?=some x->p i=true->Nx ts H1 H2->(∀ H3,Nx ts H2 H3->R (fy i) H3)->te ((capSt m caps σ).set 0 (some x)) H2 R)
   (hq:∀ D H2,Nx ts H1 H2->noT H1 D=none->H2 D=some (.lst (((List.range xs.length).filter p).map fy))->Q (.ref D) H2):CompJ (Itl K a) m caps (gName 0) tt te σ H1 Q:=by
 have sq:∀ {H2},Nx ts H1 H2->SqL K H2 a xs:=λn=>sL (n.at hS)
 refine compG (n:=xs.length) (λD i ys H2=>i<=xs.length/\Nx ts H1 H2/\H2 D=some (.lst ys)/\ys=((List.range i).filter p).map fy) (λD hD=>⟨zV _,Nx.new hT hD,zq,rfl⟩) (λD i ys H2 h=>h.1)
   (λD ys H2 hD h=>⟨xs,sq h.2.1,zk _⟩) (λD i ys H2 hD hi h=>⟨xs,_,sq h.2.1,zO hi⟩) ?_ (λD ys H2 hD h=>hq D H2 h.2.1 (wq hD) (h.2.2.2 ▸ h.2.2.1))
 rintro D i ys H2 x H3 hD hi ⟨_,s2,h2,rfl⟩ ⟨rfl,y⟩;have hx:=y xs (sq s2);rw [gName];refine ht i x H3 _ hx s2 λH4 s4=>?_
 have ll:(((List.range i).filter p).map fy).length<=i:=by rw [zg];exact yl (vN _ _) (by rw [ym];exact zk _)
 have at4:∀ {H5 xs},Nx ts H3 H5->H3 D=some (.lst xs)->H5 D=some (.lst xs):=λn e=>(oT (n.at (zM e (nl _))))
 split
 . rename_i e
   refine he i x _ _ hx e (s2.trans s4) λH5 s5=>compYes hn hi ll (at4 (s4.trans s5) h2) ⟨hi,((s2.trans s4).trans s5).put (wq hD) (at4 (s4.trans s5) h2) trivial,zq,?_⟩
   rw [tw,uo,zD];simp [e]
 . rename_i e
   refine compNo (ys:=((List.range i).filter p).map fy) hi ⟨hi,s2.trans s4,at4 s4 h2,?_⟩;rw [tw,uo,zD];simp [e]
end
def szE (es:List Ent):List Nat:=es.map λe=>szS (kdOf e.ps) e.ps
def spSizeMM (c:Kd->Addr)(CM:Addr)(ts:Tabs):Sp:=λvs H Q _=>∃ (m:Addr) (es:List Ent),vs=[.ref m]/\MkAt c CM (noT H) m es/\EsOk es/\Tbs ts H/\∀ H',Nx ts H H'->Q (.int ((szE es).sum:Nat)) H'
section
variable {c:Kd->Addr}{ts:Tabs}
theorem YU {α:Type}(f:α->V)(xs:List α)(g:Nat->V)(h:∀ i x,xs[i]?=some x->g i=f x):((List.range xs.length).filter λ_=>true).map g=xs.map f:=by
 rw [uB.mpr λ_ _=>rfl];refine mP λi=>?_
 rw [yp,yp];cases e:xs[i]? with
 | none=>rw [qc (by rw [ym];exact List.getElem?_eq_none_iff.mp e)];rfl
 | some x=>rw [qX (xT.mp e).1];exact congrArg some (h i x e)
theorem br:∀ l:List Nat,(l.map λ(n:Nat)=>(n:Int)).sum=((l.sum:Nat):Int)
 | []=>rfl
 | x::l=>by rw [zL,qM,qM,br l,tm]
theorem ok_sizeM (B:Blt mg)(hs:∀ k,MethAt P w K mg base (c k) "size" ["self"] 4 (spSizeM c k))(cd:CD_Marks K mg CM):MethAt P w K mg base CM "size" ["self"] 5 (spSizeMM c CM ts):=by
 refine MethAt.of cd.c cd.m_size jaN ?_ ?_;ext c;have nd:=jaN.nd;obtain ⟨m,es,rfl,hm,ok,tb,q⟩:=h;obtain ⟨dx,kd,ah,sr,h1,h2,h3,h4⟩:=hm.ex;refine ⟨_,(zo (zd (yk (ZJ K) rfl B.sum ZK (zy (xZ ["stretch"] [] rfl (yK K (yc K (pv 0))) (λ_ _ _ _ _=>yM (i:=0) (by show List.Nodup (["stretch"]:List Str);decide +kernel) rfl (Or.inl rfl)) (λ_ _ _ _ _=>xa) (λ_ _ _ _ _=>(xo P w K mg base 4 (pv 0))) trivial xq) zx)))),?_⟩;ext a;have les:=qu ok;refine (yQ (oT h1) cd.c cd.n_stretches (v:=.ref sr) rfl ⟨sr,rfl,⟨_,sL h4⟩,compX tb (λ_=>true) (λi=>.int ((szE es).getD i 0:Nat)) h4 (by rw [zg];lia) (λi x H2 R hx n2 q=>?_) (λi x H2 R hx _ n2 q=>?_) (λD H2 n2 fD hD=>?_)⟩);{ext a;exact q H2 (.refl n2.tb)}
 . rw [yp] at hx;cases he:es[i]? with
   | none=>rw [he] at hx;cases hx
   | some e =>
     rw [he] at hx;cases hx;have st:=((hm.st e (yb he)).same n2.same).same noT_sub;obtain ⟨dx3,fs3,ho3,nf3⟩:=st.obj;have:=q H2 (.refl n2.tb);rw [show (szE es).getD i 0=szS (kdOf e.ps) e.ps by unfold szE;rw [xy,yp,he];rfl] at this;ext a;exact (yf ho3 nf3.2.2.2.1 (hs _) ⟨e.loc,e.ps,rfl,st,this⟩)
 . rw [zg] at hD;rw [YU (λe:Ent=>V.int (szS (kdOf e.ps) e.ps:Nat)) es (λi=>.int ((szE es).getD i 0:Nat)) λi e he=>by show V.int _=_;rw [show (szE es).getD i 0=szS (kdOf e.ps) e.ps by unfold szE;rw [xy,yp,he];rfl]] at hD;refine ⟨D,rfl,(szE es).map λ(n:Nat)=>(n:Int),SqL.of (by rw [hD];unfold szE;rw [zF,zF];rfl),?_⟩;rw [br];exact q H2 n2
end
def tx (bs:List Bool):Str:=⟨(bs.map λb=>if b=true then 49 else 48).toArray⟩
def sg (b:Bool):Str:=if b=true then "1" else "0"
theorem sg_eq (b:Bool):sg b=⟨#[if b=true then 49 else 48]⟩:=by cases b<;>decide +kernel
theorem xJ (bs:List Bool):(tx bs).length=bs.length:=by show (Array.size (bs.map λb=>if b=true then 49 else 48).toArray)=_;rw [yn,zg]
theorem kA:∀ (ys:List Str),Str.join Str.empty ys=⟨(ys.flatMap λy=>y.cps.toList).toArray⟩
 | []=>rfl
 | [x]=>by show x=(⟨(([x]:List Str).flatMap λy=>y.cps.toList).toArray⟩:Str);cases x;simp
 | x::y::r=>by
   have ih:=kA (y::r);show (⟨(x.cps++#[])++(Str.join Str.empty (y::r)).cps⟩:Str)=_;rw [ih];simp
theorem i9 (bs:List Bool):Txt.join "" (bs.map sg)=tx bs:=by
 show Builtin.Str.glued _ _=_;rw [StrLaws.glued_eq_join];have e:("":Str)=Str.empty:=by decide +kernel
 rw [e,kA];unfold tx;congr 2
 induction bs with
 | nil=>rfl
 | cons b r ih=>rw [zL,vm,ih,sg_eq];rfl
theorem n9:∀ bs:List Bool,((bs.map sg).map (·.length)).sum=bs.length
 | []=>rfl
 | b::r=>by
   rw [zL,zL,qM,n9 r,zZ,sg_eq];show 1+_=_;lia
theorem i8 (c k:Int):0<=mixI c k/\mixI c k<2147483629:=⟨sE _ (by decide),sP _ (by decide)⟩
def spPcT:Sp:=λvs H Q _=>∃ (c:Int) (k:Nat),vs=[.int c,.int k]/\k<256/\∀ (r:Addr) (zs:List Nat) (H':Hp),Same H H'->H r=none->H' r=some (.lst (pint zs))->zs.length<=600->Q (.ref r) H'
theorem ok_pcT (B:Blt mg)(jc:FnAt P w K mg base "_law_mixed" ["_law_cell","_law_k"] 1 spMixed)(d:DefAt K mg "_law_piece" oM ["_law_cell","_law_key"]):FnAt P w K mg base "_law_piece" ["_law_cell","_law_key"] 2 spPcT:=by
 refine FnAt.of d jbH ?_ ?_;ext c;have nd:=jbH.nd;obtain ⟨c,k0,rfl,k256,q⟩:=h;refine ⟨_,(zp (zb 2 (zc jc (zy (pv 0) (zy zu zx)))) (zp (zb 3 (zw xc zu (pv 1))) (zp (zb 4 (zw zN (pv 3) (zw zB (pv 2) zu))) (zp (zb 5 (zw zB (zw yW (pv 2) zu) zu)) (zp (zb 6 (zw yW (pv 2) zu)) (zp (yu (zG yL (pv 5) zu) (zo (zd (yg (zy (pv 4) zx)))) yh) (zp (yu (zG yL (pv 5) zu) (zo (zd (xZ ["_law_k"] [4] rfl (vd rfl B.range (zy (zw zN zu (zw zB (pv 6) zu)) zx)) (λ_ _ _ _ _=>yM (i:=0) (by show List.Nodup (["_law_k","_law_first"]:List Str);decide +kernel) rfl (Or.inl rfl)) (λ_ _ _ _ _=>xa) (λ_ _ _ _ _=>(zw zN (pv 1) (pv 0))) ⟨⟨_,rfl,rfl,.inl rfl⟩,trivial⟩ xq))) yh) (zp (yu (zG yL (pv 5) zu) (zo (zd (xZ ["_law_k"] [4,6] rfl (vd rfl B.range (zy (zw zN zu (zw zB (zw yW (pv 6) zu) zu)) zx)) (λ_ _ _ _ _=>yM (i:=0) (by show List.Nodup (["_law_k","_law_first","_law_more"]:List Str);decide +kernel) rfl (Or.inl rfl)) (λ_ _ _ _ _=>xa) (λ_ _ _ _ _=>(zw zN (pv 1) (zw xc (pv 0) (zw zN zu (zw zB (pv 2) zu))))) ⟨⟨_,rfl,rfl,.inl rfl⟩,⟨⟨_,rfl,rfl,.inl rfl⟩,trivial⟩⟩ xq))) yh) (zp (yu (zG yL (pv 5) zu) (zo (zd (xZ ["_law_k"] [3] rfl (vd rfl B.range (zy (zw zN zu (zw zB (pv 6) zu)) zx)) (λ_ _ _ _ _=>yM (i:=0) (by show List.Nodup (["_law_k","_law_low"]:List Str);decide +kernel) rfl (Or.inl rfl)) (λ_ _ _ _ _=>xa) (λ_ _ _ _ _=>(zw zN (pv 1) (zw xc zu (pv 0)))) ⟨⟨_,rfl,rfl,.inl rfl⟩,trivial⟩ xq))) yh) (zp (yu (zG yL (pv 5) zu) (zo (zd (xZ ["_law_k"] [3] rfl (vd rfl B.range (zy (zw zN zu (zw zB (pv 6) zu)) zx)) (λ_ _ _ _ _=>yM (i:=0) (by show List.Nodup (["_law_k","_law_low"]:List Str);decide +kernel) rfl (Or.inl rfl)) (λ_ _ _ _ _=>xa) (λ_ _ _ _ _=>(zw zN (zw zN (pv 1) (zw xc zu (zw yW (pv 0) zu))) (zw zB (pv 0) zu))) ⟨⟨_,rfl,rfl,.inl rfl⟩,trivial⟩ xq))) yh) (zp (yu (zG yL (pv 5) zu) (zo (zd (xZ ["_law_k"] [3] rfl (vd rfl B.range (zy (zw zN zu (zw zB (pv 6) zu)) zx)) (λ_ _ _ _ _=>yM (i:=0) (by show List.Nodup (["_law_k","_law_low"]:List Str);decide +kernel) rfl (Or.inl rfl)) (λ_ _ _ _ _=>xa) (λ_ _ _ _ _=>(zw zN (zw zN (pv 1) (zw xc zu (zw yW (pv 0) zu))) (zw zB (pv 0) zu))) ⟨⟨_,rfl,rfl,.inl rfl⟩,trivial⟩ xq))) yh) (zp (yu (zG yL (pv 5) zu) (zo (zd (xZ ["_law_k"] [3] rfl (vd rfl B.range (zy zu zx)) (λ_ _ _ _ _=>yM (i:=0) (by show List.Nodup (["_law_k","_law_low"]:List Str);decide +kernel) rfl (Or.inl rfl)) (λ_ _ _ _ _=>xa) (λ_ _ _ _ _=>(zw zN (pv 1) (pv 0))) ⟨⟨_,rfl,rfl,.inl rfl⟩,trivial⟩ xq))) yh) (zo (zd (xZ ["_law_k"] [3] rfl (vd rfl B.range (zy (zw zN zu (zw zB (pv 6) zu)) zx)) (λ_ _ _ _ _=>yM (i:=0) (by show List.Nodup (["_law_k","_law_low"]:List Str);decide +kernel) rfl (Or.inl rfl)) (λ_ _ _ _ _=>xa) (λ_ _ _ _ _=>(zw zN (zw zN (pv 1) zu) (pv 0))) ⟨⟨_,rfl,rfl,.inl rfl⟩,trivial⟩ xq))))))))))))))),?_⟩
 refine za λk hk=>?_
 ext a;refine ⟨_,_,rfl,hk _ _ (za λk hk=>?_)⟩;have hx:=i8 c 1;generalize mixI c 1=x at hx ⊢;ext a;refine hk _ _ (za λk hk=>?_);ext a;refine hk _ _ (za λk hk=>?_);ext a;refine hk _ _ (za λk hk=>?_);generalize x/256%8=wy;have f0:∃ fs:Nat,256*(k0:Int)+x%256=(fs:Int):=⟨(256*(k0:Int)+x%256).toNat,by lia⟩
 have m0:∃ mo:Nat,x/2048=(mo:Int):=⟨(x/2048).toNat,by lia⟩
 obtain ⟨fs,ef⟩:=f0;obtain ⟨mo,em⟩:=m0;rw [ef];ext a;rw [em];refine hk _ _ (za λk hk=>?_);ext a;have fin:∀ (n:Nat) (e:Nat->Nat),n<=600->∀ D,H D=none->Q (.ref D) (upd H D (.lst (((List.range n).filter λ_=>true).map λi=>V.int (e i:Nat)))):=λn e hn D nD=>by
   refine q D ((List.range n).map e) _ (Same.new nD) nD ?_ (by rw [zg,ym];exact hn);rw [zq,uB.mpr (λ_ _=>rfl)];unfold pint;rw [zF];rfl
 by_cases c0:wy=0;{rw [if_pos c0];exact ⟨by decide,λp np=>q p [fs] _ (Same.new np) np zq (show 1<=600 by decide)⟩}
 rw [if_neg c0];refine hk _ _ (za λk hk=>?_);ext a;by_cases c1:wy=1;{rw [if_pos c1];refine ⟨by lia,by lia,compR (λ_=>true) (λi=>.int ((λi=>fs+i) i:Nat)) (by lia) (λi H2 R hi s h=>by ext a;exact h) (λi H2 R hi _ s h=>?_) (fin _ (λi=>fs+i) (by lia))⟩;ext a;exact h}
 rw [if_neg c1];refine hk _ _ (za λk hk=>?_);ext a;by_cases c2:wy=2;{rw [if_pos c2];refine ⟨by lia,by lia,compR (λ_=>true) (λi=>.int ((λi=>fs+i*(2+mo%4)) i:Nat)) (by lia) (λi H2 R hi s h=>by ext a;exact h) (λi H2 R hi _ s h=>?_) (fin _ (λi=>fs+i*(2+mo%4)) (by lia))⟩;ext a;exact ⟨.inl ⟨by lia,by lia⟩,h⟩}
 rw [if_neg c2];refine hk _ _ (za λk hk=>?_);ext a;by_cases c3:wy=3;{rw [if_pos c3];refine ⟨by lia,by lia,compR (λ_=>true) (λi=>.int ((λi=>256*k0+2*i) i:Nat)) (by lia) (λi H2 R hi s h=>by ext a;exact h) (λi H2 R hi _ s h=>?_) (fin _ (λi=>256*k0+2*i) (by lia))⟩;ext a;exact h}
 rw [if_neg c3];refine hk _ _ (za λk hk=>?_);ext a;by_cases c4:wy=4;{rw [if_pos c4];refine ⟨by lia,by lia,compR (λ_=>true) (λi=>.int ((λi=>256*k0+4*(i/2)+i%2) i:Nat)) (by lia) (λi H2 R hi s h=>by ext a;exact h) (λi H2 R hi _ s h=>?_) (fin _ (λi=>256*k0+4*(i/2)+i%2) (by lia))⟩;ext a;exact h}
 rw [if_neg c4];refine hk _ _ (za λk hk=>?_);ext a;by_cases c5:wy=5;{rw [if_pos c5];refine ⟨by lia,by lia,compR (λ_=>true) (λi=>.int ((λi=>256*k0+5*(i/3)+i%3) i:Nat)) (by lia) (λi H2 R hi s h=>by ext a;exact h) (λi H2 R hi _ s h=>?_) (fin _ (λi=>256*k0+5*(i/3)+i%3) (by lia))⟩;ext a;exact h}
 rw [if_neg c5];refine hk _ _ (za λk hk=>?_);ext a;by_cases c6:wy=6;{rw [if_pos c6];refine compR (λ_=>true) (λi=>.int ((λi=>256*k0+i) i:Nat)) (by lia) (λi H2 R hi s h=>by ext a;exact h) (λi H2 R hi _ s h=>?_) (fin _ (λi=>256*k0+i) (by lia));ext a;exact h}
 rw [if_neg c6];refine hk _ _ (?_);ext a;refine ⟨by lia,by lia,compR (λ_=>true) (λi=>.int ((λi=>256*k0+254+i) i:Nat)) (by lia) (λi H2 R hi s h=>by ext a;exact h) (λi H2 R hi _ s h=>?_) (fin _ (λi=>256*k0+254+i) (by lia))⟩;ext a;exact h
def spNumT (K:zj):Sp:=λvs H Q _=>∃ (a:Addr) (ns:List Int),vs=[.ref a]/\SqL K H a (ns.map V.int)/\∀ (r:Addr) (zs:List Nat) (H':Hp),Same H H'->H r=none->H' r=some (.lst (pint zs))->zs.length<=700->(∀ z∈zs,z<65536)->Q (.ref r) H'
structure NuI (a ks p:Addr)(c:Int)(H:Hp)(σ:L2.St)(H':Hp):Prop where
 ex:∃ (v4:Option V) (zs:List Nat),σ=[some (.ref a),some (.int c),some (.ref ks),some (.ref p),v4]/\H' p=some (.lst (pint zs))/\zs.length<=1300
 sm:Same H H'
theorem six_keys {a b c d e f:Nat}(h:a<256/\b<256/\c<256/\d<256/\e<256/\f<256)(z:Int)(h0:0<=z)(h6:z<6):[a,b,c,d,e,f].getD z.toNat 0<256/\atI [V.int a,V.int b,V.int c,V.int d,V.int e,V.int f] z=some (.int ([a,b,c,d,e,f].getD z.toNat 0:Nat)):=by
 rcases (by lia:z=0\/z=1\/z=2\/z=3\/z=4\/z=5) with rfl | rfl | rfl | rfl | rfl | rfl
 . exact ⟨by show a<256;lia,rfl⟩
 . exact ⟨by show b<256;lia,rfl⟩
 . exact ⟨by show c<256;lia,rfl⟩
 . exact ⟨by show d<256;lia,rfl⟩
 . exact ⟨by show e<256;lia,rfl⟩
 . exact ⟨by show f<256;lia,rfl⟩
theorem ok_numT (B:Blt mg) (jc:FnAt P w K mg base "_law_mixed" ["_law_cell","_law_k"] 1 spMixed) (jk:FnAt P w K mg base "_law_cell_at" ["_law_script","_law_k"] 1 (spCell K)) (jbh:FnAt P w K mg base "_law_piece" ["_law_cell","_law_key"] 2 spPcT) (d:DefAt K mg "_law_numbers" oK ["_law_script"]):FnAt P w K mg base "_law_numbers" ["_law_script"] 3 (spNumT K):=by
 refine FnAt.of d jaj ?_ ?_;ext c;have nd:=jaj.nd;obtain ⟨a,ns,rfl,hS,q⟩:=h;refine ⟨_,(zp (zb 1 (zc jk (zy (pv 0) (zy zu zx)))) (zp (zb 2 (yg (zy zu (zy zu (zy (zw zB (zc jc (zy (pv 1) (zy zu zx))) zu) (zy (zw zB (zc jc (zy (pv 1) (zy zu zx))) zu) (zy (zw zB (zc jc (zy (pv 1) (zy zu zx))) zu) zx))))))) (zp (yz (yt K yP xY xX xb (pv 2) (zy (zw zB (zw zN (xK (wV K) (pv 2) zu) zu) zu) zx))) (zp (zb 3 (yg zx)) (zp (yu (zG yL (zw zB (zc jc (zy (pv 1) (zy zu zx))) zu) zu) (zo (fi (i:=3) ["_law_k"] [2] jaj.nd rfl (by ext g) rfl (vd rfl B.range (zy (zw yA zu (zw zB (zc jc (zy (pv 1) (zy zu zx))) zu)) zx)) (λ_ _ _ _ _=>yM (i:=0) (by show List.Nodup (["_law_k","_law_keys"]:List Str);decide +kernel) rfl (Or.inl rfl)) (λ_ _ _ _ _=>xa) (λ_ _ _ _ _=>(zw zN (zw xc zu (pv 0)) (xK (wV K) (pv 1) zu))) ⟨⟨_,rfl,rfl,.inl rfl⟩,trivial⟩ xq)) yh) (zp (xg yF rfl (yK K (vX (vU K) (pv 0) vZ (vY zu))) (yj 4) (zo (yu (zG uZ (yk (xp K) rfl B.len yE (zy (pv 3) zx)) zu) (zo (yz (yt K yP tE sv rY (pv 3) (zy (zc jbh (zy (pv 4) (zy (xK (wV K) (pv 2) (zw zB (zc jc (zy (pv 4) (zy zu zx))) zu)) zx))) zx)))) yh))) (zo (zd (xZ ["_law_number"] [] rfl (yK K (vX (vU K) (pv 3) vZ (vY zu))) (λ_ _ _ _ _=>yM (i:=0) (by show List.Nodup (["_law_number"]:List Str);decide +kernel) rfl (Or.inl rfl)) (λ_ _ _ _ _=>f9 (zG uZ (pv 0) zu)) (λ_ _ _ _ _=>(pv 0)) trivial xq))))))))),?_⟩
 refine za λk hk=>?_
 ext a;refine ⟨a,ns,0,rfl,hS,hk _ _ (za λk hk=>?_)⟩;generalize ns.getD 0 0=c;have ev:∀ (j:Int) (σ:L2.St),σ[1]?=some (some (.int c))->Ev (tOp (rI (λ_ j=>0<j) λi j=>V.int (i%j)) (tCall spMixed [] E0 (tCons (tVar 1) (tCons (tC (V.int j)) tNil))) (tC (V.int 256))) σ (.int (mixI c j%256)):=λj σ e H Q h=>by
   ext a;exact ⟨_,e,_,_,rfl,_,rfl,h⟩
 rw [tAsg,tLst];refine Evs.cons Ev.c (Evs.cons Ev.c (Evs.cons (ev 2 _ rfl) (Evs.cons (ev 3 _ rfl) (Evs.cons (ev 4 _ rfl) Evs.nil)))) H _ ⟨by show 5<=sizeLine;decide,λp np=>?_⟩;have a0:∀ j:Int,∃ n:Nat,mixI c j%256=(n:Int)/\n<256:=λj=>⟨(mixI c j%256).toNat,by lia,by lia⟩
 obtain ⟨n2,e2,l2⟩:=a0 2;obtain ⟨n3,e3,l3⟩:=a0 3;obtain ⟨n4,e4,l4⟩:=a0 4;rw [e2,e3,e4,gName];refine hk _ _ (za λk hk=>?_);ext a;have h5:=zq (H:=H) (a:=p) (o:=.lst [V.int 0,V.int 255,V.int n2,V.int n3,V.int n4]);refine ⟨⟨_,SqL.of h5⟩,_,SqL.of h5,_,rfl,_,rfl,_,h5,by show 5<sizeLine;decide,hk _ _ (za λk hk=>?_)⟩;obtain ⟨n5,e5,l5⟩:∃ n:Nat,((n2:Int)+1)%256=(n:Int)/\n<256:=⟨(((n2:Int)+1)%256).toNat,by lia,by lia⟩
 rw [e5];have s1:Same H (upd (upd H p (.lst [V.int 0,V.int 255,V.int n2,V.int n3,V.int n4])) p (.lst ([V.int 0,V.int 255,V.int n2,V.int n3,V.int n4]++[V.int n5]))):=(Same.new np).put np;have h6:=zq (H:=upd H p (.lst [V.int 0,V.int 255,V.int n2,V.int n3,V.int n4])) (a:=p) (o:=.lst ([V.int 0,V.int 255,V.int n2,V.int n3,V.int n4]++[V.int n5]));generalize upd (upd H p (.lst [V.int 0,V.int 255,V.int n2,V.int n3,V.int n4])) p (.lst ([V.int 0,V.int 255,V.int n2,V.int n3,V.int n4]++[V.int n5]))=H1 at s1 h6;ext a;refine ⟨by decide,λr0 nr0=>hk _ _ (za λk hk=>?_)⟩
 suffices go:∀ (r:Addr) (zs0:List Nat) (H2:Hp),Same H H2->H r=none->p≠r->H2 p=some (.lst ([V.int 0,V.int 255,V.int n2,V.int n3,V.int n4]++[V.int n5]))->H2 r=some (.lst (pint zs0))->zs0.length<=256->k [some (V.ref a),some (V.int c),some (V.ref p),some (V.ref r),none] H2 by
   have s2:=Same.new (o:=.lst []) nr0;have h62:=s2 _ _ h6;have g0:=go r0 [] _ (s1.trans s2) (none_of s1 nr0) (zI h6 nr0) h62 zq (zV _);generalize upd H1 r0 (.lst [])=H2 at s2 h62 g0;ext a;refine ⟨_,_,rfl,_,rfl,?_⟩;split
   . obtain ⟨cn,ec,cb⟩:∃ cn:Nat,256-mixI c 7%3=(cn:Int)/\cn<=256:=⟨(256-mixI c 7%3).toNat,by lia,by lia⟩
     refine ⟨_,_,rfl,_,rfl,?_⟩;rw [ec];refine ⟨by lia,by lia,compR (λ_=>true) (λi=>.int ((256*i+n2:Nat):Int)) (by lia) (λi H3 R hi s h=>h) (λi H3 R hi _ s h=>?_) (λD nD=>?_)⟩;{ext a;refine ⟨_,SqL.of (s _ _ h62),.int (n2:Nat),rfl,_,rfl,?_⟩;rw [show 256*(i:Int)+(n2:Int)=((256*i+n2:Nat):Int) by lia];exact h};{rw [uB.mpr λ_ _=>rfl,yo];refine go D ((List.range cn).map λi=>256*i+n2) _ ((s1.trans s2).trans (Same.new nD)) (none_of (s1.trans s2) nD) (zI h62 nD) ((Same.new nD) _ _ h62) ?_ (by rw [zg,ym];exact cb);rw [zq];unfold pint;rw [zF];rfl}
   . exact g0
 intro r zs0 H2 s2 nrH rp hp2 hr2 l0;have h0:=hr2;refine hk _ _ (za λk hk=>?_);ext a;refine ⟨_,s2.seq hS,λl nl=>?_⟩;rw [show cutV (ns.map V.int) none (some 60)=(ns.take 60).map V.int from (kG _ 60).trans (ly).symm];refine ⟨⟨_,SqL.of zq⟩,?_⟩;have s3:=Same.new (o:=.lst ((ns.take 60).map V.int)) nl;have hr2:=s3 _ _ hr2;have hl2:=zq (H:=H2) (a:=l) (o:=.lst ((ns.take 60).map V.int));have hp2:=s3 _ _ hp2;have lr:l≠r:=λz=>by rw [z,h0] at nl;cases nl
 have s4:=s2.trans s3;generalize upd H2 l (.lst ((ns.take 60).map V.int))=H2 at s3 s4 hr2 hl2 hp2;refine loopL (K:=K) (xs:=(ns.take 60).map V.int) (λ_ σ H'=>NuI a p r c H σ H'/\H' l=some (.lst ((ns.take 60).map V.int))/\H' p=some (.lst ([V.int 0,V.int 255,V.int n2,V.int n3,V.int n4]++[V.int n5]))) ⟨⟨⟨none,zs0,rfl,hr2,by lia⟩,s4⟩,hl2,hp2⟩ (λi σ H3 _ h=>SqL.of h.2.1) ?_ ?_
 . rintro i x σ H3 hx ⟨⟨⟨v4,zs,rfl,hz,lz⟩,sm⟩,hl,hp⟩;obtain ⟨y,hy,rfl⟩:∃ y,(ns.take 60)[i]?=some y/\x=.int y:=by
     rw [yp] at hx;cases e:(ns.take 60)[i]? with
     | none=>rw [e] at hx;cases hx
     | some y=>rw [e] at hx;exact ⟨y,rfl,(Option.some.inj hx).symm⟩
   rw [gName];ext a;refine ⟨_,.inl (SqL.of hz),?_⟩;rw [zH];by_cases c7:(zs.length:Int)<700
   . rw [if_pos c7];obtain ⟨k256,ek⟩:=six_keys (a:=0) (b:=255) (c:=n2) (d:=n3) (e:=n4) (f:=n5) ⟨by decide,by decide,l2,l3,l4,l5⟩ (mixI y 5%6) (sE _ (by decide)) (sP _ (by decide));generalize [0,255,n2,n3,n4,n5].getD (mixI y 5%6).toNat 0=kk at k256 ek;refine ⟨⟨_,SqL.of hz⟩,_,_,rfl,_,rfl,_,SqL.of hp,_,ek,y,kk,rfl,k256,λq1 ps H4 s4 n4 h4 pl=>⟨_,rfl,_,s4 _ _ hz,_,h4,?_,⟨⟨_,zs++ps,rfl,?_,by rw [zh];lia⟩,(sm.trans s4).put nrH⟩,?_,?_⟩⟩
     . rw [zH,zH];exact small5 (by lia)
     . rw [zq];unfold pint;rw [zD]
     . rw [zr lr];exact s4 _ _ hl
     . rw [zr rp];exact s4 _ _ hp
   . rw [if_neg c7];exact ⟨⟨⟨_,zs,rfl,hz,lz⟩,sm⟩,hl,hp⟩
 . rintro σ H3 ⟨⟨⟨v4,zs,rfl,hz,lz⟩,sm⟩,hl,hp⟩;refine hk _ _ ?_;ext a;refine ⟨_,SqL.of hz,λq1 n1=>?_⟩;rw [show cutV (pint zs) none (some 700)=pint (zs.take 700) from (kG _ 700).trans (by unfold pint;rw [ly])];refine ⟨⟨_,SqL.of zq⟩,compL (K:=K) (xs:=pint (zs.take 700)) (λv=>match v with | .int i=>decide (i<65536) | _=>false) id (SqL.of zq) (by rw [zH,zE];lia) (λv H2 R hv s h=>?_) (λv H2 R hv _ s h=>?_) (λD nD=>?_)⟩
   . obtain ⟨z,_,rfl⟩:=zR.mp hv;ext a;exact h
   . ext a;exact h
   . have e:((pint (zs.take 700)).filter λv=>match v with | .int i=>decide (i<65536) | _=>false).map id=pint ((zs.take 700).filter λz=>decide (z<65536)):=by
       rw [rq];unfold pint;rw [tq];refine congrArg (List.map _) (um λz _=>?_);rw [Function.comp_apply,qR];lia
     rw [e];exact q D _ _ ((sm.trans (Same.new n1)).trans (Same.new nD)) (none_of (sm.trans (Same.new n1)) nD) zq (yl (vN _ _) (by rw [zE];lia)) λz hz=>vJ (yv.mp hz).2
def lowB:Nat->Nat->List Bool
 | _,0=>[]
 | n,m+1=>decide (n%2=1)::lowB (n/2) m
def bitsB (n m:Nat):List Bool:=(lowB n m).reverse
theorem i7:∀ (n m:Nat),(lowB n m).length=m
 | _,0=>rfl
 | n,m+1=>by rw [lowB,zZ,i7]
theorem yU (n m:Nat):(bitsB n m).length=m:=by unfold bitsB;rw [xQ,i7]
theorem bq:∀ (m n:Nat),n<2^m->numA 0 (bitsB n m)=n
 | 0,n,h=>by
   have:n=0:=by simpa using h
   subst this;rfl
 | m + 1,n,h=>by
   unfold bitsB lowB;rw [mQ,gF];have ih:=bq m (n/2) (by rw [yN] at h;lia);unfold bitsB at ih;rw [ih];by_cases c:n%2=1;{rw [zJ c];show 2*(n/2)+1=n;lia};{rw [yw c];show 2*(n/2)+0=n;lia}
theorem i6:∀ (n m:Nat),lowB n (m+1)=lowB n m++[decide (n/2^m%2=1)]
 | n,0=>by rw [lowB,lowB,lowB,tY,Nat.div_one];rfl
 | n,m+1=>by
   rw [lowB,i6 (n/2) m]
   conv=>rhs;rw [lowB]
   rw [vn,sW,yN,wB]
def spBitsL:Sp:=λvs H Q _=>∃ (n m:Nat),vs=[.int n,.int m]/\m<=400/\∀ H',Same H H'->Q (.str (tx (bitsB n m))) H'
structure BtI (n m:Nat)(p:Addr)(H:Hp)(i:Nat)(σ:L2.St)(H':Hp):Prop where
 ex:∃ v3,σ=[some (.int (n/2^i:Nat)),some (.int m),some (.ref p),v3]
 hp:H' p=some (.lst ((lowB n i).map λb=>V.str (sg b)))
 sm:Same H H'
theorem ok_bitsL (B:Blt mg) (d:DefAt K mg "_law_bits" oJ ["_law_number","_law_many"]):FnAt P w K mg base "_law_bits" ["_law_number","_law_many"] 1 spBitsL:=by
 refine FnAt.of d jb0 ?_ ?_;ext c;have nd:=jb0.nd;obtain ⟨n,m,rfl,m4,q⟩:=h;refine ⟨_,(zp (zb 2 (yg zx)) (zp (xg yF rfl (vd rfl B.range (zy (pv 1) zx)) (yj 3) (zp (yz (yt K yP xY xX xb (pv 2) (zy (wY gg rfl B.str boot_str (zy (zw zB (pv 0) zu) zx)) zx))) (zo (zb 0 (zw yW (pv 0) zu))))) (zp (yz (fW K yP PySem.F.slot_list_reverse PySem.F.type_list_reverse aW (pv 2))) (zo (zd (yt K vv vt vq (vV K) xr (zy (pv 2) zx))))))),?_⟩
 refine za λk hk=>?_
 ext a;refine ⟨by decide,λp np=>hk _ _ (za λk hk=>?_)⟩;ext a;refine ⟨by lia,by lia,?_⟩;rw [yo];refine loopR (BtI n m p H) ⟨⟨none,by rw [tY,Nat.div_one]⟩,zq,Same.new np⟩ ?_ ?_
 . rintro i σ H1 hi ⟨⟨v3,rfl⟩,hp,sm⟩;rw [gName];refine za λk2 hk2=>?_
   ext a;have dg:((n/2^i:Nat):Int)%2=(if decide (n/2^i%2=1)=true then 1 else 0)/\V.str (Str.ofString (toString (((n/2^i:Nat):Int)%2)))=V.str (sg (decide (n/2^i%2=1))):=by
     generalize n/2^i=z;by_cases c:z%2=1;{rw [zJ c,if_pos rfl,show (z:Int)%2=1 by lia];exact ⟨rfl,congrArg V.str (by decide +kernel)⟩};{rw [yw c,if_neg yS,show (z:Int)%2=0 by lia];exact ⟨rfl,congrArg V.str (by decide +kernel)⟩}
   have sn:=i6 n i;have ll:=i7 n i;rw [dg.2];refine ⟨⟨_,SqL.of hp⟩,?_,_,hp,small1000 (by rw [zg,ll];lia),hk2 _ _ ?_⟩;{rw [dg.1];split<;>decide}
   ext a;refine ⟨⟨some (.int i),?_⟩,?_,sm.put np⟩;{rw [show ((n/2^i:Nat):Int)/2=((n/2^(i+1):Nat):Int) by rw [yN,<- sW];lia]};{rw [zq,sn,zD];rfl}
 . rintro σ H1 ⟨⟨v3,rfl⟩,hp,sm⟩;refine hk _ _ (za λk hk=>?_);ext a;refine ⟨⟨_,SqL.of hp⟩,_,hp,hk _ _ ?_⟩;rw [<- List.map_reverse];ext a;refine ⟨(bitsB n m).map sg,SqL.of ?_,?_,?_⟩
   . rw [zq,zF];rfl
   . rw [n9,zg,yU];show m+m*0<=_;lia
   . rw [i9];exact q _ (sm.put np)
def spRunsS (K:zj):Sp:=λvs H Q _=>∃ (a:Addr) (ps:List Nat),vs=[.ref a]/\SqL K H a (pint ps)/\ps.length<=256/\∀ (r:Addr) (H':Hp),Same H H'->H r=none->RunsL H' r (runsOf ps)->Q (.ref r) H'
structure RunI (a:Addr)(ps:List Nat)(H:Hp)(i:Nat)(σ:L2.St)(H':Hp):Prop where
 ex:∃ (r:Addr) (v2:Option V),σ=[some (.ref a),some (.ref r),v2]/\RunsL H' r (runsOf (ps.take i))/\H r=none
 len:(runsOf (ps.take i)).length<=i
 same:Same H H'
theorem ok_runsS (d:DefAt K mg "_law_runs" oI ["_law_places"]):FnAt P w K mg base "_law_runs" ["_law_places"] 1 (spRunsS K):=by
 refine FnAt.of d jb1 ?_ ?_;ext c;have nd:=jb1.nd;obtain ⟨a,ps,rfl,hS,h256,q⟩:=h;refine ⟨_,(zp (zb 1 (yg zx)) (zp (xg yF rfl (yK K (pv 0)) (yj 2) (zo (yu (PW.pt (lX (zG (op_neD K (hu64 hr)) (pv 1) (yg zx)) (lY (zG yL (xK (k6 K) (xK (wV K) (pv 1) (vb ua zu)) zu) (zw yA (pv 2) zu))))) (zo (qI (va (zy (xK (k6 K) (xK (wV K) (pv 1) (vb ua zu)) zu) (zy (pv 2) zx))) (pg_sub (pv 1) (vb ua zu) gP))) (zo (yz (yt K yP xY xX xb (pv 1) (zy (va (zy (pv 2) (zy (pv 2) zx))) zx))))))) (zo (zd (pv 1))))),?_⟩
 ext a;refine ⟨zV _,λr hr0=>?_⟩;have sm0:Same H (upd H r (.lst [])):=λb o e=>by rw [zr (zI e hr0)];exact e
 refine ⟨⟨_,sm0.seq hS⟩,loopL (K:=K) (xs:=pint ps) (RunI a ps H) ⟨⟨r,none,rfl,⟨[],zq,.nil⟩,hr0⟩,zk _,sm0⟩ ?_ ?_ ?_⟩;{rintro i σ H1 hi ⟨_,_,sm⟩;exact sm.seq hS}
 . rintro i x σ H1 hi ⟨⟨r,v2,rfl,hR,hn⟩,hl,sm⟩;obtain ⟨p,hp,rfl⟩:=vW hi;have tk:runsOf (ps.take (i+1))=addP (runsOf (ps.take i)) p:=by
     rw [yG,hp];exact tQ _ _
   have hi2:i<ps.length:=(xT.mp hp).1;ext a;refine ⟨zV _,λe he=>?_⟩;obtain ⟨vs,hv,ht⟩:=hR;have smE:Same H1 (upd H1 e (.lst [])):=λb o z=>by rw [zr (zI z he)];exact z
   refine Y9 (qs:=[]) ⟨vs,smE _ _ hv,ht.same smE⟩ ⟨[],zq,.nil⟩ ?_;have hv2:=smE _ _ hv;have ht2:=ht.same smE;have sm2:=sm.trans smE;generalize upd H1 e (.lst [])=H2 at hv2 ht2 sm2 ⊢;clear hv ht smE sm he;generalize runsOf (ps.take i)=rs at tk hl ht2 ⊢;have lv:=ht2.length;have small:∀ n,n<=1000->n<sizeLine:=λn h=>small1000 h
   have app:addP rs p=rs++[(p,p)]->(∃ xs,SqL K H2 r xs)/\2<=sizeLine/\∀ p_3,H2 p_3=none->∃ x,upd H2 p_3 (HO.tup [V.int p,V.int p]) r=some (HO.lst x)/\x.length<sizeLine/\RunI a ps H (i+1) [some (V.ref a),some (V.ref r),some (V.int p)] (upd (upd H2 p_3 (HO.tup [V.int p,V.int p])) r (HO.lst (x++[V.ref p_3]))):=λea=>by
     refine ⟨⟨_,SqL.of hv2⟩,by decide,λt h3=>?_⟩;have smT:Same H2 (upd H2 t (.tup [.int p,.int p])):=λb o z=>by rw [zr (zI z h3)];exact z
     have hv3:=smT _ _ hv2;refine ⟨vs,hv3,small _ (by lia),⟨⟨r,_,rfl,⟨_,zq,?_⟩,hn⟩,?_,λb o z=>?_⟩⟩;{rw [tk,ea];exact ((ht2.same smT).snoc (r:=(p,p)) zq).upd hv3};{rw [tk,ea,zh];show rs.length+1<=_;lia};{rw [zr (zI z hn)];exact smT _ _ (sm2 b o z)}
   rcases wJ rs with e0 | ⟨rs0,⟨x,y⟩,e0⟩
   . refine ⟨_,rfl,?_⟩;rw [zJ e0,if_neg (by decide)];exact app (by rw [e0];rfl)
   . rw [wI] at e0
     subst e0;obtain ⟨vs0,t,rfl,ht0,htt⟩:=ht2.last;refine ⟨_,rfl,?_⟩;rw [yw (by simp),if_pos (show (!false)=true from rfl)];refine ⟨_,SqL.of hv2,.ref t,(gQ _ _),t,rfl,_,SqT.of htt,.int (y:Nat),rfl,rfl,?_⟩;by_cases ey:y+1=p
     . have ea:addP (rs0++[(x,y)]) p=rs0++[(x,p)]:=vy ey;rw [if_pos (by congr 1;lia)];refine ⟨_,SqL.of hv2,.ref t,(gQ _ _),t,rfl,_,SqT.of htt,.int (x:Nat),rfl,by decide,λt2 h2=>?_⟩;have smT:Same H2 (upd H2 t2 (.tup [.int (x:Nat),.int (p:Nat)])):=λb o z=>by rw [zr (zI z h2)];exact z
       have hv3:=smT _ _ hv2;refine ⟨_,hv3,vs0.length,ixN_last,⟨⟨r,_,rfl,⟨vs0++[.ref t2],?_,?_⟩,hn⟩,?_,λb o z=>?_⟩⟩;{rw [zq,set_last]};{rw [tk,ea];exact ((ht0.same smT).snoc (r:=(x,p)) zq).upd hv3};{rw [tk,ea];rw [zh] at hl ⊢;have:[(x,p)].length=[(x,y)].length:=rfl;lia};{rw [zr (zI z hn)];exact smT _ _ (sm2 b o z)}
     . rw [if_neg (by intro z;injection z with z;lia)];exact app (vx ey)
 . rintro σ H1 ⟨⟨r,v2,rfl,hR,hn⟩,hl,sm⟩;ext a;rw [yZ (by rw [zH];exact zk _)] at hR;exact q r H1 sm hn hR
def keysOf (ns:List Nat):List Nat:=ns.foldl (λks n=>if n/256∈ks then ks else ks++[n/256]) []
def plcN (k:Nat)(ns:List Nat):List Nat:=(ns.filter λn=>decide (n/256=k)).map (·%256)
theorem uQ (ns:List Nat)(n:Nat):keysOf (ns++[n])=if n/256∈keysOf ns then keysOf ns else keysOf ns++[n/256]:=by unfold keysOf;rw [sN];rfl
theorem qt (k:Nat)(ns:List Nat)(n:Nat):plcN k (ns++[n])=plcN k ns++if n/256=k then [n%256] else []:=by
 unfold plcN;rw [uo,zD,wG];by_cases e:n/256=k;{rw [if_pos (zJ e),if_pos e];rfl};{rw [if_neg (by rw [w8];exact e),if_neg e];rfl}
theorem nz {p:List Nat->Prop}(h0:p [])(h1:∀ l a,p l->p (l++[a]))(l:List Nat):p l:=by
 have:∀ n (l:List Nat),l.length=n->p l:=λn=>by
   induction n with
   | zero=>exact λl h=>uu.mp h ▸ h0
   | succ n ih =>
     intro l h;have ne:l≠[]:=λz=>by rw [z] at h;cases h
     rw [<- iH ne];exact h1 _ _ (ih _ (by rw [List.length_dropLast,h];rfl))
 exact this _ l rfl
theorem tJ (ns:List Nat):∀ k,k∈keysOf ns↔∃ n∈ns,n/256=k:=by
 refine nz (p:=λns=>∀ k,k∈keysOf ns↔∃ n∈ns,n/256=k) ?_ ?_ ns;{exact λk=>⟨λh=>(by cases h),λ⟨_,h,_⟩=>(by cases h)⟩}
 . intro l n ih k
   rw [uQ];have mm:(∃ m∈l++[n],m/256=k)↔(∃ m∈l,m/256=k)\/k=n/256:=by
     constructor
     . rintro ⟨m,h,e⟩;rcases zY.mp h with h | h
       . exact .inl ⟨m,h,e⟩
       . rw [zS.mp h] at e;exact .inr e.symm
     . rintro (⟨m,h,e⟩ | e)
       . exact ⟨m,xS _ h,e⟩
       . exact ⟨n,yC _ (.head _),e.symm⟩
   rw [mm];split
   . rename_i c
     rw [ih];exact ⟨.inl,λh=>h.elim id λe=>e ▸ (ih _).mp c⟩
   . rw [zY,ih,zS]
theorem YT (ns:List Nat):(keysOf ns).length<=ns.length:=by
 refine nz (p:=λns=>(keysOf ns).length<=ns.length) (zk _) (λl n ih=>?_) ns;rw [uQ];split;{rw [zh];exact mO ih};{rw [zh,zh];exact mK ih}
theorem Up.snoc {x:Nat}:∀ {a:Nat} {l:List Nat},Up a l->(∀ y∈l,y<x)->a<=x->Up a (l++[x])
 | _,[],_,_,h=>⟨h,trivial⟩
 | a,y::r,⟨h1,h2⟩,h,_=>⟨h1,Up.snoc h2 (λz hz=>h z (.tail _ hz)) (h y (.head _))⟩
theorem Up.last {x:Nat}:∀ {a:Nat} {l:List Nat},Up a (l++[x])->Up a l/\(∀ y∈l,y<x)/\a<=x
 | _,[],⟨h,_⟩=>⟨trivial,λy h=>(by cases h),h⟩
 | a,y::r,⟨h1,h2⟩=>by
   obtain ⟨i1,i2,i3⟩:=Up.last h2;refine ⟨⟨h1,i1⟩,λz hz=>?_,by lia⟩;rcases zQ.mp hz with rfl | hz
   . lia
   . exact i2 z hz
theorem Up.nd':∀ {a:Nat} {l:List Nat},Up a l->l.Nodup
 | _,[],_=>mB
 | a,y::r,⟨_,h⟩=>vH.mpr ⟨λz=>absurd (h.of_lt y z) (by lia),Up.nd' h⟩
theorem bj (ns:List Nat):Up 0 ns->Up 0 (keysOf ns):=by
 refine nz (p:=λns=>Up 0 ns->Up 0 (keysOf ns)) (λ_=>trivial) (λl n ih h=>?_) ns;obtain ⟨h1,h2,_⟩:=Up.last h;rw [uQ];split;{exact ih h1}
 . rename_i c
   refine Up.snoc (ih h1) (λy hy=>?_) (zV _);obtain ⟨m,hm,rfl⟩:=(tJ l y).mp hy;have:=h2 m hm;have:m/256≠n/256:=λz=>c (z ▸ hy)
   lia
theorem bh (k:Nat)(ns:List Nat):Up 0 ns->Up 0 (plcN k ns):=by
 refine nz (p:=λns=>Up 0 ns->Up 0 (plcN k ns)) (λ_=>trivial) (λl n ih h=>?_) ns;obtain ⟨h1,h2,_⟩:=Up.last h;rw [qt];split
 . rename_i c
   refine Up.snoc (ih h1) (λy hy=>?_) (zV _);obtain ⟨m,hm,rfl⟩:=zR.mp hy;obtain ⟨hm1,hm2⟩:=yv.mp hm;have:=h2 m hm1;have:=vJ hm2;lia
 . rw [yx];exact ih h1
def entsOf (ns:List Nat):List Ent:=(keysOf ns).map λk=>⟨k,plcN k ns,0⟩
theorem bg {ns:List Nat}(u:Up 0 ns)(l:∀ n∈ns,n<65536):EsOk (entsOf ns):=by
 have me:∀ e∈entsOf ns,e.key∈keysOf ns/\e.ps=plcN e.key ns:=λe he=>by
   obtain ⟨k,hk,rfl⟩:=zR.mp he;exact ⟨hk,rfl⟩
 refine ⟨?_,λe he=>?_,λe he=>?_,λe he p hp=>?_,λe he=>?_⟩;{unfold kys entsOf;rw [zF,show (λe:Ent=>e.key) ∘ (λk=>(⟨k,plcN k ns,0⟩:Ent))=id from rfl,rq];exact bj ns u};{obtain ⟨n,hn,e⟩:=(tJ ns _).mp (me e he).1;have:=l n hn;lia};{rw [(me e he).2];exact bh _ ns u};{rw [(me e he).2] at hp;obtain ⟨m,_,rfl⟩:=zR.mp hp;exact yd _ (by decide)};{rw [(me e he).2];obtain ⟨n,hn,e⟩:=(tJ ns _).mp (me e he).1;exact List.ne_nil_of_mem (zR.mpr ⟨n,yv.mpr ⟨hn,zJ e⟩,rfl⟩)}
theorem YS {ns:List Nat}(u:Up 0 ns)(l:∀ n∈ns,n<65536):flat (entsOf ns)=ns:=by
 have ok:=bg u l;refine Up.ext ok.flat_up u λn=>?_
 rw [rE ok.plt];constructor
 . rintro ⟨e,he,e1,e2⟩;obtain ⟨k,hk,rfl⟩:=zR.mp he;obtain ⟨m,hm,e3⟩:=zR.mp e2;obtain ⟨h1,h2⟩:=yv.mp hm;have h2:=vJ h2;have e1:k=n/256:=e1;have:m=n:=by lia
   exact this ▸ h1
 . intro hn;refine ⟨⟨n/256,plcN (n/256) ns,0⟩,zR.mpr ⟨n/256,(tJ ns _).mpr ⟨n,hn,rfl⟩,rfl⟩,rfl,?_⟩;exact zR.mpr ⟨n,yv.mpr ⟨hn,zJ rfl⟩,rfl⟩
theorem bf {ns:List Nat}(u:Up 0 ns)(l:∀ n∈ns,n<65536):(entsOf ns).length<=256:=by
 unfold entsOf;rw [zg];refine Up.lt256 (bj ns u) λk hk=>?_
 obtain ⟨n,hn,e⟩:=(tJ ns k).mp hk;have:=l n hn;lia
def grK (lf:Nat->Addr)(ks:List Nat):List (Key × V):=ks.map λ(k:Nat)=>(Sum.inl (k:Int),V.ref (lf k))
theorem i5 (lf:Nat->Addr)(k:Nat):∀ ks:List Nat,valV (grK lf ks) (Sum.inl (k:Int))=if k∈ks then some (.ref (lf k)) else none
 | []=>by rw [if_neg (λh=>by cases h)];rfl
 | j :: r=>by
   have ih:=i5 lf k r;unfold valV grK at ih ⊢;rw [zL,vG];by_cases c:j=k;{subst c;rw [zJ (show (Sum.inl (j:Int):Key)=Sum.inl (j:Int) from rfl),if_pos (.head _)];rfl}
   . rw [yw (show ¬(Sum.inl (j:Int):Key)=Sum.inl (k:Int) from λz=>c (by have:=Sum.inl.inj z;lia))];refine ih.trans ?_;by_cases m:k∈r
     . rw [if_pos m,if_pos (.tail _ m)]
     . rw [if_neg m,if_neg (λh=>by rcases zQ.mp h with h | h;exact c h.symm;exact m h)]
def GrSt (H H':Hp)(D:Addr)(ns:List Nat):Prop:=∃ lf:Nat->Addr,H' D=some (.dK (grK lf (keysOf ns)))/\(∀ k∈keysOf ns,H' (lf k)=some (.lst (pint (plcN k ns)))/\H (lf k)=none)/\∀ k∈keysOf ns,∀ k'∈keysOf ns,lf k=lf k'->k=k'
theorem gr_step {D:Addr} {ns:List Nat} {n:Nat} {R:Hp->Prop} (fD:H D=none) (sm:Same H H1) (st:GrSt H H1 D ns) (ln:ns.length<=10000) (q:∀ H',Same H H'->GrSt H H' D (ns++[n])->R H') (p:Addr) (fp:H1 p=none) :
   ∃ kvs,upd H1 p (.lst []) D=some (.dK kvs)/\∃ k,V.int ((n/256:Nat):Int)=kV k/\kvs.length<sizeLine /\
     (∀ v,valV kvs k=some v->tyV K "list" v (upd H1 p (.lst []))/\∃ l,v=.ref l/\∃ xs,upd H1 p (.lst []) l=some (.lst xs)/\xs.length<sizeLine/\R (upd (upd H1 p (.lst [])) l (.lst (xs++[.int ((n%256:Nat):Int)])))) /\
     (valV kvs k=none->(∃ xs,SqL K (upd (upd H1 p (.lst [])) D (.dK (putK kvs k (.ref p)))) p xs)/\∃ xs,upd (upd H1 p (.lst [])) D (.dK (putK kvs k (.ref p))) p=some (.lst xs)/\xs.length<sizeLine/\R (upd (upd (upd H1 p (.lst [])) D (.dK (putK kvs k (.ref p)))) p (.lst (xs++[.int ((n%256:Nat):Int)])))):=by
 obtain ⟨lf,hD,ls,inj⟩:=st;have sp:=Same.new (o:=.lst []) fp;have hp0:H p=none:=sm.free fp;have nDp:D≠p:=λz=>by rw [<- z,hD] at fp;cases fp
 have lk:=YT ns;have gl:(grK lf (keysOf ns)).length=(keysOf ns).length:=zg ..;have small:∀ {m:Nat},m<=10000->m<sizeLine:=λh=>wc h (by decide)
 refine ⟨_,sp _ _ hD,Sum.inl ((n/256:Nat):Int),rfl,small (by lia),λv hv=>?_,λhv=>?_⟩
 . rw [i5] at hv
   have hin:n/256∈keysOf ns:=by
     by_cases c:n/256∈keysOf ns;{exact c};{rw [if_neg c] at hv;cases hv}
   rw [if_pos hin] at hv;cases hv;obtain ⟨h2,h3⟩:=ls _ hin;have pl:(plcN (n/256) ns).length<=ns.length:=by unfold plcN;rw [zg];exact vN _ _
   refine ⟨tyV_list.mpr ⟨_,SqL.of (sp _ _ h2)⟩,_,rfl,_,sp _ _ h2,small (by rw [zH];lia),q _ ((sm.trans sp).put h3) ⟨lf,?_,λk hk=>?_,?_⟩⟩;{rw [uQ,if_pos hin,zr (λz=>by rw [<- z,hD] at h2;cases h2)];exact sp _ _ hD}
   . rw [uQ,if_pos hin] at hk;refine ⟨?_,(ls k hk).2⟩;by_cases e:k=n/256
     . rw [e,zq,qt,if_pos rfl];unfold pint;rw [zD];rfl
     . rw [zr (λz=>e (inj k hk _ hin z)),qt,if_neg (λz=>e z.symm),yx];exact sp _ _ (ls k hk).1
   . rw [uQ,if_pos hin];exact inj
 . have nin:n/256∉keysOf ns:=λz=>by
     rw [i5,if_pos z] at hv;cases hv
   have lp:∀ k∈keysOf ns,lf k≠p:=λk hk z=>by
     have:=(ls k hk).1;rw [z,fp] at this;cases this
   have lD:∀ k∈keysOf ns,lf k≠D:=λk hk z=>by
     have:=(ls k hk).1;rw [z,hD] at this;cases this
   have gp:upd (upd H1 p (.lst [])) D (.dK (putK (grK lf (keysOf ns)) (Sum.inl ((n/256:Nat):Int)) (.ref p))) p=some (.lst []):=by rw [zr (Ne.symm nDp),zq]
   have ek:keysOf (ns++[n])=keysOf ns++[n/256]:=by rw [uQ,if_neg nin]
   have ne:∀ k∈keysOf ns,k≠n/256:=λk hk z=>nin (z ▸ hk)
   refine ⟨⟨_,SqL.of gp⟩,[],gp,by decide,q _ (((sm.trans sp).put fD).put hp0) ⟨λk=>if k=n/256 then p else lf k,?_,λk hk=>?_,λk hk k' hk' e=>?_⟩⟩
   . rw [zr nDp,zq,putK_new _ hv,ek];unfold grK;rw [zD];congr 3
     . exact xG λk hk=>by dsimp only;rw [if_neg (ne k hk)]
     . show _=[(Sum.inl ((n/256:Nat):Int),V.ref (if n/256=n/256 then p else _))]
       rw [if_pos rfl]
   . rw [ek] at hk
     dsimp only;by_cases e:k=n/256
     . rw [e,if_pos rfl,zq,qt,if_pos rfl];refine ⟨?_,hp0⟩;have:plcN (n/256) ns=[]:=by
         unfold plcN;rw [vO.mpr λm hm=>by rw [w8];exact λz=>nin ((tJ ns _).mpr ⟨m,hm,z⟩)];rfl
       rw [this];rfl
     . have hk:k∈keysOf ns:=(zY.mp hk).resolve_right λz=>e (zS.mp z)
       rw [if_neg e,zr (lp k hk),zr (lD k hk),qt,if_neg (λz=>e z.symm),yx];exact ⟨sp _ _ (ls k hk).1,(ls k hk).2⟩
   . rw [ek] at hk hk'
     dsimp only at e;by_cases e1:k=n/256
     . by_cases e2:k'=n/256
       . rw [e1,e2]
       . have hk':k'∈keysOf ns:=(zY.mp hk').resolve_right λz=>e2 (zS.mp z)
         rw [if_pos e1,if_neg e2] at e;exact absurd e.symm (lp k' hk')
     . have hk:k∈keysOf ns:=(zY.mp hk).resolve_right λz=>e1 (zS.mp z)
       rw [if_neg e1] at e;by_cases e2:k'=n/256;{rw [if_pos e2] at e;exact absurd e (lp k hk)}
       . have hk':k'∈keysOf ns:=(zY.mp hk').resolve_right λz=>e2 (zS.mp z)
         rw [if_neg e2] at e;exact inj k hk k' hk' e
def kN (ps:List Nat):Nat:=if ps.length<=32/\ps.length<=2*(runsOf ps).length then 0 else if 16<=(runsOf ps).length then 1 else 2
theorem bb (h:¬(ps.length<=32/\ps.length<=2*(runsOf ps).length)):kN ps=if 16<=(runsOf ps).length then 1 else 2:=by unfold kN;rw [if_neg h]
def RowL (H:Hp)(v:V)(e:Ent):Prop:=∃ t lp lr,v=.ref t/\H t=some (.tup [.int (e.key:Nat),.ref lp,.ref lr,.int (kN e.ps:Nat)])/\H lp=some (.lst (pint e.ps))/\RunsL H lr (runsOf e.ps)
theorem RowL.same {v:V}{e:Ent}(s:Same H H')(h:RowL H v e):RowL H' v e:=by obtain ⟨t,lp,lr,a,b,c,d⟩:=h;exact ⟨t,lp,lr,a,s _ _ b,s _ _ c,d.same s⟩
theorem upPairT:∀ {ks:List Int} {a:Nat},ks.Pairwise (·<·)->(∀ k∈ks,(a:Int)<=k)->Up a (ks.map Int.toNat)
 | [],_,_,_=>trivial
 | k::r,a,h,l=>by
   obtain ⟨h1,h2⟩:=uA.mp h;have lk:=l k (.head _);refine ⟨by lia,upPairT h2 λj hj=>?_⟩;have:=h1 j hj;lia
structure GrI (a D:Addr)(zs:List Nat)(H:Hp)(i:Nat)(σ:L2.St)(H':Hp):Prop where
 ex:∃ v2 v3 v4 v5 v6 v7:Option V,σ=[some (.ref a),some (.ref D),v2,v3,v4,v5,v6,v7]
 same:Same H H'
 st:GrSt H H' D (zs.take i)
structure RwI (a D L:Addr)(o:Obj)(kvs:List (Key × V))(zs:List Nat)(H:Hp)(i:Nat)(σ:L2.St)(H':Hp):Prop where
 ex:∃ v2 v4 v5 v6 v7:Option V,σ=[some (.ref a),some (.ref D),v2,some (.ref L),v4,v5,v6,v7]
 fz:H' D=some (.frz o (.dK kvs))
 sm:∀ b ob,b≠D->H b=some ob->H' b=some ob
 rw:∃ us,H' L=some (.lst us)/\Paired (RowL (del (del H' L) D)) us ((entsOf zs).take i)
def spRowsT (K:zj):Sp:=λvs H Q _=>∃ (a:Addr) (ns:List Nat),vs=[.ref a]/\SqL K H a (pint ns)/\ns.length<=7000/\(∀ n∈ns,n<65536)/\∀ l us zs H',Same H H'->H l=none->H' l=some (.lst us)->Paired (RowL H') us (entsOf zs)->Up 0 zs->(∀ n,n∈zs↔n∈ns)->Q (.ref l) H'
theorem ok_rowsT (B:Blt mg)(jbL:FnAt P w K mg base "_law_runs" ["_law_places"] 1 (spRunsS K))(d:DefAt K mg "_law_rows" oH ["_law_numbers_here"]):FnAt P w K mg base "_law_rows" ["_law_numbers_here"] 2 (spRowsT K):=by
 refine FnAt.of d jb2 ?_ ?_;ext c;have nd:=jb2.nd;obtain ⟨a,ns,rfl,hS,l1000,lt,q⟩:=h;refine ⟨_,(zp (zb 1 gJ) (zp (xg yF rfl (yK K (ZN K rfl rfl B.sorted rfl B.st (pv 0))) (yj 2) (zo (yz (yt K yP xY xX xb (pe_dset (pv 1) (zw yW (pv 2) zu) (yg zx) ⟨rfl,rfl,rfl,rfl⟩) (zy (zw zB (pv 2) zu) zx))))) (zp (zb 3 (yg zx)) (zp (ps_thaw (xg yF rfl (ZG (pv 1)) (vT K rfl (yR (yj 4) (yR (yj 5) ve))) (zp (zb 6 (zc jbL (zy (pv 5) zx))) (zp (zb 7 zu) (zp (yu (zG op_ge (yk (xp K) rfl B.len yE (zy (pv 6) zx)) zu) (zo (zb 7 zu)) yh) (zp (yu (PW.pt (lX (zG uY (yk (xp K) rfl B.len yE (zy (pv 5) zx)) zu) (lY (zG uY (yk (xp K) rfl B.len yE (zy (pv 5) zx)) (zw xc zu (yk (xp K) rfl B.len yE (zy (pv 6) zx))))))) (zo (zb 7 zu)) yh) (zo (yz (yt K yP xY xX xb (pv 3) (zy (va (zy (pv 4) (zy (pv 5) (zy (pv 6) (zy (pv 7) zx))))) zx)))))))))) (zo (zd (pv 3))))))),?_⟩
 refine za λk hk=>?_
 ext a;refine λD nD=>hk _ _ (za λk hk=>?_)
 ext a;have s1:=Same.new (o:=.dK []) nD;refine ⟨ns.map λ(n:Nat)=>(n:Int),by rw [zF];exact s1.seq hS,by rw [zg];lia,λz hz=>(by obtain ⟨n,hn,rfl⟩:=zR.mp hz;have:=lt n hn;exact ⟨by lia,by lia⟩),λp ks np pw mem=>?_⟩;have kn:∀ y∈ks,∃ n∈ns,y=((n:Nat):Int):=λy hy=>by
   obtain ⟨n,hn,e⟩:=zR.mp ((mem y).mp hy);exact ⟨n,hn,e.symm⟩
 have up:Up 0 (ks.map Int.toNat):=upPairT pw λy hy=>by
   obtain ⟨n,_,rfl⟩:=kn y hy;lia
 have ez:ks.map V.int=pint (ks.map Int.toNat):=by
   unfold pint;rw [zF];refine xG λy hy=>?_
   obtain ⟨n,_,rfl⟩:=kn y hy;rfl
 have mz:∀ n,n∈ks.map Int.toNat↔n∈ns:=λn=>by
   constructor;{intro h;obtain ⟨y,hy,rfl⟩:=zR.mp h;obtain ⟨m,hm,rfl⟩:=kn y hy;exact hm};{intro h;exact zR.mpr ⟨(n:Int),(mem _).mpr (zR.mpr ⟨n,h,rfl⟩),rfl⟩}
 rw [ez];have lz:(ks.map Int.toNat).length<=7000:=by refine yl (List.Nodup.length_le_of_subset (l₂:=ns) (Up.nd' up) λn h=>(mz n).mp h) l1000
 have ltz:∀ n∈ks.map Int.toNat,n<65536:=λn h=>lt n ((mz n).mp h)
 generalize ks.map Int.toNat=zs at up mz lz ltz ez;clear ez kn mem pw;have s2:=Same.new (o:=.lst (pint zs)) np;have pD:p≠D:=λz=>by rw [z,zq] at np;cases np
 have hp2:=zq (H:=upd H D (.dK [])) (a:=p) (o:=.lst (pint zs));have hD2:=s2 _ _ (zq (H:=H) (a:=D) (o:=.dK []));have sH:Same H (del (upd (upd H D (.dK [])) p (.lst (pint zs))) D):=λb o e=>by
   rw [yT (zI e nD)];exact (s1.trans s2) _ _ e
 generalize upd (upd H D (.dK [])) p (.lst (pint zs))=H2 at s2 hp2 hD2 sH;refine ⟨⟨_,SqL.of hp2⟩,loopL (K:=K) (xs:=pint zs) (GrI a D zs (del H2 D)) ⟨⟨_,_,_,_,_,_,rfl⟩,λb o e=>(wR e).2,λ_=>D,hD2,λk h=>(by cases h),λk h=>(by cases h)⟩ (λi σ H3 _ h=>SqL.of (h.same _ _ (by rw [yT pD];exact hp2))) ?_ ?_⟩
 . rintro i x σ H3 hx ⟨⟨v2,v3,v4,v5,v6,v7,rfl⟩,sm,st⟩;obtain ⟨n,hn,rfl⟩:=vW hx;have tk:zs.take (i+1)=zs.take i++[n]:=by rw [yG,hn];rfl
   ext a;rw [show (n:Int)/256=((n/256:Nat):Int) by lia,show (n:Int)%256=((n%256:Nat):Int) by lia];refine ⟨.inl ⟨_,.inl st.choose_spec.1⟩,zV _,λp np=>gr_step (show del H2 D D=none from wo) sm st (by rw [zE];lia) (λH' s' st'=>⟨⟨_,_,_,_,_,_,rfl⟩,s',by rw [tk];exact st'⟩) p np⟩
 . rintro σ H3 ⟨⟨v2,v3,v4,v5,v6,v7,rfl⟩,sm,st⟩;rw [yZ (by rw [zH];exact zk _)] at st;obtain ⟨lf,hD,ls,inj⟩:=st;refine hk _ _ (za λk hk=>?_);ext a;refine ⟨by decide,λL nL=>hk _ _ (za λk hk=>?_)⟩;have s4:=Same.new (o:=.lst []) nL;have LD:L≠D:=λz=>by rw [z,hD] at nL;cases nL
   ext a;refine ⟨D,_,s4 _ _ hD,_,s4 _ _ hD,λo=>?_⟩;have gl:(grK lf (keysOf zs)).length=(entsOf zs).length:=by unfold grK entsOf;rw [zg,zg]
   refine loopI (RwI a D L o (grK lf (keysOf zs)) zs (del H3 D)) ⟨⟨_,_,_,_,_,rfl⟩,zq,λb ob nb e=>?_,[],by rw [zr LD,zq],.nil⟩ (λi σ H' h=>h.fz) ?_ ?_;{rw [zr nb];exact s4 _ _ (wR e).2}
   . rintro i kv T σ H5 hkv nT ⟨⟨v2,v4,v5,v6,v7,rfl⟩,fz,sm5,us,hL,rows⟩;have il:i<(keysOf zs).length:=by
       have:=(xT.mp hkv).1;unfold grK at this;rw [zg] at this;exact this
     obtain ⟨ky,hky⟩:∃ ky,(keysOf zs)[i]?=some ky:=⟨_,zO il⟩
     have ekv:kv=(Sum.inl (ky:Int),V.ref (lf ky)):=by unfold grK at hkv;rw [yp,hky] at hkv;exact (Option.some.inj hkv).symm
     subst ekv;have kin:=yb hky;obtain ⟨g1,g2⟩:=ls ky kin;have pl:(plcN ky zs).length<=256:=Up.lt256 (bh ky zs up) λp hp=>by
       obtain ⟨m,_,rfl⟩:=zR.mp hp;exact yd _ (by decide)
     have nlD:lf ky≠D:=λz=>by rw [z,hD] at g1;cases g1
     have nlL:lf ky≠L:=λz=>by rw [z,nL] at g1;cases g1
     have g5:=sm5 _ _ nlD (by rw [yT nlD];exact g1);have s6:=Same.new (o:=.tup [kV (Sum.inl (ky:Int)),V.ref (lf ky)]) nT;simp only [gTup,gCons,gName,gNil];refine ⟨T,_,rfl,.inl (.inl zq),rfl,_,_,rfl,_,_,rfl,rfl,?_⟩;have g6:=s6 _ _ g5;have fz6:=s6 _ _ fz;have hL6:=s6 _ _ hL;generalize upd H5 T (.tup [kV (Sum.inl (ky:Int)),V.ref (lf ky)])=H6 at s6 g6 fz6 hL6;refine za λk2 hk2=>?_
     ext a;refine ⟨lf ky,plcN ky zs,rfl,SqL.of g6,pl,λr H7 s7 nr hR=>hk2 _ _ (za λk2 hk2=>?_)⟩;ext a;refine hk2 _ _ (za λk2 hk2=>?_);obtain ⟨vr,hvr,htr⟩:=id hR;have lr:=htr.length;have st1:∀ kd1:Nat,kd1=(if 16<=(runsOf (plcN ky zs)).length then 1 else 2)->k2 [some (V.ref a),some (V.ref D),v2,some (V.ref L),some (V.int (ky:Int)),some (V.ref (lf ky)),some (V.ref r),some (V.int kd1)] H7:=λkd1 e1=>by
       refine hk2 _ _ (za λk3 hk3=>?_);have st2:∀ kd:Nat,kd=kN (plcN ky zs)->k3 [some (V.ref a),some (V.ref D),v2,some (V.ref L),some (V.int (ky:Int)),some (V.ref (lf ky)),some (V.ref r),some (V.int kd)] H7:=λkd e2=>by
         refine hk3 _ _ ?_;ext a;have hL7:=s7 _ _ hL6;refine ⟨⟨_,SqL.of hL7⟩,by decide,λt nt=>?_⟩;have s8:=Same.new (o:=.tup [V.int (ky:Int),V.ref (lf ky),V.ref r,V.int kd]) nt;have ht8:=zq (H:=H7) (a:=t) (o:=.tup [V.int (ky:Int),V.ref (lf ky),V.ref r,V.int kd]);have tL:t≠L:=λz=>by rw [z,hL7] at nt;cases nt
         have tD:t≠D:=λz=>by rw [z,s7 _ _ fz6] at nt;cases nt
         generalize upd H7 t (.tup [V.int (ky:Int),V.ref (lf ky),V.ref r,V.int kd])=H8 at s8 ht8;have hL8:=s8 _ _ hL7;have fz8:=s8 _ _ (s7 _ _ fz6);have ul:us.length<=256:=by rw [wj rows,zE];have:=bf up ltz;lia
         refine ⟨us,hL8,small1000 (by lia),⟨_,_,_,_,_,rfl⟩,by rw [zr (Ne.symm LD)];exact fz8,λb ob nb e=>?_,us++[V.ref t],zq,?_⟩
         . have nbL:b≠L:=λz=>by
             obtain ⟨_,e⟩:=wR e;rw [z,nL] at e;cases e
           rw [zr nbL];exact ((s6.trans s7).trans s8) _ _ (sm5 _ _ nb e)
         . have te:(entsOf zs).take (i+1)=(entsOf zs).take i++[⟨ky,plcN ky zs,0⟩]:=by
             rw [yG];unfold entsOf;rw [yp,hky];rfl
           rw [te];have off:∀ {Ha:Hp},Same Ha H8->Same (del (del Ha L) D) (del (del (upd H8 L (.lst (us++[V.ref t]))) L) D):=λ{Ha} sa b ob e=>by
             obtain ⟨n1,e⟩:=wR e;obtain ⟨n2,e⟩:=wR e;rw [yT n1,yT n2,zr n2];exact sa _ _ e
           have ov:∀ {b:Addr} {ob:HO},b≠L->b≠D->H8 b=some ob->del (del (upd H8 L (.lst (us++[V.ref t]))) L) D b=some ob:=λ{b ob} n1 n2 e=>by
             rw [yT n2,yT n1,zr n1];exact e
           refine Paired.snoc (Paired.mapP rows λ_ _ h=>RowL.same (off ((s6.trans s7).trans s8)) h) ⟨t,lf ky,r,rfl,?_,ov nlL nlD ((s7.trans s8) _ _ g6),vr,?_,?_⟩;{rw [<- e2];exact ov tL tD ht8};{exact ov (λz=>by rw [z,hL6] at nr;cases nr) (λz=>by rw [z,fz6] at nr;cases nr) (s8 _ _ hvr)}
           . refine Paired.mapP htr λv rr h=>?_
             obtain ⟨tt,ev,ht⟩:=h;refine ⟨tt,ev,ov (λz=>?_) (λz=>?_) (s8 _ _ ht)⟩;{rw [z,hL7] at ht;cases ht};{rw [z,s7 _ _ fz6] at ht;cases ht}
       ext a;refine ⟨_,.inl (SqL.of (s7 _ _ g6)),?_⟩;rw [zH];by_cases c1:((plcN ky zs).length:Int)<=32
       . rw [if_pos c1];refine ⟨_,.inl (SqL.of (s7 _ _ g6)),_,.inl (SqL.of hvr),?_⟩;rw [zH,lr];by_cases c2:((plcN ky zs).length:Int)<=2*((runsOf (plcN ky zs)).length:Int)
         . rw [if_pos c2];refine st2 0 ?_;unfold kN;rw [if_pos ⟨by lia,by lia⟩]
         . rw [if_neg c2];exact st2 kd1 (e1.trans (bb λh=>c2 (by lia)).symm)
       . rw [if_neg c1];exact st2 kd1 (e1.trans (bb λh=>c1 (by lia)).symm)
     ext a;refine ⟨_,.inl (SqL.of hvr),?_⟩;rw [lr];by_cases c1:16<=((runsOf (plcN ky zs)).length:Int);{rw [if_pos c1];exact st1 1 (if_pos (show 16<=(runsOf (plcN ky zs)).length by lia)).symm};{rw [if_neg c1];exact st1 2 (if_neg (show ¬16<=(runsOf (plcN ky zs)).length by lia)).symm}
   . rintro σ H5 ⟨⟨v2,v4,v5,v6,v7,rfl⟩,fz,sm5,us,hL,rows⟩;refine ⟨o,fz,hk _ _ ?_⟩;ext a;rw [gl,uh] at rows;refine q L us zs _ (λb ob e=>?_) ?_ ?_ (Paired.mapP rows λ_ _ h=>RowL.same (λb ob e=>?_) h) up mz
     . have e3:=sm _ _ (sH _ _ e);have nb:b≠D:=zI e nD;rw [zr nb];exact sm5 _ _ nb (by rw [yT nb];exact e3)
     . have e:del H2 D L=none:=none_of sm nL;exact none_of sH e
     . rw [zr LD];exact hL
     . obtain ⟨n1,e⟩:=wR e;obtain ⟨n2,e⟩:=wR e;rw [zr n1];exact e
def bodyF (kd:Nat)(ps:List Nat):List (List Bool) :=
 if kd=0 then ps.map λp=>bitsB p 8 else if kd=1 then [(List.range 256).map λp=>decide (p∈ps)] else (runsOf ps).flatMap λr=>[bitsB r.1 8,bitsB r.2 8]
def txs (fs:List (List Bool)):List V:=fs.map λb=>V.str (tx b)
theorem uP (a b:List (List Bool)):txs (a++b)=txs a++txs b:=zD
def spBodyT (K:zj):Sp:=λvs H Q _=>∃ (lp lr:Addr) (ps:List Nat) (kd:Nat),vs=[.ref lp,.ref lr,.int kd]/\H lp=some (.lst (pint ps))/\RunsL H lr (runsOf ps)/\kd<=2/\ps.length<=256/\(∀ p∈ps,p<256)/\∀ l H',Same H H'->H l=none->H' l=some (.lst (txs (bodyF kd ps)))->Q (.ref l) H'
structure HdI (lp lr h:Addr)(ps:List Nat)(H:Hp)(i:Nat)(σ:L2.St)(H':Hp):Prop where
 ex:∃ v4 v5 v6 v7:Option V,σ=[some (.ref lp),some (.ref lr),some (.int 1),some (.ref h),v4,v5,v6,v7]
 sm:Same H H'
 hh:H' h=some (.lst ((List.range 256).map λp=>V.str (sg (decide (p∈ps.take i)))))
structure FsI (lp lr f:Addr)(kd:Int)(rs:List (Nat × Nat))(H:Hp)(i:Nat)(σ:L2.St)(H':Hp):Prop where
 ex:∃ v3 v4 v6 v7:Option V,σ=[some (.ref lp),some (.ref lr),some (.int kd),v3,v4,some (.ref f),v6,v7]
 sm:Same H H'
 hf:H' f=some (.lst (txs ((rs.take i).flatMap λr=>[bitsB r.1 8,bitsB r.2 8])))
theorem ok_bodyT (B:Blt mg) (jl:FnAt P w K mg base "_law_bits" ["_law_number","_law_many"] 1 spBitsL) (d:DefAt K mg "_law_body" oG ["_law_places","_law_runs_here","_law_kind"]):FnAt P w K mg base "_law_body" ["_law_places","_law_runs_here","_law_kind"] 2 (spBodyT K):=by
 refine FnAt.of d jb3 ?_ ?_;ext c;have nd:=jb3.nd;obtain ⟨lp,lr,ps,kd,rfl,hp,hR,k2,l256,lt,q⟩:=h;refine ⟨_,(zp (yu (zG yL (pv 2) zu) (zo (zd (xZ ["_law_place"] [] rfl (yK K (pv 0)) (λ_ _ _ _ _=>yM (i:=0) (by show List.Nodup (["_law_place"]:List Str);decide +kernel) rfl (Or.inl rfl)) (λ_ _ _ _ _=>xa) (λ_ _ _ _ _=>(zc jl (zy (pv 0) (zy zu zx)))) trivial xq))) yh) (zp (yu (zG yL (pv 2) zu) (zp (zb 3 (zw qE (yg (zy xr zx)) zu)) (zp (xg yF rfl (yK K (pv 0)) (yj 4) (zo (qI xr (pg_sub (pv 3) (pv 4) gP)))) (zo (zd (yg (zy (yt K vv vt vq (vV K) xr (zy (pv 3) zx)) zx)))))) yh) (zp (zb 5 (yg zx)) (zp (xg yF rfl (yK K (pv 1)) (vT K rfl (yR (yj 6) (yR (yj 7) ve))) (zp (yz (yt K yP xY xX xb (pv 5) (zy (zc jl (zy (pv 6) (zy zu zx))) zx))) (zo (yz (yt K yP xY xX xb (pv 5) (zy (zc jl (zy (pv 7) (zy zu zx))) zx)))))) (zo (zd (pv 5))))))),?_⟩
 refine za λk hk=>?_
 ext a;by_cases c0:kd=0
 . rw [if_pos (show (kd:Int)=0 by lia)];refine ⟨⟨_,SqL.of hp⟩,compV (λi=>.str (tx (bitsB (ps[i]?.getD 0) 8))) (SqL.of hp) (by rw [zH];lia) (λi x H2 R hx s2 r=>?_) (λD H2 nD s2 hD=>q D H2 s2 nD ?_)⟩
   . obtain ⟨p,ep,rfl⟩:=vW hx;rw [ep] at r;ext a;exact ⟨p,8,rfl,by decide,r⟩
   . rw [hD,zH];unfold bodyF txs;rw [if_pos c0,zF];refine congrArg (λz=>some (HO.lst z)) (vk (by rw [zg,zg,ym]) λi a1 a2=>?_);rw [zg,ym] at a1;rw [vj,vj,sO,zO a1];rfl
 rw [if_neg (show ¬(kd:Int)=0 by lia)];refine hk _ _ (za λk hk=>?_);ext a;by_cases c1:kd=1
 . rw [if_pos (show (kd:Int)=1 by lia)]
   refine ⟨by decide,λp1 n1=>⟨_,zq,by show 1*256<=sizeLine;decide,λh nh=>?_⟩⟩;have s1:=Same.new (o:=.lst [V.str (Str.ofString "0")]) n1;have e0:(List.replicate 256 [V.str (Str.ofString "0")]).flatten=(List.range 256).map λp=>V.str (sg (decide (p∈ps.take 0))):=by
     rw [List.flatten_replicate_singleton];refine vk (by rw [sV,zg,ym]) λi a1 a2=>?_
     rw [List.getElem_replicate,vj,qN,yw (λz=>by cases z)];rfl
   rw [e0];have s2:=s1.trans (Same.new (o:=.lst ((List.range 256).map λp=>V.str (sg (decide (p∈ps.take 0))))) nh);have nhH:H h=none:=none_of s1 nh;have h2:=zq (H:=upd H p1 (.lst [V.str (Str.ofString "0")])) (a:=h) (o:=.lst ((List.range 256).map λp=>V.str (sg (decide (p∈ps.take 0)))));generalize upd (upd H p1 (.lst [V.str (Str.ofString "0")])) h (.lst ((List.range 256).map λp=>V.str (sg (decide (p∈ps.take 0)))))=H2 at s2 h2;refine ⟨⟨_,SqL.of (s2 _ _ hp)⟩,loopL (K:=K) (xs:=pint ps) (HdI lp lr h ps H) ⟨⟨_,_,_,_,by rw [show (kd:Int)=1 by lia]⟩,s2,h2⟩ (λi σ H3 _ g=>SqL.of (g.sm _ _ hp)) ?_ ?_⟩
   . rintro i x σ H3 hx ⟨⟨v4,v5,v6,v7,rfl⟩,sm,hh⟩;obtain ⟨p,ep,rfl⟩:=vW hx;ext a;have pl:=lt p (yb ep);refine ⟨_,hh,p,?_,⟨_,_,_,_,rfl⟩,sm.put nhH,?_⟩
     . rw [zg,ym];exact ixN_nat pl
     . rw [zq]
       refine congrArg (λz=>some (HO.lst z)) (vk (by rw [List.length_set,zg,zg]) λj a1 a2=>?_);rw [List.getElem_set,vj,vj,sO];rw [yG,ep];by_cases c:p=j;{rw [if_pos c,zJ (show j∈ps.take i++(some p).toList from yC _ (c ▸ .head _))];rfl}
       . rw [if_neg c];have:decide (j∈ps.take i)=decide (j∈ps.take i++(some p).toList):=qR.mpr ⟨λh=>xS _ h,λh=>by
           rcases zY.mp h with h | h
           . exact h
           . exact absurd (zS.mp h).symm c⟩
         rw [this]
   . rintro σ H3 ⟨⟨v4,v5,v6,v7,rfl⟩,sm,hh⟩;ext a;rw [yZ (by rw [zH];exact zk _)] at hh;refine ⟨((List.range 256).map λp=>decide (p∈ps)).map sg,?_,?_,by decide,λl nl=>?_⟩
     . rw [zF,zF];exact SqL.of hh
     . simp only [n9,zg,ym];decide +kernel
     . rw [i9];refine q l _ (sm.trans (Same.new nl)) (none_of sm nl) ?_;rw [zq];unfold bodyF txs;rw [if_neg c0,if_pos c1];rfl
 rw [if_neg (show ¬(kd:Int)=1 by lia)];refine hk _ _ (za λk hk=>?_);ext a;refine ⟨by decide,λf nf=>hk _ _ (za λk hk=>?_)⟩;ext a;obtain ⟨vr,hvr,htr⟩:=hR;have s1:=Same.new (o:=.lst []) nf;have lr':=htr.length;refine ⟨⟨_,SqL.of (s1 _ _ hvr)⟩,loopL (K:=K) (xs:=vr) (FsI lp lr f kd (runsOf ps) H) ⟨⟨_,_,_,_,rfl⟩,s1,zq⟩ (λi σ H3 _ g=>SqL.of (g.sm _ _ hvr)) ?_ ?_⟩
 . rintro i x σ H3 hx ⟨⟨v3,v4,v6,v7,rfl⟩,sm,hf⟩;have il:i<(runsOf ps).length:=by have:=(xT.mp hx).1;lia
   have er:=zO il;obtain ⟨t,rfl,ht⟩:=kJ htr hx er;generalize (runsOf ps)[i]=r at er ht;simp only [gTup,gCons,gName,gNil];refine ⟨t,_,rfl,.inl (.inl (sm _ _ ht)),rfl,_,_,rfl,_,_,rfl,rfl,?_⟩;have ln:(txs (((runsOf ps).take i).flatMap λr=>[bitsB r.1 8,bitsB r.2 8])).length<=600:=by unfold txs;rw [zg,kH,zE];have:=pq ps;lia
   refine za λk2 hk2=>?_
   ext a;refine ⟨⟨_,SqL.of hf⟩,r.1,8,rfl,by decide,λH4 s4=>⟨_,s4 _ _ hf,small1000 (by lia),hk2 _ _ ?_⟩⟩;ext a;refine ⟨⟨_,SqL.of zq⟩,r.2,8,rfl,by decide,λH5 s5=>⟨_,s5 _ _ zq,small1000 (by rw [zh];show _+1<=_;lia),⟨_,_,_,_,rfl⟩,?_,?_⟩⟩;{exact (((sm.trans s4).put nf).trans s5).put nf};{rw [zq,yG,er,List.flatMap_append,uP,zX];rfl}
 . rintro σ H3 ⟨⟨v3,v4,v6,v7,rfl⟩,sm,hf⟩;refine hk _ _ ?_;ext a;refine q f H3 sm nf ?_;rw [hf,lr',uh];unfold bodyF;rw [if_neg c0,if_neg c1]
def RowK (H:Hp)(v:V)(x:Ent × Nat):Prop:=∃ t lp lr,v=.ref t/\H t=some (.tup [.int (x.1.key:Nat),.ref lp,.ref lr,.int (x.2:Nat)])/\H lp=some (.lst (pint x.1.ps))/\RunsL H lr (runsOf x.1.ps)
def lenB (x:Ent × Nat):Nat:=(bodyF x.2 x.1.ps).flatten.length/8
def totN (l:List (Ent × Nat)):Nat:=(l.map λx=>x.1.ps.length).sum
def totB (l:List (Ent × Nat)):Nat:=(l.map lenB).sum
theorem ny (l:List (Ent × Nat))(x:Ent × Nat):totN (l++[x])=totN l+x.1.ps.length:=by unfold totN;rw [zD,mF];show _+(_+0)=_;rw [xt]
theorem i4 (l:List (Ent × Nat))(x:Ent × Nat):totB (l++[x])=totB l+lenB x:=by unfold totB;rw [zD,mF];show _+(_+0)=_;rw [xt]
def headOf (m s:Nat)(x:Ent × Nat):List (List Bool):=[bitsB x.1.key 8,bitsB x.2 2,bitsB (m+x.1.ps.length-1) 16,bitsB (s+lenB x) 14]
def headsF:Nat->Nat->List (Ent × Nat)->List (List Bool)
 | _,_,[]=>[]
 | m,s,x::r=>headOf m s x++headsF (m+x.1.ps.length) (s+lenB x) r
theorem ba (x:Ent × Nat):∀ (l:List (Ent × Nat)) (m s:Nat),headsF m s (l++[x])=headsF m s l++headOf (m+totN l) (s+totB l) x
 | [],m,s=>by
   show headOf m s x++[]=[]++headOf (m+0) (s+0) x;rw [yx,yY];rfl
 | y::r,m,s=>by
   show headOf m s y++headsF _ _ (r++[x])=(headOf m s y++headsF _ _ r)++headOf (m+(y.1.ps.length+totN r)) (s+(lenB y+totB r)) x;rw [ba x r,zX,wF,wF]
def bodiesF (l:List (Ent × Nat)):List (List Bool):=l.flatMap λx=>bodyF x.2 x.1.ps
def fieldsT (l:List (Ent × Nat)):List (List Bool):=bitsB l.length 9::(headsF 0 0 l++bodiesF l)
theorem i0:∀ (l:List (Ent × Nat)) (m s:Nat),(headsF m s l).length=4*l.length
 | [],_,_=>rfl
 | x::r,m,s=>by
   show (headOf m s x++headsF _ _ r).length=4*(r.length+1);rw [zh,i0 r];show 4+_=_;lia
theorem uO (fs:List (List Bool)):Txt.join "" (fs.map tx)=tx fs.flatten:=by
 show Builtin.Str.glued _ _=_;rw [StrLaws.glued_eq_join];have e:("":Str)=Str.empty:=by decide +kernel
 rw [e,kA];unfold tx;refine congrArg (λz=>(⟨List.toArray z⟩:Str)) ?_;induction fs with
 | nil=>rfl
 | cons b r ih=>rw [zL,vm,ih,yI,zD]
theorem uN:∀ fs:List (List Bool),((fs.map tx).map (·.length)).sum=fs.flatten.length
 | []=>rfl
 | b::r=>by
   rw [zL,zL,qM,uN r,xJ,yI,zh]
theorem qr {kd:Nat} (h:ps.length<=256):(bodyF kd ps).length<=512/\(bodyF kd ps).flatten.length<=4096:=by
 have rl:=pq ps;unfold bodyF;split;{refine ⟨by rw [zg];lia,?_⟩;rw [List.length_flatten,zF,show (List.length ∘ λp=>bitsB p 8)=λ_=>8 from funext λp=>yU p 8];rw [List.map_const',List.sum_replicate_nat];lia}
 . split
   . exact ⟨by show 1<=512;decide,by rw [yI,zh,zg,ym];decide⟩
   . refine ⟨by rw [kH];lia,?_⟩;have:∀ l:List (Nat × Nat),(l.flatMap λr=>[bitsB r.1 8,bitsB r.2 8]).flatten.length=16*l.length:=λl=>by
       induction l with
       | nil=>rfl
       | cons x r ih =>
         rw [vm,xO,zh,ih];show (bitsB x.1 8++(bitsB x.2 8++[])).length+_=16*(r.length+1);rw [zh,zh,yU,yU];show 8+(8+0)+_=_;lia
     rw [this];lia
def spFieldsT (K:zj):Sp:=λvs H Q _=>∃ (a:Addr) (us:List V) (l:List (Ent × Nat)),vs=[.ref a]/\H a=some (.lst us)/\Paired (RowK H) us l/\l.length<=256/\(∀ x∈l,x.2<=2/\x.1.ps≠[]/\x.1.ps.length<=256/\∀ p∈x.1.ps,p<256)/\∀ r H',Same H H'->H r=none->H' r=some (.lst (txs (fieldsT l)))->Q (.ref r) H'
structure FlI (a F Bd:Addr)(l:List (Ent × Nat))(H:Hp)(i:Nat)(σ:L2.St)(H':Hp):Prop where
 ex:∃ v5 v6 v7 v8 v9:Option V,σ=[some (.ref a),some (.ref F),some (.ref Bd),some (.int (totN (l.take i):Nat)),some (.int (totB (l.take i):Nat)),v5,v6,v7,v8,v9]
 sm:Same H H'
 hF:H' F=some (.lst (txs (bitsB l.length 9::headsF 0 0 (l.take i))))
 hB:H' Bd=some (.lst (txs (bodiesF (l.take i))))
theorem YR (B:Blt mg)(jl:FnAt P w K mg base "_law_bits" ["_law_number","_law_many"] 1 spBitsL)(jbM:FnAt P w K mg base "_law_body" ["_law_places","_law_runs_here","_law_kind"] 2 (spBodyT K))(d:DefAt K mg "_law_fields" oF ["_law_rows_here"]):FnAt P w K mg base "_law_fields" ["_law_rows_here"] 3 (spFieldsT K):=by
 refine FnAt.of d jby ?_ ?_;ext c;have nd:=jby.nd;obtain ⟨a,us,l,rfl,ha,rows,l256,ok,q⟩:=h;refine ⟨_,(zp (zb 1 (yg (zy (zc jl (zy (yk (xp K) rfl B.len yE (zy (pv 0) zx)) (zy zu zx))) zx))) (zp (zb 2 (yg zx)) (zp (zb 3 zu) (zp (zb 4 zu) (zp (xg yF rfl (yK K (pv 0)) (vT K rfl (yR (yj 5) (yR (yj 6) (yR (yj 7) (yR (yj 8) ve))))) (zp (zb 9 (zc jbM (zy (pv 6) (zy (pv 7) (zy (pv 8) zx))))) (zp (zb 3 (zw zN (pv 3) (yk (xp K) rfl B.len yE (zy (pv 6) zx)))) (zp (zb 4 (zw zN (pv 4) (zw yW (yk gO rfl B.len yE (zy (yt K vv vt vq (vV K) xr (zy (pv 9) zx)) zx)) zu))) (zp (yz (yt K yP tE sv rY (pv 1) (zy (yg (zy (zc jl (zy (pv 5) (zy zu zx))) (zy (zc jl (zy (pv 8) (zy zu zx))) zx))) zx))) (zp (yz (yt K yP tE sv rY (pv 1) (zy (yg (zy (zc jl (zy (zw yA (pv 3) zu) (zy zu zx))) (zy (zc jl (zy (pv 4) (zy zu zx))) zx))) zx))) (zo (yz (yt K yP tE sv rY (pv 2) (zy (pv 9) zx)))))))))) (zo (zd (zw uX (pv 1) (pv 2))))))))),?_⟩
 have ul:=wj rows;refine za λk hk=>?_
 ext a;refine ⟨_,.inl (SqL.of ha),us.length,9,rfl,by decide,λH1 s1=>⟨by decide,λF nF=>hk _ _ (za λk hk=>?_)⟩⟩;ext a;refine ⟨by decide,λBd nB=>hk _ _ (za λk hk=>?_)⟩;ext a;refine hk _ _ (za λk hk=>?_);ext a;refine hk _ _ (za λk hk=>?_);have s2:=s1.trans (Same.new (o:=.lst [V.str (tx (bitsB us.length 9))]) nF);have s3:=s2.trans (Same.new (o:=.lst []) nB);have FB:F≠Bd:=λz=>by rw [<- z,zq] at nB;cases nB
 have nFH:=none_of s1 nF;have nBH:=none_of s2 nB;ext a;refine ⟨⟨_,SqL.of (s3 _ _ ha)⟩,loopL (K:=K) (xs:=us) (FlI a F Bd l H) ⟨⟨_,_,_,_,_,rfl⟩,s3,?_,zq⟩ (λi σ H3 _ h=>SqL.of (h.sm _ _ ha)) ?_ ?_⟩;{rw [zr FB,zq,ul];rfl}
 . rintro i x σ H3 hx ⟨⟨v5,v6,v7,v8,v9,rfl⟩,sm,hF,hB⟩;have il:i<l.length:=by have:=(xT.mp hx).1;lia
   have el:=zO il;obtain ⟨t,lp,lr,rfl,ht,hlp,hlr⟩:=kJ rows hx el;obtain ⟨ok1,ok2,ok3,ok4⟩:=ok _ (y9 il);have tk:l.take (i+1)=l.take i++[l[i]]:=by rw [yG,el];rfl
   generalize l[i]=y at el ht hlp hlr ok1 ok2 ok3 ok4 tk;obtain ⟨bl1,bl2⟩:=qr (kd:=y.2) ok3;have pos:1<=y.1.ps.length:=by
     cases h:y.1.ps with
     | nil=>exact absurd h ok2
     | cons=>exact mK (zV _)
   simp only [gTup,gCons,gName,gNil];refine ⟨t,_,rfl,.inl (.inl (sm _ _ ht)),rfl,_,_,rfl,_,_,rfl,_,_,rfl,_,_,rfl,rfl,?_⟩;refine za λk1 hk1=>?_
   ext a;refine ⟨lp,lr,y.1.ps,y.2,rfl,sm _ _ hlp,hlr.same sm,ok1,ok3,ok4,λbo H4 s4 nbo hbo=>hk1 _ _ (za λk1 hk1=>?_)⟩;have sm4:=sm.trans s4;ext a;refine ⟨_,.inl (SqL.of (sm4 _ _ hlp)),hk1 _ _ (za λk1 hk1=>?_)⟩;rw [zH,show ((totN (l.take i):Nat):Int)+(y.1.ps.length:Int)=((totN (l.take (i+1)):Nat):Int) by rw [tk,ny];lia];ext a;have ebo:H4 bo=some (.lst (((bodyF y.2 y.1.ps).map tx).map V.str)):=by rw [hbo,zF];rfl
   refine ⟨_,SqL.of ebo,?_,?_,hk1 _ _ (za λk1 hk1=>?_)⟩;{rw [uN,zg,show (Str.ofString "").length=0 from rfl];lia};{rw [uO,xJ];exact small5 (by lia)}
   rw [uO,xJ,show ((totB (l.take i):Nat):Int)+((bodyF y.2 y.1.ps).flatten.length:Int)/8=((totB (l.take (i+1)):Nat):Int) by rw [tk,i4];unfold lenB;lia];have fl:(txs (bitsB l.length 9::headsF 0 0 (l.take i))).length<=1100:=by unfold txs;rw [zg,zZ,i0,zE];lia
   ext a;refine ⟨⟨_,SqL.of (s4 _ _ hF)⟩,y.1.key,8,rfl,by decide,λH5 s5=>⟨y.2,2,rfl,by decide,λH6 s6=>⟨by decide,λp7 n7=>?_⟩⟩⟩;have s7:=((s4.trans s5).trans s6).trans (Same.new (o:=.lst [V.str (tx (bitsB y.1.key 8)),V.str (tx (bitsB y.2 2))]) n7);refine ⟨_,s7 _ _ hF,_,zq,small5 (by show _+2<=_;lia),hk1 _ _ (za λk1 hk1=>?_)⟩;have n7F:F≠p7:=zI ((s4.trans (s5.trans s6)) _ _ hF) n7;have hB7:=s7 _ _ hB;have hbo7:=((s5.trans s6).trans (Same.new (o:=.lst [V.str (tx (bitsB y.1.key 8)),V.str (tx (bitsB y.2 2))]) n7)) _ _ hbo;have sF:=(sm.trans s7).put (o:=.lst (txs (bitsB l.length 9::headsF 0 0 (l.take i))++[V.str (tx (bitsB y.1.key 8)),V.str (tx (bitsB y.2 2))])) nFH;have boF:bo≠F:=λz=>by rw [z,hF] at nbo;cases nbo
   have hF8:=zq (H:=upd H6 p7 (.lst [V.str (tx (bitsB y.1.key 8)),V.str (tx (bitsB y.2 2))])) (a:=F) (o:=.lst (txs (bitsB l.length 9::headsF 0 0 (l.take i))++[V.str (tx (bitsB y.1.key 8)),V.str (tx (bitsB y.2 2))]));have hB7:=(zr (o:=.lst (txs (bitsB l.length 9::headsF 0 0 (l.take i))++[V.str (tx (bitsB y.1.key 8)),V.str (tx (bitsB y.2 2))])) (Ne.symm FB)).trans hB7;have hbo7:=(zr (o:=.lst (txs (bitsB l.length 9::headsF 0 0 (l.take i))++[V.str (tx (bitsB y.1.key 8)),V.str (tx (bitsB y.2 2))])) boF).trans hbo7;generalize upd (upd H6 p7 (.lst [V.str (tx (bitsB y.1.key 8)),V.str (tx (bitsB y.2 2))])) F (.lst (txs (bitsB l.length 9::headsF 0 0 (l.take i))++[V.str (tx (bitsB y.1.key 8)),V.str (tx (bitsB y.2 2))]))=H8 at hB7 hbo7 hF8 sF;have tp:1<=totN (l.take (i+1)):=by rw [tk,ny];lia
   ext a;rw [show ((totN (l.take (i+1)):Nat):Int)-1=((totN (l.take (i+1))-1:Nat):Int) by lia];refine ⟨⟨_,SqL.of hF8⟩,_,16,rfl,by decide,λH9 s9=>⟨_,14,rfl,by decide,λH10 s10=>⟨by decide,λp11 n11=>?_⟩⟩⟩;have s11:=(s9.trans s10).trans (Same.new (o:=.lst [V.str (tx (bitsB (totN (l.take (i+1))-1) 16)),V.str (tx (bitsB (totB (l.take (i+1))) 14))]) n11);refine ⟨_,s11 _ _ hF8,_,zq,small5 (by rw [zh];show _+2+2<=_;lia),hk1 _ _ ?_⟩;have hB12:=s11 _ _ hB7;have hbo12:=s11 _ _ hbo7;have s12:=(sF.trans s11).put (o:=.lst (txs (bitsB l.length 9::headsF 0 0 (l.take i))++[V.str (tx (bitsB y.1.key 8)),V.str (tx (bitsB y.2 2))]++[V.str (tx (bitsB (totN (l.take (i+1))-1) 16)),V.str (tx (bitsB (totB (l.take (i+1))) 14))])) nFH;have hF12:=zq (H:=upd H10 p11 (.lst [V.str (tx (bitsB (totN (l.take (i+1))-1) 16)),V.str (tx (bitsB (totB (l.take (i+1))) 14))])) (a:=F) (o:=.lst (txs (bitsB l.length 9::headsF 0 0 (l.take i))++[V.str (tx (bitsB y.1.key 8)),V.str (tx (bitsB y.2 2))]++[V.str (tx (bitsB (totN (l.take (i+1))-1) 16)),V.str (tx (bitsB (totB (l.take (i+1))) 14))]));have hB12:=(zr (o:=.lst (txs (bitsB l.length 9::headsF 0 0 (l.take i))++[V.str (tx (bitsB y.1.key 8)),V.str (tx (bitsB y.2 2))]++[V.str (tx (bitsB (totN (l.take (i+1))-1) 16)),V.str (tx (bitsB (totB (l.take (i+1))) 14))])) (Ne.symm FB)).trans hB12;have hbo12:=(zr (o:=.lst (txs (bitsB l.length 9::headsF 0 0 (l.take i))++[V.str (tx (bitsB y.1.key 8)),V.str (tx (bitsB y.2 2))]++[V.str (tx (bitsB (totN (l.take (i+1))-1) 16)),V.str (tx (bitsB (totB (l.take (i+1))) 14))])) boF).trans hbo12;generalize upd (upd H10 p11 (.lst [V.str (tx (bitsB (totN (l.take (i+1))-1) 16)),V.str (tx (bitsB (totB (l.take (i+1))) 14))])) F (.lst (txs (bitsB l.length 9::headsF 0 0 (l.take i))++[V.str (tx (bitsB y.1.key 8)),V.str (tx (bitsB y.2 2))]++[V.str (tx (bitsB (totN (l.take (i+1))-1) 16)),V.str (tx (bitsB (totB (l.take (i+1))) 14))]))=H12 at hB12 hbo12 hF12 s12;ext a;refine ⟨⟨_,SqL.of hB12⟩,_,hB12,_,hbo12,?_,⟨_,_,_,_,_,rfl⟩,s12.put nBH,?_,?_⟩
   . have h2:∀ l:List (Ent × Nat),(∀ x∈l,x.1.ps.length<=256)->(txs (bodiesF l)).length<=512*l.length:=λl=>by
       induction l with
       | nil=>exact λ_=>zk _
       | cons x r ih =>
         intro h;have:=ih λy hy=>h y (.tail _ hy)
         have b:=(qr (kd:=x.2) (h x (.head _))).1;unfold txs bodiesF at this ⊢;rw [zg] at this ⊢;rw [vm,zh,zZ];lia
     have h3:=h2 (l.take i) λx hx=>(ok x (xH hx)).2.2.1
     rw [zE] at h3;rw [show (txs (bodyF y.2 y.1.ps)).length=(bodyF y.2 y.1.ps).length from zg ..,wg];lia
   . rw [zr FB,hF12];have e:bitsB l.length 9::headsF 0 0 (l.take (i+1))=(bitsB l.length 9::headsF 0 0 (l.take i))++([bitsB y.1.key 8,bitsB y.2 2]++[bitsB (totN (l.take (i+1))-1) 16,bitsB (totB (l.take (i+1))) 14]):=by
       rw [tk,ba,ny,i4,yX,yX];rfl
     rw [e,uP,uP,zX];rfl
   . rw [zq,tk];unfold bodiesF;rw [List.flatMap_append,uP];show _=some (HO.lst (_++txs (bodyF y.2 y.1.ps++[])));rw [yx]
 . rintro σ H3 ⟨⟨v5,v6,v7,v8,v9,rfl⟩,sm,hF,hB⟩;refine hk _ _ ?_;rw [ul,uh] at hF hB;ext a;refine ⟨_,hF,_,hB,?_,λr nr=>q r _ (sm.trans (Same.new nr)) (none_of sm nr) ?_⟩
   . have h1:(txs (bitsB l.length 9::headsF 0 0 l)).length=1+4*l.length:=by
       unfold txs;rw [zg,zZ,i0];lia
     have h2:∀ l:List (Ent × Nat),(∀ x∈l,x.1.ps.length<=256)->(txs (bodiesF l)).length<=512*l.length:=λl=>by
       induction l with
       | nil=>exact λ_=>zk _
       | cons x r ih =>
         intro h;have:=ih λy hy=>h y (.tail _ hy)
         have b:=(qr (kd:=x.2) (h x (.head _))).1;unfold txs bodiesF at this ⊢;rw [zg] at this ⊢;rw [vm,zh,zZ];lia
     have h3:=h2 l λx hx=>(ok x hx).2.2.1
     rw [h1,wg];lia
   . rw [zq,<- uP];rfl
def szB (kd:Nat)(ps:List Nat):Nat:=if kd=0 then ps.length else if kd=1 then 32 else 2*(runsOf ps).length
theorem fl8 {α:Type}(f:α->Nat):∀ l:List α,(l.map λa=>bitsB (f a) 8).flatten.length=8*l.length
 | []=>rfl
 | a::l=>by rw [zL,yI,zh,fl8 f l,yU,zZ];lia
theorem fl16:∀ l:List (Nat × Nat),(l.flatMap λr=>[bitsB r.1 8,bitsB r.2 8]).flatten.length=16*l.length
 | []=>rfl
 | a::l=>by
   rw [vm,xO,zh,fl16 l,zZ];show (bitsB a.1 8++(bitsB a.2 8++[])).length+_=_;rw [zh,zh,yU,yU];show 8+(8+0)+_=_;lia
theorem bZ (kd:Nat)(ps:List Nat):(bodyF kd ps).flatten.length=8*szB kd ps:=by
 unfold bodyF szB;split;{exact fl8 _ _}
 . split
   . simp
   . rw [fl16];lia
theorem nu (x:Ent × Nat):lenB x=szB x.2 x.1.ps:=by unfold lenB;rw [bZ];lia
theorem YQ (nb sb:Nat)(x:Ent × Nat):(headOf nb sb x).flatten.length=40:=by show (bitsB x.1.key 8++(bitsB x.2 2++(bitsB (nb+x.1.ps.length-1) 16++(bitsB (sb+lenB x) 14++[])))).length=40;simp only [zh,yU,xF]
theorem YO (x:Ent × Nat)(l:List (Ent × Nat)):totN (x::l)=x.1.ps.length+totN l:=rfl
theorem iz (x:Ent × Nat)(l:List (Ent × Nat)):totB (x::l)=lenB x+totB l:=rfl
theorem bY:∀ (l:List (Ent × Nat)) (m s:Nat),(headsF m s l).flatten.length=40*l.length
 | [],_,_=>rfl
 | x::l,m,s=>by
   show (headOf m s x++headsF _ _ l).flatten.length=_;rw [xO,zh,YQ,bY l,zZ];lia
theorem bX:∀ l:List (Ent × Nat),(bodiesF l).flatten.length=8*totB l
 | []=>rfl
 | x::l=>by
   show (bodyF x.2 x.1.ps++bodiesF l).flatten.length=_;rw [xO,zh,bX l,iz,bZ,nu];lia
theorem YN (l:List (Ent × Nat)):(fieldsT l).flatten=bitsB l.length 9++((headsF 0 0 l).flatten++(bodiesF l).flatten):=by unfold fieldsT;rw [yI,xO]
def rwE (es:List Ent):List (Ent × Nat):=es.map λe=>(e,kN e.ps)
def TPe (es:List Ent):List Bool:=(fieldsT (rwE es)).flatten
theorem tI (es:List Ent):(rwE es).length=es.length:=zg _
theorem rwE_app (a b:List Ent):rwE (a++b)=rwE a++rwE b:=zD
theorem kN_le (ps:List Nat):kN ps<=2:=by
 unfold kN;split;{decide};{split<;>decide}
theorem lenB_le {e:Ent}(h:e.ps≠[])(u:Up 0 e.ps):lenB (e,kN e.ps)<=e.ps.length/\1<=lenB (e,kN e.ps)/\lenB (e,kN e.ps)<=32:=by
 have r1:1<=(runsOf e.ps).length:=by
   obtain ⟨r,_⟩:=gA u;cases z:runsOf e.ps with
   | nil=>rw [z] at r;exact absurd r.symm h
   | cons a b=>rw [zZ];lia
 have r2:1<=e.ps.length:=by
   cases z:e.ps with
   | nil=>exact absurd z h
   | cons a b=>rw [zZ];lia
 rw [nu];show szB (kN e.ps) e.ps<=e.ps.length/\1<=szB (kN e.ps) e.ps/\szB (kN e.ps) e.ps<=32;have rl:=pq e.ps;unfold szB kN;by_cases c1:e.ps.length<=32/\e.ps.length<=2*(runsOf e.ps).length;{rw [if_pos c1,if_pos rfl];lia}
 . rw [if_neg c1];by_cases c2:16<=(runsOf e.ps).length
   . rw [if_pos c2,if_neg (by decide),if_pos rfl];lia
   . rw [if_neg c2,if_neg (by decide),if_neg (by decide)];lia
def hp (i:Nat):Nat:=9+40*i
theorem qq (es:List Ent):TPe es=bitsB es.length 9++((headsF 0 0 (rwE es)).flatten++(bodiesF (rwE es)).flatten):=by unfold TPe;rw [YN,tI]
theorem TE_len {es:List Ent}:(TPe es).length=hp es.length+8*totB (rwE es):=by rw [qq,zh,zh,yU,bY,bX,tI];unfold hp;lia
theorem YM (u:Up 0 ps)(h:∀ p∈ps,p<256):numA 0 ((List.range 256).map λp=>decide (p∈ps)).reverse=wd ps:=by
 refine rT u λi=>?_
 have ln:((List.range 256).map λp=>decide (p∈ps)).reverse.length=256:=by rw [xQ,zg,ym]
 by_cases c:i<256;{have:=lG ((List.range 256).map λp=>decide (p∈ps)).reverse (255-i) (by rw [ln];lia);rw [ln] at this;rw [show 256-1-(255-i)=i by lia] at this;rw [this,xy,mZ (by rw [zg,ym];lia),zg,ym,show 256-1-(255-i)=i by lia,yp,qX c];rfl};{rw [Nat.testBit_lt_two_pow (ya (rS _) (by rw [ln];exact vL (by decide) (by lia)))];exact (yw λz=>c (h i z)).symm}
theorem tup_mk2 {h:Heap}{x:Str}{a:Addr}{c:Value}{d:Option Addr}{its:Array Value}{n:Nat}{sl:Array (Option Value)}(X:K.In h)(G:h.Ns mainGlobals mg)(e:PySem.W.nsIn K mainGlobals x=some (some (.ref a)))
   (l:K.lookup a=some ⟨c,d,.seq its n,sl⟩) (hc:c=.type "tuple") (hd:d=none) (hz:its.size<=sizeLine) (r:Vals xs its.toList):∃ a,mg x=some (.ref a)/\(∃ o,K.lookup a=some o/\o.cls=.type "tuple"/\o.dict=none)/\∀ H,SqT K H a xs :=
 ⟨a,uH X G e,⟨_,l,hc,hd⟩,λH=>.inr ⟨_,its,n,l,hc,rfl,hz,r⟩⟩
theorem tx_rev (bs:List Bool):revS (tx bs)=tx bs.reverse:=by unfold revS tx;simp
theorem YL {α β γ:Type}{F:α->γ->Prop}(g:β->γ){us:List α}{es:List β}(h:Paired (λu e=>F u (g e)) us es):Paired F us (es.map g):=by
 induction h with
 | nil=>exact .nil
 | cons r _ ih=>exact .cons r ih
theorem YK {n:Nat}(h:n<=1000):Builtin.Range.small ((n:Int)-1) (-1) (-1)=true:=by
 unfold Builtin.Range.small;simp only [Builtin.Range.rangeFitsLong,Builtin.Range.rangeSize,wx,qP,w8,xC,show ¬ ((-1:Int) > 0) by decide,yO];have e:((n:Int)-1 - -1-1) / - -1=(n:Int)-1:=by rw [show (- -1:Int)=1 by decide,lq];omega
 rw [e];split<;>omega
theorem YJ (n:Nat):rngN ((n:Int)-1) (-1) (-1)=n:=by
 unfold rngN Builtin.Range.rangeSize;rw [if_neg (by decide)];have e:((n:Int)-1 - -1-1) / - -1=(n:Int)-1:=by rw [show (- -1:Int)=1 by decide,lq];omega
 rw [e];split;{omega};{omega}
def kI:Kd->Nat
 | .l=>0
 | .b=>1
 | .r=>2
theorem kI_of (ps:List Nat):kI (kdOf ps)=kN ps:=by
 unfold kdOf kN;split;{rfl}
 . by_cases c:16<=(runsOf ps).length
   . rw [if_pos c,if_pos (by lia)];rfl
   . rw [if_neg c,if_neg (by lia)];rfl
theorem sz_of (ps:List Nat):szS (kdOf ps) ps=szB (kN ps) ps:=by rw [<- kI_of];generalize kdOf ps=k;cases k<;>rfl
theorem vw (a b:List Bool):tx a++tx b=tx (a++b):=by show (⟨(tx a).cps++(tx b).cps⟩:Str)=_;unfold tx;rw [zD];simp
theorem bW:∀ rs:List (Nat × Nat),(rs.map λr=>bitsB r.1 8++bitsB r.2 8).flatten=(rs.flatMap λr=>[bitsB r.1 8,bitsB r.2 8]).flatten
 | []=>rfl
 | r::rs=>by
   rw [zL,yI,bW rs,vm,xO];show _=(bitsB r.1 8++(bitsB r.2 8++[]))++_;rw [yx]
theorem bV (n:Nat):∀ m:Nat,lowB n m=(List.range m).map λi=>n.testBit i
 | 0=>rfl
 | m+1=>by rw [i6,bV n m,tw,zD,zL,sJ,iJ]
theorem bits_wd (u:Up 0 ps):(bitsB (wd ps) 256).reverse=(List.range 256).map λp=>decide (p∈ps):=by unfold bitsB;rw [List.reverse_reverse,bV];exact xG λi _=>vz u i
theorem wd_lt256 (u:Up 0 ps)(h:∀ p∈ps,p<256):wd ps<2^256:=by rw [<- YM u h];have:=rS ((List.range 256).map λp=>decide (p∈ps)).reverse;rw [xQ,zg,ym] at this;exact this
section
variable {c:Kd->Addr}
def spBitsText:Sp:=λvs H Q _=>∃ bs:List Bool,vs=[.int (numA 0 bs:Nat),.int bs.length]/\bs.length<=400/\∀ H',Same H H'->Q (.str (tx bs)) H'
theorem YI (B:Blt mg) (jA:FnAt P w K mg base "bit_at" ["word","place"] 1 spBit) (d:DefAt K mg "bits_text" rC ["number","many"]):FnAt P w K mg base "bits_text" ["number","many"] 2 spBitsText:=by
 refine FnAt.of d ja3 ?_ ?_;ext c;have nd:=ja3.nd;obtain ⟨bs,rfl,hb,q⟩:=h;refine ⟨_,(zo (zd (yt K vv vt vq (vV K) xr (zy (xZ ["place"] [0] rfl (Z3 rfl B.range (zy (zw yA (pv 1) zu) (zy (vb ua zu) (zy (vb ua zu) zx)))) (λ_ _ _ _ _=>yM (i:=0) (by show List.Nodup (["place","number"]:List Str);decide +kernel) rfl (Or.inl rfl)) (λ_ _ _ _ _=>xa) (λ_ _ _ _ _=>(wY gg rfl B.str boot_str (zy (zc jA (zy (pv 1) (zy (pv 0) zx))) zx))) ⟨⟨_,rfl,rfl,.inl rfl⟩,trivial⟩ xq) zx)))),?_⟩;ext a;refine ⟨_,_,_,⟨rfl,rfl,rfl⟩,by decide,by decide,YK (by omega),?_⟩;rw [YJ];refine compF (λ_=>true) (λi=>.str (sg (bs.getD i false))) (by omega) (λi H2 R hi s h=>h) (λi H2 R hi _ s h=>?_) (λD hD=>?_)
 . ext a;have e:(bs.length:Int)-1+(i:Int)*-1=((bs.length-1-i:Nat):Int):=by omega
   refine ⟨numA 0 bs,bs.length-1-i,by rw [e],?_⟩;rw [lG bs i hi];generalize bs.getD i false=b at h;cases b;{exact ⟨_,rfl,by decide,h⟩};{exact ⟨_,rfl,by decide,h⟩}
 . refine ⟨D,rfl,bs.map sg,SqL.of ?_,?_,?_⟩
   . rw [zq,uB.mpr (λ_ _=>rfl),zF];congr 2
     apply vk;{simp}
     . intro i h1 h2;have:i<bs.length:=by simpa using h2
       simp [xy,zO this]
   . rw [n9,zg];show bs.length+bs.length*0<=_;omega
   . rw [i9];exact q _ λa o e=>by rw [zr (zI e hD)];exact e
def spBitsT:Sp:=λvs H Q _=>∃ (n m:Nat),vs=[.int n,.int m]/\n<2^m/\m<=400/\∀ H',Same H H'->Q (.str (tx (bitsB n m))) H'
theorem YH (B:Blt mg)(jA:FnAt P w K mg base "bit_at" ["word","place"] 1 spBit)(d:DefAt K mg "bits_text" rC ["number","many"]):FnAt P w K mg base "bits_text" ["number","many"] 2 spBitsT:=by
 refine (YI B jA d).imp λvs H Q E h=>?_
 obtain ⟨n,m,rfl,hn,hm,q⟩:=h;exact ⟨bitsB n m,by rw [bq m n hn,yU],by rw [yU];exact hm,q⟩
def spHp:Sp:=λvs H Q _=>∃ i:Nat,vs=[.int i]/\Q (.int (hp i:Nat)) H
theorem ok_hp (cM:∃ t,mg "MANY_SIGNS"=some (.int 9 t))(cH:∃ t,mg "HEAD_SIGNS"=some (.int 40 t))(d:DefAt K mg "head_place" oj ["at"]):FnAt P w K mg base "head_place" ["at"] 1 spHp:=by obtain ⟨t1,ji⟩:=cM;obtain ⟨t2,ju⟩:=cH;refine FnAt.of d jaL ?_ ?_;ext c;have nd:=jaL.nd;obtain ⟨i,rfl,q⟩:=h;refine ⟨_,(zo (zd (zw zN (zK ji) (zw xc (zK ju) (pv 0))))),?_⟩;ext a;rw [show (9:Int)+40*(i:Int)=((hp i:Nat):Int) by unfold hp;lia];exact q
def KndsAt (K:zj)(mg:Str->Option Value):Prop:=∃ a,mg "KINDS"=some (.ref a)/\(∃ o,K.lookup a=some o/\o.cls=.type "tuple"/\o.dict=none)/\∀ H,SqT K H a [.str (Str.ofString "list"),.str (Str.ofString "bits"),.str (Str.ofString "runs")]
def spHeadT:Sp:=λvs H Q _=>∃ (key last stop:Nat) (k:Kd),vs=[.int key,.str (kS k),.int last,.int stop]/\key<256/\last<65536/\stop<16384/\∀ H',Same H H'->Q (.str (tx (bitsB key 8++(bitsB (kI k) 2++(bitsB last 16++bitsB stop 14))))) H'
theorem YG (cc:(∃ t,mg "KEY_SIGNS"=some (.int 8 t))/\(∃ t,mg "KIND_SIGNS"=some (.int 2 t))/\(∃ t,mg "LAST_SIGNS"=some (.int 16 t))/\(∃ t,mg "STOP_SIGNS"=some (.int 14 t)))(cK:KndsAt K mg)(jb:FnAt P w K mg base "bits_text" ["number","many"] 2 spBitsT)(d:DefAt K mg "head_text" oi ["key","kind","last","stop"]):FnAt P w K mg base "head_text" ["key","kind","last","stop"] 3 spHeadT:=by
 obtain ⟨⟨t1,jB⟩,⟨t2,jv⟩,⟨t3,jw⟩,⟨t4,jx⟩⟩:=cc;obtain ⟨T_KINDS,jbb,tyK,sK⟩:=cK;refine FnAt.of d ja4 ?_ ?_;ext c;have nd:=ja4.nd;obtain ⟨key,last,stop,k,rfl,k1,k2,k3,q⟩:=h;refine ⟨_,(zo (zd (zw tT (zw tT (zw tT (zc jb (zy (pv 0) (zy (zK jB) zx))) (zc jb (zy (yt K PySem.F.plainAttrs_tuple PySem.F.slot_tuple_index PySem.F.type_tuple_index (ZY K) (gx (v:=.ref T_KINDS) rfl jbb rfl) (zy (pv 1) zx)) (zy (zK jv) zx)))) (zc jb (zy (pv 2) (zy (zK jw) zx)))) (zc jb (zy (pv 3) (zy (zK jx) zx)))))),?_⟩;ext a;have ki:(if (Str.ofString "list"==kS k)=true then (0:Int) else if (Str.ofString "bits"==kS k)=true then 1 else 2)=(kI k:Int):=by cases k<;>decide +kernel
 have kany:(Str.ofString "list"==kS k||Str.ofString "bits"==kS k||Str.ofString "runs"==kS k)=true:=by cases k<;>decide +kernel
 have kl:kI k<4:=by cases k<;>decide
 have ln:∀ n m:Nat,(tx (bitsB n m)).length=m:=λn m=>by rw [xJ,yU]
 refine ⟨key,8,rfl,k1,by decide,λH1 s1=>⟨.inr (.inl ⟨rfl,tyK⟩),_,_,_,sK H1,kany,?_⟩⟩;rw [ki];refine ⟨kI k,2,rfl,kl,by decide,λH2 s2=>⟨_,rfl,_,rfl,by rw [ln,ln];decide,last,16,rfl,k2,by decide,λH3 s3=>⟨_,rfl,?_,stop,14,rfl,k3,by decide,λH4 s4=>⟨_,rfl,?_,?_⟩⟩⟩⟩;{rw [vw,xJ,zh,yU,yU,ln];decide};{rw [vw,vw,xJ,zh,zh,yU,yU,yU,ln];decide};{rw [vw,vw,vw,zX,zX];exact q H4 (((s1.trans s2).trans s3).trans s4)}
def spBodyX (c:Kd->Addr):Sp:=λvs H Q _=>∃ (a:Addr) (k:Kd) (ps:List Nat),vs=[.ref a]/\StAt c k H a ps/\Up 0 ps/\(∀ p∈ps,p<256)/\∀ H',Same H H'->Q (.str (tx (bodyF (kI k) ps).flatten)) H'
theorem YF (B:Blt mg) (cP:∃ t,mg "PLACES"=some (.int 256 t)) (cB:∃ t,mg "BYTE_SIGNS"=some (.int 8 t)) (jb:FnAt P w K mg base "bits_text" ["number","many"] 2 spBitsT) (hT:∀ k,MethAt P w K mg base (c k) "told" ["self"] 5 (spToldS c k)) (d:DefAt K mg "body_text" oh ["stretch"]):FnAt P w K mg base "body_text" ["stretch"] 6 (spBodyX c):=by
 obtain ⟨t1,ja⟩:=cP;obtain ⟨t2,jd⟩:=cB;refine FnAt.of d ja5 ?_ ?_;ext c;have nd:=ja5.nd;obtain ⟨a,k,ps,rfl,st,u,l256,q⟩:=h;refine ⟨_,(zp (qI (xo P w K mg base 5 (pv 0)) (vT K rfl (yR (yj 1) (yR (yj 2) ve)))) (zp (yu (zG yL (pv 1) xr) (zo (zd (yt K vv vt vq (vV K) xr (zy (xZ ["place"] [] rfl (yK K (pv 2)) (λ_ _ _ _ _=>yM (i:=0) (by show List.Nodup (["place"]:List Str);decide +kernel) rfl (Or.inl rfl)) (λ_ _ _ _ _=>xa) (λ_ _ _ _ _=>(zc jb (zy (pv 0) (zy (zK jd) zx)))) trivial xq) zx)))) yh) (zp (yu (zG yL (pv 1) xr) (zo (zd (pe_revS (zc jb (zy (pv 2) (zy (zK ja) zx))) (vb ua zu)))) yh) (zo (zd (yt K vv vt vq (vV K) xr (zy (xZ ["first","last"] [] rfl (yK K (pv 2)) (λ_ _ _ _ _=>vT (n:=2) K rfl (yR (yM (i:=0) (by show List.Nodup (["first","last"]:List Str);decide +kernel) rfl (Or.inl rfl)) (yR (yM (i:=1) (by show List.Nodup (["first","last"]:List Str);decide +kernel) rfl (Or.inl rfl)) ve))) (λ_ _ _ _ _=>xa) (λ_ _ _ _ _=>(zw tT (zc jb (zy (pv 0) (zy (zK jd) zx))) (zc jb (zy (pv 1) (zy (zK jd) zx))))) trivial ZI) zx))))))),?_⟩
 refine za λkk hk=>?_
 ext a;obtain ⟨dx,fs,ha,nf⟩:=st.obj;refine yf ha nf.2.2.2.2.1 (hT k) ⟨a,ps,rfl,st,λt v H1 s1 ht bi=>⟨t,rfl,_,SqT.of ht,rfl,_,_,rfl,_,_,rfl,rfl,hk _ _ (za λkk hk=>?_)⟩⟩;have l6:=Up.lt256 u l256;cases k with
 | l =>
   obtain ⟨l,rfl,hl⟩:=bi;ext a;rw [if_pos (by decide +kernel)];refine ⟨⟨_,SqL.of hl⟩,compV (λi=>.str (tx (bitsB (ps[i]?.getD 0) 8))) (SqL.of hl) (by rw [zH];lia) (λi x H2 R hx s2 r=>?_) (λD H2 nD s2 hD=>?_)⟩;{obtain ⟨p,ep,rfl⟩:=vW hx;rw [ep] at r;ext a;exact ⟨p,8,rfl,l256 p (yb ep),by decide,r⟩}
   . have eD:H2 D=some (.lst (((bodyF 0 ps).map tx).map V.str)):=by
       rw [hD,zH];unfold bodyF;rw [if_pos rfl,zF,zF];refine congrArg (λz=>some (HO.lst z)) (vk (by rw [zg,zg,ym]) λi a1 a2=>?_);rw [zg,ym] at a1;rw [vj,vj,sO,zO a1];rfl
     refine ⟨D,rfl,(bodyF 0 ps).map tx,SqL.of eD,?_,?_⟩;{rw [uN,show (Str.ofString "").length=0 from rfl];have:=(qr (kd:=0) l6).2;lia}
     . rw [show Txt.join (Str.ofString "") ((bodyF 0 ps).map tx)=tx (bodyF 0 ps).flatten from uO _];exact q H2 (s1.trans s2)
 | b =>
   cases (show v=_ from bi);ext a;rw [if_neg (by decide +kernel)];refine hk _ _ (za λkk hk=>?_);ext a;rw [if_pos (by decide +kernel)];refine ⟨wd ps,256,rfl,wd_lt256 u l256,by decide,λH2 s2=>⟨_,rfl,by rw [xJ,yU];decide,?_⟩⟩;rw [tx_rev,bits_wd u];have eb:(bodyF 1 ps).flatten=(List.range 256).map λp=>decide (p∈ps):=by unfold bodyF;simp
   rw [<- eb];exact q H2 (s1.trans s2)
 | r =>
   obtain ⟨l,rfl,us,hl,tu⟩:=bi;ext a;rw [if_neg (by decide +kernel)];refine hk _ _ (za λkk hk=>?_);ext a;rw [if_neg (by decide +kernel)];refine hk _ _ ?_;ext a;refine ⟨⟨_,SqL.of hl⟩,compG (n:=us.length) (λD i ys H2=>i<=us.length/\Same H1 H2/\H2 D=some (.lst ys)/\ys=(((runsOf ps).take i).map λr=>V.str (tx (bitsB r.1 8++bitsB r.2 8)))) (λD hD=>⟨zV _,Same.new hD,zq,rfl⟩) (λD i ys H2 h=>h.1) (λD ys H2 hD h=>⟨us,h.2.1.seq (SqL.of hl),zk _⟩) (λD i ys H2 hD hi h=>⟨us,_,h.2.1.seq (SqL.of hl),zO hi⟩) ?_ ?_⟩
   . rintro D i ys H2 x H3 hD hi ⟨_,s2,h2,rfl⟩ ⟨rfl,y⟩;have hx:=y us (s2.seq (SqL.of hl));have rl:=pq ps;have il:i<(runsOf ps).length:=by rw [<- tu.length];exact hi
     have er:=zO il;obtain ⟨t,rfl,ht⟩:=kJ tu hx er;generalize (runsOf ps)[i]=r at er ht;have rin:=yb er;have h1:=gD l256 r rin;have h2':=px ps r rin;have tk:(runsOf ps).take (i+1)=(runsOf ps).take i++[r]:=by rw [yG,er];rfl
     simp only [gTup,gCons,gName,gNil];refine ⟨t,_,rfl,.inl (.inl (s2 _ _ ht)),rfl,_,_,rfl,_,_,rfl,rfl,?_⟩;ext a;refine ⟨r.1,8,rfl,by show _<256;lia,by decide,λH4 s4=>⟨r.2,8,rfl,by show _<256;lia,by decide,λH5 s5=>⟨_,rfl,_,rfl,by rw [xJ,xJ,yU,yU];decide,?_⟩⟩⟩;rw [vw];refine compYes (by rw [tu.length];lia) hi (by rw [zg,zE];lia) ((s4.trans s5) _ _ h2) ⟨hi,((s2.trans s4).trans s5).put hD,zq,?_⟩;rw [tk,zD];rfl
   . rintro D ys H2 hD ⟨_,s2,h2,rfl⟩;rw [tu.length,uh] at h2;have fe:((runsOf ps).map λr=>bitsB r.1 8++bitsB r.2 8).flatten=(bodyF 2 ps).flatten:=by
       unfold bodyF;rw [if_neg (by decide),if_neg (by decide)];exact bW _
     refine ⟨D,rfl,((runsOf ps).map λr=>bitsB r.1 8++bitsB r.2 8).map tx,SqL.of (by rw [h2,zF,zF];rfl),?_,?_⟩;{rw [uN,fe,show (Str.ofString "").length=0 from rfl];have:=(qr (kd:=2) l6).2;lia};{rw [show Txt.join (Str.ofString "") (((runsOf ps).map λr=>bitsB r.1 8++bitsB r.2 8).map tx)=tx ((runsOf ps).map λr=>bitsB r.1 8++bitsB r.2 8).flatten from uO _,fe];exact q H2 (s1.trans s2)}
end
def headsW:Nat->Nat->List (Ent × Nat)->List (List Bool)
 | _,_,[]=>[]
 | m,s,x::r=>(headOf m s x).flatten::headsW (m+x.1.ps.length) (s+lenB x) r
def bodiesW (l:List (Ent × Nat)):List (List Bool):=l.map λx=>(bodyF x.2 x.1.ps).flatten
theorem bU (x:Ent × Nat):∀ (l:List (Ent × Nat)) (m s:Nat),headsW m s (l++[x])=headsW m s l++[(headOf (m+totN l) (s+totB l) x).flatten]
 | [],m,s=>rfl
 | y::r,m,s=>by
   show (headOf m s y).flatten::headsW _ _ (r++[x])=((headOf m s y).flatten::headsW _ _ r)++[(headOf (m+(y.1.ps.length+totN r)) (s+(lenB y+totB r)) x).flatten]
   rw [bU x r,wF,wF];rfl
theorem iy:∀ (l:List (Ent × Nat)) (m s:Nat),(headsW m s l).length=l.length
 | [],_,_=>rfl
 | x::r,m,s=>by
   show (headsW _ _ r).length+1=r.length+1;rw [iy r]
theorem iw:∀ (l:List (Ent × Nat)) (m s:Nat),(headsW m s l).flatten=(headsF m s l).flatten
 | [],_,_=>rfl
 | x::r,m,s=>by
   show ((headOf m s x).flatten::headsW _ _ r).flatten=(headOf m s x++headsF _ _ r).flatten;rw [yI,iw r,xO]
theorem iu:∀ l:List (Ent × Nat),(bodiesW l).flatten=(bodiesF l).flatten
 | []=>rfl
 | x::r=>by
   show ((bodyF x.2 x.1.ps).flatten::bodiesW r).flatten=(bodyF x.2 x.1.ps++bodiesF r).flatten;rw [yI,iu r,xO]
theorem iq:∀ {es:List Ent},(∀ e∈es,e.ps≠[]/\Up 0 e.ps/\e.ps.length<=256)->totN (rwE es)<=256*es.length/\totB (rwE es)<=32*es.length
 | [],_=>⟨zk _,zk _⟩
 | e::es,h=>by
   obtain ⟨i1,i2⟩:=iq λx hx=>h x (.tail _ hx)
   obtain ⟨a,b,d⟩:=h e (.head _);have:=(lenB_le a b).2.2;show totN ((e,kN e.ps)::rwE es)<=256*(es.length+1)/\totB ((e,kN e.ps)::rwE es)<=32*(es.length+1);rw [YO,iz];exact ⟨by show e.ps.length+_<=_;lia,by lia⟩
theorem esRow {es:List Ent}(ok:EsOk es):∀ e∈es,e.ps≠[]/\Up 0 e.ps/\e.ps.length<=256:=λe he=>⟨ok.ne e he,ok.pup e he,Up.lt256 (ok.pup e he) (ok.plt e he)⟩
theorem bT {es:List Ent}(ok:EsOk es):(TPe es).length<=80000:=by have h1:=qu ok;have h2:=(iq (esRow ok)).2;rw [TE_len];unfold hp;lia
theorem bS:∀ es:List Ent,(szE es).sum=totB (rwE es)
 | []=>rfl
 | e::es=>by
   show szS (kdOf e.ps) e.ps+(szE es).sum=totB ((e,kN e.ps)::rwE es);rw [iz,bS es,nu,sz_of]
theorem stV_ent {es:List Ent}(ok:EsOk es){e:Ent}(he:e∈es):stV e.key es=.ref e.loc:=by
 rcases wm e.key ok.up with z | ⟨e',z1,z2,z3⟩
 . have:e∈miE e.key es:=yv.mpr ⟨he,zJ rfl⟩;rw [z] at this;cases this
 . have:e∈miE e.key es:=yv.mpr ⟨he,zJ rfl⟩;rw [z1,zS] at this;rw [(wO z1).1,this]
theorem YE {es es':List Ent} (e:es.map kpE=es'.map kpE):TPe es=TPe es':=by
 have h:∀ (es es':List Ent) (m s:Nat),es.map kpE=es'.map kpE->headsF m s (rwE es)=headsF m s (rwE es')/\bodiesF (rwE es)=bodiesF (rwE es')/\es.length=es'.length:=λes=>by
   induction es with
   | nil =>
     intro es' m s h;cases es' with
     | nil=>exact ⟨rfl,rfl,rfl⟩
     | cons=>cases h
   | cons a r ih =>
     intro es' m s h;cases es' with
     | nil=>cases h
     | cons b t =>
       obtain ⟨h1,h2⟩:=List.cons.inj h;have k:a.key=b.key:=congrArg Prod.fst h1;have p:a.ps=b.ps:=congrArg Prod.snd h1;obtain ⟨j1,j2,j3⟩:=ih t (m+a.ps.length) (s+lenB (a,kN a.ps)) h2;have hl:lenB (a,kN a.ps)=lenB (b,kN b.ps):=by unfold lenB;rw [p]
       refine ⟨?_,?_,by rw [zZ,zZ,j3]⟩;{show headOf m s (a,kN a.ps)++headsF (m+a.ps.length) (s+lenB (a,kN a.ps)) (rwE r)=headOf m s (b,kN b.ps)++headsF (m+b.ps.length) (s+lenB (b,kN b.ps)) (rwE t);rw [j1];unfold headOf;rw [hl,p,k]};{show bodyF (kN a.ps) a.ps++bodiesF (rwE r)=bodyF (kN b.ps) b.ps++bodiesF (rwE t);rw [j2,p]}
 obtain ⟨h1,h2,h3⟩:=h es es' 0 0 e;rw [qq,qq,h1,h2,h3]
def spWritten (c:Kd->Addr)(CM:Addr)(ts:Tabs):Sp:=λvs H Q _=>∃ (m:Addr) (es:List Ent),vs=[.ref m]/\MkAt c CM (noT H) m es/\EsOk es/\Tbs ts H/\∀ H',Nx ts H H'->Q (.str (tx (TPe es))) H'
structure WrI (ts:Tabs)(m l F Bd:Addr)(es:List Ent)(H:Hp)(i:Nat)(σ:L2.St)(H':Hp):Prop where
 ex:∃ v5 v6:Option V,σ=[some (.ref m),some (.ref F),some (.ref Bd),some (.int (totN (rwE (es.take i)):Nat)),some (.int (totB (rwE (es.take i)):Nat)),v5,v6]
 nx:Nx ts H H'
 hl:noT H' l=some (.lst (pint (kys es)))
 hF:noT H' F=some (.lst (txs (headsW 0 0 (rwE (es.take i)))))
 hB:noT H' Bd=some (.lst (txs (bodiesW (rwE (es.take i)))))
section
variable {c:Kd->Addr}{ts:Tabs}
theorem YD (B:Blt mg)(cM:∃ t,mg "MANY_SIGNS"=some (.int 9 t))(jb:FnAt P w K mg base "bits_text" ["number","many"] 2 spBitsT)(jax:FnAt P w K mg base "head_text" ["key","kind","last","stop"] 3 spHeadT)(jay:FnAt P w K mg base "body_text" ["stretch"] 6 (spBodyX c))(jz:MethAt P w K mg base CM "key_list" ["self"] 1 (spKeyList c CM))(je:MethAt P w K mg base CM "stretch_at" ["self","key"] 5 (spStAt c CM ts))(hn:∀ k,MethAt P w K mg base (c k) "many" ["self"] 5 (spManyM c k))(hs:∀ k,MethAt P w K mg base (c k) "size" ["self"] 4 (spSizeM c k))(hk0:∀ k,MethAt P w K mg base (c k) "kind" ["self"] 4 (spKindS k))(d:DefAt K mg "written" s_written ["marks"]):FnAt P w K mg base "written" ["marks"] 7 (spWritten c CM ts):=by
 obtain ⟨t1,ji⟩:=cM;refine FnAt.of d jai ?_ ?_;ext c;have nd:=jai.nd;obtain ⟨m,es,rfl,hm,ok,tb,q⟩:=h;refine ⟨_,(zp (zb 1 (yg zx)) (zp (zb 2 (yg zx)) (zp (zb 3 zu) (zp (zb 4 zu) (zp (xg yF rfl (yK K (xo P w K mg base 1 (pv 0))) (yj 5) (zp (zb 6 (yJ P w K mg base 5 (pv 0) (zy (pv 5) zx))) (zp (ps_aug (i:=3) jai.nd rfl (by ext g) (xo P w K mg base 5 (pv 6)) ip_add) (zp (ps_aug (i:=4) jai.nd rfl (by ext g) (xo P w K mg base 4 (pv 6)) ip_add) (zp (yz (yt K yP xY xX xb (pv 1) (zy (zc jax (zy (pv 5) (zy (xo P w K mg base 4 (pv 6)) (zy (zw yA (pv 3) zu) (zy (pv 4) zx))))) zx))) (zo (yz (yt K yP xY xX xb (pv 2) (zy (zc jay (zy (pv 6) zx)) zx))))))))) (zo (zd (zw tT (zw tT (zc jb (zy (yk (xp K) rfl B.len yE (zy (pv 1) zx)) (zy (zK ji) zx))) (yt K vv vt vq (vV K) xr (zy (pv 1) zx))) (yt K vv vt vq (vV K) xr (zy (pv 2) zx)))))))))),?_⟩
 have les:=qu ok;have row:=(esRow ok)
 refine za λk hk=>?_
 ext a;refine ⟨by decide,λF nF=>hk _ _ (za λk hk=>?_)⟩;have n1:=Nx.new (o':=.lst []) tb nF;have hF1:noT (upd H F (.lst [])) F=some (.lst []):=nU;have nFT:=wq nF;generalize upd H F (.lst [])=H1 at n1 hF1;ext a;refine ⟨by decide,λBd nB=>hk _ _ (za λk hk=>?_)⟩;have x2:=Nx.new (o':=.lst []) n1.tb nB;have hB2:noT (upd H1 Bd (.lst [])) Bd=some (.lst []):=nU;have nBT1:=wq nB;have nBT:noT H Bd=none:=by
   cases e:noT H Bd with
   | none=>rfl
   | some o =>
     have:=n1.at e;rw [nBT1] at this;cases this
 generalize upd H1 Bd (.lst [])=H2 at x2 hB2;have n2:=n1.trans x2;have hF2:=x2.at hF1;have FB:F≠Bd:=λz=>by rw [<- z,hF1] at nBT1;cases nBT1
 ext a;refine hk _ _ (za λk hk=>?_);ext a;refine hk _ _ (za λk hk=>?_);ext a;have o1:∀ {H6},Nx ts H H6->MkAt c CM (noT H6) m es:=λn=>hm.same n.same
 obtain ⟨dx,kd,ah,sr,ho,_⟩:=(o1 n2).ex;refine yf (oT ho) rfl jz ⟨m,es,rfl,o1 n2,λl nl0=>?_⟩;have x3:=Nx.new (o':=.lst (pint (kys es))) x2.tb nl0;have hl3:noT (upd H2 l (.lst (pint (kys es)))) l=some (.lst (pint (kys es))):=nU;have nlT:=wq nl0;generalize upd H2 l (.lst (pint (kys es)))=H3 at x3 hl3;have lF:l≠F:=λz=>by rw [z,hF2] at nlT;cases nlT
 have lB:l≠Bd:=λz=>by rw [z,hB2] at nlT;cases nlT
 refine ⟨l,rfl,⟨_,sL hl3⟩,loopL (K:=K) (xs:=pint (kys es)) (WrI ts m l F Bd es H) ⟨⟨_,_,rfl⟩,n2.trans x3,hl3,x3.at hF2,x3.at hB2⟩ (λi σ H4 _ h=>sL h.hl) ?_ ?_⟩
 . rintro i x σ H4 hx ⟨⟨v5,v6,rfl⟩,nx,hl,hF,hB⟩;obtain ⟨kk,hkk,rfl⟩:=vW hx;have il:i<es.length:=by have:=(xT.mp hkk).1;unfold kys at this;rwa [zg] at this
   have he:es[i]?=some es[i]:=zO il;generalize es[i]=e at he;obtain rfl:kk=e.key:=by rw [cA he] at hkk;exact (Option.some.inj hkk).symm
   have hin:=yb he;obtain ⟨e1,e2,e3⟩:=row e hin;have tk:rwE (es.take (i+1))=rwE (es.take i)++[(e,kN e.ps)]:=by rw [yG,he,rwE_app];rfl
   have tn:totN (rwE (es.take (i+1)))=totN (rwE (es.take i))+e.ps.length:=by rw [tk,ny]
   have tBq:totB (rwE (es.take (i+1)))=totB (rwE (es.take i))+lenB (e,kN e.ps):=by rw [tk,i4]
   obtain ⟨b1,b2⟩:=iq (es:=es.take (i+1)) λx hx=>row x (xH hx)
   rw [zE] at b1 b2;have pos:1<=e.ps.length:=by
     cases h:e.ps with
     | nil=>exact absurd h e1
     | cons=>exact mK (zV _)
   rw [gName];refine za λk2 hk2=>?_
   ext a;obtain ⟨dx4,_,_,_,ho4,_⟩:=(o1 nx).ex;refine yf (oT ho4) rfl je ⟨m,e.key,es,rfl,o1 nx,ok,nx.tb,λH5 x5=>hk2 _ _ (za λk2 hk2=>?_)⟩;rw [stV_ent ok hin];have n5:=nx.trans x5;have st:=((o1 n5).st e hin).same noT_sub;obtain ⟨dx5,fs5,ho5,nf5⟩:=st.obj;have hl5:=x5.at hl;have hF5:=x5.at hF;have hB5:=x5.at hB;ext a;refine yf ho5 nf5.2.2.2.2.2.1 (hn _) ⟨e.loc,e.ps,rfl,st,e2,ok.plt e hin,_,rfl,hk2 _ _ (za λk2 hk2=>?_)⟩;ext a;refine yf ho5 nf5.2.2.2.1 (hs _) ⟨e.loc,e.ps,rfl,st,_,rfl,hk2 _ _ (za λk2 hk2=>?_)⟩;rw [show ((totN (rwE (es.take i)):Nat):Int)+(e.ps.length:Int)=((totN (rwE (es.take (i+1))):Nat):Int) by rw [tn];lia,show ((totB (rwE (es.take i)):Nat):Int)+((szS (kdOf e.ps) e.ps:Nat):Int)=((totB (rwE (es.take (i+1))):Nat):Int) by rw [tBq,nu,sz_of];show _=((_+szB (kN e.ps) e.ps:Nat):Int);lia];ext a;rw [show ((totN (rwE (es.take (i+1))):Nat):Int)-1=((totN (rwE (es.take (i+1)))-1:Nat):Int) by lia];have eh:bitsB e.key 8++(bitsB (kI (kdOf e.ps)) 2++(bitsB (totN (rwE (es.take (i+1)))-1) 16++bitsB (totB (rwE (es.take (i+1)))) 14))=(headOf (totN (rwE (es.take i))) (totB (rwE (es.take i))) (e,kN e.ps)).flatten:=by
     rw [kI_of,tn,tBq];show _=bitsB e.key 8++(bitsB (kN e.ps) 2++(bitsB (_+e.ps.length-1) 16++(bitsB (_+lenB (e,kN e.ps)) 14++[])))
     rw [yx]
   have lw:(txs (headsW 0 0 (rwE (es.take i)))).length<sizeLine:=by unfold txs;rw [zg,iy,tI,zE];exact small1000 (by lia)
   have lw2:(txs (bodiesW (rwE (es.take i)))).length<sizeLine:=by unfold txs bodiesW;rw [zg,zg,tI,zE];exact small1000 (by lia)
   refine ⟨⟨_,sL hF5⟩,yf ho5 nf5.1 (hk0 _) ⟨e.loc,rfl,e.key,_,_,kdOf e.ps,rfl,ok.klt e hin,by lia,by lia,λH6 s6=>⟨_,s6 _ _ (oT hF5),lw,hk2 _ _ ?_⟩⟩⟩;rw [eh];have x6:=n5.tb.nx s6;have hl6:=x6.at hl5;have hB6:=x6.at hB5;have n7:=(n5.trans x6).put (o':=.lst (txs (headsW 0 0 (rwE (es.take i)))++[V.str (tx (headOf (totN (rwE (es.take i))) (totB (rwE (es.take i))) (e,kN e.ps)).flatten)])) nFT (s6 _ _ (oT hF5)) trivial;have hF7:noT (upd H6 F (.lst (txs (headsW 0 0 (rwE (es.take i)))++[V.str (tx (headOf (totN (rwE (es.take i))) (totB (rwE (es.take i))) (e,kN e.ps)).flatten)]))) F=some (.lst (txs (headsW 0 0 (rwE (es.take (i+1)))))):=by rw [tk,bU,uP,yX,yX];exact nU
   have hl7:=zM ((zr (o:=.lst (txs (headsW 0 0 (rwE (es.take i)))++[V.str (tx (headOf (totN (rwE (es.take i))) (totB (rwE (es.take i))) (e,kN e.ps)).flatten)])) lF).trans (oT hl6)) (xM hl6).2;have hB7:=zM ((zr (o:=.lst (txs (headsW 0 0 (rwE (es.take i)))++[V.str (tx (headOf (totN (rwE (es.take i))) (totB (rwE (es.take i))) (e,kN e.ps)).flatten)])) (Ne.symm FB)).trans (oT hB6)) (xM hB6).2;generalize upd H6 F (.lst (txs (headsW 0 0 (rwE (es.take i)))++[V.str (tx (headOf (totN (rwE (es.take i))) (totB (rwE (es.take i))) (e,kN e.ps)).flatten)]))=H7 at n7 hF7 hl7 hB7;have st7:=((o1 n7).st e hin).same noT_sub;ext a;refine ⟨⟨_,sL hB7⟩,e.loc,kdOf e.ps,e.ps,rfl,st7,e2,ok.plt e hin,λH8 s8=>⟨_,s8 _ _ (oT hB7),lw2,?_⟩⟩;have x8:=n7.tb.nx s8;have hl8:=x8.at hl7;have hF8:=x8.at hF7;refine ⟨⟨_,_,rfl⟩,(n7.trans x8).put nBT (s8 _ _ (oT hB7)) trivial,zM ((zr lB).trans (oT hl8)) (xM hl8).2,zM ((zr FB).trans (oT hF8)) (xM hF8).2,?_⟩;rw [tk,kI_of];unfold bodiesW;rw [zD,uP];exact nU
 . rintro σ H4 ⟨⟨v5,v6,rfl⟩,nx,hl,hF,hB⟩;refine hk _ _ ?_;have ek:(pint (kys es)).length=es.length:=by rw [zH];unfold kys;rw [zg]
   rw [ek,uh] at hF hB;ext a;have lh:(txs (headsW 0 0 (rwE es))).length=es.length:=by unfold txs;rw [zg,iy,tI]
   have te:=bT ok;rw [qq,<- iw,<- iu,zh,zh,yU] at te;have j1:Txt.join (Str.ofString "") ((headsW 0 0 (rwE es)).map tx)=tx (headsW 0 0 (rwE es)).flatten:=uO _;have j2:Txt.join (Str.ofString "") ((bodiesW (rwE es)).map tx)=tx (bodiesW (rwE es)).flatten:=uO _;have z0:(Str.ofString "").length=0:=rfl;refine ⟨_,.inl (sL hF),es.length,9,by rw [lh];rfl,by show _<512;lia,by decide,λH5 s5=>⟨(headsW 0 0 (rwE es)).map tx,SqL.of ?_,?_,_,rfl,?_,(bodiesW (rwE es)).map tx,SqL.of ?_,?_,?_,?_⟩⟩;{rw [zF];exact s5 _ _ (oT hF)};{rw [uN,z0];lia};{rw [j1,xJ,xJ,yU];exact small5 (by lia)};{rw [zF];exact s5 _ _ (oT hB)};{rw [uN,z0];lia};{rw [j1,j2,vw,xJ,xJ,zh,yU];exact small5 (by lia)};{rw [j1,j2,vw,vw,iw,iu,zX,<- qq];exact q H5 (nx.trans (nx.tb.nx s5))}
def spTapeSize (c:Kd->Addr)(CM:Addr)(ts:Tabs):Sp:=λvs H Q _=>∃ (m:Addr) (es:List Ent),vs=[.ref m]/\MkAt c CM (noT H) m es/\EsOk es/\Tbs ts H/\∀ H',Nx ts H H'->Q (.int ((TPe es).length:Nat)) H'
theorem YC (B:Blt mg)(cB:∃ t,mg "BYTE_SIGNS"=some (.int 8 t))(jb9:FnAt P w K mg base "head_place" ["at"] 1 spHp)(jz:MethAt P w K mg base CM "key_list" ["self"] 1 (spKeyList c CM))(h_size:MethAt P w K mg base CM "size" ["self"] 5 (spSizeMM c CM ts))(d:DefAt K mg "tape_size" oe ["marks"]):FnAt P w K mg base "tape_size" ["marks"] 6 (spTapeSize c CM ts):=by
 obtain ⟨t1,jd⟩:=cB;refine FnAt.of d ja6 ?_ ?_;ext c;have nd:=ja6.nd;obtain ⟨m,es,rfl,hm,ok,tb,q⟩:=h;refine ⟨_,(zo (zd (zw zN (zc jb9 (zy (yk (xp K) rfl B.len yE (zy (xo P w K mg base 1 (pv 0)) zx)) zx)) (zw xc (zK jd) (xo P w K mg base 5 (pv 0)))))),?_⟩;ext a;obtain ⟨dx,kd,ah,sr,ho,_⟩:=hm.ex;refine yf (oT ho) rfl jz ⟨m,es,rfl,hm,λl nl0=>⟨l,rfl,_,.inl (SqL.of zq),?_⟩⟩;have n1:=Nx.new (o':=.lst (pint (kys es))) tb nl0;generalize upd H l (.lst (pint (kys es)))=H1 at n1;have ek:(pint (kys es)).length=es.length:=by rw [zH];unfold kys;rw [zg]
 have hm1:=hm.same n1.same;obtain ⟨dx1,kd1,ah1,sr1,ho1,_⟩:=hm1.ex;refine ⟨es.length,by rw [ek],yf (oT ho1) rfl h_size ⟨m,es,rfl,hm1,ok,n1.tb,λH2 n2=>⟨_,rfl,?_⟩⟩⟩;refine ⟨_,rfl,?_⟩;rw [show ((hp es.length:Nat):Int)+8*(((szE es).sum:Nat):Int)=(((TPe es).length:Nat):Int) by rw [TE_len,bS];lia];exact q H2 (n1.trans n2)
end
def spRight (c:Kd->Addr)(CM:Addr)(ts:Tabs):Sp:=λvs H Q _=>∃ (m a:Addr) (es:List Ent) (ns:List Nat),vs=[.ref m,.ref a]/\MkAt c CM (noT H) m es/\EsOk es/\noT H a=some (.lst (pint ns))/\ns.length<=7000/\(∀ n∈ns,n<65536)/\(∀ x,x∈flat es↔x∈ns)/\Tbs ts H/\∀ H',Nx ts H H'->Q (.bl true) H'
section
variable {c:Kd->Addr}{ts:Tabs}
theorem ok_right (B:Blt mg)(jbN:FnAt P w K mg base "_law_rows" ["_law_numbers_here"] 2 (spRowsT K))(jaS:FnAt P w K mg base "_law_fields" ["_law_rows_here"] 3 (spFieldsT K))(jbi:FnAt P w K mg base "written" ["marks"] 7 (spWritten c CM ts))(jaz:FnAt P w K mg base "tape_size" ["marks"] 6 (spTapeSize c CM ts))(jbj:FnAt P w K mg base "_law_whole" ["_law_found"] 1 spWhole)(d:DefAt K mg "_law_right" oE ["_law_marks","_law_numbers_here"]):FnAt P w K mg base "_law_right" ["_law_marks","_law_numbers_here"] 8 (spRight c CM ts):=by
 refine FnAt.of d jbI ?_ ?_;ext c;have nd:=jbI.nd;obtain ⟨m,a,es,ns,rfl,hm,ok,ha,n7,lt,mem,tb,q⟩:=h;refine ⟨_,(zp (zb 2 (yt K vv vt vq (vV K) xr (zy (zc jaS (zy (zc jbN (zy (pv 1) zx)) zx)) zx))) (zp (zb 3 (zc jbi (zy (pv 0) zx))) (zp (zb 4 (zc jaz (zy (pv 0) zx))) (zo (zd (vC (yk (rO K) rfl B.isi rP (zy (pv 3) (zy (rj (v:=.ty "str") rfl B.str boot_str rfl) zx))) (vC (pe_c yL (pv 3) (pv 2)) (vC (zc jbj (zy (pv 4) zx)) (tU (pe_c yL (pv 4) (yk gO rfl B.len yE (zy (pv 2) zx)))))))))))),?_⟩
 refine za λk hk=>?_
 ext a;refine ⟨a,ns,rfl,sL ha,n7,lt,λR us zs H1 s1 nR hR pr up mz=>?_⟩;have z65:∀ z∈zs,z<65536:=λz hz=>lt z ((mz z).mp hz)
 have ez:=bg up z65;have el:=bf up z65;refine ⟨R,us,rwE (entsOf zs),rfl,hR,YL (F:=RowK H1) (λe=>(e,kN e.ps)) pr,by rw [tI];exact el,λx hx=>?_,λr2 H2 s2 n2 hr2=>?_⟩;{obtain ⟨e,he,rfl⟩:=zR.mp hx;exact ⟨kN_le e.ps,ez.ne e he,Up.lt256 (ez.pup e he) (ez.plt e he),ez.plt e he⟩}
 have te:=bT ez;have eT:TPe (entsOf zs)=TPe es:=YE (kp_eq ez ok (by rw [YS up z65];exact Up.ext up ok.flat_up λx=>by rw [mz,mem]));refine ⟨r2,rfl,(fieldsT (rwE (entsOf zs))).map tx,by rw [zF];exact SqL.of hr2,?_,hk _ _ (za λk hk=>?_)⟩;{rw [uN,show (Str.ofString "").length=0 from rfl];have:(fieldsT (rwE (entsOf zs))).flatten.length<=80000:=te;lia}
 rw [show Txt.join (Str.ofString "") ((fieldsT (rwE (entsOf zs))).map tx)=tx (TPe (entsOf zs)) from uO _,eT];have n2:=tb.nx (s1.trans s2);ext a;refine ⟨m,es,rfl,hm.same n2.same,ok,n2.tb,λH3 x3=>hk _ _ (za λk hk=>?_)⟩;have n3:=n2.trans x3;ext a;refine ⟨m,es,rfl,hm.same n3.same,ok,n3.tb,λH4 x4=>hk _ _ ?_⟩;have n4:=n3.trans x4;ext a;refine rIsi_str ?_;refine ⟨_,rfl,?_⟩;rw [if_pos rfl];refine ⟨_,rfl,_,rfl,?_⟩;rw [if_pos rfl,xJ];refine ⟨small5 (by rw [<- eT];lia),?_⟩;rw [zJ rfl];exact q H4 n4
end
theorem filt_ne {zs:List Nat}{n:Nat}:((pint zs).filter λv=>match v with | .int i=>!decide (i=(n:Int)) | _=>false)=pint (zs.filter λz=>decide (z≠n)):=by
 unfold pint;rw [tq];refine congrArg (List.map _) (um λz _=>?_);show (!decide ((z:Int)=(n:Int)))=decide (z≠n);by_cases e:z=n;{rw [zJ (show (z:Int)=n by lia),yw (λh=>h e)];rfl};{rw [yw (show ¬(z:Int)=n by lia),zJ e];rfl}
def spLaw42 (K:zj)(ts:Tabs):Sp:=λvs H Q _=>∃ (a:Addr) (ns:List Int),vs=[.ref a]/\SqL K (noT H) a (ns.map V.int)/\ns.length<=63/\Tbs ts H/\∀ H',Q (.bl true) H'
section
variable {c:Kd->Addr}{ts:Tabs}
theorem mk_ne {m m':Addr}{es:List Ent}(h:MkAt c CM H m es)(e:H m'=none):m'≠m:=λz=>by
 obtain ⟨_,_,_,_,h,_⟩:=h.ex;rw [z,h] at e;cases e
theorem nq {m b:Addr}{es:List Ent}(h:noT H b=some (.lst xs))(hm:MkAt c CM (noT H) m es)(n:Nb ts m H H'):noT H' b=some (.lst xs):=by obtain ⟨_,_,_,_,ho,_⟩:=hm.ex;exact n.same _ _ (λz=>by rw [z,ho] at h;cases h) h
theorem mk_nb {m m2:Addr}{es es2:List Ent}(h:MkAt c CM (noT H) m2 es2)(hm:MkAt c CM (noT H) m es)(d:m2≠m)(n:Nb ts m H H'):MkAt c CM (noT H') m2 es2:=by obtain ⟨o,ho,f⟩:=hm.four;exact h.nb ho f d n.same
theorem ip {ts:Tabs}{p:Addr}(h:Tbs ts H)(e:H p=some (.lst xs)):Tbs ts (del H p):=λt ht=>by
 rcases h t ht with h | ⟨c,oc,h1,h2,h3⟩
 . exact .inl (by rw [yT (λz=>by rw [z,e] at h;cases h)];exact h)
 . exact .inr ⟨c,oc,by rw [yT (λz=>by rw [z,e] at h1;cases h1)];exact h1,by rw [yT (λz=>by rw [z,e] at h2;cases h2)];exact h2,h3⟩
theorem ik {p:Addr}:noT (del H p)=del (noT H) p:=by
 funext b;by_cases z:b=p;{rw [z,wo];exact wq wo};{unfold noT;rw [yT z,yT z]}
theorem ij {r:Addr}:Same (noT (del H r)) (noT H):=λb o e=>by
 rw [ik] at e;exact (wR e).2
theorem u3 {r b:Addr}{o:HO}(n:b≠r)(e:noT H b=some o):noT (del H r) b=some o:=by rw [ik,yT n];exact e
theorem tH {r:Addr}{o:HO}(h:H r=none):del (upd H r o) r=H:=by
 funext b;by_cases c:b=r;{rw [c,wo,h]};{rw [yT c,zr c]}
theorem ig {r:Addr}{o:HO}:del (upd H r o) r=del H r:=by
 funext b;by_cases c:b=r;{rw [c,wo,wo]};{rw [yT c,yT c,zr c]}
theorem bR (a b:List Nat):pint a++pint b=pint (a++b):=by unfold pint;rw [zD]
theorem nxLess {ts:Tabs}{r:Addr}(a:Nx ts H H')(n:noT H r=none)(h:H' r=some (.lst xs)):Nx ts H (del H' r):=⟨λb o e=>u3 (λz=>by rw [z,n] at e;cases e) (a.same b o e),ip a.tb h⟩
theorem nxNb {ts:Tabs}{Ha Hb:Hp}{m:Addr}(a:Nx ts H Ha)(n:noT H m=none)(b:Nb ts m Ha Hb):Nx ts H Hb:=⟨λx o e=>b.same x o (λz=>by rw [z,n] at e;cases e) (a.same x o e),b.tb⟩
structure LS (c:Kd->Addr)(CM:Addr)(ts:Tabs)(H:Hp)(r r2 m:Addr)(us ys:List Nat)(es:List Ent)(H':Hp):Prop where
 nx:Nx ts H H'
 mm:MkAt c CM (noT (del H' r)) m es
 ok:EsOk es
 hr:noT H' r=some (.lst (pint us))
 hy:noT H' r2=some (.lst (pint ys))
 lu:us.length<=6900
 lt:∀ n∈us,n<65536
 mem:∀ x,x∈flat es↔x∈us
theorem LS.mk_in {r r2 m:Addr}{us ys:List Nat}{es:List Ent}(h:LS c CM ts H r r2 m us ys es H'):MkAt c CM (noT H') m es:=h.mm.same ij
theorem nZ {r:Addr}(s:Same (noT H) (noT H')):Same (noT (del H r)) (noT (del H' r)):=λb o e=>by
 rw [ik] at e;obtain ⟨n,e⟩:=wR e;exact u3 n (s b o e)
theorem LS.next {H2:Hp}{r r2 m:Addr}{us ys:List Nat}{es:List Ent}(h:LS c CM ts H r r2 m us ys es H')(x:Nx ts H' H2):LS c CM ts H r r2 m us ys es H2:=⟨h.nx.trans x,h.mm.same (nZ x.same),h.ok,x.at h.hr,x.at h.hy,h.lu,h.lt,h.mem⟩
theorem ok_law42 (B:Blt mg)(jc:FnAt P w K mg base "_law_mixed" ["_law_cell","_law_k"] 1 spMixed)(jk:FnAt P w K mg base "_law_cell_at" ["_law_script","_law_k"] 1 (spCell K))(jab:FnAt P w K mg base "_law_numbers" ["_law_script"] 3 (spNumT K))(jN:FnAt P w K mg base "_law_right" ["_law_marks","_law_numbers_here"] 8 (spRight c CM ts))(jak:FnAt P w K mg base "marks_of" ["numbers"] 9 (spMarksOf c CM ts))(jcj:MethAt P w K mg base CM "put_span" ["self","first","last"] 7 (spPutSpan c CM ts))(jcn:MethAt P w K mg base CM "put" ["self","n"] 7 (spPutM c CM ts))(h_take:MethAt P w K mg base CM "take" ["self","n"] 7 (spTakeM c CM ts))
   {fa:Addr} (FL:Fun K "law" "law" u5 fa fd):FnOk P w K mg base CX0 10 fa fd ["_law_script"] (spLaw42 K ts):=by
 refine FL.ok jch (λvs H Q E h=>?_) (λcdv A outer s H vs Q E hr h=>?_);{obtain ⟨a,ns,rfl,_⟩:=h;rfl}
 have nd:=jch.nd;obtain ⟨a,ns,rfl,hS,h63,tb,q⟩:=h;refine ⟨_,(zp (zb 1 (zc jab (zy (pv 0) zx))) (zp (zb 2 (zc jab (zy (vX (vU K) (pv 0) (vY zu) vZ) zx))) (zp (zb 3 (dG jak (hr.mono (by decide)) rfl (zy (wY (uU K) rfl B.lst vQ (zy (pv 1) zx)) zx))) (zp (zb 4 (zc jc (zy (zc jk (zy (pv 0) (zy zu zx))) (zy zu zx)))) (zp (yu (zG yL (zw zB (pv 4) zu) zu) (zp (zb 5 (yk (gh rfl) rfl B.min fh (zy zu (zy (zw zN (zw zB (zw yW (pv 4) zu) zu) (zw zB (zc jc (zy (pv 4) (zy zu zx))) zu)) zx)))) (zp (yz (pe_meA (P:=P) (w:=w) (K:=K) (mg:=mg) (base:=base) 7 (hr.mono (by decide)) (pv 3) (zy (zw zB (zw yW (pv 4) zu) zu) (zy (pv 5) zx)))) (zo (yz (yt K yP tE sv rY (pv 1) (zy (wY (Z9 rfl) rfl B.lst vQ (zy (wY aA rfl B.range boot_range (zy (zw zB (zw yW (pv 4) zu) zu) (zy (zw zN (pv 5) zu) zx))) zx)) zx)))))) yh) (zp (zb 6 (dG jak (hr.mono (by decide)) rfl (zy (wY (uU K) rfl B.lst vQ (zy (pv 2) zx)) zx))) (zp (yu (PW.pt (pw_or (rh (vD (zc jN (zy (pv 3) (zy (pv 1) zx))))) (pw_or1 (rh (vD (zc jN (zy (pv 6) (zy (pv 2) zx)))))))) (zo (zd rn)) yh) (zp (zb 7 (zw zB (zc jc (zy (zc jk (zy (pv 0) (zy zu zx))) (zy zu zx))) zu)) (zp (yz (pe_meA (P:=P) (w:=w) (K:=K) (mg:=mg) (base:=base) 7 (hr.mono (by decide)) (pv 3) (zy (pv 7) zx))) (zp (yz (yt K yP xY xX xb (pv 1) (zy (pv 7) zx))) (zp (zb 8 (xK (wV K) (pv 1) (zw zB (zc jc (zy (zc jk (zy (pv 0) (zy zu zx))) (zy zu zx))) (yk (xp K) rfl B.len yE (zy (pv 1) zx))))) (zp (yz (yJ P w K mg base 7 (pv 3) (zy (pv 8) zx))) (zp (fi (i:=9) ["_law_n"] [8] jch.nd rfl (by ext g) rfl (yK K (pv 1)) (λ_ _ _ _ _=>yM (i:=0) (by show List.Nodup (["_law_n","_law_gone"]:List Str);decide +kernel) rfl (Or.inl rfl)) (λ_ _ _ _ _=>f9 (zG op_ne (pv 0) (pv 1))) (λ_ _ _ _ _=>(pv 0)) ⟨⟨_,rfl,rfl,.inl rfl⟩,trivial⟩ xq) (zo (zd (vC (zc jN (zy (pv 3) (zy (pv 9) zx))) (tU (zc jN (zy (pv 6) (zy (pv 2) zx)))))))))))))))))))),?_⟩
 refine za λk hk=>?_
 ext a;refine ⟨a,ns,rfl,hS.noT,λr zs H1 s1 nr hr z7 z65=>hk _ _ (za λk hk=>?_)⟩;have n1:=tb.nx s1;ext a;have sS:∀ {H2},Nx ts H H2->SqL K (noT H2) a (ns.map V.int):=λn=>n.same.seq hS
 have hrT:=zM hr (nl _);refine ⟨_,(sS n1).noT,λp np=>?_⟩;rw [show cutV (ns.map V.int) (some 1) none=(ns.drop 1).map V.int from (kF _ 1).trans List.map_drop.symm];have x2:=Nx.new (o':=.lst ((ns.drop 1).map V.int)) n1.tb np;have hp2:=zq (H:=H1) (a:=p) (o:=.lst ((ns.drop 1).map V.int));generalize upd H1 p (.lst ((ns.drop 1).map V.int))=H2 at x2 hp2;refine ⟨p,ns.drop 1,rfl,SqL.of hp2,λr2 ys H3 s3 nr2 hr2 y7 y65=>hk _ _ (za λk hk=>?_)⟩;have x3:=x2.trans (x2.tb.nx s3);have n3:=n1.trans x3;have hr3:=x3.at hrT;have hy3:=zM hr2 (nl _);have rr:r≠r2:=λz=>by
   have:=(oT (x2.at hrT))
   rw [z,nr2] at this;cases this
 ext a;have nrT:=wq nr;refine ⟨_,.inl (sL hr3),λp4 np4=>⟨r,_,(Same.new np4) _ _ (oT hr3),?_⟩⟩;have x4:=Nx.new (o':=.lst (pint zs)) n3.tb np4;have h4:noT (upd H3 p4 (.lst (pint zs))) p4=some (.lst (pint zs)):=nU;have r4:p4≠r:=λz=>by rw [z,(oT hr3)] at np4;cases np4
 generalize upd H3 p4 (.lst (pint zs))=H4 at x4 h4;have n4:=n3.trans x4;have d4:=nxLess n4 nrT (oT (x4.at hr3));refine ⟨p4,zs,rfl,u3 r4 h4,λn hn=>Nat.le_of_lt_succ (z65 n hn),by lia,d4.tb,λm1 H5 es x5 nm1 hm1 ok mem nr5=>hk _ _ (za λk hk=>?_)⟩;have nm:noT H m1=none:=by
   cases e:noT H m1 with
   | none=>rfl
   | some o =>
     have:=d4.same _ _ e;rw [nm1] at this;cases this
 have mr:m1≠r:=λz=>by
   obtain ⟨_,_,_,_,ho,_⟩:=hm1.ex;rw [z,wq nr5] at ho;cases ho
 have y5:=x5.at (u3 (Ne.symm rr) (x4.at hy3))
 have ls:LS c CM ts H r r2 m1 zs ys es (upd H5 r (.lst (pint zs))):=⟨(d4.trans x5).trans (Nx.new x5.tb nr5),by rw [tH nr5];exact hm1,ok,nU,(Nx.new x5.tb nr5).at y5,by lia,z65,mem⟩
 generalize upd H5 r (.lst (pint zs))=H6 at ls;ext a;refine ⟨a,ns,0,rfl,(sS ls.nx).noT,_,_,rfl,hk _ _ (za λk hk=>?_)⟩;have hx:=i8 (ns.getD 0 0) 320;generalize mixI (ns.getD 0 0) 320=x at hx ⊢
 suffices go:∀ (v5:Option V) (us:List Nat) (es1:List Ent) (H6:Hp),us.length<=6800->LS c CM ts H r r2 m1 us ys es1 H6->k [some (V.ref a),some (V.ref r),some (V.ref r2),some (V.ref m1),some (V.int x),v5,none,none,none,none] H6 by
   have g0:=go none zs es H6 (by lia) ls;ext a;split
   . refine ⟨_,_,rfl,_,rfl,_,_,⟨rfl,rfl⟩,?_⟩;have hy:=i8 x 321;generalize mixI x 321=y at hy ⊢;obtain ⟨f,ef,f6⟩:∃ f:Nat,x/16%65536=(f:Int)/\f<65536:=⟨(x/16%65536).toNat,by lia,by lia⟩
     rw [ef];obtain ⟨g,eg,g1,g2,g3⟩:∃ g:Nat,(if (f:Int)+y%6000<65535 then (f:Int)+y%6000 else 65535)=(g:Int)/\f<=g/\g<=65535/\g<=f+5999:=by
       split;{exact ⟨((f:Int)+y%6000).toNat,by lia,by lia,by lia,by lia⟩};{exact ⟨65535,rfl,by lia,by lia,by lia⟩}
     rw [eg];obtain ⟨dx6,_,_,_,ho6,_⟩:=ls.mk_in.ex;refine ⟨_,_,_,(oT ho6),rfl,_,_,jcj,r,_,(oT ls.hr),m1,es,f,g,rfl,g1,g2,ls.mm,ok,ip ls.nx.tb (oT ls.hr),λH7 es7 r7 nb hm7 ok7 mem7 nr7=>?_⟩;have d6:=nxLess ls.nx nrT (oT ls.hr);have n7:=nxNb d6 nm nb;have y7:=nq (u3 (Ne.symm rr) ls.hy) ls.mm nb;have x8:=Nx.new (o':=.lst (pint zs)) n7.tb nr7;have hr8:noT (upd H7 r (.lst (pint zs))) r=some (.lst (pint zs)):=nU;have mk8:MkAt c CM (noT (del (upd H7 r (.lst (pint zs))) r)) m1 es7:=by rw [tH nr7];exact hm7
     generalize upd H7 r (.lst (pint zs))=H8 at x8 hr8 mk8;have n8:=n7.trans x8;have y8:=x8.at y7;refine ⟨⟨_,sL hr8⟩,_,_,⟨rfl,rfl⟩,λp9 np9=>⟨_,_,zq,⟨by lia,by lia,by lia,by lia⟩,by lia,λl10 nl10=>?_⟩⟩;have x9:=Nx.new (o':=.rng (f:Int) ((g:Int)+1)) n8.tb np9;generalize upd H8 p9 (.rng (f:Int) ((g:Int)+1))=H9 at x9 nl10 ⊢;have x10:=x9.trans (Nx.new (o':=.lst (rngV (f:Int) ((g:Int)+1-(f:Int)).toNat)) x9.tb nl10);have hl10:=zq (H:=H9) (a:=l10) (o:=.lst (rngV (f:Int) ((g:Int)+1-(f:Int)).toNat));generalize upd H9 l10 (.lst (rngV (f:Int) ((g:Int)+1-(f:Int)).toNat))=H10 at x10 hl10 ⊢;have hr10:=x10.at hr8;have y10:=x10.at y8;have mk10:=mk8.same (nZ x10.same);have eR:rngV (f:Int) ((g:Int)+1-(f:Int)).toNat=pint (List.range' f (g+1-f)):=by rw [show ((g:Int)+1-(f:Int)).toNat=g+1-f by lia];exact Z8 f _
     refine ⟨_,(oT hr10),_,hl10,?_,?_⟩;{rw [eR,zH,zH,mR];exact small5 (by lia)}
     . rw [eR,bR]
       refine go (some (.int g)) (zs++List.range' f (g+1-f)) es7 _ (by rw [zh,mR];lia) ⟨(n8.trans x10).put nrT (oT hr10) trivial,by rw [ig];exact mk10,ok7,nU,zM ((zr (Ne.symm rr)).trans (oT y10)) (xM y10).2,by rw [zh,mR];lia,λn hn=>?_,λz=>?_⟩
       . rcases zY.mp hn with h | h
         . exact z65 n h
         . rw [vK] at h;lia
       . rw [mem7,ls.mem,zY,vK];exact or_congr Iff.rfl (by lia)
   . exact g0
 intro v5 us es1 H7 u68 ls;refine hk _ _ (za λk hk=>?_);ext a;refine ⟨_,.inl (sL ls.hy),λp8 np8=>⟨r,_,(Same.new np8) _ _ (oT ls.hr),?_⟩⟩;have x8:=Nx.new (o':=.lst (pint ys)) ls.nx.tb np8;have h8:noT (upd H7 p8 (.lst (pint ys))) p8=some (.lst (pint ys)):=nU;have p8r:p8≠r:=λz=>by rw [z,(oT ls.hr)] at np8;cases np8
 generalize upd H7 p8 (.lst (pint ys))=H8 at x8 h8;have ls:=ls.next x8;have d8:=nxLess ls.nx nrT (oT ls.hr);refine ⟨p8,ys,rfl,u3 p8r h8,λn hn=>Nat.le_of_lt_succ (y65 n hn),by lia,d8.tb,λm2 H9 es2 x9 nm2 hm2 ok2 mem2 nr9=>hk _ _ (za λk hk=>?_)⟩;have m21:m2≠m1:=mk_ne ls.mm nm2;have ls10:LS c CM ts H r r2 m1 us ys es1 (upd H9 r (.lst (pint us))):=⟨(d8.trans x9).trans (Nx.new x9.tb nr9),by rw [tH nr9];exact ls.mm.same x9.same,ls.ok,nU,(Nx.new x9.tb nr9).at (x9.at (u3 (Ne.symm rr) ls.hy)),ls.lu,ls.lt,ls.mem⟩
 have mk2:MkAt c CM (noT (del (upd H9 r (.lst (pint us))) r)) m2 es2:=by rw [tH nr9];exact hm2
 generalize upd H9 r (.lst (pint us))=H10 at ls10 mk2;ext a;refine ⟨m1,r,es1,us,rfl,ls10.mk_in,ls10.ok,ls10.hr,by lia,ls10.lt,ls10.mem,ls10.nx.tb,λH11 x11=>⟨_,rfl,?_⟩⟩;rw [if_neg (by decide)];have ls:=ls10.next x11;have mk2:=mk2.same (nZ x11.same);refine ⟨m2,r2,es2,ys,rfl,mk2.same ij,ok2,ls.hy,by lia,y65,mem2,ls.nx.tb,λH12 x12=>⟨_,rfl,?_⟩⟩;rw [if_neg (by decide)];have ls:=ls.next x12;have mk2:=mk2.same (nZ x12.same);refine hk _ _ (za λk hk=>?_);ext a;refine ⟨a,ns,0,rfl,(sS ls.nx).noT,_,_,rfl,_,rfl,hk _ _ (za λk hk=>?_)⟩;obtain ⟨nb,en,n6⟩:∃ nb:Nat,mixI (ns.getD 0 0) 310%65536=(nb:Int)/\nb<65536:=⟨(mixI (ns.getD 0 0) 310%65536).toNat,by lia,by lia⟩
 rw [en];ext a;obtain ⟨dx12,_,_,_,ho12,_⟩:=ls.mk_in.ex;refine ⟨_,_,_,(oT ho12),rfl,_,_,jcn,r,_,(oT ls.hr),m1,nb,es1,rfl,by lia,ls.mm,ls.ok,ip ls.nx.tb (oT ls.hr),λH13 es13 nb13 hm13 ok13 mem13 nr13=>hk _ _ (za λk hk=>?_)⟩;have d12:=nxLess ls.nx nrT (oT ls.hr);have n13:=nxNb d12 nm nb13;have y13:=nq (u3 (Ne.symm rr) ls.hy) ls.mm nb13;have mk13:=mk_nb mk2 ls.mm m21 nb13;have x14:=Nx.new (o':=.lst (pint us)) n13.tb nr13;have h14:upd H13 r (.lst (pint us)) r=some (.lst (pint us)):=zq;have mk14:MkAt c CM (noT (del (upd H13 r (.lst (pint us))) r)) m1 es13:=by rw [tH nr13];exact hm13
 have mk214:MkAt c CM (noT (del (upd H13 r (.lst (pint us))) r)) m2 es2:=by rw [tH nr13];exact mk13
 generalize upd H13 r (.lst (pint us))=H14 at x14 h14 mk14 mk214;have n14:=n13.trans x14;have y14:=x14.at y13;ext a;refine ⟨⟨_,SqL.of h14⟩,_,h14,wc (show (pint us).length<=7000 by rw [zH];lia) (by rw [wg];decide),hk _ _ (za λk hk=>?_)⟩;have e15:pint us++[V.int (nb:Int)]=pint (us++[nb]):=bR us [nb];rw [e15];have ls:LS c CM ts H r r2 m1 (us++[nb]) ys es13 (upd H14 r (.lst (pint (us++[nb])))):=⟨n14.put nrT h14 trivial,by rw [ig];exact mk14,ok13,nU,zM ((zr (Ne.symm rr)).trans (oT y14)) (xM y14).2,by rw [zh];show _+1<=_;lia,λn hn=>(zY.mp hn).elim (ls.lt n) λh=>(zS.mp h) ▸ n6,λz=>by rw [mem13,ls.mem,zY,zS]⟩
 have mk2:MkAt c CM (noT (del (upd H14 r (.lst (pint (us++[nb])))) r)) m2 es2:=by rw [ig];exact mk214
 generalize upd H14 r (.lst (pint (us++[nb])))=H15 at ls mk2;have ne:0<(us++[nb]).length:=by rw [zh];exact Nat.succ_pos _
 generalize us++[nb]=vs at ls ne;ext a;obtain ⟨j,ej,hj⟩:∃ j:Nat,mixI (ns.getD 1 0) 311%((pint vs).length:Int)=(j:Int)/\j<vs.length:=by rw [zH];have h1:=sE (mixI (ns.getD 1 0) 311) (b:=(vs.length:Int)) (by lia);have h2:=sP (mixI (ns.getD 1 0) 311) (b:=(vs.length:Int)) (by lia);exact ⟨_,(Int.toNat_of_nonneg h1).symm,by lia⟩
 have hg:=zO hj;have gm:=y9 hj;generalize vs[j]=g at hg gm;have g6:=ls.lt g gm;refine ⟨a,ns,1,rfl,(sS ls.nx).noT,_,_,rfl,_,.inl (sL ls.hr),_,rfl,by rw [zH];lia,_,sL ls.hr,_,by rw [ej];exact kD hg,hk _ _ (za λk hk=>?_)⟩;ext a;obtain ⟨dx15,_,_,_,ho15,_⟩:=ls.mk_in.ex;refine yf (oT ho15) rfl h_take ⟨m1,g,es13,rfl,by lia,ls.mk_in,ls.ok,ls.nx.tb,λH16 es16 nb16 hm16 ok16 mem16=>hk _ _ (za λk hk=>?_)⟩;have n16:=nxNb ls.nx nm nb16;have hr16:=nq ls.hr ls.mk_in nb16;have hy16:=nq ls.hy ls.mk_in nb16;have mk16:=mk_nb (mk2.same ij) ls.mk_in m21 nb16;have lu:=ls.lu;ext a;refine ⟨⟨_,sL hr16⟩,compL (K:=K) (xs:=pint vs) (λv=>match v with | .int i=>!decide (i=(g:Int)) | _=>false) id (sL hr16) (by rw [zH];lia) (λv H10 R hv s10 h=>?_) (λv H10 R hv _ s10 h=>?_) (λD nD=>?_)⟩;{obtain ⟨z,_,rfl⟩:=gH hv;ext a;exact h};{ext a;exact h};{rw [rq,filt_ne];have x17:=Nx.new (o':=.lst (pint (vs.filter λz=>decide (z≠g)))) n16.tb nD;have h17:noT (upd H16 D (.lst (pint (vs.filter λz=>decide (z≠g))))) D=some (.lst (pint (vs.filter λz=>decide (z≠g)))):=nU;generalize upd H16 D (.lst (pint (vs.filter λz=>decide (z≠g))))=H17 at x17 h17;refine hk _ _ ?_;ext a;refine ⟨m1,D,es16,vs.filter λz=>decide (z≠g),rfl,hm16.same x17.same,ok16,h17,yl (vN _ _) (by lia),λn hn=>ls.lt n (yv.mp hn).1,λz=>by rw [mem16,ls.mem,yv,w8],x17.tb,λH18 x18=>⟨_,rfl,?_⟩⟩;rw [if_pos rfl];have x18:=x17.trans x18;exact ⟨m2,r2,es2,ys,rfl,mk16.same x18.same,ok2,x18.at hy16,by lia,y65,mem2,x18.tb,λH19 x19=>q H19⟩}
end
def lamDefs:List Str:=["halved_keys"]
def tsK (K:zj):Tabs:=[((tabAt K "halved_keys").2,qK,lpK)]
theorem uqK (K:zj):TabsUq (tsK K):=λt ht u hu _=>(zS.mp ht).trans (zS.mp hu).symm
def spLawK (K:zj):Sp:=spLaw42 K (tsK K)
theorem sql_noT {a:Addr}(h:SqL K H a xs):SqL K (noT H) a xs:=by
 rcases h with h | h
 . rcases h with h | ⟨o,h⟩
   . exact .inl (.inl (zM h (nl _)))
   . exact .inl (.inr ⟨o,zM h λ_ z=>by cases z⟩)
 . exact .inr h
theorem YB {K:Params->zj}(w:World)(H:Hp)(a:Addr)(ns:List Int)(h1:ns.length<=63)(h2:∀ z∈ns,Builtin.Int.intBits z<=2^20)(h3:∀ y∈lamDefs,H (tabAt (K w.params) y).2=some (.tbl #[]))(h4:(lamDefs.map λx=>(tabAt (K w.params) x).2).Nodup)(h5:SqL (K w.params) H a (ns.map V.int)):spLawK (K w.params) [.ref a] H (λv _=>v=.bl true) λ_ _ _=>False:=by refine ⟨a,ns,rfl,sql_noT h5,h1,λt ht=>?_,λ_=>rfl⟩;rw [zS.mp ht];exact .inl (h3 _ (.head _))
theorem wire42 {jac jal jam jcm:Addr}{fa:Addr}{ts:Tabs}(B:Blt mg)(jbb:KndsAt K mg)(h_hk:FnAt P w K mg base "halved_keys" ["keys","key"] 3 (spHKt ts (λy k=>decide (k<y)) 0))(jJ:∃ t,mg "LOWER_1"=some (.int 38597363079105398474523661669562635951089994888546854679819194669304376546645 t))(jK:∃ t,mg "LOWER_2"=some (.int 23158417847463239084714197001737581570653996933128112807891516801582625927987 t))(jL:∃ t,mg "LOWER_4"=some (.int 6811299366900952671974763824040465167839410862684739061144563765171360567055 t))(jM:∃ t,mg "LOWER_8"=some (.int 450552876409790643671482431940419874915447411150352389258589821042463539455 t))(ja:∃ t,mg "PLACES"=some (.int 256 t))(jX:∃ t,mg "GREATEST"=some (.int 65535 t))(ji:∃ t,mg "MANY_SIGNS"=some (.int 9 t))(jB:∃ t,mg "KEY_SIGNS"=some (.int 8 t))(jv:∃ t,mg "KIND_SIGNS"=some (.int 2 t))(jw:∃ t,mg "LAST_SIGNS"=some (.int 16 t))(jx:∃ t,mg "STOP_SIGNS"=some (.int 14 t))(ju:∃ t,mg "HEAD_SIGNS"=some (.int 40 t))(jd:∃ t,mg "BYTE_SIGNS"=some (.int 8 t))(jY:CD_ListStretch K mg jac)(jad:CD_BitStretch K mg jal)(jae:CD_RunStretch K mg jam)(jg:CD_Marks K mg jcm)(jaA:DefAt K mg "all_below" o6 ["place"])(jD:DefAt K mg "without_first" o5 ["word"])(jbk:DefAt K mg "counted" o4 ["word"])(jaB:DefAt K mg "first_one" o3 ["word"])(jaT:DefAt K mg "last_one" oz ["word"])(jbO:DefAt K mg "bit_at" o7 ["word","place"])(jaC:DefAt K mg "span_word" oy ["first","last"])(jbl:DefAt K mg "runs_of" oq ["word"])(jaD:DefAt K mg "places_of" ot ["word"])(jbm:DefAt K mg "word_of" ox ["places"])(jZ:DefAt K mg "word_of_runs" oo ["runs"])(jaE:DefAt K mg "bits_text" rC ["number","many"])(jan:DefAt K mg "head_place" oj ["at"])(jbn:DefAt K mg "written" s_written ["marks"])(jaF:DefAt K mg "head_text" oi ["key","kind","last","stop"])(jaG:DefAt K mg "body_text" oh ["stretch"])(jaH:DefAt K mg "tape_size" oe ["marks"])(jca:DefAt K mg "sizes" oZ ["word"])(jck:DefAt K mg "kept" oY ["word"])(jcb:DefAt K mg "added" oX ["stretch","place"])(jbo:DefAt K mg "removed" oW ["stretch","place"])(jaU:DefAt K mg "is_whole" o8 ["thing"])(j5:DefAt K mg "check_number" oV ["thing"])(j6:DefAt K mg "spans_by_key" oU ["first","last"])(jaV:DefAt K mg "marks_of" oS ["numbers"])(jaW:DefAt K mg "of_words" oR ["words"])(jaX:DefAt K mg "gathered" oQ ["pairs"])(jaI:DefAt K mg "_law_cell_at" oP ["_law_script","_law_k"])(jbp:DefAt K mg "_law_whole" oO ["_law_found"])(jbq:DefAt K mg "_law_mixed" oN ["_law_cell","_law_k"])(jbr:DefAt K mg "_law_piece" oM ["_law_cell","_law_key"])(jaJ:DefAt K mg "_law_numbers" oK ["_law_script"])(jbP:DefAt K mg "_law_bits" oJ ["_law_number","_law_many"])(jbQ:DefAt K mg "_law_runs" oI ["_law_places"])(jbR:DefAt K mg "_law_rows" oH ["_law_numbers_here"])(jbS:DefAt K mg "_law_body" oG ["_law_places","_law_runs_here","_law_kind"])(jaY:DefAt K mg "_law_fields" oF ["_law_rows_here"])(jbs:DefAt K mg "_law_right" oE ["_law_marks","_law_numbers_here"])(FL:Fun K "law" "law" u5 fa fd):FnOk P w K mg base CX0 40 fa fd ["_law_script"] (spLaw42 K ts):=by
 let c:Kd->Addr:=λk=>match k with | .l=>jac | .b=>jal | .r=>jam
 have cL:CD_ListStretch K mg (c .l):=jY;have cB:CD_BitStretch K mg (c .b):=jad;have cR:CD_RunStretch K mg (c .r):=jae;have cc:∀ k,Cls K (c k):=λk=>match k with | .l=>cL.c | .b=>cB.c | .r=>cR.c
 have jc:=ok_mixed (P:=P) (w:=w) (base:=base) jbq;have jk:=ZD (P:=P) (w:=w) (base:=base) B jaI;have jbj:=ok_whole (P:=P) (w:=w) (base:=base) B jbp;have jh:=Y7 (P:=P) (w:=w) (base:=base) (Y8 jaA) jaC;have jn:=Y3 (P:=P) (w:=w) (base:=base) (Y4 jaT) jaB;have jy:=Y5 (P:=P) (w:=w) (base:=base) ⟨jJ,jK,jL,jM⟩ jbk;have jbd:=Y1 (P:=P) (w:=w) (base:=base) jn jh jbl;have jaw:=Y0 (P:=P) (w:=w) (base:=base) jn (Y6 jD) jaD;have jbc:=Yz (P:=P) (w:=w) (base:=base) jbm;have jW:=Yy (P:=P) (w:=w) (base:=base) jh jZ;have iL:=Yw (P:=P) (w:=w) (base:=base) B cL;have iB:=Yv (P:=P) (w:=w) (base:=base) cB;have iR:=Yu (P:=P) (w:=w) (base:=base) B cR;have hw:∀ k,MethAt P w K mg base (c k) "word" ["self"] 4 (spWordM c k):=λk=>match k with | .l=>Yt jbc cL | .b=>Ys cB | .r=>Yr jW cR
 have jb4:=ok_sizes (P:=P) (w:=w) (base:=base) ja jy jca;have jo:=ok_kept (P:=P) (w:=w) (base:=base) jb4 jaw jbd iL iB iR jck;have jbf:=Yh (P:=P) (w:=w) (base:=base) hw jo jbo;have jb7:=ok_added (P:=P) (w:=w) (base:=base) hw jo jcb;have jA:=Y2 (P:=P) (w:=w) (base:=base) jbO;have hhas:∀ k,MethAt P w K mg base (c k) "has" ["self","place"] 5 (spHasM c k):=λk=>ok_has hw jA k (cc k) (match k with | .l=>cL.m_has | .b=>cB.m_has | .r=>cR.m_has)
 have hmany:∀ k,MethAt P w K mg base (c k) "many" ["self"] 5 (spManyM c k):=λk=>ok_many hw jy k (cc k) (match k with | .l=>cL.m_many | .b=>cB.m_many | .r=>cR.m_many)
 have hs:∀ k,MethAt P w K mg base (c k) "size" ["self"] 4 (spSizeM c k):=λk=>match k with | .l=>(Yk B cL).mono (by decide) | .b=>(Yj ja cB).mono (by decide) | .r=>(Yi B cR).mono (by decide)
 have hkind:∀ k,MethAt P w K mg base (c k) "kind" ["self"] 4 (spKindS k):=λk=>match k with | .l=>(Yq cL).mono (by decide) | .b=>(Yp cB).mono (by decide) | .r=>(Yo cR).mono (by decide)
 have jaP:=Yg (P:=P) (w:=w) (base:=base) B jaU;have jcc:=ok_check (P:=P) (w:=w) (base:=base) jX jaP j5;have jaK:=ok_found (c:=c) h_hk jg;have jah:=Yf (P:=P) (w:=w) (base:=base) (c:=c) B jg;have jba:=ok_ahead (P:=P) (w:=w) (base:=base) (c:=c) B jg;have jbT:=Ye jaK jah jg;have jC:=ok_keep jaK jah jba hmany jg;have jb8:=ok_initM (P:=P) (w:=w) (base:=base) (c:=c) (ts:=ts) jg;have jbe:=ok_hasM ja jcc jbT hhas jg;have h_take:=ok_takeM ja jbe jbT jC jbf jg;have jcn:=ok_putM ja jbe jbT jC jo jb7 jg;have jbg:=YW jbT hw jg;have h_size:=ok_sizeM (ts:=ts) B hs jg;have jcp:=ok_spans B ja jh j6;have jcq:=YV jcc jcp jC jo jbg jg;have hbody:∀ k,MethAt P w K mg base (c k) "body" ["self"] 4 (spBodyS c k):=λk=>match k with | .l=>(Yn B cL).mono (by decide) | .b=>(Ym cB).mono (by decide) | .r=>(Yl B cR).mono (by decide)
 have hT:∀ k,MethAt P w K mg base (c k) "told" ["self"] 5 (spToldS c k):=λk=>ok_told hkind hbody k (cc k) (match k with | .l=>cL.m_told | .b=>cB.m_told | .r=>cR.m_told)
 have jz:=YX (P:=P) (w:=w) (base:=base) (c:=c) B jg;have jaQ:=Yc jb8 jC jaX;have jaR:=Ya B jo jaQ jaW;have jak:=YY ja jcc jaR jaV;have jb:=YH B jA jaE;have h_hp:=ok_hp (P:=P) (w:=w) (base:=base) ji ju jan;have jax:=YG ⟨jB,jv,jw,jx⟩ jbb jb jaF;have jay:=YF B ja jd jb hT jaG;have jbi:=YD B ji jb jax jay jz jbT hmany hs hkind jbn;have jaz:=YC B jd h_hp jz h_size jaH;have jbh:=ok_pcT B jc jbr;have jab:=ok_numT B jc jk jbh jaJ;have jl:=ok_bitsL (P:=P) (w:=w) (base:=base) B jbP;have jbL:=ok_runsS (P:=P) (w:=w) (base:=base) jbQ;have jbN:=ok_rowsT B jbL jbR;have jbM:=ok_bodyT B jl jbS;have jaS:=YR B jl jbM jaY;have jN:=ok_right B jbN jaS jbi jaz jbj jbs;exact (ok_law42 B jc jk jab jN jak jcq jcn h_take FL).mono (by decide)
theorem law_mk {h:Heap}{fa f:Addr}{oc:Value}{od an:Option Addr}{kV doc pm cdv ct:Value}(X:K.In h)(G:h.Ns mainGlobals mg)(hfa:mg "law"=some (.ref fa))(a:PySem.W.nsIn K mainGlobals "law"=some (some (.ref f)))
   (l:K.lookup f=some ⟨oc,od,.func (PySem.W.fnOf "law" "law" (defArgs u5) (defBody u5) (defScope u5) .none kV doc pm an cdv ct),osl⟩) (c:PySem.W.codeIn K cdv "law"=true) (k:PySem.W.keepIn K (.ref f)=true) :
   ∃ fd,Fun K "law" "law" u5 fa fd/\∀ (s:Shared) (v:Value),BindsTo s fd ⟨[v],[]⟩ [("_law_script",v)]:=by
 have e:=hfa.symm.trans (uH X G a);cases e;exact ⟨_,uW l c k,λs v=>.of_eq rfl⟩
theorem walkT {l:PySem.W.OpenLaw}{q:Program}{loose:List Str}{XP:(Str->Option Value)->Heap->Prop}{YP:World->Heap->Prop}{d:DefRec}{K:Params->zj}(hn:l.most=some 63)(hdf:d.params.defaults=[])
   (hY:∀ (w:World) (h:Heap),YP w h->(K w.params).In h) (ok:∀ P,tabsOk (K P) lamDefs=true) (rok:recsOk q lamDefs=true)
   (F:∀ (w:World) (mg:Str->Option Value) (fa:Addr) (h:Heap),(K w.params).In h->h.Ns mainGlobals mg->mg d.name=some (.ref fa)->(∀ y∈lamDefs,PySem.W.tabIn (K w.params) y=some (tabAt (K w.params) y)) ->
     ∃ fd:FuncData,(∀ (s:Shared) (u:Value),BindsTo s fd ⟨[u],[]⟩ [("_law_script",u)])/\∀ base:Heap,(K w.params).In base->base.Ns mainGlobals mg->(∀ y∈lamDefs,TabIn base mg (tabAt (K w.params) y))->FnOk l.prog w (K w.params) mg base CX0 40 fa fd ["_law_script"] (spLawK (K w.params))) :
   PySem.W.WalkO q loose XP YP l.row.toRowW d [] (λf vs=>PySem.call f vs) :=
 L2.walk_tabs (n:=63) (k:=40) (x:="_law_script") (sp:=λw=>spLawK (K w.params)) lamDefs hn (by decide) hdf ⟨rfl,by decide,by decide⟩ hY ok rok (λw mg fa h KX G m=>F w mg fa h KX G m λy hy=>(kU (ok _) hy).1) YB
theorem ex_cd {h:Heap}{x:Str}{R:Addr->Prop}(X:K.In h)(G:h.Ns mainGlobals mg)(a:PySem.W.nsIn K mainGlobals x=some (some (.ref C)))(r:mg x=some (.ref C)->R C):∃ C,R C:=⟨C,r (uH X G a)⟩
end My
theorem PySem.W.Fast.te15182252958936357935:True:=trivial
def PySem.W.Fast.tw15182252958936357935:Unit:=()
theorem PySem.W.Fast.te16097672251389702199:True:=trivial
def PySem.W.Fast.tw16097672251389702199:Unit:=()
theorem PySem.W.Fast.te9638381158370275743:True:=trivial
def PySem.W.Fast.tw9638381158370275743:Unit:=()
theorem PySem.W.Fast.te8403559534865787773:True:=trivial
def PySem.W.Fast.tw8403559534865787773:Unit:=()
theorem PySem.W.Fast.te13052408679150730464:True:=trivial
def PySem.W.Fast.tw13052408679150730464:Unit:=()
theorem PySem.W.Fast.te16555476440528808052:True:=trivial
def PySem.W.Fast.tw16555476440528808052:Unit:=()
theorem PySem.W.Fast.te4868988410673395695:True:=trivial
def PySem.W.Fast.tw4868988410673395695:Unit:=()
open PySem PySem.W PyProof.Rows My L2
abbrev zP:=PySem.Challenge.rw_runmarks_k42_tapes_written.prog
local macro_rules|`(tactic|ext l)=>`(tactic| first | exact λ_ _ _ _ _ _=>all1 λ_=>rfl | exact λ_ _ _ _ _ _=>all2 λ_ _=>rfl | exact λ_ _ _ _ _ _=>all3 λ_ _ _=>rfl | exact λ_ _ _ _ _ _=>all4 λ_ _ _ _=>rfl)
local macro_rules|`(tactic|ext d)=>`(tactic| (dsimp only [L2.KOf]; refine' defAt_mk (by assumption) (by assumption) ?a ?l ?c ?k ?b; (case a=>k_is); (case l=>k_is); (case c=>k_is); (case k=>k_is); ext l))
local macro_rules|`(tactic|ext i)=>`(tactic| (refine' maker_mk ?a ?b ?c ?d ?e ?f ?g ?h; (case a=>k_is); (case b=>k_is); (case c=>k_is); (case d=>k_is); (case e=>k_is); (case f=>k_is); (case g=>k_is); ext l))
local macro_rules|`(tactic|ext e)=>`(tactic| (refine' mdef_mk ?a ?b ?c ?d ?e ?f; (case a=>k_is); (case b=>k_is); (case c=>k_is); (case d=>k_is); (case e=>k_is); ext l))
local macro_rules|`(tactic|ext j)=>`(tactic| (refine' ⟨?a,?b,?c,?d⟩; (case a=>k_is); (case b=>k_is); (case c=>k_is); (case d=>k_is)))
local macro_rules|`(tactic|ext h)=>`(tactic| (show PySem.W.findIn _ _ _ = _; k_is))
local macro_rules|`(tactic|ext f)=>`(tactic| (refine' int_mk (by assumption) (by assumption) ?a; (case a=>k_is)))
local macro_rules | `(tactic| o_head ($_ $k $a $_))=>`(tactic| o_head Hk.fHook $k $a (λ_=>by kernel_rfl) (by kernel_rfl))
local macro_rules | `(tactic| o_head ($_ $k $a $_ $_))=>`(tactic| o_head Hk.fHook $k $a (λ_=>by kernel_rfl) (by kernel_rfl))
set_option maxRecDepth 100000 in
set_option maxHeartbeats 0 in
theorem PySem.Challenge.cw_runmarks_k42_tapes_written_holds : PySem.Challenge.rw_runmarks_k42_tapes_written.Holds := by
 w_on;o_law;k_head;(case hw=>w_witness2)
 k_fill
 refine My.walkT (l:=PySem.Challenge.rw_runmarks_k42_tapes_written) rfl rfl (λw h Y=>Hk.f_in Y) (λP=>by kernel_rfl) (by kernel_rfl) ?F
 case F =>
   intro w mg fa h KX G hmg hTI;have jaU:DefAt (L2.KOf KX) mg "is_whole" o8 ["thing"]:=by ext d
   have jbO:DefAt (L2.KOf KX) mg "bit_at" o7 ["word","place"]:=by ext d
   have jaA:DefAt (L2.KOf KX) mg "all_below" o6 ["place"]:=by ext d
   have jD:DefAt (L2.KOf KX) mg "without_first" o5 ["word"]:=by ext d
   have jbk:DefAt (L2.KOf KX) mg "counted" o4 ["word"]:=by ext d
   have jaB:DefAt (L2.KOf KX) mg "first_one" o3 ["word"]:=by ext d
   have jaT:DefAt (L2.KOf KX) mg "last_one" oz ["word"]:=by ext d
   have jaC:DefAt (L2.KOf KX) mg "span_word" oy ["first","last"]:=by ext d
   have jbm:DefAt (L2.KOf KX) mg "word_of" ox ["places"]:=by ext d
   have jaD:DefAt (L2.KOf KX) mg "places_of" ot ["word"]:=by ext d
   have jbl:DefAt (L2.KOf KX) mg "runs_of" oq ["word"]:=by ext d
   have jZ:DefAt (L2.KOf KX) mg "word_of_runs" oo ["runs"]:=by ext d
   have jaE:DefAt (L2.KOf KX) mg "bits_text" rC ["number","many"]:=by ext d
   have jan:DefAt (L2.KOf KX) mg "head_place" oj ["at"]:=by ext d
   have jbn:DefAt (L2.KOf KX) mg "written" s_written ["marks"]:=by ext d
   have jaF:DefAt (L2.KOf KX) mg "head_text" oi ["key","kind","last","stop"]:=by ext d
   have jaG:DefAt (L2.KOf KX) mg "body_text" oh ["stretch"]:=by ext d
   have jaH:DefAt (L2.KOf KX) mg "tape_size" oe ["marks"]:=by ext d
   have jco:DefAt (L2.KOf KX) mg "halved" kK ["many","goes_on"]:=by ext d
   have jbW:DefAt (L2.KOf KX) mg "halved_keys" oa ["keys","key"]:=by ext d
   have jca:DefAt (L2.KOf KX) mg "sizes" oZ ["word"]:=by ext d
   have jck:DefAt (L2.KOf KX) mg "kept" oY ["word"]:=by ext d
   have jcb:DefAt (L2.KOf KX) mg "added" oX ["stretch","place"]:=by ext d
   have jbo:DefAt (L2.KOf KX) mg "removed" oW ["stretch","place"]:=by ext d
   have j5:DefAt (L2.KOf KX) mg "check_number" oV ["thing"]:=by ext d
   have j6:DefAt (L2.KOf KX) mg "spans_by_key" oU ["first","last"]:=by ext d
   have jaV:DefAt (L2.KOf KX) mg "marks_of" oS ["numbers"]:=by ext d
   have jaW:DefAt (L2.KOf KX) mg "of_words" oR ["words"]:=by ext d
   have jaX:DefAt (L2.KOf KX) mg "gathered" oQ ["pairs"]:=by ext d
   have jaI:DefAt (L2.KOf KX) mg "_law_cell_at" oP ["_law_script","_law_k"]:=by ext d
   have jbp:DefAt (L2.KOf KX) mg "_law_whole" oO ["_law_found"]:=by ext d
   have jbq:DefAt (L2.KOf KX) mg "_law_mixed" oN ["_law_cell","_law_k"]:=by ext d
   have jbr:DefAt (L2.KOf KX) mg "_law_piece" oM ["_law_cell","_law_key"]:=by ext d
   have jaJ:DefAt (L2.KOf KX) mg "_law_numbers" oK ["_law_script"]:=by ext d
   have jbP:DefAt (L2.KOf KX) mg "_law_bits" oJ ["_law_number","_law_many"]:=by ext d
   have jbQ:DefAt (L2.KOf KX) mg "_law_runs" oI ["_law_places"]:=by ext d
   have jbR:DefAt (L2.KOf KX) mg "_law_rows" oH ["_law_numbers_here"]:=by ext d
   have jbS:DefAt (L2.KOf KX) mg "_law_body" oG ["_law_places","_law_runs_here","_law_kind"]:=by ext d
   have jaY:DefAt (L2.KOf KX) mg "_law_fields" oF ["_law_rows_here"]:=by ext d
   have jbs:DefAt (L2.KOf KX) mg "_law_right" oE ["_law_marks","_law_numbers_here"]:=by ext d
   have jbX:∃ C,CD_ListStretch (L2.KOf KX) mg C:=by
     dsimp only [L2.KOf];refine' ex_cd (x:="ListStretch") KX G ?aListStretch ?bListStretch
     (case aListStretch=>k_is)
     intro z;refine' ⟨z,?_,?_,?_,?_,?_,?_,?_,?_,?_,?_⟩;{ext j};{ext i};{ext e};{ext e};{ext e};{ext e};{ext e};{ext e};{ext e};{ext h}
   obtain ⟨jac,jY⟩:=jbX;have jcd:∃ C,CD_BitStretch (L2.KOf KX) mg C:=by
     dsimp only [L2.KOf];refine' ex_cd (x:="BitStretch") KX G ?aBitStretch ?bBitStretch
     (case aBitStretch=>k_is)
     intro z;refine' ⟨z,?_,?_,?_,?_,?_,?_,?_,?_,?_,?_⟩;{ext j};{ext i};{ext e};{ext e};{ext e};{ext e};{ext e};{ext e};{ext e};{ext h}
   obtain ⟨jal,jad⟩:=jcd;have jce:∃ C,CD_RunStretch (L2.KOf KX) mg C:=by
     dsimp only [L2.KOf];refine' ex_cd (x:="RunStretch") KX G ?aRunStretch ?bRunStretch
     (case aRunStretch=>k_is)
     intro z;refine' ⟨z,?_,?_,?_,?_,?_,?_,?_,?_,?_,?_⟩;{ext j};{ext i};{ext e};{ext e};{ext e};{ext e};{ext e};{ext e};{ext e};{ext h}
   obtain ⟨jam,jae⟩:=jce;have jcr:∃ C,CD_Marks (L2.KOf KX) mg C:=by
     dsimp only [L2.KOf];refine' ex_cd (x:="Marks") KX G ?aMarks ?bMarks
     (case aMarks=>k_is)
     intro z;refine' ⟨z,?_,?_,?_,?_,?_,?_,?_,?_,?_,?_,?_,?_,?_,?_,?_,?_,?_,?_⟩;{ext j};{ext i};{ext e};{ext e};{ext e};{ext e};{ext e};{ext e};{ext e};{ext e};{ext e};{ext e};{ext e};{ext e};{ext h};{ext h};{ext h};{ext h}
   obtain ⟨jcm,jg⟩:=jcr;have ja:∃ t,mg "PLACES"=some (.int 256 t):=by ext f
   have jJ:∃ t,mg "LOWER_1"=some (.int 38597363079105398474523661669562635951089994888546854679819194669304376546645 t):=by ext f
   have jK:∃ t,mg "LOWER_2"=some (.int 23158417847463239084714197001737581570653996933128112807891516801582625927987 t):=by ext f
   have jL:∃ t,mg "LOWER_4"=some (.int 6811299366900952671974763824040465167839410862684739061144563765171360567055 t):=by ext f
   have jM:∃ t,mg "LOWER_8"=some (.int 450552876409790643671482431940419874915447411150352389258589821042463539455 t):=by ext f
   have ji:∃ t,mg "MANY_SIGNS"=some (.int 9 t):=by ext f
   have jB:∃ t,mg "KEY_SIGNS"=some (.int 8 t):=by ext f
   have jv:∃ t,mg "KIND_SIGNS"=some (.int 2 t):=by ext f
   have jw:∃ t,mg "LAST_SIGNS"=some (.int 16 t):=by ext f
   have jx:∃ t,mg "STOP_SIGNS"=some (.int 14 t):=by ext f
   have ju:∃ t,mg "HEAD_SIGNS"=some (.int 40 t):=by ext f
   have jd:∃ t,mg "BYTE_SIGNS"=some (.int 8 t):=by ext f
   have jbb:∃ a,mg "KINDS"=some (.ref a)/\(∃ o,List.lookup a (L2.KOf KX)=some o/\o.cls=.type "tuple"/\o.dict=none)/\∀ H,SqT (L2.KOf KX) H a [.str (Str.ofString "list"),.str (Str.ofString "bits"),.str (Str.ofString "runs")]:=by
     dsimp only [L2.KOf];refine' tup_mk2 KX G ?eKINDS ?lKINDS ?hKINDS ?dKINDS ?zKINDS ?rKINDS
     (case eKINDS=>k_is);(case lKINDS=>k_is);(case hKINDS=>rfl);(case dKINDS=>rfl);(case zKINDS=>decide);(case rKINDS=>exact .cons ⟨_,rfl⟩ (.cons ⟨_,rfl⟩ (.cons ⟨_,rfl⟩ (.nil))))
   have jX:∃ t,mg "GREATEST"=some (.int 65535 t):=by ext f
   have B:Blt mg:=by
     refine' ⟨xW KX G ?z0,xW KX G ?z1,xW KX G ?z2,xW KX G ?z3,xW KX G ?z4,xW KX G ?z5,xW KX G ?z6,xW KX G ?z7,xW KX G ?z8,xW KX G ?z9,xW KX G ?z10,xW KX G ?z11,xW KX G ?z12,xW KX G ?z13⟩
     (case z0=>k_is);(case z1=>k_is);(case z2=>k_is);(case z3=>k_is);(case z4=>k_is);(case z5=>k_is);(case z6=>k_is);(case z7=>k_is);(case z8=>k_is);(case z9=>k_is);(case z10=>k_is);(case z11=>k_is);(case z12=>k_is);(case z13=>k_is)
   have L:∃ fd,Fun (L2.KOf KX) "law" "law" u5 fa fd/\∀ (s:Shared) (v:Value),BindsTo s fd ⟨[v],[]⟩ [("_law_script",v)]:=by
     dsimp only [L2.KOf];refine' My.law_mk KX G hmg ?aL ?lL ?cL ?kL
     (case aL=>k_is);(case lL=>k_is);(case cL=>k_is);(case kL=>k_is)
   obtain ⟨fd,FL,bL⟩:=L;refine ⟨fd,bL,λbase _ _ hTB=>?_⟩;have uq:=uqK (L2.KOf KX);have jbJ:=λbase=>ZC (P:=zP) (w:=w) (base:=base) jco
   have h_hk:=(ok_hkeys (P:=zP) (w:=w) (base:=base) B (hTB _ (.head _)) jbJ (DefAt.toC KX G jbW (hTI _ (.head _)))).imp (hkT uq (.head _));exact wire42 B jbb h_hk jJ jK jL jM ja jX ji jB jv jw jx ju jd jY jad jae jg jaA jD jbk jaB jaT jbO jaC jbl jaD jbm jZ jaE jan jbn jaF jaG jaH jca jck jcb jbo jaU j5 j6 jaV jaW jaX jaI jbp jbq jbr jaJ jbP jbQ jbR jbS jaY jbs FL
#print axioms PySem.Challenge.cw_runmarks_k42_tapes_written_holds
