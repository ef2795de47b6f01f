import PyProof.Rows.All
import Wide.All
import OpenK.AllK
import Wide.FinOn
import Lean
import PyProof.EqAt
import PyProof.EqKinds
import PyProof.TupleCall
import PyProof.Rows.TupIter
import PyProof.ZipIter
import PyProof.Rows.SortShell
import OpenK.KMore
import PyProof.Rows.SetFrom
import KE.KLam
import KE.KDictSum
import KE.KDictLaws
import PyProof.CollectWalk
import PyProof.ListNew
import PyProof.SumWalkG
import KE.KDictList
import PySem.Challenge.RW_runmarks_k53_rows_within
set_option maxHeartbeats 4000000
local macro_rules | `(tactic| omega) => `(tactic| lia)
local macro_rules | `(tactic| walk_at "l") => `(tactic| first | exact Or.inl rfl | exact Or.inr rfl)
local macro_rules | `(tactic| walk_at "s") => `(tactic| exact ⟨rfl,rfl,rfl,by decide +kernel,rfl,by decide +kernel,by decide +kernel⟩)
local macro_rules | `(tactic| walk_at "l")=>`(tactic| first | exact Or.inl rfl | exact Or.inr rfl)
set_option hygiene false in
local macro_rules | `(tactic| walk_at "G")=>`(tactic| first | (obtain ⟨rfl,_⟩:=h; rfl) | (obtain ⟨_,h⟩:=h; walk_at "G"))
set_option hygiene false in
local macro_rules | `(tactic| walk_at "F")=>`(tactic| ((focus intro vs H Q E h; walk_at "G"); intro f cdv A outer s H vs Q E hr h))
set_option hygiene false
local macro_rules | `(tactic| walk_at "xa") => `(tactic| (
 have ct2:=CR.turn (D1:=[]) (by simpa using ct);rw [ybI,ycg,lt3] at ct2;refine zae (Zcu ?_);refine zae (ZdU C hk sS ct2 (by rw [ybf];exact ZdY ft) (by simp only [ybf,ybO];exact lt3) (by omega) hT3 (fun x c=>rfl) fun st5 D5 T5 m5 c5 r5 l5 n5 t5 w5=>?_);dsimp only;rw [<- l5];exact zag (h st5 D5 T5 c5.sa c5.arr r5 c5.perm (by omega))))
local macro_rules | `(tactic| walk_at "xb") => `(tactic| (
 unfold pyNext;refine zaa (wpAny_attempt (wpAny_callSpecial?_slot (name:=Str.ofString "__next__") hT slot_it_next (zaD slot_it_next hT ZbG ?_ (ZbR _))));unfold Builtin.«set_iterator.__next__»;refine zaa (m:=slotArgs "__next__" 0 ⟨[.ref I],[]⟩) (zac (zaa (wpAny_fieldsOf hI rfl ?_)));dsimp only [rawInt];refine zaa (wpAny_setEntries_of ho hd hf ?_);rw [if_neg (by rw [sz];simp)]))
local macro_rules | `(tactic| walk_at "xc") => `(tactic| (
 rw [if_neg hlt];refine zae (ask (by omega) ?_);dsimp only;cases e:p (c2+(c3-c2)/2) with
 | true =>
  rw [if_pos rfl];refine zag ⟨rfl,rfl,?_,g2,?_,fun i hi=>?_,g5⟩
  . show c2+(c3-c2)/2+1<=c3
    omega
  . show c3-(c2+(c3-c2)/2+1)<=n-(x+1)
    omega
  . have hi:i<c2+(c3-c2)/2+1:=hi
    exact mono i _ (by omega) (by omega) e
 | false =>
  rw [if_neg (by decide)];refine zag ⟨rfl,rfl,?_,?_,?_,g4,fun i hi hin=>monoF _ i hi hin e⟩
  . show c2<=c2+(c3-c2)/2
    omega
  . show c2+(c3-c2)/2<=n
    omega
  . show c2+(c3-c2)/2-c2<=n-(x+1)
    omega))
local macro_rules | `(tactic| walk_at "xd") => `(tactic| (
 show wpAny _ _ (field (.ref z) 2 >>= _) _ _ _;refine zaa (wpAny_field hz rfl (x:=.bool false) rfl ?_);show wpAny _ _ (field (.ref z) 3 >>= _) _ _ _;refine zaa (wpAny_field hz rfl (x:=.ref TI) rfl ?_);refine zaa (wpAny_seqItems hTI rfl ?_);show wpAny _ _ (Builtin.SmallTypes.ownedTupleIsFree (.ref z) >>= _) _ _ _;refine zaa (notFree hz hT fun h₁ hz₁ hs₁=>?_);rw [if_neg (by decide)];refine zaa ?_;rw [<- Array.forIn_toList];simp only [List.forIn_cons,List.forIn_nil];refine zaa (zaa (zaw ?_));show wpAny _ _ (Builtin.SmallTypes.nextOf (.ref i1) >>= _) _ _ _))
set_option hygiene true
theorem zaa:type_of% @PySem.wpAny_bind:=@PySem.wpAny_bind
theorem zab:type_of% @PySem.Heap.get?_push_of_some:=@PySem.Heap.get?_push_of_some
theorem zac:type_of% @PySem.wpAny_pure:=@PySem.wpAny_pure
theorem zad:type_of% @PySem.Heap.lt_size:=@PySem.Heap.lt_size
theorem zae:type_of% @PyProof.Rows.wpS_bind:=@PyProof.Rows.wpS_bind
theorem zaf:type_of% @PySem.Heap.get?_push_size:=@PySem.Heap.get?_push_size
theorem zag:type_of% @PyProof.Rows.wpS_pure:=@PyProof.Rows.wpS_pure
theorem zah:type_of% @List.Perm.append_left:=@List.Perm.append_left
theorem zai:type_of% @PySem.PassesOwn.never:=@PySem.PassesOwn.never
theorem zaj:type_of% @PySem.Calls.spliced_cons:=@PySem.Calls.spliced_cons
theorem zak:type_of% @PySem.W.mg_none_of:=@PySem.W.mg_none_of
theorem zal:type_of% @PySem.wpAny_Call_Name_kw:=@PySem.wpAny_Call_Name_kw
theorem zam:type_of% @PyProof.Rows.callWith_type1:=@PyProof.Rows.callWith_type1
theorem zan:type_of% @PyProof.Rows.wpS_forRange:=@PyProof.Rows.wpS_forRange
theorem zao:type_of% @PySem.Calls.spliced_nil:=@PySem.Calls.spliced_nil
theorem zap:type_of% @PySem.Calls.callWith_builtin:=@PySem.Calls.callWith_builtin
theorem zaq:type_of% @PySem.Heap.get?_update_other:=@PySem.Heap.get?_update_other
theorem zar:type_of% @PySem.W.kia_one:=@PySem.W.kia_one
theorem zas:type_of% @beq_eq_false_iff_ne:=@beq_eq_false_iff_ne
theorem zat:type_of% @PySem.mem_of_lookup:=@PySem.mem_of_lookup
theorem zau:type_of% @PySem.wpAny_truthy_bool:=@PySem.wpAny_truthy_bool
theorem zav:type_of% @PySem.Heap.get?_update_self:=@PySem.Heap.get?_update_self
theorem zaw:type_of% @PySem.wpAny_holding:=@PySem.wpAny_holding
theorem zax:type_of% @PySem.Around.under_plainId:=@PySem.Around.under_plainId
theorem zay:type_of% @if_false:=@if_false
theorem zaz:type_of% @PySem.boot_len:=@PySem.boot_len
theorem zaA:type_of% @Iff.rfl:=@Iff.rfl
theorem zaB:type_of% @PySem.wpAny_mono:=@PySem.wpAny_mono
theorem zaC:type_of% @PySem.wpAny_setField_rec:=@PySem.wpAny_setField_rec
theorem zaD:type_of% @PySem.wpAny_call_entry:=@PySem.wpAny_call_entry
theorem zaE:type_of% @PySem.F.plainAttrs_dict:=@PySem.F.plainAttrs_dict
theorem zaF:type_of% @PySem.F.plainAttrs_list:=@PySem.F.plainAttrs_list
theorem zaG:type_of% @PySem.Heap.SameBut.update:=@PySem.Heap.SameBut.update
theorem zaH:type_of% @PySem.codeAny_builtin:=@PySem.codeAny_builtin
theorem zaI:type_of% @PySem.Heap.size_push:=@PySem.Heap.size_push
theorem zaJ:type_of% @PySem.Calls.evalArgs_plain:=@PySem.Calls.evalArgs_plain
theorem zaK:type_of% @PySem.SeqAt.noMix_of_shape:=@PySem.SeqAt.noMix_of_shape
theorem zaL:type_of% @PySem.wpAny_passesOwn:=@PySem.wpAny_passesOwn
theorem zaM:type_of% @PySem.wpAny_setState_of:=@PySem.wpAny_setState_of
theorem zaN:type_of% @PySem.F.slot_list_append:=@PySem.F.slot_list_append
theorem zaO:type_of% @PySem.F.type_list_append:=@PySem.F.type_list_append
theorem zaP:type_of% @or_false:=@or_false
theorem zaQ:type_of% @PyProof.Rows.wpS_mono:=@PyProof.Rows.wpS_mono
theorem zaR:type_of% @PySem.wpAny_rule:=@PySem.wpAny_rule
theorem zaS:type_of% @PySem.W.callWith_K:=@PySem.W.callWith_K
theorem zaT:type_of% @if_true:=@if_true
theorem zaU:type_of% @PySem.wpAny_updateSeq:=@PySem.wpAny_updateSeq
theorem zaV:type_of% @Option.some.injEq:=@Option.some.injEq
theorem zaW:type_of% @PyProof.Rows.wpS_modify:=@PyProof.Rows.wpS_modify
theorem zaX:type_of% @PySem.plainId_quiet:=@PySem.plainId_quiet
theorem zaY:type_of% @PySem.codeAny_mono:=@PySem.codeAny_mono
theorem zaZ:type_of% @PySem.W.mg_of:=@PySem.W.mg_of
theorem za0:type_of% @beq_iff_eq:=@beq_iff_eq
theorem yaa:type_of% @List.mem_singleton:=@List.mem_singleton
theorem yac:type_of% @List.length_append:=@List.length_append
theorem yad:type_of% @List.length_map:=@List.length_map
theorem yae:type_of% @List.getElem?_eq_getElem:=@List.getElem?_eq_getElem
theorem yaf:type_of% @List.mem_append:=@List.mem_append
theorem yag:type_of% @Nat.le_refl:=@Nat.le_refl
theorem yah:type_of% @List.append_assoc:=@List.append_assoc
theorem yai:type_of% @List.getElem?_append_right:=@List.getElem?_append_right
theorem yaj:type_of% @List.mem_cons:=@List.mem_cons
theorem yak:type_of% @decide_eq_true:=@decide_eq_true
theorem yal:type_of% @List.pairwise_append:=@List.pairwise_append
theorem yam:type_of% @Array.length_toList:=@Array.length_toList
theorem yan:type_of% @List.length_cons:=@List.length_cons
theorem yao:type_of% @List.mem_of_getElem?:=@List.mem_of_getElem?
theorem yap:type_of% @Int.toNat_natCast:=@Int.toNat_natCast
theorem yaq:type_of% @List.take_append_drop:=@List.take_append_drop
theorem yas:type_of% @List.take_of_length_le:=@List.take_of_length_le
theorem yat:type_of% @List.getD_eq_getElem?_getD:=@List.getD_eq_getElem?_getD
theorem yau:type_of% @List.mem_filter:=@List.mem_filter
theorem yav:type_of% @List.getElem?_map:=@List.getElem?_map
theorem yaw:type_of% @decide_eq_false:=@decide_eq_false
theorem yax:type_of% @Nat.zero_le:=@Nat.zero_le
theorem yay:type_of% @Nat.lt_of_lt_of_le:=@Nat.lt_of_lt_of_le
theorem yaz:type_of% @decide_eq_true_eq:=@decide_eq_true_eq
theorem yaA:type_of% @List.getElem_mem:=@List.getElem_mem
theorem yaB:type_of% @List.size_toArray:=@List.size_toArray
theorem yaC:type_of% @List.map_cons:=@List.map_cons
theorem yaD:type_of% @Array.getElem?_toList:=@Array.getElem?_toList
theorem yaE:type_of% @Nat.ne_of_lt:=@Nat.ne_of_lt
theorem yaF:type_of% @Bool.false_eq_true:=@Bool.false_eq_true
theorem yaG:type_of% @List.length_take:=@List.length_take
theorem yaH:type_of% @Array.getElem?_eq_getElem:=@Array.getElem?_eq_getElem
theorem yaI:type_of% @List.mem_append_right:=@List.mem_append_right
theorem yaJ:type_of% @List.mem_map:=@List.mem_map
theorem yaK:type_of% @List.mem_cons_self:=@List.mem_cons_self
theorem yaL:type_of% @Bool.false_ne_true:=@Bool.false_ne_true
theorem yaM:type_of% @List.mem_cons_of_mem:=@List.mem_cons_of_mem
theorem yaN:type_of% @Nat.le_trans:=@Nat.le_trans
theorem yaO:type_of% @List.append_nil:=@List.append_nil
theorem yaP:type_of% @List.map_append:=@List.map_append
theorem yaQ:type_of% @List.getElem?_eq_some_iff:=@List.getElem?_eq_some_iff
theorem yaR:type_of% @getElem?_pos:=@getElem?_pos
theorem yaS:type_of% @decide_eq_decide:=@decide_eq_decide
theorem yaT:type_of% @List.getElem?_append_left:=@List.getElem?_append_left
theorem yaU:type_of% @Int.natCast_nonneg:=@Int.natCast_nonneg
theorem yaV:type_of% @List.mem_iff_getElem:=@List.mem_iff_getElem
theorem yaW:type_of% @List.length_drop:=@List.length_drop
theorem yaX:type_of% @List.not_mem_nil:=@List.not_mem_nil
theorem yaY:type_of% @Array.toList_append:=@Array.toList_append
theorem yaZ:type_of% @List.drop_sublist:=@List.drop_sublist
theorem yba:type_of% @List.lookup_cons:=@List.lookup_cons
theorem ybb:type_of% @List.mem_of_mem_take:=@List.mem_of_mem_take
theorem ybc:type_of% @List.take_sublist:=@List.take_sublist
theorem ybd:type_of% @Nat.lt_succ_of_lt:=@Nat.lt_succ_of_lt
theorem ybe:type_of% @List.filter_cons:=@List.filter_cons
theorem ybf:type_of% @List.nil_append:=@List.nil_append
theorem ybg:type_of% @Nat.testBit_two_pow_mul_add:=@Nat.testBit_two_pow_mul_add
theorem ybh:type_of% @List.drop_of_length_le:=@List.drop_of_length_le
theorem ybi:type_of% @List.filter_eq_nil_iff:=@List.filter_eq_nil_iff
theorem ybj:type_of% @List.mem_append_left:=@List.mem_append_left
theorem ybk:type_of% @List.take_succ:=@List.take_succ
theorem ybl:type_of% @List.map_map:=@List.map_map
theorem ybm:type_of% @List.mem_of_mem_drop:=@List.mem_of_mem_drop
theorem ybn:type_of% @Nat.lt_succ_self:=@Nat.lt_succ_self
theorem ybo:type_of% @of_decide_eq_true:=@of_decide_eq_true
theorem ybp:type_of% @List.length_filter_le:=@List.length_filter_le
theorem ybq:type_of% @List.flatten_cons:=@List.flatten_cons
theorem ybr:type_of% @List.drop_eq_getElem_cons:=@List.drop_eq_getElem_cons
theorem ybs:type_of% @Nat.lt_irrefl:=@Nat.lt_irrefl
theorem ybt:type_of% @Nat.pow_pos:=@Nat.pow_pos
theorem ybu:type_of% @List.eq_nil_or_concat:=@List.eq_nil_or_concat
theorem ybv:type_of% @List.concat_eq_append:=@List.concat_eq_append
theorem ybw:type_of% @List.filter_map:=@List.filter_map
theorem ybx:type_of% @List.perm_append_comm:=@List.perm_append_comm
theorem yby:type_of% @List.filter_congr:=@List.filter_congr
theorem ybz:type_of% @List.length_eq_zero_iff:=@List.length_eq_zero_iff
theorem ybA:type_of% @List.filter_cons_of_neg:=@List.filter_cons_of_neg
theorem ybB:type_of% @Nat.pow_le_pow_right:=@Nat.pow_le_pow_right
theorem ybC:type_of% @List.filter_append:=@List.filter_append
theorem ybD:type_of% @List.nodup_cons:=@List.nodup_cons
theorem ybE:type_of% @Bool.and_eq_true:=@Bool.and_eq_true
theorem ybF:type_of% @Nat.le_of_lt:=@Nat.le_of_lt
theorem ybG:type_of% @Option.isSome_iff_exists:=@Option.isSome_iff_exists
theorem ybH:type_of% @Nat.zero_add:=@Nat.zero_add
theorem ybI:type_of% @List.length_nil:=@List.length_nil
theorem ybJ:type_of% @Bool.eq_iff_iff:=@Bool.eq_iff_iff
theorem ybK:type_of% @List.foldl_cons:=@List.foldl_cons
theorem ybL:type_of% @Nat.lt_of_le_of_lt:=@Nat.lt_of_le_of_lt
theorem ybM:type_of% @List.cons_append:=@List.cons_append
theorem ybN:type_of% @Nat.lt_or_ge:=@Nat.lt_or_ge
theorem ybO:type_of% @List.length_reverse:=@List.length_reverse
theorem ybP:type_of% @List.length_range:=@List.length_range
theorem ybQ:type_of% @Int.toNat_of_nonneg:=@Int.toNat_of_nonneg
theorem ybR:type_of% @List.mem_range:=@List.mem_range
theorem ybS:type_of% @Bool.not_true:=@Bool.not_true
theorem ybT:type_of% @List.flatten_append:=@List.flatten_append
theorem ybU:type_of% @List.filter_eq_self:=@List.filter_eq_self
theorem ybV:type_of% @List.map_congr_left:=@List.map_congr_left
theorem ybW:type_of% @List.range'_succ:=@List.range'_succ
theorem ybX:type_of% @List.mem_reverse:=@List.mem_reverse
theorem ybY:type_of% @Nat.ne_of_gt:=@Nat.ne_of_gt
theorem ybZ:type_of% @List.pairwise_cons:=@List.pairwise_cons
theorem yca:type_of% @Nat.le_succ:=@Nat.le_succ
theorem ycb:type_of% @List.drop_zero:=@List.drop_zero
theorem ycc:type_of% @Nat.mod_lt:=@Nat.mod_lt
theorem ycd:type_of% @Array.toList_push:=@Array.toList_push
theorem yce:type_of% @List.getElem_append_left:=@List.getElem_append_left
theorem ycf:type_of% @List.nodup_append:=@List.nodup_append
theorem ycg:type_of% @Nat.add_zero:=@Nat.add_zero
theorem ych:type_of% @Nat.sub_self:=@Nat.sub_self
theorem yci:type_of% @List.replicate_succ:=@List.replicate_succ
theorem ycj:type_of% @List.filter_cons_of_pos:=@List.filter_cons_of_pos
theorem yck:type_of% @Int.eq_ofNat_of_zero_le:=@Int.eq_ofNat_of_zero_le
theorem ycl:type_of% @List.drop_drop:=@List.drop_drop
theorem ycm:type_of% @Int.emod_lt_of_pos:=@Int.emod_lt_of_pos
theorem ycn:type_of% @List.find?_cons:=@List.find?_cons
theorem yco:type_of% @Int.natCast_add:=@Int.natCast_add
theorem ycp:type_of% @Nat.not_lt_zero:=@Nat.not_lt_zero
theorem ycq:type_of% @Int.natCast_pow:=@Int.natCast_pow
theorem ycr:type_of% @Bool.not_eq_true':=@Bool.not_eq_true'
theorem ycs:type_of% @Bool.and_true:=@Bool.and_true
theorem yct:type_of% @Bool.not_false:=@Bool.not_false
theorem ycu:type_of% @List.take_length:=@List.take_length
theorem ycv:type_of% @Int.one_mul:=@Int.one_mul
theorem ycw:type_of% @Nat.add_comm:=@Nat.add_comm
theorem ycx:type_of% @Nat.add_assoc:=@Nat.add_assoc
theorem ycy:type_of% @Nat.not_lt:=@Nat.not_lt
abbrev ZFr:=PySem.W.Frag
variable {us:List PySem.Value}{P prog:PySem.Program}{w:PySem.World}{h h' base:PySem.Heap}{pins:List (PySem.Addr × PySem.Obj)}{s:PySem.Shared}{t' t:Nat}{N:List PySem.Str}{A:PySem.Around}{E Q:PySem.Value->PySem.Shared->Prop}{K:ZFr}{st:PySem.Stmt}{es:List PySem.Expr}{tg:PySem.Expr}{pos':PySem.Pos}{fp:List PySem.Addr}{C f CM:PySem.Addr}{g:Nat->Option Nat}{mg:PySem.Str->Option PySem.Value}{fd:PySem.FuncData}{ps ks caps ms qs:List Nat}{sc scope:PySem.Scope}{qual:PySem.Str}{osl:Array (Option PySem.Value)}{rs:List (Nat × Nat)}{clos:List (PySem.Str × PySem.Addr)}{XP:(PySem.Str->Option PySem.Value)->PySem.Heap->Prop}{CK:Bool->PySem.Addr}
set_option Elab.async false
set_option linter.all false
set_option maxRecDepth 100000
namespace L2
open PySem PySem.Spec PyProof.Rows
abbrev Key:=Sum Int Str
def keyIs:Key->Value->Bool
 | .inl k,v=>Value.isInt k v
 | .inr x,v=>Value.isStrOf x v
def keyH (w:World):Key->Int
 | .inl k=>hashInt k
 | .inr x=>hashStr w x
theorem ZaH:∀ {k:Key} {v:Value},keyIs k v=true->(∃ i t,k=Sum.inl i/\v=Value.int i t)\/(∃ x t,k=Sum.inr x/\v=Value.str x t)
 | .inl i,v,h=>by
   obtain ⟨t,e⟩:=Value.isInt_shape (k:=i) (v:=v) h;exact .inl ⟨i,t,rfl,e⟩
 | .inr x,v,h=>by
   obtain ⟨t,e⟩:=Value.isStrOf_shape (x:=x) (v:=v) h;exact .inr ⟨x,t,rfl,e⟩
theorem Zj2 (i:Int)(t:Tok):keyIs (.inl i) (.int i t)=true:=by simp [keyIs,Value.isInt]
theorem Zj1 (x:Str)(t:Tok):keyIs (.inr x) (.str x t)=true:=by simp [keyIs,Value.isStrOf]
theorem key_ll (a b:Int):decide ((Sum.inl a:Key)=Sum.inl b)=(a==b):=by
 by_cases e:a=b
 . subst e;simp
 . have h:¬ (Sum.inl a:Key)=Sum.inl b:=fun q=>e (Sum.inl.inj q)
   rw [yaw h];exact (zas.mpr e).symm
theorem key_rr (a b:Str):decide ((Sum.inr a:Key)=Sum.inr b)=decide (a=b):=by
 by_cases e:a=b
 . subst e;simp
 . have h:¬ (Sum.inr a:Key)=Sum.inr b:=fun q=>e (Sum.inr.inj q)
   rw [yaw h,yaw e]
theorem key_lr (a:Int)(b:Str):decide ((Sum.inl a:Key)=Sum.inr b)=false:=yaw (fun q=>nomatch q)
theorem key_rl (a:Str)(b:Int):decide ((Sum.inr a:Key)=Sum.inl b)=false:=yaw (fun q=>nomatch q)
def mixKind (prog:Program) (w:World):PySem.KeyKind prog w Key where
 is:=keyIs
 hash:=keyH w
 inj := fun v a b ha hb=>by
   rcases ZaH ha with ⟨i,t,rfl,rfl⟩ | ⟨x,t,rfl,rfl⟩
   . rcases ZaH hb with ⟨j,u,rfl,e⟩ | ⟨y,u,rfl,e⟩
     . injection e with e1 _;rw [e1]
     . exact nomatch e
   . rcases ZaH hb with ⟨j,u,rfl,e⟩ | ⟨y,u,rfl,e⟩
     . exact nomatch e
     . injection e with e1 _;rw [e1]
 byValue:=fun k v h=>by
   rcases ZaH h with ⟨i,t,rfl,rfl⟩ | ⟨x,t,rfl,rfl⟩<;>rfl
 pyHash:=fun hv h=>by
   rcases ZaH hv with ⟨i,t,rfl,rfl⟩ | ⟨x,t,rfl,rfl⟩
   . exact wpAny_pyHash_int h
   . exact wpAny_pyHash_str h
 eqBool:=fun hu hv h=>by
   rcases ZaH hu with ⟨i,t,rfl,rfl⟩ | ⟨x,t,rfl,rfl⟩
   . rcases ZaH hv with ⟨j,u,rfl,rfl⟩ | ⟨y,u,rfl,rfl⟩
     . rw [key_ll] at h;exact wpAny_eqBool_int h
     . rw [key_lr] at h;exact SeqAt.EqAt.int_str i t y u _ _ _ _ h
   . rcases ZaH hv with ⟨j,u,rfl,rfl⟩ | ⟨y,u,rfl,rfl⟩
     . rw [key_rl] at h;exact SeqAt.EqAt.str_int x t j u _ _ _ _ h
     . rw [key_rr] at h;exact wpAny_eqBool_str h
 «strs»:=fun k x t v h=>by
   rcases ZaH h with ⟨i,u,rfl,e⟩ | ⟨y,u,rfl,e⟩
   . exact nomatch e
   . injection e with e1 _
     subst e1;cases v<;>rfl
theorem ZhS (prog:Program)(w:World)(k:Key)(v:Value):(mixKind prog w).is k v=keyIs k v:=rfl
theorem Zhd (prog:Program)(w:World)(i:Int)(t:Tok):(mixKind prog w).is (.inl i) (.int i t)=true:=Zj2 i t
theorem ZhK (prog:Program)(w:World)(x:Str)(t:Tok):(mixKind prog w).is (.inr x) (.str x t)=true:=Zj1 x t
inductive V where
 | non | bl (b:Bool) | int (i:Int) | str (x:Str) | byt (b:Array UInt8) | flt (b:UInt64) | ref (a:Addr) | ty (n:String)
 deriving DecidableEq
def RelV:V->Value->Prop
 | .non,u=>u=Value.none
 | .bl b,u=>u=Value.bool b
 | .int i,u=>∃ t,u=Value.int i t
 | .str x,u=>∃ t,u=Value.str x t
 | .byt b,u=>∃ t,u=Value.bytes b t
 | .flt b,u=>∃ t,u=Value.float b t
 | .ref a,u=>u=Value.ref a
 | .ty n,u=>u=Value.type n
abbrev Vals:List V->List Value->Prop:=Paired RelV
theorem Vals.length {xs:List V}(r:Vals xs us):xs.length=us.length:=Paired.length r
theorem Vals.get:∀ {xs:List V} {us:List Value} {i:Nat} {x:V},Vals xs us->xs[i]?=some x->∃ u,us[i]?=some u/\RelV x u
 | _,_,_,_,.nil,e=>by simp at e
 | _,_,0,_,.cons r _,e=>by simp at e;subst e;exact ⟨_,rfl,r⟩
 | _,_,i+1,x,.cons _ t,e=>by
   obtain ⟨u,h1,h2⟩:=Vals.get (i:=i) (x:=x) t (by simpa using e);exact ⟨u,by simpa using h1,h2⟩
theorem Vals.append:∀ {xs ys:List V} {us ws:List Value},Vals xs us->Vals ys ws->Vals (xs++ys) (us++ws)
 | _,_,_,_,.nil,s=>s
 | _,_,_,_,.cons r t,s=>.cons r (Vals.append t s)
theorem Vals.take:∀ {xs:List V} {us:List Value} (n:Nat),Vals xs us->Vals (xs.take n) (us.take n)
 | _,_,0,_=>.nil
 | _,_,_+1,.nil=>.nil
 | _,_,n+1,.cons r t=>.cons r (Vals.take n t)
theorem Vals.drop:∀ {xs:List V} {us:List Value} (n:Nat),Vals xs us->Vals (xs.drop n) (us.drop n)
 | _,_,0,r=>r
 | _,_,_+1,.nil=>.nil
 | _,_,n+1,.cons _ t=>Vals.drop n t
def RelO:Option V->Option Value->Prop
 | some v,some u=>RelV v u
 | none,none=>True
 | _,_=>False
def KV {κ:Type}:List (κ × V)->List (κ × Value)->Prop:=Paired fun (p:κ × V) (q:κ × Value)=>p.1=q.1/\RelV p.2 q.2
def kV:Key->V
 | .inl i=>.int i
 | .inr x=>.str x
inductive HO where
 | lst (xs:List V)
 | tup (xs:List V)
 | dK (kvs:List (Key × V)) | dT (kvs:List (List Key × V))
 | set (S:Int->Bool) (n:Nat)
 | ins (C dx:Addr) (fs:List (Str × V))
 | own (x:Addr)
 | xd (fs:List (Str × V))
 | met (f x:Addr)
 | rng (lo hi:Int)
 | frz (o:Obj) (u:HO)
 | tbl (ps:Array Value)
 | ext (φ:Heap->Prop)
abbrev Hp:=Addr->Option HO
def upd (H:Hp)(a:Addr)(o:HO):Hp:=fun b=>if b=a then some o else H b
theorem Zac {H:Hp}{a:Addr}{o:HO}:upd H a o a=some o:=by unfold upd;rw [if_pos rfl]
theorem Zai {H:Hp}{a b:Addr}{o:HO}(h:b≠a):upd H a o b=H b:=by unfold upd;rw [if_neg h]
theorem upd_upd {H:Hp}{a:Addr}{o u:HO}:upd (upd H a o) a u=upd H a u:=by funext b;unfold upd;split<;>rfl
theorem ne_of {H:Hp}{a b:Addr}{o u:HO}(h:H a=some o)(h':H b=some u)(d:o≠u):a≠b:=by intro e;subst e;rw [h] at h';exact d (Option.some.inj h')
theorem Zaq {H:Hp}{a b:Addr}{o:HO}(h:H a=some o)(h':H b=none):a≠b:=by intro e;subst e;rw [h] at h';cases h'
section
variable (P:Program)(w:World)
def ObjOk (H:Hp)(h:Heap)(a:Addr):HO->Prop
 | .lst xs=>xs.length<=sizeLine/\∃ (its:List Value) (n:Nat),Vals xs its/\h.get? a=some { cls:=.type "list",data:=.seq its.toArray n }
 | .tup xs=>xs.length<=sizeLine/\∃ its:List Value,Vals xs its/\IsTup h a its.toArray
 | .dK kvs=>kvs.length<=sizeLine/\(a==sysModules)=false/\∃ vs,KV kvs vs/\h.DictOf (mixKind P w) a vs
 | .dT kvs=>kvs.length<=sizeLine/\(a==sysModules)=false/\∃ xs:List (List Key × Addr × Value),
     Paired (fun (p:List Key × V) (q:List Key × Addr × Value)=>p.1=q.1/\H q.2.1=some (.tup (p.1.map kV))/\RelV p.2 q.2.2) kvs xs /\
     ∃ o es ep,h.get? a=some o/\o.ExactDict/\o.data=.dict es ep/\es.toList=xs.map (entryOfKey (tupleKind (mixKind P w)))/\(xs.map (·.1)).Nodup
 | .set S n=>h.SetOf (intKind P w) a S n
 | .ins C dx fs=>H dx=some (.own a)/\fs.length<=1000/\dx≠a/\h.get? a=some (PySem.W.instObj C dx) /\
     ∃ mA,h.Ns1 dx mA/\(∀ f,RelO (fs.lookup f) (mA f))/\PySem.Within mA (fs.map (·.1))
 | .own _=>∃ o,h.get? a=some o
 | .xd fs=>∃ mA,h.Ns1 a mA/\∀ f,RelO (fs.lookup f) (mA f)
 | .rng lo hi=>∃ t u v,h.get? a=some { cls:=.type "range",data:=.fields #[.int lo t,.int hi u,.int 1 v] }
 | .frz o u=>h.get? a=some o/\ObjOk H h a u
 | .tbl ps=>h.get? a=some { cls:=.none,data:=.fields ps }
 | .met f x=>h.get? a=some (PySem.W.methodObj (.ref f) (.ref x))
 | .ext φ=>φ h/\(∃ o,h.get? a=some o)/\∀ h1 h2:Heap,φ h1->(∀ o,h1.get? a=some o->h2.get? a=some o)->φ h2
def HOk (H:Hp)(h:Heap):Prop:=∀ a o,H a=some o->ObjOk P w H h a o
end
section
variable {H H':Hp}{a:Addr}{o:HO}
theorem ObjOk.lt (x:ObjOk P w H h a o):a<h.objs.size:=by
 cases o with
 | lst xs=>obtain ⟨_,_,_,_,e⟩:=x;exact zad e
 | tup xs=>obtain ⟨_,_,_,p⟩:=x;exact p.lt
 | dK kvs=>obtain ⟨_,_,_,_,o,_,_,e,_⟩:=x;exact zad e
 | dT kvs=>obtain ⟨_,_,_,_,o,_,_,e,_⟩:=x;exact zad e
 | set S n=>obtain ⟨o,_,_,_,e,_⟩:=x;exact zad e
 | ins C dx fs=>obtain ⟨_,_,_,e,_⟩:=x;exact zad e
 | own y=>obtain ⟨_,e⟩:=x;exact zad e
 | xd fs=>obtain ⟨_,⟨_,_,_,e,_⟩,_⟩:=x;exact zad e
 | rng lo hi=>obtain ⟨_,_,_,e⟩:=x;exact zad e
 | frz ob u=>obtain ⟨e,_⟩:=x;exact zad e
 | tbl ps=>exact zad (show h.get? a=some _ from x)
 | met f y=>exact zad (show h.get? a=some _ from x)
 | ext φ=>obtain ⟨_,⟨_,e⟩,_⟩:=x;exact zad e
theorem Paired.mapP {α β:Type}{F G:α->β->Prop}:∀ {l₁:List α} {l₂:List β},Paired F l₁ l₂->(∀ a b,F a b->G a b)->Paired G l₁ l₂
 | _,_,.nil,_=>.nil
 | _,_,.cons r t,f=>.cons (f _ _ r) (Paired.mapP t f)
theorem ObjOk.stay (x:ObjOk P w H h a o)(k:∀ b u,(b=a\/H b=some (.own a))->h.get? b=some u->h'.get? b=some u)
   (ho:∀ b,H b=some (.own a)->H' b=some (.own a)) (ht:∀ b xs,H b=some (.tup xs)->H' b=some (.tup xs)):ObjOk P w H' h' a o:=by
 induction o with
 | lst xs=>obtain ⟨z,its,n,r,e⟩:=x;exact ⟨z,its,n,r,k _ _ (.inl rfl) e⟩
 | tup xs=>obtain ⟨z,its,r,ob,e,c⟩:=x;exact ⟨z,its,r,ob,k _ _ (.inl rfl) e,c⟩
 | dK kvs=>obtain ⟨z,y,vs,r,ob,es,ep,e,c⟩:=x;exact ⟨z,y,vs,r,ob,es,ep,k _ _ (.inl rfl) e,c⟩
 | dT kvs =>
   obtain ⟨z,y,xs,r,ob,es,ep,e,c⟩:=x;exact ⟨z,y,xs,Paired.mapP r fun p q z=>⟨z.1,ht _ _ z.2.1,z.2.2⟩,ob,es,ep,k _ _ (.inl rfl) e,c⟩
 | set S n=>obtain ⟨ob,es,ep,t,e,c⟩:=x;exact ⟨ob,es,ep,t,k _ _ (.inl rfl) e,c⟩
 | ins C dx fs =>
   obtain ⟨d,z,ne,e,mA,⟨od,es,ep,e2,c⟩,r⟩:=x;exact ⟨ho _ d,z,ne,k _ _ (.inl rfl) e,mA,⟨od,es,ep,k _ _ (.inr d) e2,c⟩,r⟩
 | own y=>obtain ⟨ob,e⟩:=x;exact ⟨ob,k _ _ (.inl rfl) e⟩
 | xd fs=>obtain ⟨mA,⟨od,es,ep,e,c⟩,r⟩:=x;exact ⟨mA,⟨od,es,ep,k _ _ (.inl rfl) e,c⟩,r⟩
 | rng lo hi=>obtain ⟨t,u,v,e⟩:=x;exact ⟨t,u,v,k _ _ (.inl rfl) e⟩
 | frz ob u ih=>obtain ⟨e,q⟩:=x;exact ⟨k _ _ (.inl rfl) e,ih q⟩
 | tbl ps =>
   have e:h.get? a=some { cls:=.none,data:=.fields ps }:=x;show h'.get? a=some { cls:=.none,data:=.fields ps };exact k a _ (.inl rfl) e
 | met f y =>
   have e:h.get? a=some (PySem.W.methodObj (.ref f) (.ref y)):=x;show h'.get? a=some (PySem.W.methodObj (.ref f) (.ref y));exact k a _ (.inl rfl) e
 | ext φ=>obtain ⟨p,⟨o,e⟩,st⟩:=x;exact ⟨st _ _ p fun o q=>k _ _ (.inl rfl) q,⟨o,k _ _ (.inl rfl) e⟩,st⟩
theorem HOk.lt (x:HOk P w H h)(e:H a=some o):a<h.objs.size:=(x a o e).lt
theorem HOk.fresh (x:HOk P w H h)(e:h.objs.size<=a):H a=none:=by
 cases q:H a with
 | none=>rfl
 | some u=>exact absurd (yay (x.lt q) e) (ybs _)
theorem HOk.kept (x:HOk P w H h)(k:∀ b u,h.get? b=some u->h'.get? b=some u):HOk P w H h':=fun a o e =>
 (x a o e).stay (fun b u _ q=>k b u q) (fun _ q=>q) fun _ _ q=>q
theorem HOk.laid (x:HOk P w H h)(k:∀ b u,h.get? b=some u->h'.get? b=some u)(hp:h.objs.size<=a)(new:ObjOk P w (upd H a o) h' a o):HOk P w (upd H a o) h':=fun b u e=>by
 have hn:=x.fresh hp;by_cases hb:b=a
 . subst hb;rw [Zac] at e;cases e;exact new
 . rw [Zai hb] at e
   exact (x b u e).stay (fun c v _ q=>k c v q) (fun c q=>by rw [Zai (Zaq q hn)];exact q) fun c xs q=>by rw [Zai (Zaq q hn)];exact q
end
def Rd (H:Hp)(a:Addr)(u:HO):Prop:=H a=some u\/∃ o,H a=some (.frz o u)
theorem Rd.ok {H:Hp}{a:Addr}{u:HO}(r:Rd H a u)(x:HOk P w H h):ObjOk P w H h a u:=by
 rcases r with r | ⟨o,r⟩
 . exact x a u r
 . obtain ⟨_,q⟩:=x a _ r
   exact q
def Mut:Option HO->Prop
 | some (.lst _)=>True
 | some (.dK _)=>True
 | some (.dT _)=>True
 | some (.set _ _)=>True
 | some (.ins _ _ _)=>True
 | some (.ext _)=>True
 | _=>False
section
variable {H:Hp}{x e:Addr}{o':HO}
theorem HOk.write (ok:HOk P w H h) (mu:Mut (H x)) (he:e=x\/H e=some (.own x)) (k:∀ b u,b≠e->h.get? b=some u->h'.get? b=some u) (heo:∃ u,h'.get? e=some u)
   (new:ObjOk P w (upd H x o') h' x o'):HOk P w (upd H x o') h':=fun b u q=>by
 have nown:∀ c y,H c=some (.own y)->c≠x:=fun c y r z=>by subst z;rw [r] at mu;exact mu
 have ntup:∀ c xs,H c=some (.tup xs)->c≠x:=fun c xs r z=>by subst z;rw [r] at mu;exact mu
 by_cases hb:b=x
 . subst hb;rw [Zac] at q;cases q;exact new
 . rw [Zai hb] at q
   by_cases hbe:b=e
   . have q':H b=some (.own x):=by
       rcases he with z | z
       . exact absurd (hbe.trans z) hb
       . rw [hbe];exact z
     rw [q] at q';cases q';obtain ⟨v,hv⟩:=heo;exact ⟨v,by rw [hbe];exact hv⟩
   . refine (ok b u q).stay (fun c v hc r=>k c v ?_ r) (fun c r=>by rw [Zai (nown c b r)];exact r) fun c xs r=>by rw [Zai (ntup c xs r)];exact r
     rcases hc with rfl | hc
     . exact hbe
     . rintro rfl
       rcases he with z | z
       . exact nown c b hc z
       . rw [hc] at z;cases z;exact hb rfl
end
structure Un (fs ex:List Addr)(H H':Hp)(h h':Heap):Prop where
 keep:∀ b o,h.get? b=some o->H b=none->b∉fs->b∉ex->h'.get? b=some o
 slot:∀ b o,h.get? b=some o->H b=none->b∈fs->b∉ex->∃ sl,h'.get? b=some { o with slots:=sl }
 free:∀ b o,h.get? b=some o->H b=none->b∉ex->H' b=none
 there:∀ b o,h.get? b=some o->b∉ex->∃ o',h'.get? b=some o'
 tups:∀ b xs,H b=some (.tup xs)->H' b=some (.tup xs)
 frzs:∀ b o u,H b=some (.frz o u)->H' b=some (.frz o u)
 tbls:∀ b ps,H b=some (.tbl ps)->∃ more,H' b=some (.tbl (ps++more))
section
variable {fs fs' ex ex':List Addr}{H H1 H2:Hp}{h1 h2:Heap}{a x e:Addr}{o:HO}
theorem Un.any (u:Un fs ex H H1 h h1){b:Addr}{ob:Obj}(q:h.get? b=some ob)(n:H b=none)(hx:b∉ex):∃ sl,h1.get? b=some { ob with slots:=sl }:=by
 by_cases hb:b∈fs
 . exact u.slot b ob q n hb hx
 . exact ⟨ob.slots,u.keep b ob q n hb hx⟩
theorem Un.trans (a:Un fs ex H H1 h h1)(b:Un fs ex H1 H2 h1 h2):Un fs ex H H2 h h2 where
 keep:=fun c ob q n hc hx=>b.keep c ob (a.keep c ob q n hc hx) (a.free c ob q n hx) hc hx
 slot:=fun c ob q n hc hx=>by
   obtain ⟨sl,e1⟩:=a.slot c ob q n hc hx;obtain ⟨sl',e2⟩:=b.slot c _ e1 (a.free c ob q n hx) hc hx;exact ⟨sl',e2⟩
 free:=fun c ob q n hx=>by
   obtain ⟨o',e1⟩:=a.there c ob q hx;exact b.free c o' e1 (a.free c ob q n hx) hx
 there:=fun c ob q hx=>by
   obtain ⟨o',e1⟩:=a.there c ob q hx;exact b.there c o' e1 hx
 tups:=fun c xs q=>b.tups c xs (a.tups c xs q)
 frzs:=fun c ob xs q=>b.frzs c ob xs (a.frzs c ob xs q)
 tbls:=fun c ps q=>by
   obtain ⟨m1,e1⟩:=a.tbls c ps q;obtain ⟨m2,e2⟩:=b.tbls c _ e1;exact ⟨m1++m2,by rw [e2,Array.append_assoc]⟩
theorem Un.kept (k:∀ b u,h.get? b=some u->h'.get? b=some u):Un fs ex H H h h' :=
 ⟨fun b ob q _ _ _=>k b ob q,fun b ob q _ _ _=>⟨ob.slots,k b ob q⟩,fun _ _ _ n _=>n,fun b ob q _=>⟨ob,k b ob q⟩,fun _ _ q=>q,fun _ _ _ q=>q,fun _ ps q=>⟨#[],by rw [q];simp⟩⟩
theorem Un.refl:Un fs ex H H h h:=Un.kept fun _ _ q=>q
theorem Un.laid (k:∀ b u,h.get? b=some u->h'.get? b=some u)(hp:h.objs.size<=a)(hn:H a=none):Un fs ex H (upd H a o) h h' where
 keep:=fun b u q _ _ _=>k b u q
 slot:=fun b u q _ _ _=>⟨u.slots,k b u q⟩
 free:=fun b u q n _=>by rw [Zai (yaE (yay (zad q) hp))];exact n
 there:=fun b u q _=>⟨u,k b u q⟩
 tups:=fun b xs q=>by rw [Zai (Zaq q hn)];exact q
 frzs:=fun b u xs q=>by rw [Zai (Zaq q hn)];exact q
 tbls:=fun b ps q=>⟨#[],by rw [Zai (Zaq q hn),q];simp⟩
theorem Un.write (mu:Mut (H x))(he:e=x\/H e=some (.own x))(k:∀ b u,b≠e->h.get? b=some u->h'.get? b=some u)(heo:∃ u,h'.get? e=some u):Un fs ex H (upd H x o) h h':=by
 have hx:∀ b,H b=none->b≠x:=fun b n z=>by subst z;rw [n] at mu;exact mu
 have hb:∀ b,H b=none->b≠e:=fun b n z=>by
   subst z;rcases he with r | r
   . exact hx b n r
   . rw [n] at r;cases r
 have hm:∀ b u,H b=some u->¬ Mut (some u)->b≠x:=fun b u q nm z=>by subst z;rw [q] at mu;exact nm mu
 refine ⟨fun b u q n _ _=>k b u (hb b n) q,fun b u q n _ _=>⟨u.slots,k b u (hb b n) q⟩,fun b u q n _=>by rw [Zai (hx b n)];exact n,fun b u q _=>?_,
   fun b xs q=>by rw [Zai (hm b _ q fun z=>z)];exact q,fun b u xs q=>by rw [Zai (hm b _ q fun z=>z)];exact q,fun b ps q=>⟨#[],by rw [Zai (hm b _ q fun z=>z),q];simp⟩⟩
 by_cases hbe:b=e
 . subst hbe;exact heo
 . exact ⟨u,k b u hbe q⟩
end
def trk (h:Heap)(H:Hp):List Addr:=(List.range h.objs.size).filter fun a=>(H a).isSome
def hidT (h:Heap)(H:Hp):Heap:=PySem.W.hideAll h (trk h H)
theorem ZfP (h:Heap)(H:Hp):(hidT h H).objs.size=h.objs.size:=PySem.W.hideAll_size _ _
theorem ZhP {H:Hp}{b:Addr}{o:Obj}(e:h.get? b=some o)(n:H b=none):(hidT h H).get? b=some o :=
 PySem.W.hideAll_get _ e fun hm=>by
   have q:(H b).isSome=true:=(yau.mp hm).2;rw [n] at q;simp at q
theorem Zi8 {H:Hp}{b:Addr}{o:Obj}(e:(hidT h H).get? b=some o):h.get? b=some o/\H b=none:=by
 have e':h.get? b=some o:=PySem.W.of_hideAll (trk h H) e;refine ⟨e',?_⟩;cases q:H b with
 | none=>rfl
 | some x =>
   have hm:b∈trk h H:=yau.mpr ⟨ybR.mpr (zad e'),by simp [q]⟩;have z:(hidT h H).get? b=none:=PySem.W.hideAll_none (trk h H) hm;rw [z] at e;cases e
def allNews (g h:Heap)(L:Addr):List (Addr × Obj):=(List.range h.objs.size).filterMap fun a=>if a=L\/(g.get? a).isSome=true then none else (h.get? a).map fun o=>(a,o)
def rest (g h:Heap)(L d:Addr):List (Addr × Obj):=(allNews g h L).filter fun p=>decide (p.1≠d)
structure Mod (K:ZFr)(mg:Str->Option Value)(base:Heap):Prop where
 kin:K.In base
 glob:base.Ns mainGlobals mg
 blt:∃ mb,base.Ns builtinsNs mb/\∀ x:Str,x≠"__name__"->mb x=bootBuiltins x
 nolimit:base.NoLimit
structure Cx where
 prog:Program
 w:World
 K:ZFr
 mg:Str->Option Value
 base:Heap
 A:Around
 N:List Str
 s₀:Shared
 H₀:Hp
 env:Env
 outer:List Env
 stack:List Env
 ex:List Addr
 fn:Str->Bool
 calm:Bool
 pn:List (Addr × Obj)
 xe:Value->Shared->Prop
def frs (l:List Env):List Addr:=l.filterMap (·.frame)
abbrev Cx.fs (X:Cx):List Addr:=frs X.outer
def Vis (sc:Scope)(x:Str):Prop:=sc.names.lookup x=some .local\/sc.names.lookup x=some .cell\/sc.names.lookup x=some .free
def Loc (sc:Scope)(x:Str):Prop:=sc.names.lookup x=some .local\/sc.names.lookup x=some .cell
def Look (env:Env)(h:Heap)(m:Str->Option Value)(x:Str)(u:Value):Prop :=
 (env.kindOf x=some .local/\m x=some u)\/((env.kindOf x=some .cell\/env.kindOf x=some .free)/\∃ c,env.cells.lookup x=some c/\h.IsCell c (some u))
structure Cx.Ok (X:Cx):Prop where
 mod:Mod X.K X.mg X.base
 kind:X.env.scope.kind=.function
 glob:X.env.globals=mainGlobals
 blt:X.env.builtins=builtinsNs
 above:X.s₀.heap.objs.size<=X.env.locals
 inj:∀ x y c,X.env.cells.lookup x=some c->X.env.cells.lookup y=some c->x=y
 has:∀ x,(X.env.kindOf x=some .cell\/X.env.kindOf x=some .free)->∃ c,X.env.cells.lookup x=some c
 cab:∀ x c,X.fn x=true->X.env.cells.lookup x=some c->X.s₀.heap.objs.size<=c
 hd:X.calm=true->X.A.handled=none
 frames:X.A.frames=some X.stack
 stk:X.stack=X.outer\/(X.stack=X.env::X.outer/\X.env.frame=some X.env.locals)
 exf:∀ b∈X.ex,b≠X.env.locals/\∀ x c,X.env.cells.lookup x=some c->c≠b
 bs:∀ b o,X.base.get? b=some o->X.s₀.heap.get? b=some o/\X.H₀ b=none
 bsz:X.base.objs.size<=X.s₀.heap.objs.size
 noex:∀ b o,X.base.get? b=some o->b∉X.ex
 exfs:∀ b∈X.ex,b∉X.fs
 funs:X.s₀.heap.FunFrames X.base X.outer
 frf:∀ b∈X.fs,X.H₀ b=none
structure Inv (X:Cx)(pins:List (Addr × Obj))(σ:List (Option V))(H:Hp)(s:Shared):Prop where
 ok:X.Ok
 os:s.os=X.s₀.os
 bare:AllBare s.gens
 base:Un X.fs X.ex X.H₀ H X.s₀.heap s.heap
 loc:∃ m,s.heap.Ns X.env.locals m/\∀ (i:Nat) (x:Str) (v:V),X.N[i]?=some x->σ[i]?=some (some v)->Vis X.env.scope x->∃ u,RelV v u/\Look X.env s.heap m x u
 cell:∀ x c,X.env.cells.lookup x=some c->∃ v,s.heap.IsCell c v
 free:H X.env.locals=none
 freeC:∀ x c,X.env.cells.lookup x=some c->H c=none
 pin:∀ p∈X.pn++pins,s.heap.get? p.1=some p.2/\H p.1=none/\p.1≠X.env.locals/\p.1∉X.fs/\∀ v,p.2.data≠.cell v
 hok:HOk X.prog X.w H s.heap
 len:σ.length=X.N.length
section
variable {X:Cx}{σ:List (Option V)}{H H':Hp}
theorem Cx.Ok.nofr (ok:X.Ok){b:Addr}{o:Obj}(e:X.base.get? b=some o):b∉X.fs:=fun hb=>by
 have:=(ok.funs.mem hb).1;rw [e] at this;cases this
theorem Inv.bs (I:Inv X pins σ H s):∀ b o,X.base.get? b=some o->s.heap.get? b=some o/\H b=none:=fun b o e =>
 ⟨I.base.keep b o (I.ok.bs b o e).1 (I.ok.bs b o e).2 (I.ok.nofr e) (I.ok.noex b o e),I.base.free b o (I.ok.bs b o e).1 (I.ok.bs b o e).2 (I.ok.noex b o e)⟩
theorem Inv.bk (I:Inv X pins σ H s):∀ b o,X.base.get? b=some o->s.heap.get? b=some o:=fun b o e=>(I.bs b o e).1
theorem Inv.mod (I:Inv X pins σ H s):Mod X.K X.mg X.base:=I.ok.mod
theorem Inv.kIn (I:Inv X pins σ H s):X.K.In s.heap:=I.ok.mod.kin.keeps I.bk
theorem Inv.lt (I:Inv X pins σ H s):X.env.locals<s.heap.objs.size:=let ⟨_,hn,_⟩:=I.loc;hn.lt
theorem Inv.sz (I:Inv X pins σ H s):X.s₀.heap.objs.size<=s.heap.objs.size:=yaN I.ok.above (ybF I.lt)
theorem Inv.nofs (I:Inv X pins σ H s){a:Addr}(h:s.heap.objs.size<=a):a∉X.fs:=fun hb=>by
 obtain ⟨_,o,ho,_⟩:=I.ok.funs.mem hb;exact absurd (yay (zad ho) (yaN I.sz h)) (ybs _)
theorem Inv.cne (I:Inv X pins σ H s):∀ x c,X.env.cells.lookup x=some c->c≠X.env.locals:=fun x c e z=>by
 obtain ⟨v,o,ho,hd⟩:=I.cell x c e;obtain ⟨m,⟨o',es,ep,ho',hd',_⟩,_⟩:=I.loc;rw [z,ho'] at ho;cases ho;rw [hd'] at hd;cases hd
theorem Inv.funs (I:Inv X pins σ H s):s.heap.FunFrames X.base X.outer:=by
 have all:∀ (l:List Env),(∀ b∈frs l,b∈X.fs)->X.s₀.heap.FunFrames X.base l->s.heap.FunFrames X.base l:=by
   intro l;induction l with
   | nil=>intro _ _;trivial
   | cons env r ih =>
     intro hs hl;obtain ⟨hk,⟨L,o,hf,hn,ho,hd⟩,hr⟩:=hl;have hL:L∈X.fs:=hs L (by unfold frs;rw [List.filterMap_cons,hf];exact yaK);obtain ⟨sl,e⟩:=I.base.slot L o ho (I.ok.frf L hL) hL fun z=>I.ok.exfs L z hL
     exact ⟨hk,⟨L,_,hf,hn,e,hd⟩,ih (fun b hb=>hs b (by unfold frs;rw [List.filterMap_cons,hf];exact yaM _ hb)) hr⟩
 exact all X.outer (fun _ hb=>hb) I.ok.funs
theorem Inv.stack (I:Inv X pins σ H s):s.heap.FunFrames X.base X.stack:=by
 rcases I.ok.stk with e | ⟨e,hf⟩
 . rw [e];exact I.funs
 . rw [e]
   obtain ⟨m,hn,_⟩:=I.loc;refine .cons (by rw [I.ok.kind];decide) hf hn ?_ I.funs;exact Heap.get?_none_of_le (yaN I.ok.bsz I.ok.above)
theorem Inv.stkSub (I:Inv X pins σ H s):∀ b∈frs X.stack,b∈X.env.locals::X.fs:=fun b hb=>by
 rcases I.ok.stk with e | ⟨e,hf⟩
 . rw [e] at hb;exact yaM _ hb
 . rw [e] at hb
   unfold frs at hb;rw [List.filterMap_cons,hf] at hb;exact hb
theorem Inv.stkFree (I:Inv X pins σ H s):∀ b∈frs X.stack,H b=none:=fun b hb=>by
 rcases yaj.mp (I.stkSub b hb) with e | hb
 . rw [e];exact I.free
 . obtain ⟨_,o,ho,_⟩:=I.ok.funs.mem hb
   exact I.base.free b o ho (I.ok.frf b hb) fun z=>I.ok.exfs b z hb
theorem Inv.step {g':Array GenState}{d':Drawn}{ch:List Addr}(I:Inv X pins σ H s)
   (hch:∀ b∈ch,(b∈X.ex\/X.s₀.heap.objs.size<=b)/\b≠X.env.locals/\(∀ x c,X.env.cells.lookup x=some c->c≠b)/\∀ p∈X.pn++pins,p.1≠b)
   (keep:∀ b o,b≠X.env.locals->b∉X.fs->b∉ch->s.heap.get? b=some o->H b=none->h'.get? b=some o)
   (slot:∀ b o,b≠X.env.locals->b∈X.fs->b∉ch->s.heap.get? b=some o->H b=none->∃ sl,h'.get? b=some { o with slots:=sl }) (free:∀ b o,b∉ch->s.heap.get? b=some o->H b=none->H' b=none)
   (there:∀ b o,b∉ch->s.heap.get? b=some o->∃ o',h'.get? b=some o')
   (tups:∀ b xs,H b=some (.tup xs)->H' b=some (.tup xs)) (frzs:∀ b o u,H b=some (.frz o u)->H' b=some (.frz o u)) (tbls:∀ b ps,H b=some (.tbl ps)->∃ more,H' b=some (.tbl (ps++more)))
   (ns:∀ m,s.heap.Ns X.env.locals m->h'.Ns X.env.locals m) (hok:HOk X.prog X.w H' h') (hg:AllBare g') :
   Inv X pins σ H' { s with heap:=h',gens:=g',drawn:=d',toks:=t' }:=by
 have neL:∀ b o,X.s₀.heap.get? b=some o->b≠X.env.locals:=fun b o e=>yaE (yay (zad e) I.ok.above)
 have neC:∀ b o,X.s₀.heap.get? b=some o->b∉X.ex->b∉ch:=fun b o e hx hb=>by
   rcases (hch b hb).1 with z | z
   . exact hx z
   . exact absurd (yay (zad e) z) (ybs _)
 have cellK:∀ x c,X.env.cells.lookup x=some c->∀ v,s.heap.IsCell c v->h'.IsCell c v:=fun x c e v ⟨o,ho,hd⟩=>by
   have nch:c∉ch:=fun z=>(hch c z).2.2.1 x c e rfl
   by_cases hc:c∈X.fs
   . obtain ⟨sl,q⟩:=slot c o (I.cne x c e) hc nch ho (I.freeC x c e)
     exact ⟨_,q,hd⟩
   . exact ⟨o,keep c o (I.cne x c e) hc nch ho (I.freeC x c e),hd⟩
 refine ⟨I.ok,I.os,hg,⟨fun b o e n hb hx=>?_,fun b o e n hb hx=>?_,fun b o e n hx=>?_,fun b o e hx=>?_,fun b xs e=>tups b xs (I.base.tups b xs e),fun b o xs e=>frzs b o xs (I.base.frzs b o xs e),fun b ps e=>?_⟩,?_,fun x c e=>?_,?_,fun x c e=>?_,fun p hp=>?_,hok,I.len⟩
 . exact keep b o (neL b o e) hb (neC b o e hx) (I.base.keep b o e n hb hx) (I.base.free b o e n hx)
 . obtain ⟨sl,e1⟩:=I.base.slot b o e n hb hx
   obtain ⟨sl',e2⟩:=slot b _ (neL b o e) hb (neC b o e hx) e1 (I.base.free b o e n hx);exact ⟨sl',e2⟩
 . obtain ⟨o',e1⟩:=I.base.there b o e hx
   exact free b o' (neC b o e hx) e1 (I.base.free b o e n hx)
 . obtain ⟨o',e1⟩:=I.base.there b o e hx
   exact there b o' (neC b o e hx) e1
 . obtain ⟨m1,e1⟩:=I.base.tbls b ps e
   obtain ⟨m2,e2⟩:=tbls b _ e1;exact ⟨m1++m2,by rw [e2,Array.append_assoc]⟩
 . obtain ⟨m,hn,hl⟩:=I.loc
   refine ⟨m,ns m hn,fun i x v e1 e2 e3=>?_⟩;obtain ⟨u,r,l⟩:=hl i x v e1 e2 e3;refine ⟨u,r,?_⟩;rcases l with l | ⟨k,c,e,z⟩
   . exact .inl l
   . exact .inr ⟨k,c,e,cellK x c e _ z⟩
 . obtain ⟨v,z⟩:=I.cell x c e
   exact ⟨v,cellK x c e v z⟩
 . obtain ⟨m,⟨o,_,_,ho,_⟩,_⟩:=I.loc
   exact free _ o (fun z=>(hch _ z).2.1 rfl) ho I.free
 . obtain ⟨v,o,ho,hd⟩:=I.cell x c e
   exact free c o (fun z=>(hch c z).2.2.1 x c e rfl) ho (I.freeC x c e)
 . obtain ⟨e,n,ne,nf,d⟩:=I.pin p hp
   have nch:p.1∉ch:=fun z=>(hch p.1 z).2.2.2 p hp rfl
   exact ⟨keep p.1 p.2 ne nf nch e n,free p.1 p.2 nch e n,ne,nf,d⟩
theorem Inv.un (I:Inv X pins σ H s)(u:Un X.fs [] H H' s.heap h')(hok:HOk X.prog X.w H' h'):Inv X pins σ H' { s with heap:=h',toks:=t' }:=by
 obtain ⟨m,⟨o,es,ep,ho,r⟩,_⟩:=id I.loc;obtain ⟨sl,hL⟩:=u.any ho I.free (by simp);exact I.step (g':=s.gens) (d':=s.drawn) (ch:=[]) (fun _ z=>nomatch z) (fun b o _ hb _ e n=>u.keep b o e n hb (by simp)) (fun b o _ hb _ e n=>u.slot b o e n hb (by simp)) (fun b o _ e n=>u.free b o e n (by simp)) (fun b o _ e=>u.there b o e (by simp)) u.tups u.frzs u.tbls (fun m' hm=>by
   obtain ⟨o',es',ep',ho',r'⟩:=hm;rw [ho] at ho';cases ho';exact ⟨_,es',ep',hL,r'⟩) hok I.bare
theorem Inv.call {g':Array GenState}{d':Drawn}{ch:List Addr}(I:Inv X pins σ H s)(u:Un (frs X.stack) ch H H' s.heap h')(hok:HOk X.prog X.w H' h')(hg:AllBare g')
   (hch:∀ b∈ch,(b∈X.ex\/X.s₀.heap.objs.size<=b)/\b≠X.env.locals/\(∀ x c,X.env.cells.lookup x=some c->c≠b)/\∀ p∈X.pn++pins,p.1≠b) :
   Inv X pins σ H' { s with heap:=h',gens:=g',drawn:=d',toks:=t' }:=by
 obtain ⟨m,⟨o,es,ep,ho,r⟩,_⟩:=id I.loc;obtain ⟨sl,hL⟩:=u.any ho I.free fun z=>(hch _ z).2.1 rfl
 exact I.step (ch:=ch) hch (fun b o hL hb hc e n=>u.keep b o e n (fun z=>(yaj.mp (I.stkSub b z)).elim hL hb) hc) (fun b o _ _ hc e n=>u.any e n hc) (fun b o hc e n=>u.free b o e n hc) (fun b o hc e=>u.there b o e hc) u.tups u.frzs u.tbls (fun m' hm=>by
   obtain ⟨o',es',ep',ho',r'⟩:=hm;rw [ho] at ho';cases ho';exact ⟨_,es',ep',hL,r'⟩) hok hg
theorem Inv.turned {it:Addr}(I:Inv X pins σ H s)(k:∀ b o,b≠it->s.heap.get? b=some o->h'.get? b=some o)(hn:H it=none)(hL:it≠X.env.locals)
   (h1:it∈X.ex\/X.s₀.heap.objs.size<=it) (h2:∀ x c,X.env.cells.lookup x=some c->c≠it) (h3:∀ p∈X.pn++pins,p.1≠it):Inv X pins σ H { s with heap:=h',toks:=t' }:=by
 have nit:∀ b u,H b=some u->b≠it:=fun b u e z=>by rw [z,hn] at e;cases e
 refine I.step (g':=s.gens) (d':=s.drawn) (ch:=[it]) (fun b hb=>?_) (fun b o _ _ hc e _=>k b o (fun z=>hc (by simp [z])) e) (fun b o _ _ hc e _=>⟨o.slots,k b o (fun z=>hc (by simp [z])) e⟩) (fun _ _ _ _ n=>n)
   (fun b o hc e=>⟨o,k b o (fun z=>hc (by simp [z])) e⟩) (fun _ _ e=>e) (fun _ _ _ e=>e) (fun b ps e=>⟨#[],by rw [e];simp⟩) (fun m hm=>?_) (fun b u e=>?_) I.bare
 . have e:b=it:=by simpa using hb
   subst e;exact ⟨h1,hL,h2,h3⟩
 . obtain ⟨o,es,ep,ho,r⟩:=hm
   exact ⟨o,es,ep,k _ o (Ne.symm hL) ho,r⟩
 . refine (I.hok b u e).stay (fun c v hc q=>k c v ?_ q) (fun _ q=>q) fun _ _ q=>q
   rcases hc with z | z
   . rw [z];exact nit b u e
   . exact nit c _ z
theorem Inv.tok (I:Inv X pins σ H s)(t:Nat):Inv X pins σ H { s with toks:=t }:=I.un (h':=s.heap) (t':=t) Un.refl I.hok
theorem Inv.kept (I:Inv X pins σ H s)(k:∀ b u,s.heap.get? b=some u->h'.get? b=some u):Inv X pins σ H { s with heap:=h',toks:=t' }:=I.un (Un.kept k) (I.hok.kept k)
theorem Inv.laid {a:Addr}{o:HO}(I:Inv X pins σ H s)(k:∀ b u,s.heap.get? b=some u->h'.get? b=some u)(hp:s.heap.objs.size<=a)(new:ObjOk X.prog X.w (upd H a o) h' a o) :
   Inv X pins σ (upd H a o) { s with heap:=h',toks:=t' }:=I.un (Un.laid k hp (I.hok.fresh hp)) (I.hok.laid k hp new)
theorem Inv.write {x e:Addr}{o:HO}(I:Inv X pins σ H s)(mu:Mut (H x))(he:e=x\/H e=some (.own x))(k:∀ b u,b≠e->s.heap.get? b=some u->h'.get? b=some u)(heo:∃ u,h'.get? e=some u)
   (new:ObjOk X.prog X.w (upd H x o) h' x o):Inv X pins σ (upd H x o) { s with heap:=h',toks:=t' }:=I.un (Un.write mu he k heo) (I.hok.write mu he k heo new)
theorem Inv.weak {σ':List (Option V)}(I:Inv X pins σ H s)(hl:σ'.length=σ.length)(w:∀ (i:Nat) v,σ'[i]?=some (some v)->σ[i]?=some (some v)):Inv X pins σ' H s :=
 ⟨I.ok,I.os,I.bare,I.base,let ⟨m,hn,hl'⟩:=I.loc;⟨m,hn,fun i x v e1 e2 e3=>hl' i x v e1 (w i v e2) e3⟩,I.cell,I.free,I.freeC,I.pin,I.hok,hl.trans I.len⟩
theorem Inv.pins_of {pins':List (Addr × Obj)}(I:Inv X pins σ H s)(h:∀ p∈pins',s.heap.get? p.1=some p.2/\H p.1=none/\p.1≠X.env.locals/\p.1∉X.fs/\∀ v,p.2.data≠.cell v):Inv X pins' σ H s :=
 ⟨I.ok,I.os,I.bare,I.base,I.loc,I.cell,I.free,I.freeC,fun p hp=>(yaf.mp hp).elim (fun z=>I.pin p (ybj _ z)) (h p),I.hok,I.len⟩
theorem Zhg (hN:N.Nodup){i j:Nat}{x:Str}(a:N[i]?=some x)(b:N[j]?=some x):i=j:=by obtain ⟨h1,e1⟩:=yaQ.mp a;obtain ⟨h2,e2⟩:=yaQ.mp b;exact (List.getElem_inj hN).mp (e1.trans e2.symm)
theorem Zjv {M:Model} {i:Nat} {x:Str} {v:V} {u:Value} {Q:Unit->Shared->Prop} (I:Inv X pins σ H s) (hN:X.N.Nodup) (hi:X.N[i]?=some x) (hx:Loc X.env.scope x) (r:RelV v u)
   (h:∀ s',Inv X pins (σ.set i (some v)) H s'->(∃ a,Heap.SameBut a s.heap s'.heap/\(a=X.env.locals\/X.env.cells.lookup x=some a))->Q () s') (hf:X.fn x=true\/X.env.scope.names.lookup x=some .local:=by first | exact .inl rfl | exact .inr rfl | assumption):wpAny M A (storeName X.env x u) Q E s:=by
 obtain ⟨m,hn,hl⟩:=id I.loc;have hcls:(X.env.scope.kind==.class||(X.env.scope.kind==.module&&X.env.locals != X.env.globals))=false:=by rw [I.ok.kind];rfl
 have hiσ:i<σ.length:=by rw [I.len];exact (yaQ.mp hi).1
 have cne:=I.cne;have tracked:∀ {a:Addr} {h':Heap},(∃ o,s.heap.get? a=some o/\H a=none)->Heap.SameBut a s.heap h'->HOk X.prog X.w H h':=fun {a h'} ha hs b ob e=>by
   obtain ⟨_,_,hfree⟩:=ha;refine (I.hok b ob e).stay (fun c w' hc q=>(hs.2 c ?_).trans q) (fun _ q=>q) fun _ _ q=>q
   rintro rfl;rcases hc with rfl | hc
   . rw [hfree] at e;cases e
   . rw [hfree] at hc;cases hc
 rcases hx with hk | hk
 . refine wpAny_storeName_local hk hn (fun h' hn' hs=>?_) hcls
   obtain ⟨oL,_,_,hoL,_⟩:=id hn;refine h _ ⟨I.ok,I.os,I.bare,⟨fun b o e n hb hx=>?_,fun b o e n hb hx=>?_,I.base.free,fun b o e hx=>?_,I.base.tups,I.base.frzs,I.base.tbls⟩,⟨_,hn',fun j y v' e1 e2 e3=>?_⟩,fun y c e=>?_,I.free,I.freeC,fun p hp=>?_,tracked ⟨oL,hoL,I.free⟩ hs,by simpa using I.len⟩ ⟨_,hs,.inl rfl⟩
   . exact (hs.2 b (yaE (yay (zad e) I.ok.above))).trans (I.base.keep b o e n hb hx)
   . obtain ⟨sl,e1⟩:=I.base.slot b o e n hb hx
     exact ⟨sl,(hs.2 b (yaE (yay (zad e) I.ok.above))).trans e1⟩
   . obtain ⟨o',e1⟩:=I.base.there b o e hx
     exact ⟨o',(hs.2 b (yaE (yay (zad e) I.ok.above))).trans e1⟩
   . by_cases hj:j=i
     . subst hj
       rw [hi] at e1;cases e1;rw [List.getElem?_set_self hiσ] at e2;cases e2;exact ⟨u,r,.inl ⟨hk,by simp⟩⟩
     . rw [List.getElem?_set_ne (Ne.symm hj)] at e2
       obtain ⟨u',r',q⟩:=hl j y v' e1 e2 e3;refine ⟨u',r',?_⟩;rcases q with ⟨k,e⟩ | ⟨k,c,e,z⟩
       . refine .inl ⟨k,?_⟩
         have:y≠x:=fun e=>hj (Zhg hN e1 (e ▸ hi))
         simp [this,e]
       . exact .inr ⟨k,c,e,z.sameBut hs (cne y c e)⟩
   . obtain ⟨w',z⟩:=I.cell y c e
     exact ⟨w',z.sameBut hs (cne y c e)⟩
   . obtain ⟨e,n,ne,nf,d⟩:=I.pin p hp
     exact ⟨(hs.2 p.1 ne).trans e,n,ne,nf,d⟩
 . have hfn:X.fn x=true:=by
     rcases hf with z | z
     . exact z
     . rw [z] at hk;cases hk
   obtain ⟨c,hc⟩:=I.ok.has x (.inl hk);obtain ⟨w',z⟩:=I.cell x c hc;refine wpAny_storeName_cell I.ok.kind hk hc z (fun h' hc' hs=>?_);obtain ⟨oc,hoc,hocd⟩:=id z;refine h { s with heap:=h' } ⟨I.ok,I.os,I.bare,⟨fun b o e n hb hx=>?_,fun b o e n hb hx=>?_,I.base.free,fun b o e hx=>?_,I.base.tups,I.base.frzs,I.base.tbls⟩,⟨m,hn.sameBut hs (Ne.symm (cne x c hc)),fun j y v' e1 e2 e3=>?_⟩,fun y c' e=>?_,I.free,I.freeC,fun p hp=>?_,tracked ⟨oc,hoc,I.freeC x c hc⟩ hs,by simpa using I.len⟩ ⟨c,hs,.inr hc⟩
   . exact (hs.2 b (yaE (yay (zad e) (I.ok.cab x c hfn hc)))).trans (I.base.keep b o e n hb hx)
   . obtain ⟨sl,e1⟩:=I.base.slot b o e n hb hx
     exact ⟨sl,(hs.2 b (yaE (yay (zad e) (I.ok.cab x c hfn hc)))).trans e1⟩
   . obtain ⟨o',e1⟩:=I.base.there b o e hx
     exact ⟨o',(hs.2 b (yaE (yay (zad e) (I.ok.cab x c hfn hc)))).trans e1⟩
   . by_cases hj:j=i
     . subst hj
       rw [hi] at e1;cases e1;rw [List.getElem?_set_self hiσ] at e2;cases e2;exact ⟨u,r,.inr ⟨.inl hk,c,hc,hc'⟩⟩
     . rw [List.getElem?_set_ne (Ne.symm hj)] at e2
       obtain ⟨u',r',q⟩:=hl j y v' e1 e2 e3;refine ⟨u',r',?_⟩;rcases q with q | ⟨k,c',e,z'⟩
       . exact .inl q
       . refine .inr ⟨k,c',e,z'.sameBut hs ?_⟩
         rintro rfl;exact hj (Zhg hN e1 (I.ok.inj _ _ _ e hc ▸ hi))
   . by_cases hcc:c'=c
     . subst hcc;exact ⟨_,hc'⟩
     . obtain ⟨w2,z2⟩:=I.cell y c' e
       exact ⟨w2,z2.sameBut hs hcc⟩
   . obtain ⟨e,n,ne,nf,d⟩:=I.pin p hp
     refine ⟨(hs.2 p.1 ?_).trans e,n,ne,nf,d⟩;intro q;rw [q,hoc] at e;have q':oc=p.2:=Option.some.inj e;exact d w' (by rw [<- q'];exact hocd)
theorem ZgU {M:Model}{i:Nat}{x:Str}{v:V}{u:Value}{Q:Unit->Shared->Prop}(I:Inv X pins σ H s)(hN:X.N.Nodup)(hi:X.N[i]?=some x)(hx:Loc X.env.scope x)(r:RelV v u)
   (h:∀ s',Inv X pins (σ.set i (some v)) H s'->Q () s') (hf:X.fn x=true\/X.env.scope.names.lookup x=some .local:=by first | exact .inl rfl | exact .inr rfl | assumption):wpAny M A (storeName X.env x u) Q E s :=
 Zjv I hN hi hx r (fun s' I' _=>h s' I') hf
theorem Inv.call' {s':Shared}{ch:List Addr}(I:Inv X pins σ H s)(ho:s'.os=s.os)(u:Un (frs X.stack) ch H H' s.heap s'.heap)(hok:HOk X.prog X.w H' s'.heap)(hg:AllBare s'.gens)
   (hch:∀ b∈ch,(b∈X.ex\/X.s₀.heap.objs.size<=b)/\b≠X.env.locals/\(∀ x c,X.env.cells.lookup x=some c->c≠b)/\∀ p∈X.pn++pins,p.1≠b):Inv X pins σ H' s':=by
 obtain ⟨h',g',d',t',o'⟩:=s';have e:o'=s.os:=ho;subst e;exact I.call (g':=g') (t':=t') (d':=d') u hok hg hch
end
abbrev XK:=Value->Option Addr->Hp->Prop
abbrev St:=List (Option V)
abbrev VK:=V->Hp->Prop
abbrev TE:=St->Hp->VK->Prop
abbrev TT:=St->Hp->(Bool->Hp->Prop)->Prop
abbrev TA:=St->Hp->(List V->Hp->Prop)->Prop
structure Ends where
 nx:St->Hp->Prop
 rt:VK
 bk:St->Hp->Prop:=fun _ _=>False
 ct:St->Hp->Prop:=fun _ _=>False
abbrev TS:=Ends->St->Hp->Prop
def EP (X:Cx)(pins:List (Addr × Obj))(σ:St)(Q:VK)(u:Value)(s':Shared):Prop:=∃ v H',Inv X pins σ H' s'/\RelV v u/\Q v H'
def TP (X:Cx)(pins:List (Addr × Obj))(σ:St)(Q:Bool->Hp->Prop)(b:Bool)(s':Shared):Prop:=∃ H',Inv X pins σ H' s'/\Q b H'
def AP (X:Cx)(pins:List (Addr × Obj))(σ:St)(Q:List V->Hp->Prop)(us:List Value)(s':Shared):Prop:=∃ vs H',Inv X pins σ H' s'/\Vals vs us/\Q vs H'
def SP (X:Cx)(pins:List (Addr × Obj))(D:Ends)(f:Flow)(s':Shared):Prop :=
 match f with
 | .next=>∃ σ' H',Inv X pins σ' H' s'/\D.nx σ' H'
 | .brk=>∃ σ' H',Inv X pins σ' H' s'/\D.bk σ' H'
 | .cont=>∃ σ' H',Inv X pins σ' H' s'/\D.ct σ' H'
 | .ret u=>∃ v σ' H',Inv X pins σ' H' s'/\RelV v u/\D.rt v H'
def PE (X:Cx)(e:Expr)(t:TE):Prop :=
 ∀ (pins:List (Addr × Obj)) (s:Shared) (σ:St) (H:Hp) (Q:VK),Inv X pins σ H s->t σ H Q->wpAny (model X.prog X.w) X.A (eval e X.env) (EP X pins σ Q) X.xe s
def PT (X:Cx)(e:Expr)(t:TT):Prop :=
 ∀ (pins:List (Addr × Obj)) (s:Shared) (σ:St) (H:Hp) (Q:Bool->Hp->Prop),Inv X pins σ H s->t σ H Q->wpAny (model X.prog X.w) X.A (isTrue e X.env (eval e X.env)) (TP X pins σ Q) X.xe s
def PW (X:Cx)(e:Expr)(t:TT):Prop :=
 ∀ (whole:Sem Value) (pins:List (Addr × Obj)) (s:Shared) (σ:St) (H:Hp) (Q:Bool->Hp->Prop),Inv X pins σ H s->t σ H Q->wpAny (model X.prog X.w) X.A (isTrue e X.env whole) (TP X pins σ Q) X.xe s
theorem PW.pt {X:Cx}{e:Expr}{t:TT}(h:PW X e t):PT X e t:=h _
def PA (X:Cx)(es:List Expr)(t:TA):Prop :=
 ∀ (pos:Pos) (pins:List (Addr × Obj)) (s:Shared) (σ:St) (H:Hp) (Q:List V->Hp->Prop),Inv X pins σ H s->t σ H Q->wpAny (model X.prog X.w) X.A (spliced (backTo pos (starEach es X.env))) (AP X pins σ Q) X.xe s
def PS (X:Cx)(st:Stmt)(t:TS):Prop :=
 ∀ (pins:List (Addr × Obj)) (s:Shared) (σ:St) (H:Hp) (D:Ends),Inv X pins σ H s->t D σ H->wpAny (model X.prog X.w) X.A (exec st X.env) (SP X pins D) X.xe s
def PSs (X:Cx)(st:List Stmt)(t:TS):Prop :=
 ∀ (pins:List (Addr × Obj)) (s:Shared) (σ:St) (H:Hp) (D:Ends),Inv X pins σ H s->t D σ H->wpAny (model X.prog X.w) X.A (execs st X.env) (SP X pins D) X.xe s
theorem thn {α:Type}{t:Sem α}{Q Q':α->Shared->Prop}{M:Model}(h:wpAny M A t Q E s)(hQ:∀ a s,Q a s->Q' a s):wpAny M A t Q' E s:=zaB h hQ fun _ _ x=>x
section
variable {X:Cx}
def tVar (i:Nat):TE:=fun σ H Q=>∃ v,σ[i]?=some (some v)/\Q v H
def tC (v:V):TE:=fun _ H Q=>Q v H
theorem pe_var {i:Nat}{x:Str}{pos:Pos}(hN:X.N[i]?=some x)(hv:Vis X.env.scope x)(hd:(x==("__debug__":Str))=false:=by decide)(hcd:(x==("__classdict__":Str))=false:=by decide):PE X (.Name x pos) (tVar i):=by
 intro pins s σ H Q I h;obtain ⟨v,e,h⟩:=h;obtain ⟨m,hn,hl⟩:=I.loc;obtain ⟨u,r,l⟩:=hl i x v hN e hv;have fin:EP X pins σ Q u s:=⟨v,H,I,r,h⟩
 rcases l with ⟨hk,hm⟩ | ⟨hk,c,hc,hcell⟩
 . exact wpAny_Name (wpAny_loadName_local I.ok.kind hk hn hm fin) hd
 . rcases hk with hk | hk
   . exact wpAny_Name (wpAny_loadName_cell I.ok.kind hk hc hcell fin) hd
   . exact wpAny_Name (wpAny_loadName_free I.ok.kind hk hc hcell fin hcd) hd
theorem Zaf {i j pos}:PE X (.Constant (.int i) j pos) (tC (.int i)):=fun _ _ _ H _ I h=>wpAny_Constant_int ⟨.int i,H,I.tok _,⟨_,rfl⟩,h⟩
theorem Zdq {b j pos}:PE X (.Constant (.bool b) j pos) (tC (.bl b)):=fun _ _ _ H _ I h=>Constant_bool ⟨.bl b,H,I,rfl,h⟩
theorem ZbA {j pos}:PE X (.Constant .none j pos) (tC .non):=fun _ _ _ H _ I h=>Constant_none ⟨.non,H,I,rfl,h⟩
theorem Zik {x j pos}:PE X (.Constant (.str x) j pos) (tC (.str x)):=fun _ _ _ H _ I h=>Calls.Constant_str ⟨.str x,H,I.tok _,⟨_,rfl⟩,h⟩
def Gl (X:Cx)(x:Str):Prop:=X.env.kindOf x=some .globalImplicit
theorem ZdF {σ:St}{H:Hp}{x:Str}{u:Value}{pos:Pos}(I:Inv X pins σ H s)(hg:Gl X x)(hm:X.mg x=some u)(h:Q u s)
   (hd:(x==("__debug__":Str))=false:=by decide):wpAny (model X.prog X.w) X.A (eval (.Name x pos) X.env) Q E s :=
 Calls.Name_function_global I.ok.kind hg (Calls.loadGlobal_global (by rw [I.ok.glob];exact I.mod.glob.keeps I.bk) hm h) hd
theorem Zca {σ:St}{H:Hp}{x:Str}{u:Value}{pos:Pos}(I:Inv X pins σ H s)(hg:Gl X x)(hm:X.mg x=none)(hv:bootBuiltins x=some u)(h:Q u s)
   (hn:x≠"__name__":=by decide) (hd:(x==("__debug__":Str))=false:=by decide):wpAny (model X.prog X.w) X.A (eval (.Name x pos) X.env) Q E s:=by
 obtain ⟨mb,h1,h2⟩:=I.mod.blt;exact Calls.Name_function_global I.ok.kind hg (Calls.loadGlobal_builtin (by rw [I.ok.glob];exact I.mod.glob.keeps I.bk) hm (by rw [I.ok.blt];exact h1.keeps I.bk) ((h2 x hn).trans hv) h) hd
theorem Zi2 {x:Str}{v:V}{u:Value}{pos:Pos}(hg:Gl X x)(hm:X.mg x=some u)(r:RelV v u)(hd:(x==("__debug__":Str))=false:=by decide):PE X (.Name x pos) (tC v) :=
 fun _ _ _ H _ I h=>ZdF I hg hm ⟨v,H,I,r,h⟩ hd
theorem ZeN {x:Str}{v:V}{u:Value}{pos:Pos}(hg:Gl X x)(hm:X.mg x=none)(hv:bootBuiltins x=some u)(r:RelV v u)(hn:x≠"__name__":=by decide)(hd:(x==("__debug__":Str))=false:=by decide):PE X (.Name x pos) (tC v) :=
 fun _ _ _ H _ I h=>Zca I hg hm hv ⟨v,H,I,r,h⟩ hn hd
variable {a b:Expr}{ta tb:TE}{pos:Pos}
def PC (X:Cx) (op:CmpOp) (a b:Expr) (t:TE):Prop :=
 ∀ (pins:List (Addr × Obj)) (s:Shared) (σ:St) (H:Hp) (Q:VK),Inv X pins σ H s->t σ H Q ->
   wpAny (model X.prog X.w) X.A (eval a X.env) (fun v s₁=>wpAny (model X.prog X.w) X.A (eval b X.env) (fun u s₂=>wpAny (model X.prog X.w) X.A (compareOp op v u) (EP X pins σ Q) X.xe s₂) X.xe s₁) X.xe s
theorem nobehind (b:Expr){op:CmpOp}(h:op≠.In)(h2:op≠.NotIn):behindInMarks op b=false:=by
 have e1:(op==CmpOp.In)=false:=by cases op<;>first | rfl | exact absurd rfl h
 have e2:(op==CmpOp.NotIn)=false:=by cases op<;>first | rfl | exact absurd rfl h2
 cases b<;>simp [behindInMarks,e1,e2]
def tB (t:TE):TT:=fun σ H Q=>t σ H fun x H1=>∃ c,x=.bl c/\Q c H1
theorem pt_cmp {op:CmpOp}{t:TE}(h:PC X op a b t)(h1:behindInMarks op b=false:=by first | exact nobehind _ (by decide) (by decide) | rfl):PT X (.Compare a [op] [b] pos) (tB t):=by intro pins s σ H Q I hw;refine wpAny_isTrue_Compare1 (thn (h pins s σ H _ I hw) fun v s1 h1=>thn h1 fun u s2 h2=>thn h2 fun c s3 ⟨x,H1,I1,r1,q1⟩=>?_) h1;obtain ⟨d,rfl,q⟩:=q1;cases r1;exact zau ⟨H1,I1,q⟩
theorem Za9 {e:Expr}{t:TE}(h:PE X e t)(he:∀ whole,isTrue e X.env whole=(do let v <- whole;standAt e.pos;holding [v] (truthy v)):=by intro _;rfl):PT X e (tB t):=by intro pins s σ H Q I hw;refine isTrue_plain (thn (h pins s σ H _ I hw) fun v s1 ⟨x,H1,I1,r1,q1⟩=>?_) (he _);obtain ⟨d,rfl,q⟩:=q1;cases r1;exact zau ⟨H1,I1,q⟩
variable {tA tB':TT}{rest:List Expr}
def tAnd (t u:TT):TT:=fun σ H Q=>t σ H fun c H1=>if c=true then u σ H1 Q else Q false H1
def tOr (t u:TT):TT:=fun σ H Q=>t σ H fun c H1=>if c=true then Q true H1 else u σ H1 Q
def tNot (t:TT):TT:=fun σ H Q=>t σ H fun c H1=>Q (!c) H1
theorem pw_and1 (ha:PT X a tA):PW X (.BoolOp .And [a] pos) tA:=by
 intro wh pins s σ H Q I h;refine isTrue_and (thn (ha pins s σ H Q I h) fun c s1 e=>?_);cases c with
 | true=>exact isTrue_and_nil e
 | false=>exact e
theorem ZgJ (ha:PT X a tA):PW X (.BoolOp .Or [a] pos) tA:=by
 intro wh pins s σ H Q I h;refine isTrue_or (thn (ha pins s σ H Q I h) fun c s1 e=>?_);cases c with
 | false=>exact isTrue_or_nil e
 | true=>exact e
theorem pw_and (ha:PT X a tA)(hb:PW X (.BoolOp .And (b::rest) pos) tB'):PW X (.BoolOp .And (a::b::rest) pos) (tAnd tA tB'):=by
 intro wh pins s σ H Q I h;refine isTrue_and (thn (ha pins s σ H _ I h) fun c s1 ⟨H1,I1,q1⟩=>?_);cases c with
 | true=>exact hb wh pins s1 σ H1 Q I1 q1
 | false=>exact ⟨H1,I1,q1⟩
theorem pw_or (ha:PT X a tA)(hb:PW X (.BoolOp .Or (b::rest) pos) tB'):PW X (.BoolOp .Or (a::b::rest) pos) (tOr tA tB'):=by
 intro wh pins s σ H Q I h;refine isTrue_or (thn (ha pins s σ H _ I h) fun c s1 ⟨H1,I1,q1⟩=>?_);cases c with
 | true=>exact ⟨H1,I1,q1⟩
 | false=>exact hb wh pins s1 σ H1 Q I1 q1
theorem Zcy (ha:PT X a tA):PT X (.UnaryOp .Not a pos) (tNot tA):=by intro pins s σ H Q I h;exact isTrue_not (ha pins s σ H (fun c H1=>Q (!c) H1) I h)
def tAndV (ta tb:TE):TE:=fun σ H Q=>ta σ H fun x H1=>∃ c,x=.bl c/\if c=true then tb σ H1 Q else Q (.bl false) H1
def tOrV (ta tb:TE):TE:=fun σ H Q=>ta σ H fun x H1=>∃ c,x=.bl c/\if c=true then Q (.bl true) H1 else tb σ H1 Q
def tNotV (ta:TE):TE:=fun σ H Q=>ta σ H fun x H1=>∃ c,x=.bl c/\Q (.bl (!c)) H1
theorem ZdL {op}{t:TE}(h:PE X a t):PE X (.BoolOp op [a] pos) t:=fun pins s σ H Q I hw=>BoolOp_one (h pins s σ H Q I hw)
theorem ZdM (ha:PE X a ta)(hb:PE X (.BoolOp .And (b::rest) pos) tb):PE X (.BoolOp .And (a::b::rest) pos) (tAndV ta tb):=by
 intro pins s σ H Q I h;refine BoolOp_and (thn (ha pins s σ H _ I h) fun v s1 ⟨x,H1,I1,r1,q1⟩=>?_);obtain ⟨c,rfl,q1⟩:=q1;cases r1;refine zau ?_;cases c with
 | true=>exact hb pins s1 σ H1 Q I1 q1
 | false=>exact ⟨.bl false,H1,I1,rfl,q1⟩
theorem pe_or (ha:PE X a ta)(hb:PE X (.BoolOp .Or (b::rest) pos) tb):PE X (.BoolOp .Or (a::b::rest) pos) (tOrV ta tb):=by
 intro pins s σ H Q I h;refine BoolOp_or (thn (ha pins s σ H _ I h) fun v s1 ⟨x,H1,I1,r1,q1⟩=>?_);obtain ⟨c,rfl,q1⟩:=q1;cases r1;refine zau ?_;cases c with
 | false=>exact hb pins s1 σ H1 Q I1 q1
 | true=>exact ⟨.bl true,H1,I1,rfl,q1⟩
theorem pe_not (ha:PE X a ta):PE X (.UnaryOp .Not a pos) (tNotV ta):=by intro pins s σ H Q I h;refine UnaryOp_ (thn (ha pins s σ H _ I h) fun v s1 ⟨x,H1,I1,r1,q1⟩=>?_);obtain ⟨c,rfl,q1⟩:=q1;cases r1;exact not_of (zau ⟨.bl (!c),H1,I1,rfl,q1⟩)
def tIf (t:TT)(ta tb:TE):TE:=fun σ H Q=>t σ H fun c H1=>if c=true then ta σ H1 Q else tb σ H1 Q
theorem Zbo {c:Expr}(hc:PT X c tA)(ha:PE X a ta)(hb:PE X b tb):PE X (.IfExp c a b pos) (tIf tA ta tb):=by
 intro pins s σ H Q I h;refine wpAny_IfExp (thn (hc pins s σ H _ I h) fun d s1 ⟨H1,I1,q1⟩=>?_);cases d with
 | true=>exact ha pins s1 σ H1 Q I1 q1
 | false=>exact hb pins s1 σ H1 Q I1 q1
end
def SqL (K:ZFr) (H:Hp) (a:Addr) (xs:List V):Prop :=
 Rd H a (.lst xs) \/
   ∃ (o:Obj) (its:Array Value) (n:Nat),K.lookup a=some o/\o.cls=.type "list"/\o.dict=none/\o.data=.seq its n/\its.size<=sizeLine/\Vals xs its.toList
def SqT (K:ZFr) (H:Hp) (a:Addr) (xs:List V):Prop :=
 Rd H a (.tup xs) \/
   ∃ (o:Obj) (its:Array Value) (n:Nat),K.lookup a=some o/\o.cls=.type "tuple"/\o.data=.seq its n/\its.size<=sizeLine/\Vals xs its.toList
def absV:Value->Option V
 | .none=>some .non
 | .bool b=>some (.bl b)
 | .int i _=>some (.int i)
 | .str x _=>some (.str x)
 | .bytes b _=>some (.byt b)
 | .float b _=>some (.flt b)
 | .ref a=>some (.ref a)
 | .type n=>some (.ty n)
 | _=>none
theorem RelV.abs {x:V}{u:Value}(r:RelV x u):absV u=some x:=by
 cases x with
 | non=>cases r;rfl
 | bl _=>cases r;rfl
 | int _=>obtain ⟨t,rfl⟩:=r;rfl
 | str _=>obtain ⟨t,rfl⟩:=r;rfl
 | byt _=>obtain ⟨t,rfl⟩:=r;rfl
 | flt _=>obtain ⟨t,rfl⟩:=r;rfl
 | ref _=>cases r;rfl
 | ty _=>cases r;rfl
theorem RelV.inj {x y:V}{u:Value}(r:RelV x u)(q:RelV y u):x=y:=Option.some.inj (r.abs.symm.trans q.abs)
theorem Vals.inj:∀ {xs ys:List V} {us:List Value},Vals xs us->Vals ys us->xs=ys
 | _,_,_,.nil,.nil=>rfl
 | _,_,_,.cons r t,.cons r' t'=>by rw [r.inj r',Vals.inj t t']
section
variable {X:Cx}{σ:St}{H:Hp}{a:Addr}{xs ys:List V}
theorem SqL.of (h:H a=some (.lst xs)):SqL K H a xs:=.inl (.inl h)
theorem SqT.of (h:H a=some (.tup xs)):SqT K H a xs:=.inl (.inl h)
theorem Inv.list (I:Inv X pins σ H s)(h:SqL X.K H a xs):∃ its:List Value,Vals xs its/\PlainL s.heap a its.toArray/\xs.length<=sizeLine:=by
 rcases h with h | ⟨o,its,n,hk,hc,hd,hs,hz,r⟩
 . obtain ⟨z,its,n,r,e⟩:=h.ok I.hok
   exact ⟨its,r,⟨_,n,e,rfl,rfl,rfl⟩,z⟩
 . refine ⟨its.toList,r,⟨o,n,I.kIn a o hk,hc,hd,by simpa using hs⟩,?_⟩
   have e:=r.length;simp only [yam] at e;omega
theorem Inv.tuple (I:Inv X pins σ H s)(h:SqT X.K H a xs):∃ its:List Value,Vals xs its/\IsTup s.heap a its.toArray/\xs.length<=sizeLine:=by
 rcases h with h | ⟨o,its,n,hk,hc,hs,hz,r⟩
 . obtain ⟨z,its,r,p⟩:=h.ok I.hok
   exact ⟨its,r,p,z⟩
 . refine ⟨its.toList,r,⟨o,I.kIn a o hk,hc,n,by simpa using hs⟩,?_⟩
   have e:=r.length;simp only [yam] at e;omega
theorem Inv.list_inj (I:Inv X pins σ H s)(h:SqL X.K H a xs)(h':SqL X.K H a ys):xs=ys:=by
 obtain ⟨its,r,⟨o,n,e,_,_,d⟩,_⟩:=I.list h;obtain ⟨its',r',⟨o',n',e',_,_,d'⟩,_⟩:=I.list h';rw [e] at e';cases e';rw [d] at d';injection d' with d1 _
 have:its=its':=by simpa using congrArg Array.toList d1
 subst this;exact r.inj r'
end
abbrev Cx.wish (X:Cx)(E:Value->Shared->Prop):Cx:={ X with xe:=E }
abbrev Cx.nox (X:Cx):Cx:=X.wish fun _ _=>False
theorem Cx.Ok.wish {X:Cx}(ok:X.Ok)(E:Value->Shared->Prop):(X.wish E).Ok :=
 ⟨ok.mod,ok.kind,ok.glob,ok.blt,ok.above,ok.inj,ok.has,ok.cab,ok.hd,ok.frames,ok.stk,ok.exf,ok.bs,ok.bsz,ok.noex,ok.exfs,ok.funs,ok.frf⟩
theorem Cx.Ok.unwish {X:Cx}(ok:(X.wish E).Ok):X.Ok :=
 ⟨ok.mod,ok.kind,ok.glob,ok.blt,ok.above,ok.inj,ok.has,ok.cab,ok.hd,ok.frames,ok.stk,ok.exf,ok.bs,ok.bsz,ok.noex,ok.exfs,ok.funs,ok.frf⟩
section
variable {X:Cx}{σ:St}{H:Hp}
theorem Inv.wish (I:Inv X pins σ H s)(E:Value->Shared->Prop):Inv (X.wish E) pins σ H s:=⟨I.ok.wish E,I.os,I.bare,I.base,I.loc,I.cell,I.free,I.freeC,I.pin,I.hok,I.len⟩
theorem Inv.unwish (I:Inv (X.wish E) pins σ H s):Inv X pins σ H s:=⟨I.ok.unwish,I.os,I.bare,I.base,I.loc,I.cell,I.free,I.freeC,I.pin,I.hok,I.len⟩
theorem SP.unwish {D:Ends}{f:Flow}{s':Shared}(h:SP (X.wish E) pins D f s'):SP X pins D f s':=by
 cases f with
 | next=>obtain ⟨σ',H',I,q⟩:=h;exact ⟨σ',H',I.unwish,q⟩
 | brk=>obtain ⟨σ',H',I,q⟩:=h;exact ⟨σ',H',I.unwish,q⟩
 | cont=>obtain ⟨σ',H',I,q⟩:=h;exact ⟨σ',H',I.unwish,q⟩
 | ret u=>obtain ⟨v,σ',H',I,r,q⟩:=h;exact ⟨v,σ',H',I.unwish,r,q⟩
theorem PSs.nox {st:List Stmt}{t:TS}(h:PSs X.nox st t):PSs X st t:=fun pins s σ H D I hw =>
 zaB (h pins s σ H D (I.wish _) hw) (fun _ _ q=>q.unwish) fun _ _ z=>False.elim z
end
section
variable {X:Cx}{rest:List Stmt}{t u:TS}{e:Expr}{te:TE}{pos:Pos}
def tNext:TS:=fun D σ H=>D.nx σ H
def tSeq (t u:TS):TS:=fun D σ H=>t { D with nx:=u D } σ H
theorem Zau:PSs X [] tNext:=fun _ _ σ H _ I h=>wpAny_execs_nil ⟨σ,H,I,h⟩
theorem Zad (h1:PS X st t)(h2:PSs X rest u):PSs X (st::rest) (tSeq t u):=by
 intro pins s σ H D I h;refine wpAny_execs_cons (thn (h1 pins s σ H { D with nx:=u D } I h) fun f s1 q=>?_);cases f with
 | next =>
   obtain ⟨σ',H',I',q⟩:=q;exact h2 pins s1 σ' H' D I' q
 | ret v=>exact q
 | brk=>exact q
 | cont=>exact q
theorem Zag (h1:PS X st t):PSs X [st] t:=by
 intro pins s σ H D I h;refine wpAny_execs_cons (thn (h1 pins s σ H D I h) fun f s1 q=>?_);cases f with
 | next=>exact wpAny_execs_nil q
 | ret v=>exact q
 | brk=>exact q
 | cont=>exact q
theorem Inv.quiet {σ:St}{H:Hp}(I:Inv X pins σ H s):interactive X.env=false:=by simp [interactive,I.ok.kind]
def tDrop (te:TE):TS:=fun D σ H=>te σ H fun _ H1=>D.nx σ H1
theorem Zax (he:PE X e te)(hs:swapsWith e none pos.line X.env=pure false:=by rfl):PS X (.Expr e pos) (tDrop te):=by intro pins s σ H D I h;exact wpAny_Expr_any (thn (he pins s σ H _ I h) fun v s1 ⟨x,H1,I1,r1,q1⟩=>⟨σ,H1,I1,q1⟩) I.quiet hs
def tRet (te:TE):TS:=fun D σ H=>te σ H D.rt
theorem Zak (he:PE X e te):PS X (.Return (some e) pos) (tRet te):=by intro pins s σ H D I h;exact wpAny_Return_some (thn (he pins s σ H _ I h) fun v s1 ⟨x,H1,I1,r1,q1⟩=>⟨x,σ,H1,I1,r1,q1⟩)
def tIfS (c:TT)(t u:TS):TS:=fun D σ H=>c σ H fun b H1=>if b=true then t D σ H1 else u D σ H1
theorem ZaD {c:Expr}{a b:List Stmt}{tc:TT}(hc:PT X c tc)(ha:PSs X a t)(hb:PSs X b u):PS X (.If c a b pos) (tIfS tc t u):=by
 intro pins s σ H D I h;refine wpAny_If (thn (hc pins s σ H _ I h) fun d s1 ⟨H1,I1,q1⟩=>?_);cases d with
 | true=>exact ha pins s1 σ H1 D I1 q1
 | false=>exact hb pins s1 σ H1 D I1 q1
def tNever:TS:=fun _ _ _=>False
theorem Zfx:PS X st tNever:=fun _ _ _ _ _ _ h=>h.elim
end
abbrev TG:=V->St->Hp->(St->Hp->Prop)->Prop
abbrev TGs:=List V->St->Hp->(St->Hp->Prop)->Prop
def PG (X:Cx) (target:Expr) (t:TG):Prop :=
 ∀ (pins:List (Addr × Obj)) (s:Shared) (σ:St) (H:Hp) (v:V) (u:Value) (Q:St->Hp->Prop),Inv X pins σ H s->RelV v u->t v σ H Q ->
   wpAny (model X.prog X.w) X.A (assign target X.env u) (fun _ s'=>∃ σ' H',Inv X pins σ' H' s'/\Q σ' H') X.xe s
def PGs (X:Cx) (ts:List Expr) (t:TGs):Prop :=
 ∀ (pins:List (Addr × Obj)) (s:Shared) (σ:St) (H:Hp) (vs:List V) (us:List Value) (Q:St->Hp->Prop),Inv X pins σ H s->Vals vs us->t vs σ H Q ->
   wpAny (model X.prog X.w) X.A (assignInOrder ((assignEach ts X.env).map (·.2)) us) (fun _ s'=>∃ σ' H',Inv X pins σ' H' s'/\Q σ' H') X.xe s
section
variable {X:Cx}{pos:Pos}
def gName (i:Nat):TG:=fun v σ H Q=>Q (σ.set i (some v)) H
theorem Za2 {i:Nat}{x:Str}(hN:X.N.Nodup)(hi:X.N[i]?=some x)(hx:Loc X.env.scope x)(hf:X.fn x=true\/X.env.scope.names.lookup x=some .local:=by first | exact .inl rfl | exact .inr rfl | assumption):PG X (.Name x pos) (gName i):=by intro pins s σ H v u Q I r h;exact wpAny_assign_Name (ZgU I hN hi hx r (fun s' I'=>⟨_,H,I',h⟩) hf)
def gNil:TGs:=fun vs σ H Q=>vs=[]/\Q σ H
def gCons (t:TG)(u:TGs):TGs:=fun vs σ H Q=>∃ v r,vs=v::r/\t v σ H fun σ' H'=>u r σ' H' Q
theorem ZcT:PGs X [] gNil:=by intro pins s σ H vs us Q I r h;obtain ⟨e,h⟩:=h;subst e;cases r;exact assignInOrder_nil ⟨σ,H,I,h⟩
theorem ZaI {e:Expr}{t:TG}{u:TGs}(h1:PG X e t)(h2:PGs X es u)
   (hs:(assignEach (e::es) X.env).map (·.2)=assign e X.env::(assignEach es X.env).map (·.2):=by rfl):PGs X (e::es) (gCons t u):=by
 intro pins s σ H vs us Q I r h;obtain ⟨v,vr,e1,h⟩:=h;subst e1;cases r with
 | cons r rr =>
   rw [hs];refine assignInOrder_cons (thn (h1 pins s σ H _ _ _ I r h) fun _ s1 ⟨σ1,H1,I1,q1⟩=>?_);exact h2 pins s1 σ1 H1 _ _ Q I1 rr q1
def gTup (K:ZFr)(n:Nat)(t:TGs):TG:=fun v σ H Q=>∃ a xs,v=.ref a/\SqT K H a xs/\xs.length=n/\t xs σ H Q
theorem pg_tup {k:Nat}{t:TGs}{n:Nat}(hc:X.calm=true)(h:PGs X es t)
   (hn:(assignEach es X.env).length=n:=by rfl) (hst:(assignEach es X.env).findIdx? (·.1)=none:=by rfl):PG X (.Tuple es k pos) (gTup X.K n t):=by
 intro pins s σ H v u Q I r hw;obtain ⟨a,xs,e1,hq,hl,hw⟩:=hw;subst e1;cases r;obtain ⟨its,rv,ht,hz⟩:=I.tuple hq;refine assign_Tuple_tuple (I.ok.hd hc) ht (by simp [hn,<- hl,rv.length]) hst fun h' hx=>?_
 have I1:Inv X pins σ H { s with heap:=h' }:=I.kept (t':=s.toks) fun b o e=>hx b o (yaE (zad e)) e
 exact h pins _ σ H xs _ Q I1 (by simpa using rv) hw
def tAsg (te:TE)(g:TG):TS:=fun D σ H=>te σ H fun x H1=>g x σ H1 D.nx
theorem ZhY {e:Expr}{te:TE}{g:TG}(he:PE X e te)(hg:PG X tg g)(hs:swapsWithSole [tg] e pos.line X.env=pure false:=by rfl)(hw:swappedStores [tg] e X.env=pure none:=by rfl)
   (h1:(assignEach [tg] X.env).map (·.2)=[assign tg X.env]:=by rfl):PS X (.Assign [tg] e pos) (tAsg te g):=by
 intro pins s σ H D I h;refine wpAny_Assign_stores (thn (he pins s σ H _ I h) fun v s1 ⟨x,H1,I1,r1,q1⟩=>?_) hs hw;rw [h1];exact thn (hg pins s1 σ H1 x v _ I1 r1 q1) fun _ s2 q=>q
theorem ps_set {i:Nat}{x:Str}{e:Expr}{te:TE}(hN:X.N.Nodup)(hi:X.N[i]?=some x)(hx:Loc X.env.scope x)(he:PE X e te)(hs:swapsWith e (some (.Name x pos')) pos.line X.env=pure false:=by rfl)(hf:X.fn x=true\/X.env.scope.names.lookup x=some .local:=by first | exact .inl rfl | exact .inr rfl | assumption) :
   PS X (.Assign [.Name x pos'] e pos) (tAsg te (gName i)):=by
 intro pins s σ H D I h;refine wpAny_Assign_Name (thn (he pins s σ H _ I h) fun v s1 ⟨y,H1,I1,r1,q1⟩=>?_) hs;exact ZgU I1 hN hi hx r1 (fun s2 I2=>⟨_,H1,I2,q1⟩) hf
end
section
variable {X:Cx}{pos:Pos}
def tWhile (c:TT)(tb:TS):TS:=fun D σ H=>∃ W:Nat->St->Hp->Prop,(∃ m,W m σ H)/\∀ m σ H,W m σ H ->
 c σ H fun b H1=>if b=true then ∃ N:St->Hp->Prop,(∀ σ' H',N σ' H'->∃ m',m'<m/\W m' σ' H')/\tb { D with nx:=N,ct:=N,bk:=D.nx } σ H1 else D.nx σ H1
theorem Zfr {c:Expr}{body:List Stmt}{tc:TT}{tb:TS}(hp:PassesOwn (model X.prog X.w) X.A X.env X.xe)(hc:PT X c tc)(hb:PSs X body tb):PS X (.While c body [] pos) (tWhile tc tb):=by
 intro pins s σ H D I h;obtain ⟨W,⟨m0,w0⟩,turn⟩:=h;refine wpAny_While (codeAny_whileLoop (fun n s'=>∃ σ' H',Inv X pins σ' H' s'/\W n σ' H') ?_ m0 ⟨σ,H,I,w0⟩);rintro n s1 ⟨σ1,H1,I1,w1⟩;refine zaL hp (thn (hc pins s1 σ1 H1 _ I1 (turn n σ1 H1 w1)) fun b s2 ⟨H2,I2,q2⟩=>?_);cases b with
 | true =>
   obtain ⟨N,hN,q2⟩:=q2;rw [if_pos rfl];refine zaL hp (thn (hb pins s2 σ1 H2 _ I2 q2) fun f s3 q3=>?_);cases f with
   | next =>
     obtain ⟨σ3,H3,I3,n3⟩:=q3;obtain ⟨m',hm,w3⟩:=hN σ3 H3 n3;exact ⟨m',hm,σ3,H3,I3,w3⟩
   | cont =>
     obtain ⟨σ3,H3,I3,n3⟩:=q3;obtain ⟨m',hm,w3⟩:=hN σ3 H3 n3;exact ⟨m',hm,σ3,H3,I3,w3⟩
   | brk=>exact q3
   | ret v=>exact q3
 | false =>
   rw [if_neg yaL];exact wpAny_execs_nil ⟨σ1,H2,I2,q2⟩
end
structure It where
 go:Nat->Hp->Prop
 yld:Nat->Hp->V->Hp->Prop
 stop:Nat->Hp->Prop
def FpOk (X:Cx)(pins:List (Addr × Obj))(H:Hp)(b:Addr):Prop :=
 H b=none/\b≠X.env.locals/\b∉X.fs/\(b∈X.ex\/X.s₀.heap.objs.size<=b)/\(∀ x c,X.env.cells.lookup x=some c->c≠b)/\∀ p∈X.pn++pins,p.1≠b
theorem Inv.fpOk {X:Cx}{σ:St}{H H':Hp}{b:Addr}(I:Inv X pins σ H s)(hb:s.heap.objs.size<=b)(hn:H' b=none):FpOk X pins H' b:=by
 refine ⟨hn,ybY (yay I.lt hb),I.nofs hb,.inr (yaN I.sz hb),fun x c e z=>?_,fun p hp z=>?_⟩
 . obtain ⟨v,q⟩:=I.cell x c e
   exact absurd (yay q.lt (by rw [z];exact hb)) (ybs _)
 . exact absurd (yay (zad (I.pin p hp).1) (by rw [z];exact hb)) (ybs _)
structure Turn (P:Program)(w:World)(K:ZFr)(tg:Expr)(J:It)(fp:List Addr)(it:Addr)(tn:Nat->Heap->Prop):Prop where
 mem:it∈fp
 obj:∀ i h,tn i h->∀ b∈fp,∃ o,h.get? b=some o/\∀ v,o.data≠.cell v
 keep:∀ i h h',tn i h->(∀ b∈fp,∀ o,h.get? b=some o->h'.get? b=some o)->tn i h'
 item:∀ (X:Cx),X.prog=P->X.w=w->X.K=K->X.calm=true->∀ (i:Nat) (pins:List (Addr × Obj)) (s:Shared) (σ:St) (H:Hp) (E:Value->Shared->Prop),Inv X pins σ H s->(∀ b∈fp,FpOk X pins H b)->tn i s.heap->J.go i H ->
   wpAny (model P w) X.A (pyNext (.ref it)) (fun r s1=>∃ u,r=some u /\
     wpAny (model P w) X.A (letOwnedTupleGo tg (.ref it) u) (fun _ s2=>∃ x H',Inv X pins σ H' s2/\RelV x u/\J.yld i H x H'/\tn (i+1) s2.heap/\∀ b∈fp,H' b=none) E s1) E s
 done:∀ (X:Cx),X.prog=P->X.w=w->X.K=K->X.calm=true->∀ (i:Nat) (pins:List (Addr × Obj)) (s:Shared) (σ:St) (H:Hp) (E:Value->Shared->Prop),Inv X pins σ H s->(∀ b∈fp,FpOk X pins H b)->tn i s.heap->J.stop i H ->
   wpAny (model P w) X.A (pyNext (.ref it)) (fun r s1=>r=none/\Inv X pins σ H s1) E s
 self:∀ (A:Around) (i:Nat) (s:Shared) (Q:Value->Shared->Prop) (E:Value->Shared->Prop),tn i s.heap->Q (.ref it) s->wpAny (model P w) A (pyIter (.ref it)) Q E s
abbrev TI:=St->Hp->(It->Hp->Prop)->Prop
def PIE (X:Cx)(pins:List (Addr × Obj))(σ:St)(tg:Expr)(R:It->Hp->Prop)(itv:Value)(s2:Shared):Prop :=
 ∃ (it:Addr) (fp:List Addr) (tn:Nat->Heap->Prop) (J:It) (H':Hp),itv=.ref it/\Inv X pins σ H' s2/\Turn X.prog X.w X.K tg J fp it tn/\tn 0 s2.heap/\(∀ b∈fp,FpOk X pins H' b)/\R J H'
def PI (X:Cx) (tg iter:Expr) (wi:TI):Prop :=
 ∀ (pins:List (Addr × Obj)) (s:Shared) (σ:St) (H:Hp) (R:It->Hp->Prop),Inv X pins σ H s->wi σ H R ->
   wpAny (model X.prog X.w) X.A (eval iter X.env) (fun v s1=>wpAny (model X.prog X.w) X.A (pyIter v) (PIE X pins σ tg R) X.xe s1) X.xe s
theorem go_of {M:Model} {it:Addr} {u:Value} {o:Obj} {n:String} {vs:Array Value} {Q:Unit->Shared->Prop} (ho:s.heap.get? it=some o) (hc:o.cls=.type n) (hd:o.data=.fields vs)
   (hn:["enumerate","zip","dict_itemiterator","dict_reverseitemiterator","odict_iterator","itertools.zip_longest","itertools.pairwise"].contains n=false) (hQ:Q () s):wpAny M A (letOwnedTupleGo tg (.ref it) u) Q E s:=by
 unfold letOwnedTupleGo
 cases tg <;> first
   | exact zac hQ
   | (cases u<;>first
       | exact zac hQ
       | (refine zaa (wpAny_load ho ?_)
          rw [hc,hd];show wpAny M A (if (["enumerate","zip","dict_itemiterator","dict_reverseitemiterator","odict_iterator","itertools.zip_longest","itertools.pairwise"].contains n&&vs[0]?==some (rawInt _))=true then _ else _) Q E s;rw [if_neg (by intro h;rw [hn,Bool.false_and] at h;cases h)];exact zac hQ))
def Itl (K:ZFr)(a:Addr):It :=
 ⟨fun i H=>∃ xs x,SqL K H a xs/\xs[i]?=some x,fun i H x H'=>H'=H/\∀ xs,SqL K H a xs->xs[i]?=some x,fun i H=>∃ xs,SqL K H a xs/\xs.length<=i⟩
def Itr (lo:Int)(n:Nat):It:=⟨fun i _=>i<n,fun i H x H'=>H'=H/\x=.int (lo+i),fun i _=>n<=i⟩
theorem Zjx (a it:Addr):Turn P w K tg (Itl K a) [it] it (fun i h=>h.IsListIter it a i) where
 mem:=by simp
 obj:=fun i h st b hb=>by
   have e:b=it:=by simpa using hb
   subst e;obtain ⟨o,e,c,d⟩:=st;exact ⟨o,e,fun v z=>by rw [d] at z;cases z⟩
 keep:=fun i h h' st k=>st.at fun o e=>k it (by simp) o e
 item:=by
   intro X hP hw hK hc i pins s σ H E I hf st hg;subst hP hw hK;obtain ⟨xs,x,hq,hx⟩:=hg;obtain ⟨its,rv,p,hz⟩:=I.list hq;obtain ⟨u,hu,ru⟩:=rv.get hx;obtain ⟨f0,f1,f2,f3,f4,f5⟩:=hf it (by simp);refine wpAny_pyNext_list_item st p.isList (x:=u) (by simpa using hu) fun h' st' sb=>?_
   have I1:Inv X pins σ H { s with heap:=h' }:=I.turned (t':=s.toks) (fun b o hb e=>(sb.2 b hb).trans e) f0 f1 f3 f4 f5;obtain ⟨o,e,c,d⟩:=id st';exact ⟨u,rfl,go_of (s:={ s with heap:=h' }) e c d (by decide) ⟨x,H,I1,ru,⟨rfl,fun ys hy=>by rw [I.list_inj hy hq];exact hx⟩,st',fun b hb=>(hf b hb).1⟩⟩
 done:=by intro X hP hw hK hc i pins s σ H E I hf st hg;subst hP hw hK;obtain ⟨xs,hq,hx⟩:=hg;obtain ⟨its,rv,p,hz⟩:=I.list hq;obtain ⟨f0,f1,f2,f3,f4,f5⟩:=hf it (by simp);have hl:=rv.length;exact wpAny_pyNext_list_end (I.ok.hd hc) st p.isList (by simp;omega) fun h' eb=>⟨rfl,I.turned (t':=s.toks) (fun b o hb e=>eb b o hb e) f0 f1 f3 f4 f5⟩
 self:=fun _ _ _ _ _ st h=>wpAny_pyIter_listiter st h
theorem Zil (it:Addr)(lo:Int)(n:Nat):Turn P w K tg (Itr lo n) [it] it (fun i h=>IsRangeIter h it (lo+(i:Nat)*1) ((n:Int)-(i:Nat)) 1) where
 mem:=by simp
 obj := fun i h st b hb=>by
   have e:b=it:=by simpa using hb
   subst e;exact ⟨_,st,fun v z=>by
     have z':Data.fields _=Data.cell v:=z;cases z'⟩
 keep:=fun i h h' st k=>k it (by simp) _ st
 item:=by
   intro X hP hw hK hc i pins s σ H E I hf st hg;subst hP hw hK;obtain ⟨f0,f1,f2,f3,f4,f5⟩:=hf it (by simp);have W:=Walks.range (prog:=X.prog) (w:=X.w) (I.ok.hd hc) it lo 1 n;refine W.item i s _ _ hg st fun v h' tk hv st' kk=>?_
   obtain ⟨t,rfl⟩:=hv;have I1:Inv X pins σ H { s with heap:=h',toks:=tk }:=I.turned (fun b o hb e=>kk b o (by simpa using hb) e) f0 f1 f3 f4 f5;refine ⟨_,rfl,go_of (s:={ s with heap:=h',toks:=tk }) (n:="range_iterator") st' rfl rfl (by decide) ⟨.int (lo+i),H,I1,⟨t,?_⟩,⟨rfl,rfl⟩,st',fun b hb=>(hf b hb).1⟩⟩;rw [Int.mul_one]
 done:=by intro X hP hw hK hc i pins s σ H E I hf st hg;subst hP hw hK;obtain ⟨f0,f1,f2,f3,f4,f5⟩:=hf it (by simp);exact wpAny_pyNext_range_end (I.ok.hd hc) st (by have:n<=i:=hg;omega) fun h' eb=>⟨rfl,I.turned (t':=s.toks) (fun b o hb e=>eb b o hb e) f0 f1 f3 f4 f5⟩
 self:=fun _ _ _ _ _ st h=>wpAny_pyIter_rangeiter st h
section
variable {X:Cx}
def iList (K:ZFr)(tl:TE):TI:=fun σ H R=>tl σ H fun x H1=>∃ a,x=.ref a/\(∃ xs,SqL K H1 a xs)/\R (Itl K a) H1
theorem pi_list {l:Expr}{tl:TE}(hl:PE X l tl):PI X tg l (iList X.K tl):=by
 intro pins s σ H R I h;refine thn (hl pins s σ H _ I h) fun v s1 ⟨x,H1,I1,r1,q1⟩=>?_
 obtain ⟨a,e,⟨xs,hq⟩,q⟩:=q1;subst e;cases r1;obtain ⟨its,rv,p,hz⟩:=I1.list hq;refine wpAny_pyIter_list p.isList ?_;refine ⟨s1.heap.objs.size,[s1.heap.objs.size],_,_,H1,rfl,I1.kept (t':=s1.toks) fun b o e=>zab _ e,Zjx a _,⟨_,zaf _ rfl,rfl,rfl⟩,fun b hb=>?_,q⟩;have e:b=s1.heap.objs.size:=by simpa using hb
 subst e;exact I1.fpOk (yag _) (I1.hok.fresh (yag _))
theorem range_it {σ:St}{H:Hp}{R:It->Hp->Prop}{lo hi:Int}{t u v:Tok}{tk:Nat}(I:Inv X pins σ H s)(h1:-(2^62)<=lo)(h2:lo<2^62)(h3:-(2^62)<=hi)(h4:hi<2^62)
   (q:R (Itr lo (hi-lo).toNat) H):wpAny (model X.prog X.w) X.A (pyIter (.ref s.heap.objs.size)) (PIE X pins σ tg R) E { s with heap:=s.heap.push { cls:=.type "range",data:=.fields #[.int lo t,.int hi u,.int 1 v] },toks:=tk }:=by
 refine wpAny_pyIter_range (IsRange.new ..) (small_one h1 h2 h3 h4) ?_;have I1:Inv X pins σ H { s with heap:=s.heap.push { cls:=.type "range",data:=.fields #[.int lo t,.int hi u,.int 1 v] },toks:=tk }:=I.kept fun b o e=>zab _ e
 refine ⟨(s.heap.push { cls:=.type "range",data:=.fields #[.int lo t,.int hi u,.int 1 v] }).objs.size,[(s.heap.push { cls:=.type "range",data:=.fields #[.int lo t,.int hi u,.int 1 v] }).objs.size],_,_,H,rfl,
   I1.kept (t':=tk) fun b o e=>zab _ e,Zil _ lo (hi-lo).toNat,?_,fun b hb=>?_,q⟩
 . have e1:lo+((0:Nat):Int)*1=lo:=by simp
   have e2:(((hi-lo).toNat:Nat):Int)-((0:Nat):Int)=Builtin.Range.rangeSize lo hi 1:=by rw [rangeSize_one];split<;>omega
   show IsRangeIter _ _ (lo+((0:Nat):Int)*1) ((((hi-lo).toNat:Nat):Int)-((0:Nat):Int)) 1;rw [e1,e2];exact zaf _ rfl
 . have e:b=(s.heap.push { cls:=.type "range",data:=.fields #[.int lo t,.int hi u,.int 1 v] }).objs.size:=by simpa using hb
   subst e;exact I1.fpOk (yag _) (I1.hok.fresh (yag _))
def iRng1 (ta:TA):TI:=fun σ H R=>ta σ H fun vs H1=>∃ j:Int,vs=[.int j]/\-(2^62)<=j/\j<2^62/\R (Itr 0 j.toNat) H1
theorem Zep {a:Expr}{ta:TA}{p pos:Pos}(hg:Gl X "range")(hm:X.mg "range"=none)(ha:PA X [a] ta)(hs:starEach [a] X.env=[(false,eval a X.env)]:=by rfl):PI X tg (.Call (.Name "range" p) [a] [] pos) (iRng1 ta):=by
 intro pins s σ H R I h;refine Call_ (Zca I hg hm boot_range (zam (thn (ha pos pins s σ H _ I h) fun us s1 ⟨vs,H1,I1,r1,q1⟩=>?_) hs rfl));obtain ⟨j,e,q1,q2,q⟩:=q1;subst e;cases r1 with
 | cons r rr =>
   cases rr;obtain ⟨t,rfl⟩:=r;exact call_range_1 (range_it I1 (by omega) (by omega) q1 q2 (by simpa using q))
def tFor (wi:TI)(g:TG)(tb:TS):TS:=fun D σ H=>wi σ H fun J H1=>∃ W:Nat->Nat->St->Hp->Prop,(∃ m,W 0 m σ H1)/\∀ i m σ H,W i m σ H ->
 (J.stop i H/\D.nx σ H)\/(J.go i H/\∃ N:St->Hp->Prop,(∀ σ' H',N σ' H'->∃ m',m'<m/\W (i+1) m' σ' H')/\∀ x H',J.yld i H x H'->g x σ H' fun σ2 H2=>tb { D with nx:=N,ct:=N,bk:=D.nx } σ2 H2)
def pinsAt (fp:List Addr)(h:Heap):List (Addr × Obj):=fp.filterMap fun b=>(h.get? b).map fun o=>(b,o)
theorem ZdK {b:Addr}{o:Obj}(hb:b∈fp)(e:h.get? b=some o):(b,o)∈pinsAt fp h:=List.mem_filterMap.mpr ⟨b,hb,by rw [e];rfl⟩
theorem ZjZ {p:Addr × Obj}(hp:p∈pinsAt fp h):p.1∈fp/\h.get? p.1=some p.2:=by
 obtain ⟨b,hb,e⟩:=List.mem_filterMap.mp hp;cases q:h.get? b with
 | none=>rw [q] at e;cases e
 | some o =>
   rw [q] at e;have e':(b,o)=p:=Option.some.inj e;subst e';exact ⟨hb,q⟩
theorem Inv.pinned {σ:St}{H:Hp}(I:Inv X pins σ H s)(hf:∀ b∈fp,FpOk X pins H b)(ho:∀ b∈fp,∃ o,s.heap.get? b=some o/\∀ v,o.data≠.cell v):Inv X (pins++pinsAt fp s.heap) σ H s :=
 I.pins_of fun p hp=>(yaf.mp hp).elim (fun z=>I.pin p (yaI _ z)) fun z=>by
   obtain ⟨hb,e⟩:=ZjZ z;obtain ⟨f0,f1,f2,_⟩:=hf p.1 hb;obtain ⟨o,e',d⟩:=ho p.1 hb;rw [e] at e';cases e';exact ⟨e,f0,f1,f2,d⟩
theorem Inv.unpinned {pl:List (Addr × Obj)}{σ:St}{H:Hp}(I:Inv X (pins++pl) σ H s):Inv X pins σ H s:=I.pins_of fun p hp=>I.pin p (yaI _ (ybj _ hp))
theorem Zbj {iter:Expr}{body:List Stmt}{wi:TI}{g:TG}{tb:TS}{pos:Pos}(hp:PassesOwn (model X.prog X.w) X.A X.env X.xe)(hc:X.calm=true)(hi:PI X tg iter wi)(hg:PG X tg g)(hb:PSs X body tb)
   (hs:∀ x,foldedSetIterable iter X.env x=pure x:=by intro _;rfl):PS X (.For tg iter body [] pos) (tFor wi g tb):=by
 intro pins s σ H D I h;refine wpAny_For (thn (hi pins s σ H _ I h) fun v s1 h1=>thn h1 fun itv s2 h2=>?_) hs;obtain ⟨it,fp,tn,J,H2,e,I2,T,st2,f2,W,⟨m0,w0⟩,turn⟩:=h2;subst e;have stat:∀ {H':Hp},(∀ b∈fp,H' b=none)->∀ b∈fp,FpOk X pins H' b:=fun hn b hb=>⟨hn b hb,(f2 b hb).2⟩
 refine codeAny_forLoop_any (fun n s'=>∃ i σ' H',Inv X pins σ' H' s'/\tn i s'.heap/\(∀ b∈fp,H' b=none)/\W i n σ' H') ?_ m0 ⟨0,σ,H2,I2,st2,fun b hb=>(f2 b hb).1,w0⟩;rintro n s3 ⟨i,σ3,H3,I3,st3,fr3,w3⟩;rcases turn i n σ3 H3 w3 with ⟨stop,qn⟩ | ⟨go,N,hN,step⟩
 . refine zaL hp (thn (T.done X rfl rfl rfl hc i pins s3 σ3 H3 X.xe I3 (stat fr3) st3 stop) fun r s4 ⟨hr,I4⟩=>?_)
   subst hr;exact wpAny_execs_nil ⟨σ3,H3,I4,qn⟩
 . refine zaL hp (thn (T.item X rfl rfl rfl hc i pins s3 σ3 H3 X.xe I3 (stat fr3) st3 go) fun r s4 ⟨u,hr,h4⟩=>?_)
   subst hr;refine zaL hp (thn h4 fun _ s5 ⟨x,H5,I5,r5,y5,st5,fr5⟩=>?_);have I5':=I5.pinned (stat fr5) (T.obj _ _ st5);refine zaL hp (thn (hg _ s5 σ3 H5 x u _ I5' r5 (step x H5 y5)) fun _ s6 ⟨σ6,H6,I6,q6⟩=>?_);refine zaL hp (thn (hb _ s6 σ6 H6 _ I6 q6) fun f s7 q7=>?_);have again:∀ {σ7:St} {H7:Hp},Inv X (pins++pinsAt fp s5.heap) σ7 H7 s7->N σ7 H7->∃ m,m<n/\∃ i σ' H',Inv X pins σ' H' s7/\tn i s7.heap/\(∀ b∈fp,H' b=none)/\W i m σ' H':=fun {σ7 H7} I7 n7=>by
     obtain ⟨m',hm,w7⟩:=hN σ7 H7 n7;refine ⟨m',hm,i+1,σ7,H7,I7.unpinned,T.keep _ _ _ st5 fun b hb o e=>(I7.pin (b,o) (yaI _ (yaI _ (ZdK hb e)))).1,fun b hb=>?_,w7⟩;obtain ⟨o,e,d⟩:=T.obj _ _ st5 b hb;exact (I7.pin (b,o) (yaI _ (yaI _ (ZdK hb e)))).2.1
   cases f with
   | next=>obtain ⟨σ7,H7,I7,n7⟩:=q7;exact again I7 n7
   | cont=>obtain ⟨σ7,H7,I7,n7⟩:=q7;exact again I7 n7
   | brk=>obtain ⟨σ7,H7,I7,q7⟩:=q7;exact ⟨σ7,H7,I7.unpinned,q7⟩
   | ret v=>obtain ⟨x7,σ7,H7,I7,r7,q7⟩:=q7;exact ⟨x7,σ7,H7,I7.unpinned,r7,q7⟩
end
theorem for_list {a:Addr}{xs:List V}{g:TG}{tb:TS}{D:Ends}{σ:St}{H:Hp}(Pv:Nat->St->Hp->Prop)(h0:Pv 0 σ H)(hl:∀ i σ H,i<=xs.length->Pv i σ H->SqL K H a xs)
   (hs:∀ i x σ H,xs[i]?=some x->Pv i σ H->g x σ H fun σ2 H2=>tb { D with nx:=Pv (i+1),ct:=Pv (i+1),bk:=D.nx } σ2 H2) (hd:∀ σ H,Pv xs.length σ H->D.nx σ H) :
   ∃ W:Nat->Nat->St->Hp->Prop,(∃ m,W 0 m σ H)/\∀ i m σ H,W i m σ H ->
     ((Itl K a).stop i H/\D.nx σ H)\/((Itl K a).go i H/\∃ N:St->Hp->Prop,(∀ σ' H',N σ' H'->∃ m',m'<m/\W (i+1) m' σ' H')/\∀ x H',(Itl K a).yld i H x H'->g x σ H' fun σ2 H2=>tb { D with nx:=N,ct:=N,bk:=D.nx } σ2 H2):=by
 refine ⟨fun i m σ H=>m=xs.length-i/\i<=xs.length/\Pv i σ H,⟨xs.length,by simp,yax _,h0⟩,?_⟩;rintro i m σ H ⟨rfl,hi,p⟩;have q:=hl i σ H hi p;by_cases hlt:i<xs.length
 . refine .inr ⟨⟨xs,xs[i],q,by simp [hlt]⟩,Pv (i+1),fun σ' H' p'=>⟨xs.length-(i+1),by omega,rfl,hlt,p'⟩,fun x H' y=>?_⟩
   obtain ⟨e,y⟩:=y;subst e;exact hs i x σ _ (y xs q) p
 . have e:i=xs.length:=by omega
   subst e;exact .inl ⟨⟨xs,q,yag _⟩,hd σ H p⟩
theorem ZjV {lo:Int}{n:Nat}{g:TG}{tb:TS}{D:Ends}{σ:St}{H:Hp}(Pv:Nat->St->Hp->Prop)(h0:Pv 0 σ H)
   (hs:∀ i σ H,i<n->Pv i σ H->g (.int (lo+i)) σ H fun σ2 H2=>tb { D with nx:=Pv (i+1),ct:=Pv (i+1),bk:=D.nx } σ2 H2) (hd:∀ σ H,Pv n σ H->D.nx σ H) :
   ∃ W:Nat->Nat->St->Hp->Prop,(∃ m,W 0 m σ H)/\∀ i m σ H,W i m σ H ->
     ((Itr lo n).stop i H/\D.nx σ H)\/((Itr lo n).go i H/\∃ N:St->Hp->Prop,(∀ σ' H',N σ' H'->∃ m',m'<m/\W (i+1) m' σ' H')/\∀ x H',(Itr lo n).yld i H x H'->g x σ H' fun σ2 H2=>tb { D with nx:=N,ct:=N,bk:=D.nx } σ2 H2):=by
 refine ⟨fun i m σ H=>m=n-i/\i<=n/\Pv i σ H,⟨n,by simp,yax _,h0⟩,?_⟩;rintro i m σ H ⟨rfl,hi,p⟩;by_cases hlt:i<n
 . refine .inr ⟨hlt,Pv (i+1),fun σ' H' p'=>⟨n-(i+1),by omega,rfl,hlt,p'⟩,fun x H' y=>?_⟩
   obtain ⟨e,y⟩:=y;subst e y;exact hs i σ _ hlt p
 . have e:i=n:=by omega
   subst e;exact .inl ⟨yag _,hd σ H p⟩
theorem Zfv {c:TT}{tb:TS}{D:Ends}{σ:St}{H:Hp}(Pv:St->Hp->Prop)(μ:St->Hp->Nat)(h0:Pv σ H)
   (hs:∀ σ H,Pv σ H->c σ H fun b H1=>if b=true then tb { D with nx:=fun σ' H'=>Pv σ' H'/\μ σ' H'<μ σ H,ct:=fun σ' H'=>Pv σ' H'/\μ σ' H'<μ σ H,bk:=D.nx } σ H1 else D.nx σ H1)
   (mono:∀ σ H Q Q',(∀ b H1,Q b H1->Q' b H1)->c σ H Q->c σ H Q'):tWhile c tb D σ H:=by
 refine ⟨fun m σ H=>m=μ σ H/\Pv σ H,⟨_,rfl,h0⟩,?_⟩;rintro m σ H ⟨rfl,p⟩;refine mono σ H _ _ (fun b H1 q=>?_) (hs σ H p);cases b with
 | true=>exact ⟨_,fun σ' H' ⟨p',l⟩=>⟨_,l,rfl,p'⟩,q⟩
 | false=>exact q
abbrev R2:=V->V->Hp->VK->Prop
def OpR (X:Cx) (f:Value->Value->Sem Value) (r:R2):Prop :=
 ∀ (pins:List (Addr × Obj)) (s:Shared) (σ:St) (H:Hp) (x y:V) (v u:Value) (Q:VK),Inv X pins σ H s->RelV x v->RelV y u->r x y H Q ->
   wpAny (model X.prog X.w) X.A (f v u) (EP X pins σ Q) X.xe s
def UnR (X:Cx) (f:Value->Sem Value) (r:V->Hp->VK->Prop):Prop :=
 ∀ (pins:List (Addr × Obj)) (s:Shared) (σ:St) (H:Hp) (x:V) (v:Value) (Q:VK),Inv X pins σ H s->RelV x v->r x H Q ->
   wpAny (model X.prog X.w) X.A (f v) (EP X pins σ Q) X.xe s
def CallR (X:Cx) (f:Value) (r:List V->Hp->VK->Prop):Prop :=
 ∀ (pins:List (Addr × Obj)) (s:Shared) (σ:St) (H:Hp) (xs:List V) (us:List Value) (Q:VK),Inv X pins σ H s->Vals xs us->r xs H Q ->
   wpAny (model X.prog X.w) X.A (call f us) (EP X pins σ Q) X.xe s
def tOp (r:R2)(ta tb:TE):TE:=fun σ H Q=>ta σ H fun x H1=>tb σ H1 fun y H2=>r x y H2 Q
def tUn (r:V->Hp->VK->Prop)(ta:TE):TE:=fun σ H Q=>ta σ H fun x H1=>r x H1 Q
def rI (C:Int->Int->Prop)(g:Int->Int->V):R2:=fun x y H Q=>∃ i j,x=.int i/\y=.int j/\C i j/\Q (g i j) H
def rI0 (g:Int->Int->V):R2:=fun x y H Q=>∃ i j,x=.int i/\y=.int j/\Q (g i j) H
def rU (g:Int->V):V->Hp->VK->Prop:=fun x H Q=>∃ i,x=.int i/\Q (g i) H
section
variable {X:Cx}{a b c:Expr}{ta tb tc:TE}{pos:Pos}
theorem binT (ha:PE X a ta)(hb:PE X b tb){σ:St}{H:Hp}{R:V->V->Hp->Prop}(I:Inv X pins σ H s)
   (h:ta σ H fun x H1=>tb σ H1 fun y H2=>R x y H2) {f:Value->Value->Sem Value}
   (hf:∀ v u s2 x y H2,Inv X pins σ H2 s2->RelV x v->RelV y u->R x y H2->wpAny (model X.prog X.w) X.A (f v u) Q X.xe s2) :
   wpAny (model X.prog X.w) X.A (eval a X.env) (fun v s₁=>wpAny (model X.prog X.w) X.A (eval b X.env) (fun u s₂=>wpAny (model X.prog X.w) X.A (f v u) Q X.xe s₂) X.xe s₁) X.xe s:=by
 refine thn (ha pins s σ H _ I h) fun v s1 ⟨x,H1,I1,r1,q1⟩=>?_
 refine thn (hb pins s1 σ H1 _ I1 q1) fun u s2 ⟨y,H2,I2,r2,q2⟩=>?_
 exact hf v u s2 x y H2 I2 r1 r2 q2
theorem Zah {op:Operator}{r:R2}(ho:OpR X (binaryOp op) r)(ha:PE X a ta)(hb:PE X b tb):PE X (.BinOp a op b pos) (tOp r ta tb):=by intro pins s σ H Q I h;exact wpAny_BinOp (binT ha hb I h fun v u s2 x y H2 I2 rx ry q=>ho pins s2 σ H2 x y v u Q I2 rx ry q)
theorem Zd7 {op:UnaryOp}{r:V->Hp->VK->Prop}(ho:UnR X (unaryOp op) r)(ha:PE X a ta):PE X (.UnaryOp op a pos) (tUn r ta):=by intro pins s σ H Q I h;exact UnaryOp_ (thn (ha pins s σ H _ I h) fun v s1 ⟨x,H1,I1,r1,q1⟩=>ho pins s1 σ H1 x v Q I1 r1 q1)
theorem opI {f:Value->Value->Sem Value}{C:Int->Int->Prop}{g:Int->Int->Int}
   (rule:∀ (i j:Int) (t u:Tok) (s:Shared) (Q:Value->Shared->Prop) (E:Value->Shared->Prop),C i j->Q (.int (g i j) s.toks) { s with toks:=s.toks+1 }->wpAny (model X.prog X.w) X.A (f (.int i t) (.int j u)) Q E s) :
   OpR X f (rI C fun i j=>.int (g i j)):=by
 intro pins s σ H x y v u Q I rx ry h;obtain ⟨i,j,rfl,rfl,hc,q⟩:=h;obtain ⟨t,rfl⟩:=rx;obtain ⟨t',rfl⟩:=ry;exact rule i j t t' s _ _ hc ⟨.int (g i j),H,I.tok _,⟨_,rfl⟩,q⟩
theorem opI0 {f:Value->Value->Sem Value}{g:Int->Int->Int}
   (rule:∀ (i j:Int) (t u:Tok) (s:Shared) (Q:Value->Shared->Prop) (E:Value->Shared->Prop),Q (.int (g i j) s.toks) { s with toks:=s.toks+1 }->wpAny (model X.prog X.w) X.A (f (.int i t) (.int j u)) Q E s) :
   OpR X f (rI0 fun i j=>.int (g i j)):=by
 intro pins s σ H x y v u Q I rx ry h;obtain ⟨i,j,rfl,rfl,q⟩:=h;obtain ⟨t,rfl⟩:=rx;obtain ⟨t',rfl⟩:=ry;exact rule i j t t' s _ _ ⟨.int (g i j),H,I.tok _,⟨_,rfl⟩,q⟩
theorem opB0 {f:Value->Value->Sem Value}{g:Int->Int->Bool}
   (rule:∀ (i j:Int) (t u:Tok) (s:Shared) (Q:Value->Shared->Prop) (E:Value->Shared->Prop),Q (.bool (g i j)) s->wpAny (model X.prog X.w) X.A (f (.int i t) (.int j u)) Q E s) :
   OpR X f (rI0 fun i j=>.bl (g i j)):=by
 intro pins s σ H x y v u Q I rx ry h;obtain ⟨i,j,rfl,rfl,q⟩:=h;obtain ⟨t,rfl⟩:=rx;obtain ⟨t',rfl⟩:=ry;exact rule i j t t' s _ _ ⟨.bl (g i j),H,I,rfl,q⟩
def CDiv (i j:Int):Prop:=0<j/\j<1073741824
def CPow (i j:Int):Prop:=0<=j/\j<=1000000/\i.natAbs<2^64
def CMul (i j:Int):Prop:=(-(2^64)<i/\i<2^64)\/(-(2^64)<j/\j<2^64)
theorem CMul.ok {i j:Int}(h:CMul i j):IntMulOk i j:=by
 rcases h with ⟨h1,h2⟩ | ⟨h1,h2⟩
 . exact .of_left (intBits_le_64 h1 h2)
 . exact .of_right (intBits_le_64 h1 h2)
theorem Zfn (k:Nat):(0:Int)<=2^k:=by rw [two_pow_cast];exact yaU _
theorem Zav:OpR X (binaryOp .Add) (rI0 fun i j=>.int (i+j)):=opI0 fun _ _ _ _ _ _ _ q=>add_int q
theorem ZaP:OpR X (binaryOp .Sub) (rI0 fun i j=>.int (i-j)):=opI0 fun _ _ _ _ _ _ _ q=>sub_int q
theorem Zbt:OpR X (binaryOp .Mult) (rI CMul fun i j=>.int (i*j)):=opI fun _ _ _ _ _ _ _ hc q=>mul_int q hc.ok
theorem Zas:OpR X (binaryOp .FloorDiv) (rI CDiv fun i j=>.int (i/j)):=opI fun i j _ _ _ _ _ hc q=>by
 have h1:(0:Int)<j:=hc.1;have h2:j<1073741824:=hc.2;exact floordiv_int (by omega) (by rw [Int.fdiv_eq_ediv_of_nonneg i (by omega)];exact q) (.inl (PyProof.noPylong_small (by omega)))
theorem Zar:OpR X (binaryOp .Mod) (rI (fun _ j=>0<j) fun i j=>.int (i%j)):=opI fun i j _ _ _ _ _ hc q=>by
 have h1:(0:Int)<j:=hc;exact mod_int' (by omega) (by rw [Int.fmod_eq_emod_of_nonneg i (by omega)];exact q)
theorem op_pow:OpR X (binaryOp .Pow) (rI CPow fun i j=>.int (i^j.toNat)):=opI fun _ _ _ _ _ _ _ hc q=>pow_int_small hc.1 hc.2.1 hc.2.2 q
theorem ZfA:OpR X (binaryOp .RShift) (rI (fun _ j=>0<=j) fun i j=>.int (i/2^j.toNat)):=opI fun i j _ _ _ _ _ hc q =>
 rshift_int hc (by rw [Int.fdiv_eq_ediv_of_nonneg i (Zfn _)];exact q)
theorem ZaZ:OpR X (binaryOp .BitAnd) (rI0 fun i j=>.int (Builtin.bitAnd i j)):=opI0 fun _ _ _ _ _ _ _ q=>and_int q
theorem Zfj:OpR X (binaryOp .BitOr) (rI0 fun i j=>.int (Builtin.bitOr i j)):=opI0 fun _ _ _ _ _ _ _ q=>or_int q
theorem unI {f:Value->Sem Value}{g:Int->Int}
   (rule:∀ (i:Int) (t:Tok) (s:Shared) (Q:Value->Shared->Prop) (E:Value->Shared->Prop),Q (.int (g i) s.toks) { s with toks:=s.toks+1 }->wpAny (model X.prog X.w) X.A (f (.int i t)) Q E s) :
   UnR X f (rU fun i=>.int (g i)):=by
 intro pins s σ H x v Q I rx h;obtain ⟨i,rfl,q⟩:=h;obtain ⟨t,rfl⟩:=rx;exact rule i t s _ _ ⟨.int (g i),H,I.tok _,⟨_,rfl⟩,q⟩
theorem Zgo:UnR X (unaryOp .USub) (rU fun i=>.int (-i)):=unI fun _ _ _ _ _ q=>neg_int q
theorem Zfl:UnR X (unaryOp .Invert) (rU fun i=>.int (Builtin.bitNot i)):=unI fun _ _ _ _ _ q=>invert_int q
end
def scal:V->V->Bool
 | .non,.non=>true | .non,.int _=>true | .int _,.non=>true | .non,.bl _=>true | .bl _,.non=>true | .non,.str _=>true | .str _,.non=>true
 | .int _,.int _=>true | .bl _,.bl _=>true | .str _,.str _=>true | .byt _,.byt _=>true
 | .int _,.str _=>true | .str _,.int _=>true | .bl _,.str _=>true | .str _,.bl _=>true
 | _,_=>false
def rEq:R2:=fun x y H Q=>scal x y=true/\Q (.bl (decide (x=y))) H
def rNe:R2:=fun x y H Q=>scal x y=true/\Q (.bl (!decide (x=y))) H
theorem ZiW {i j:Int}:decide (V.int i=V.int j)=(i==j):=by rw [ybJ];simp
theorem dec_bl {i j:Bool}:decide (V.bl i=V.bl j)=(i==j):=by rw [ybJ];simp
theorem ZiK {i j:Str}:decide (V.str i=V.str j)=(i==j):=by rw [ybJ];simp
theorem ZiS {i j:Array UInt8}:decide (V.byt i=V.byt j)=(i.toList==j.toList):=by rw [ybJ];cases i;cases j;simp
section
variable {X:Cx}{a b c:Expr}{ta tb tc:TE}{pos:Pos}
theorem ZaA {σ:St}{H:Hp}{Q:VK}{k k':Bool}(I:Inv X pins σ H s)(q:Q (.bl k) H)(e:k=k'):EP X pins σ Q (.bool k') s:=by subst e;exact ⟨.bl k,H,I,rfl,q⟩
theorem Zbr:OpR X (compareOp .Eq) rEq:=by
 intro pins s σ H x y v u Q I rx ry h;obtain ⟨hs,q⟩:=h;cases x with
 | non =>
   cases rx;cases y with
   | non=>cases ry;exact PySem.EqNone.eq_none_none (ZaA I q (by simp))
   | bl j=>cases ry;exact PySem.EqNone.eq_none_bool (ZaA I q (by simp))
   | int j=>obtain ⟨t',rfl⟩:=ry;exact PySem.EqNone.eq_none_int (ZaA I q (by simp))
   | str j=>obtain ⟨t',rfl⟩:=ry;exact PySem.EqNone.eq_none_str (ZaA I q (by simp))
   | _=>exact absurd (show false=true from hs) yaL
 | bl i =>
   cases rx;cases y with
   | non=>cases ry;exact PySem.EqNone.eq_bool_none (ZaA I q (by simp))
   | bl j=>cases ry;exact eq_bool (ZaA I q dec_bl)
   | str j=>obtain ⟨t',rfl⟩:=ry;exact PySem.EqMixed.eq_bool_str (ZaA I q (by simp))
   | _=>exact absurd (show false=true from hs) yaL
 | int i =>
   obtain ⟨t,rfl⟩:=rx;cases y with
   | non=>cases ry;exact PySem.EqNone.eq_int_none (ZaA I q (by simp))
   | int j=>obtain ⟨t',rfl⟩:=ry;exact eq_int (ZaA I q ZiW)
   | str j=>obtain ⟨t',rfl⟩:=ry;exact PySem.EqMixed.eq_int_str (ZaA I q (by simp))
   | _=>exact absurd (show false=true from hs) yaL
 | str i =>
   obtain ⟨t,rfl⟩:=rx;cases y with
   | non=>cases ry;exact PySem.EqNone.eq_str_none (ZaA I q (by simp))
   | bl j=>cases ry;exact PySem.EqMixed.eq_str_bool (ZaA I q (by simp))
   | int j=>obtain ⟨t',rfl⟩:=ry;exact PySem.EqMixed.eq_str_int (ZaA I q (by simp))
   | str j=>obtain ⟨t',rfl⟩:=ry;exact eq_str (ZaA I q ZiK)
   | _=>exact absurd (show false=true from hs) yaL
 | byt i =>
   obtain ⟨t,rfl⟩:=rx;cases y with
   | byt j=>obtain ⟨t',rfl⟩:=ry;exact PySem.W.eq_bytes (ZaA I q ZiS)
   | _=>exact absurd (show false=true from hs) yaL
 | _=>cases y<;>exact absurd (show false=true from hs) yaL
theorem op_ne:OpR X (compareOp .NotEq) rNe:=by
 intro pins s σ H x y v u Q I rx ry h;obtain ⟨hs,q⟩:=h;cases x with
 | non =>
   cases rx;cases y with
   | non=>cases ry;exact PySem.EqNone.ne_none_none (ZaA I q (by simp))
   | bl j=>cases ry;exact PySem.EqNone.ne_none_bool (ZaA I q (by simp))
   | int j=>obtain ⟨t',rfl⟩:=ry;exact PySem.EqNone.ne_none_int (ZaA I q (by simp))
   | str j=>obtain ⟨t',rfl⟩:=ry;exact PySem.EqNone.ne_none_str (ZaA I q (by simp))
   | _=>exact absurd (show false=true from hs) yaL
 | bl i =>
   cases rx;cases y with
   | non=>cases ry;exact PySem.EqNone.ne_bool_none (ZaA I q (by simp))
   | bl j=>cases ry;exact ne_bool (ZaA I q (congrArg not dec_bl))
   | str j=>obtain ⟨t',rfl⟩:=ry;exact PySem.EqMixed.ne_bool_str (ZaA I q (by simp))
   | _=>exact absurd (show false=true from hs) yaL
 | int i =>
   obtain ⟨t,rfl⟩:=rx;cases y with
   | non=>cases ry;exact PySem.EqNone.ne_int_none (ZaA I q (by simp))
   | int j=>obtain ⟨t',rfl⟩:=ry;exact ne_int (ZaA I q (congrArg not ZiW))
   | str j=>obtain ⟨t',rfl⟩:=ry;exact PySem.EqMixed.ne_int_str (ZaA I q (by simp))
   | _=>exact absurd (show false=true from hs) yaL
 | str i =>
   obtain ⟨t,rfl⟩:=rx;cases y with
   | non=>cases ry;exact PySem.EqNone.ne_str_none (ZaA I q (by simp))
   | bl j=>cases ry;exact PySem.EqMixed.ne_str_bool (ZaA I q (by simp))
   | int j=>obtain ⟨t',rfl⟩:=ry;exact PySem.EqMixed.ne_str_int (ZaA I q (by simp))
   | str j=>obtain ⟨t',rfl⟩:=ry;exact ne_str (ZaA I q (congrArg not ZiK))
   | _=>exact absurd (show false=true from hs) yaL
 | byt i =>
   obtain ⟨t,rfl⟩:=rx;cases y with
   | byt j=>obtain ⟨t',rfl⟩:=ry;exact PySem.W.ne_bytes (ZaA I q (congrArg not ZiS))
   | _=>exact absurd (show false=true from hs) yaL
 | _=>cases y<;>exact absurd (show false=true from hs) yaL
theorem ZdZ:OpR X (compareOp .Lt) (rI0 fun i j=>.bl (decide (i<j))):=opB0 fun _ _ _ _ _ _ _ q=>lt_int q
theorem ZcF:OpR X (compareOp .LtE) (rI0 fun i j=>.bl (decide (i<=j))):=opB0 fun _ _ _ _ _ _ _ q=>le_int q
theorem op_gt:OpR X (compareOp .Gt) (rI0 fun i j=>.bl (decide (j<i))):=opB0 fun _ _ _ _ _ _ _ q=>gt_int q
theorem op_ge:OpR X (compareOp .GtE) (rI0 fun i j=>.bl (decide (j<=i))):=opB0 fun _ _ _ _ _ _ _ q=>ge_int q
theorem Zfe:OpR X (compareOp .Is) (fun x y H Q=>y=.non/\Q (.bl (decide (x=.non))) H):=by
 intro pins s σ H x y v u Q I rx ry h;obtain ⟨rfl,q⟩:=h;cases ry;refine is_none_gen (ZaA I q ?_);cases x<;>first
   | (cases rx;rfl)
   | (obtain ⟨t,rfl⟩:=rx;rfl)
theorem ZiZ:OpR X (compareOp .IsNot) (fun x y H Q=>y=.non/\Q (.bl (!decide (x=.non))) H):=by
 intro pins s σ H x y v u Q I rx ry h;obtain ⟨rfl,q⟩:=h;cases ry;refine isnot_none_gen (ZaA I q ?_);cases x<;>first
   | (cases rx;rfl)
   | (obtain ⟨t,rfl⟩:=rx;rfl)
theorem nomark (b:Expr){op:CmpOp}(h:op≠.In:=by decide)(h2:op≠.NotIn:=by decide):behindInMarks op b=false:=by
 have e1:(op==CmpOp.In)=false:=by cases op<;>first | rfl | exact absurd rfl h
 have e2:(op==CmpOp.NotIn)=false:=by cases op<;>first | rfl | exact absurd rfl h2
 cases b<;>simp [behindInMarks,e1,e2]
theorem pe_cmpR {op:CmpOp}{r:R2}(ho:OpR X (compareOp op) r)(ha:PE X a ta)(hb:PE X b tb)(hm:behindInMarks op b=false):PE X (.Compare a [op] [b] pos) (tOp r ta tb):=by intro pins s σ H Q I h;exact wpAny_Compare1 (binT ha hb I h fun v u s2 x y H2 I2 rx ry q=>ho pins s2 σ H2 x y v u Q I2 rx ry q) hm
def tTest (t:TE):TT:=fun σ H Q=>t σ H fun x H'=>∃ k,x=.bl k/\Q k H'
theorem pt_cmpR {op:CmpOp}{r:R2}(ho:OpR X (compareOp op) r)(ha:PE X a ta)(hb:PE X b tb)(hm:behindInMarks op b=false):PT X (.Compare a [op] [b] pos) (tTest (tOp r ta tb)):=by
 intro pins s σ H Q I h;refine wpAny_isTrue_Compare1 (thn (ha pins s σ H _ I h) fun v s1 ⟨x,H1,I1,r1,q1⟩=>thn (hb pins s1 σ H1 _ I1 q1) fun u s2 ⟨y,H2,I2,r2,q2⟩ =>
   thn (ho pins s2 σ H2 x y v u _ I2 r1 r2 q2) fun c s3 ⟨z,H3,I3,r3,k,e,q3⟩=>?_) hm
 subst e;cases r3;exact zau ⟨H3,I3,q3⟩
def tChain (r r':R2)(ta tb tc:TE):TE:=fun σ H Q=>ta σ H fun x H1=>tb σ H1 fun y H2=>r x y H2 fun z H3=>∃ k,z=.bl k /\
 (if k=true then tc σ H3 fun w' H4=>r' y w' H4 Q else Q (.bl false) H3)
theorem pe_chain {op op':CmpOp}{r r':R2}(ho:OpR X (compareOp op) r)(ho':OpR X (compareOp op') r')(ha:PE X a ta)(hb:PE X b tb)(hc:PE X c tc)
   (hm:lastMarks [op,op'] [b,c]=false:=by with_unfolding_all rfl):PE X (.Compare a [op,op'] [b,c] pos) (tChain r r' ta tb tc):=by
 intro pins s σ H Q I h;refine Compare_chain (thn (ha pins s σ H _ I h) fun v s1 ⟨x,H1,I1,r1,q1⟩=>chain_link (thn (hb pins s1 σ H1 _ I1 q1) fun u s2 ⟨y,H2,I2,r2,q2⟩ =>
   thn (ho pins s2 σ H2 x y v u _ I2 r1 r2 q2) fun d s3 ⟨z,H3,I3,r3,k,e,q3⟩=>?_)) hm
 subst e;cases r3;refine zau ?_;cases k with
 | false=>exact ite_ff ⟨.bl false,H3,I3,rfl,q3⟩
 | true=>exact ite_tt (chain_last (thn (hc pins s3 σ H3 _ I3 q3) fun w' s4 ⟨z',H4,I4,r4,q4⟩=>ho' pins s4 σ H4 y z' u w' Q I4 r2 r4 q4))
theorem Zec {op op':CmpOp}{r r':R2}(ho:OpR X (compareOp op) r)(ho':OpR X (compareOp op') r')(ha:PE X a ta)(hb:PE X b tb)(hc:PE X c tc)
   (hm:lastMarks [op,op'] [b,c]=false:=by with_unfolding_all rfl):PT X (.Compare a [op,op'] [b,c] pos) (tTest (tChain r r' ta tb tc)):=by
 intro pins s σ H Q I h;refine isTrue_chain (thn (ha pins s σ H _ I h) fun v s1 ⟨x,H1,I1,r1,q1⟩=>test_link (thn (hb pins s1 σ H1 _ I1 q1) fun u s2 ⟨y,H2,I2,r2,q2⟩ =>
   thn (ho pins s2 σ H2 x y v u _ I2 r1 r2 q2) fun d s3 ⟨z,H3,I3,r3,k,e,q3⟩=>?_)) hm
 subst e;cases r3;refine zau ?_;cases k with
 | false =>
   obtain ⟨k',e',q'⟩:=q3;cases e';exact ite_ff ⟨H3,I3,q'⟩
 | true =>
   refine ite_tt (test_last (thn (hc pins s3 σ H3 _ I3 q3) fun w' s4 ⟨z',H4,I4,r4,q4⟩=>thn (ho' pins s4 σ H4 y z' u w' _ I4 r2 r4 q4) fun d' s5 ⟨z2,H5,I5,r5,k2,e2,q5⟩=>?_));subst e2;cases r5;exact zau ⟨H5,I5,q5⟩
theorem line63:(sizeLine:Nat)<2^63:=by rw [sizeLine_eq];decide
theorem vals1 {x:V}(r:Vals [x] us):∃ u,us=[u]/\RelV x u:=by
 cases r with
 | cons r1 r2=>cases r2;exact ⟨_,rfl,r1⟩
theorem vals2 {x y:V}(r:Vals [x,y] us):∃ u w',us=[u,w']/\RelV x u/\RelV y w':=by
 cases r with
 | cons r1 r2 =>
   cases r2 with
   | cons r3 r4=>cases r4;exact ⟨_,_,rfl,r1,r3⟩
theorem ZfO (hc:X.calm=true):CallR X (.builtin "min") (fun xs H Q=>∃ i j,xs=[.int i,.int j]/\Q (.int (if j<i then j else i)) H):=by
 intro pins s σ H xs us Q I r h;obtain ⟨i,j,rfl,q⟩:=h;obtain ⟨u,w',rfl,⟨t,rfl⟩,⟨t',rfl⟩⟩:=vals2 r;refine min_two_ints (I.ok.hd hc) fun h' tk k=>⟨_,H,I.kept k,?_,q⟩
 by_cases hj:j<i
 . rw [if_pos hj,if_pos hj];exact ⟨_,rfl⟩
 . rw [if_neg hj,if_neg hj];exact ⟨_,rfl⟩
end
structure ObjM (h:Heap)(x dx C:Addr)(mA:Str->Option Value):Prop where
 obj:h.get? x=some (PySem.W.instObj C dx)
 ns:h.Ns1 dx mA
 ne:dx≠x
theorem ZjC {dx:Addr}{mA:Str->Option Value}(n:h.Ns1 dx mA):∃ od,h.get? dx=some od/\∀ name,PySem.W.lookIn name od=some (mA name):=by
 obtain ⟨o,es,ep,ho,hd,hk,_,hm⟩:=n;refine ⟨o,ho,fun name=>?_⟩;have e:=hm name;unfold nsFind findBy at e;rw [<- Array.find?_toList] at e;unfold PySem.W.lookIn;rw [hd];dsimp only;split
 . rename_i y q
   rw [q] at e;exact congrArg some e
 . rename_i q
   rw [q] at e;have a:es.toList.any (·.refKey)=false:=by rw [List.any_eq_false];intro y hy;obtain ⟨z,t,hkey⟩:=hk y (Array.mem_toList_iff.mp hy);simp [DictEntry.refKey,hkey]
   have a':¬ es.toList.any (·.refKey)=true:=by rw [a];exact yaL
   rw [if_neg a'];exact congrArg some e
theorem ObjM.look {x dx:Addr}{mA:Str->Option Value}(I:ObjM h x dx C mA):∃ od,PySem.W.InstAt h x (PySem.W.instObj C dx) C (some od)/\∀ name,PySem.W.lookIn name od=some (mA name) :=
 let ⟨od,ho,hl⟩:=ZjC I.ns
 ⟨od,⟨I.obj,rfl,rfl,ho⟩,hl⟩
section
variable {x dx:Addr}{mA:Str->Option Value}{name:Str}{v:Value}
theorem get_map {expr:Bool}(X:K.In s.heap)(I:ObjM s.heap x dx C mA)(hg:PySem.W.plainGet K C name=true)(hh:PySem.W.hasDictIn K C=true)
   (ha:PySem.W.findIn K (.ref C) name=some none) (hv:mA name=some v) (hv':PySem.W.handedIn v=true) (h:Q v { s with toks:=s.toks+1 }) :
   wpAny (model prog w) A (getAttr (.ref x) name expr) Q E s:=by
 obtain ⟨od,J,hl⟩:=I.look;exact PySem.W.get_value X J (PySem.W.plainGet_of hg).1 (PySem.W.findObj_own hh ha rfl (by rw [hl,hv])) hv' h
theorem get_meth {pl:Sem Bool}{Q:Value × List Value->Shared->Prop}(X:K.In s.heap)(I:ObjM s.heap x dx C mA)(hg:PySem.W.plainGet K C name=true)
   (hf:PySem.W.findIn K (.ref C) name=some (some (.ref f))) (ht:PySem.W.isFn K (.ref f)=true) (hv:mA name=none) (h:Q (.ref f,[.ref x]) s) :
   wpAny (model prog w) A (getMethod (.ref x) name pl) Q E s:=by
 obtain ⟨od,J,hl⟩:=I.look;exact PySem.W.method_fn X J (PySem.W.plainGet_of hg).1 (PySem.W.plainGet_of hg).2 hf (za0.mp ht) (by show (PySem.W.lookIn name od).map (·.isSome)=some false;rw [hl,hv];rfl) h
theorem set_map {ns:List Str}{Q:Unit->Shared->Prop}(X:K.In s.heap)(I:ObjM s.heap x dx C mA)
   (hs:PySem.W.findIn K (.ref C) "__setattr__"=some (some (.builtin "object.__setattr__"))) (hp:PySem.W.plainOver K C=true) (ht:PySem.W.takerIn K C name=some none) (hh:PySem.W.hasDictIn K C=true)
   (hw:PySem.Within mA ns) (hsz:ns.length<=sizeLine)
   (h:∀ h',ObjM h' x dx C (fun y=>if y=name then some v else mA y)->Heap.SameBut dx s.heap h'->Q () { s with heap:=h',toks:=s.toks+2 }) :
   wpAny (model prog w) A (setAttr (.ref x) name v) Q E s:=by
 obtain ⟨od,J,hl⟩:=I.look;refine PySem.W.set_plain X J hs (PySem.W.osa_open (s:={ s with toks:=s.toks+1 }) (r:=none) X J hp ht fun b=>?_);obtain ⟨cd,hc,hd'⟩:=PySem.W.any_some hh;have hx:s.heap.get? x=some ⟨.ref C,some dx,.plain,#[]⟩:=I.obj;refine zaa (zac (zaa (zaa (wpAny_loadPart hx (zaa (PySem.W.Looks.here (s:={ s with toks:=s.toks+1 }) (PySem.W.looks_clsIn X hc) ?_))))));rw [hd'];refine zac (a:=some dx) (zaa (zac (zaa ?_)));refine wpAny_nsSet1 (s:={ s with toks:=s.toks+1 }) I.ns fun h' hn2 hs2=>?_
 obtain ⟨oD,esD,epD,hoD,hdD,hcD⟩:=hn2.count (PySem.Within.cons name v hw);refine zaa (wpAny_lookBehind hoD (by rw [hdD];exact pastItsLine_dict (yaN hcD (by rw [yan];omega))) ?_);exact zac (h _ ⟨(hs2.2 _ (Ne.symm I.ne)).trans I.obj,hn2,I.ne⟩ hs2)
theorem make_map {R:Result->Shared->Prop}{vs:List Value}{kw:List (Str × Value)}(X:K.In s.heap)(hm:PySem.W.makesIn K C=true)
   (hi:PySem.W.findIn K (.ref C) "__init__"=some (some (.ref f))) (hf:PySem.W.typeIn K (.ref f)=some (.type "function"))
   (h:codeAny (model prog w) (A.under (.builtin "type.__call__" ⟨.ref C::vs,kw⟩)) (.call (.ref f) ⟨.ref (s.heap.objs.size+1)::vs,kw⟩) (PySem.W.InitBack (s.heap.objs.size+1) R)
     { s with heap:=(s.heap.push PySem.W.emptyDict).push (PySem.W.instObj C s.heap.objs.size) }) :
   codeAny (model prog w) A (.call (.ref C) ⟨vs,kw⟩) R s:=by
 obtain ⟨hh,g,d,t,os⟩:=s;exact PySem.W.make_core (PySem.W.makes_of X hm) (PySem.W.looks_findIn X hi) (fun self=>PySem.W.bind_fn X self hf) (.inl rfl) h
end
def putF (f:Str)(v:V):List (Str × V)->List (Str × V)
 | []=>[(f,v)]
 | (g,x)::r=>if g=f then (g,v)::r else (g,x)::putF f v r
theorem ZeA (f g:Str) (v:V):∀ fs:List (Str × V),(putF f v fs).lookup g=if g=f then some v else fs.lookup g
 | []=>by
   show List.lookup g [(f,v)]=_;by_cases h:g=f
   . have hb:(g==f)=true:=za0.mpr h
     simp only [List.lookup,hb,if_pos h]
   . have hb:(g==f)=false:=zas.mpr h
     simp only [List.lookup,hb,if_neg h]
 | (k, x)::r=>by
   have ih:=ZeA f g v r;rw [show putF f v ((k,x)::r)=(if k=f then (k,v)::r else (k,x)::putF f v r) from rfl];by_cases hk:k=f
   . rw [if_pos hk]
     by_cases h:g=k
     . have hb:(g==k)=true:=za0.mpr h
       simp only [List.lookup,hb,if_pos (h.trans hk)]
     . have hb:(g==k)=false:=zas.mpr h
       simp only [List.lookup,hb,if_neg (fun e:g=f=>h (e.trans hk.symm))]
   . rw [if_neg hk]
     by_cases h:g=k
     . have hb:(g==k)=true:=za0.mpr h
       simp only [List.lookup,hb,if_neg (fun e:g=f=>hk (h.symm.trans e))]
     . have hb:(g==k)=false:=zas.mpr h
       simp only [List.lookup,hb];exact ih
theorem Zem (f:Str) (v:V):∀ fs:List (Str × V),f∈(putF f v fs).map (·.1)/\∀ g,g∈fs.map (·.1)->g∈(putF f v fs).map (·.1)
 | []=>⟨by simp [putF],fun g h=>by simp at h⟩
 | (k, x)::r=>by
   obtain ⟨i1,i2⟩:=Zem f v r;rw [show putF f v ((k,x)::r)=(if k=f then (k,v)::r else (k,x)::putF f v r) from rfl];by_cases hk:k=f
   . rw [if_pos hk]
     subst hk;exact ⟨by simp,fun g h=>by simpa using h⟩
   . rw [if_neg hk]
     refine ⟨?_,fun g h=>?_⟩
     . rw [yaC]
       exact yaM _ i1
     . rw [yaC] at h ⊢
       rcases yaj.mp h with e | e
       . exact yaj.mpr (.inl e)
       . exact yaM _ (i2 g e)
theorem ZeB (f:Str)(v:V):∀ fs:List (Str × V),(putF f v fs).length<=fs.length+1
 | []=>by simp [putF]
 | (k,x)::r=>by
   have ih:=ZeB f v r;rw [show putF f v ((k,x)::r)=(if k=f then (k,v)::r else (k,x)::putF f v r) from rfl];by_cases hk:k=f
   . rw [if_pos hk,yan,yan];omega
   . rw [if_neg hk,yan,yan];omega
theorem RelO.some_of {v:V}{o:Option Value}(r:RelO (some v) o):∃ u,o=some u/\RelV v u:=by
 cases o with
 | none=>exact (show False from r).elim
 | some u=>exact ⟨u,rfl,r⟩
theorem RelO.none_of {o:Option Value}(r:RelO none o):o=none:=by
 cases o with
 | none=>rfl
 | some u=>exact (show False from r).elim
theorem Zj7 {v:V}{u:Value}(r:RelV v u):PySem.W.handedIn u=true:=by
 cases v with
 | non=>cases (show u=Value.none from r);rfl
 | bl b=>cases (show u=Value.bool b from r);rfl
 | int i=>obtain ⟨t,e⟩:=(show ∃ t,u=Value.int i t from r);cases e;rfl
 | str x=>obtain ⟨t,e⟩:=(show ∃ t,u=Value.str x t from r);cases e;rfl
 | byt b=>obtain ⟨t,e⟩:=(show ∃ t,u=Value.bytes b t from r);cases e;rfl
 | flt b=>obtain ⟨t,e⟩:=(show ∃ t,u=Value.float b t from r);cases e;rfl
 | ref a=>cases (show u=Value.ref a from r);rfl
 | ty n=>cases (show u=Value.type n from r);rfl
section
variable {H H':Hp}{a dx:Addr}{fs fs':List (Str × V)}
theorem ZeT (hok:HOk P w H h)(e:H a=some (.ins C dx fs)):∃ mA,ObjM h a dx C mA/\(∀ f,RelO (fs.lookup f) (mA f))/\PySem.Within mA (fs.map (·.1))/\fs.length<=1000/\H dx=some (.own a):=by
 obtain ⟨d,z,ne,ob,mA,n,r,q⟩:=(show ObjOk P w H h a (.ins C dx fs) from hok a _ e)
 exact ⟨mA,⟨ob,n,ne⟩,r,q,z,d⟩
end
structure Cls (K:ZFr)(C:Addr):Prop where
 pg:PySem.W.plainGet K C Str.empty=true
 hd:PySem.W.hasDictIn K C=true
 po:PySem.W.plainOver K C=true
 sa:PySem.W.findIn K (.ref C) "__setattr__"=some (some (.builtin "object.__setattr__"))
theorem Cls.get (c:Cls K C)(f:Str):PySem.W.plainGet K C f=true:=c.pg
def NoAttr (K:ZFr)(C:Addr)(f:Str):Prop:=PySem.W.findIn K (.ref C) f=some none
theorem NoAttr.taker {f:Str}(n:NoAttr K C f):PySem.W.takerIn K C f=some none:=by unfold PySem.W.takerIn;rw [show PySem.W.findIn K (.ref C) f=some none from n];rfl
structure Meth (K:ZFr)(C:Addr)(m:Str)(f:Addr):Prop where
 at_:PySem.W.findIn K (.ref C) m=some (some (.ref f))
 fn:PySem.W.isFn K (.ref f)=true
 kp:PySem.W.keepIn K (.ref f)=true
section
variable {X:Cx}{σ:St}{H:Hp}{a dx:Addr}{fs:List (Str × V)}{f:Str}{v:V}
theorem ZiG {b:Bool}(I:Inv X pins σ H s)(e:H a=some (.ins C dx fs))(c:Cls X.K C)(n:NoAttr X.K C f)(l:fs.lookup f=some v)
   (h:∀ u s',Inv X pins σ H s'->RelV v u->Q u s'):wpAny (model X.prog X.w) A (getAttr (.ref a) f b) Q E s:=by
 obtain ⟨mA,O,r,_,_,_⟩:=ZeT I.hok e;obtain ⟨u,hu,ru⟩:=RelO.some_of (v:=v) (o:=mA f) (by rw [<- l];exact r f);exact get_map I.kIn O (c.get f) c.hd n hu (Zj7 ru) (h u _ (I.tok _) ru)
theorem Zfa {m:Str}{g:Addr}{pl:Sem Bool}{Q:Value × List Value->Shared->Prop}(I:Inv X pins σ H s)(e:H a=some (.ins C dx fs))(c:Cls X.K C)(k:Meth X.K C m g)(l:fs.lookup m=none)
   (h:Q (.ref g,[.ref a]) s):wpAny (model X.prog X.w) A (getMethod (.ref a) m pl) Q E s:=by
 obtain ⟨mA,O,r,_,_,_⟩:=ZeT I.hok e;have hn:mA m=none:=RelO.none_of (by rw [<- l];exact r m);exact get_meth I.kIn O (c.get m) k.at_ k.fn hn h
theorem ZhQ {y:V}{u:Value}{Q:Unit->Shared->Prop}(I:Inv X pins σ H s)(e:H a=some (.ins C dx fs))(c:Cls X.K C)(n:NoAttr X.K C f)(hl:fs.length<1000)(ry:RelV y u)
   (h:∀ s',Inv X pins σ (upd H a (.ins C dx (putF f y fs))) s'->Q () s'):wpAny (model X.prog X.w) A (setAttr (.ref a) f u) Q E s:=by
 obtain ⟨mA,O,r,wi,_,ho⟩:=ZeT I.hok e;have hz:(fs.map (·.1)).length<=sizeLine:=by rw [yad,sizeLine_eq];omega
 refine set_map I.kIn O c.sa c.po n.taker c.hd wi hz fun h' O' sb=>h _ ?_
 have hd:∃ o,h'.get? dx=some o:=let ⟨o,_,_,e',_⟩:=O'.ns;⟨o,e'⟩
 refine I.write (x:=a) (e:=dx) (by rw [e];exact True.intro) (.inr ho) (fun b q hb z=>(sb.2 b hb).trans z) hd ?_;refine ⟨by rw [Zai O.ne];exact ho,?_,O.ne,O'.obj,_,O'.ns,fun g=>?_,fun g hg=>?_⟩
 . have:=ZeB f y fs;omega
 . show RelO ((putF f y fs).lookup g) (if g=f then some u else mA g)
   rw [ZeA];by_cases q:g=f
   . rw [if_pos q,if_pos q];exact ry
   . rw [if_neg q,if_neg q];exact r g
 . by_cases q:g=f
   . rw [q];exact (Zem f y fs).1
   . refine (Zem f y fs).2 g (wi g fun z=>hg ?_)
     show (if g=f then some u else mA g)=none;rw [if_neg q];exact z
theorem Inv.made (I:Inv X pins σ H s):Inv X pins σ (upd (upd H s.heap.objs.size (.own (s.heap.objs.size+1))) (s.heap.objs.size+1) (.ins C s.heap.objs.size []))
   { s with heap:=(s.heap.push PySem.W.emptyDict).push (PySem.W.instObj C s.heap.objs.size) }:=by
 have e1:(s.heap.push PySem.W.emptyDict).get? s.heap.objs.size=some PySem.W.emptyDict:=zaf s.heap rfl;have e2:((s.heap.push PySem.W.emptyDict).push (PySem.W.instObj C s.heap.objs.size)).get? (s.heap.objs.size+1)=some (PySem.W.instObj C s.heap.objs.size):=by
   have:=zaf (s.heap.push PySem.W.emptyDict) (o:=PySem.W.instObj C s.heap.objs.size) rfl
   rwa [zaI] at this
 have e3:(s.heap.push PySem.W.emptyDict).Ns s.heap.objs.size (fun _=>none):=⟨PySem.W.emptyDict,#[],_,e1,rfl,(fun e he=>absurd he (by simp)),fun _=>rfl⟩
 have I1:=I.laid (a:=s.heap.objs.size) (o:=.own (s.heap.objs.size+1)) (h':=s.heap.push PySem.W.emptyDict) (t':=s.toks) (fun b u q=>zab _ q) (yag _) ⟨_,e1⟩;refine I1.laid (a:=s.heap.objs.size+1) (o:=.ins C s.heap.objs.size []) (t':=s.toks) (fun b u q=>zab _ q) (Nat.le_of_eq (zaI _ _)) ?_;have ne:s.heap.objs.size≠s.heap.objs.size+1:=yaE (ybn _);refine ⟨by rw [Zai ne,Zac],yax _,ne,e2,fun _=>none,(Heap.Ns1.of_empty e3).at fun o q=>zab _ q,fun _=>True.intro,fun y hy=>absurd rfl hy⟩
theorem attr_of {env:Env}{e:Expr}{f:Str}{pos:Pos}(hb:attributeBase e f env (eval e env)=eval e env)
   (h:wpAny (model prog w) A (eval e env) (fun o s₁=>wpAny (model prog w) A (getAttr o f true) Q E s₁) E s):wpAny (model prog w) A (eval (.Attribute e f pos) env) Q E s :=
 Attribute_any_ h (by rw [arm_eval_Attribute,hb])
end
def tFld (K:ZFr)(ta:TE)(f:Str):TE:=fun σ H Q=>ta σ H fun x H1=>∃ a C dx fs v,x=.ref a/\H1 a=some (.ins C dx fs)/\Cls K C/\NoAttr K C f/\fs.lookup f=some v/\Q v H1
def sFld (K:ZFr)(ta tv:TE)(f:Str):TS:=fun D σ H=>tv σ H fun y H1=>ta σ H1 fun x H2=>∃ a C dx fs,x=.ref a/\H2 a=some (.ins C dx fs)/\Cls K C/\NoAttr K C f/\fs.length<1000 /\
 D.nx σ (upd H2 a (.ins C dx (putF f y fs)))
section
variable {X:Cx}{o e value:Expr}{f:Str}{pos tpos:Pos}{ta tv:TE}
theorem pe_fld (he:PE X e ta)(hb:attributeBase e f X.env (eval e X.env)=eval e X.env):PE X (.Attribute e f pos) (tFld X.K ta f):=by intro pins s σ H Q I h;refine attr_of hb (thn (he pins s σ H _ I h) fun u s1 ⟨x,H1,I1,rx,a,C,dx,fs,v,ex,ea,c,n,l,q⟩=>?_);subst ex;obtain rfl:u=Value.ref a:=rx;exact ZiG I1 ea c n l fun u' s2 I2 ru=>⟨v,H1,I2,ru,q⟩
theorem ps_fld (ha:PE X o ta)(hv:PE X value tv)(hs:swapsWith value (some (.Attribute o f pos')) pos.line X.env=pure false):PS X (.Assign [.Attribute o f pos'] value pos) (sFld X.K ta tv f):=by intro pins s σ H D I h;refine plainObj_wpAny_Assign_Attribute (thn (hv pins s σ H _ I h) fun u s1 ⟨y,H1,I1,ry,q⟩=>thn (ha pins s1 σ H1 _ I1 q) fun ov s2 ⟨x,H2,I2,rx,a,C,dx,fs,ex,ea,c,n,l,q2⟩=>?_) hs;subst ex;obtain rfl:ov=Value.ref a:=rx;exact ZhQ I2 ea c n l ry fun s3 I3=>⟨σ,_,I3,q2⟩
end
section
variable {X:Cx}{σ:St}{H:Hp}{c:Value}{b:Bool}
inductive TyOf (K:ZFr) (H:Hp):V->Value->Prop where
 | non:TyOf K H .non (.type "NoneType")
 | bl (x:Bool):TyOf K H (.bl x) (.type "bool")
 | int (i:Int):TyOf K H (.int i) (.type "int")
 | str (x:Str):TyOf K H (.str x) (.type "str")
 | flt (x:UInt64):TyOf K H (.flt x) (.type "float")
 | lst {a:Addr} {xs:List V} (e:H a=some (.lst xs)):TyOf K H (.ref a) (.type "list")
 | frz {a:Addr} {o:Obj} {xs:List V} (e:H a=some (.frz o (.lst xs))):TyOf K H (.ref a) (.type "list")
 | tup {a:Addr} {xs:List V} (e:H a=some (.tup xs)):TyOf K H (.ref a) (.type "tuple")
 | dK {a:Addr} {kvs:List (Key × V)} (e:H a=some (.dK kvs)):TyOf K H (.ref a) (.type "dict")
 | dT {a:Addr} {kvs:List (List Key × V)} (e:H a=some (.dT kvs)):TyOf K H (.ref a) (.type "dict")
 | ins {a C dx:Addr} {fs:List (Str × V)} (e:H a=some (.ins C dx fs)) (cl:Cls K C) (ha:PySem.W.findIn K (.ref C) "__class__"=some (some (.builtin "object.__class__")))
     (hn:PySem.W.specialIn K (.builtin "object.__class__") "__get__"=some (some (.builtin "getset_descriptor.__get__"))) (htk:PySem.W.takesIn K (.builtin "object.__class__")=some true)
     (hm:PySem.W.mroIn K C (.type "object")=some true):TyOf K H (.ref a) (.ref C)
theorem Zjk {x:V}{u t:Value}(I:Inv X pins σ H s)(rx:RelV x u)(ty:TyOf X.K H x t)(e:PySem.W.kitOne X.K t c=some b)(h:∀ tk,Q (.bool b) { s with toks:=tk }) :
   wpAny (model X.prog X.w) A (call (.builtin "isinstance") [u,c]) Q E s:=by
 cases ty with
 | non=>cases (show u=Value.none from rx);exact zar PySem.W.kitx_none I.kIn True.intro e (fun z=>nomatch z) h
 | bl y=>cases (show u=Value.bool y from rx);exact zar PySem.W.kitx_bool I.kIn True.intro e (fun z=>nomatch z) h
 | int i=>obtain ⟨t,q⟩:=(show ∃ t,u=Value.int i t from rx);cases q;exact zar PySem.W.kitx_int I.kIn True.intro e (fun z=>nomatch z) h
 | str y=>obtain ⟨t,q⟩:=(show ∃ t,u=Value.str y t from rx);cases q;exact zar PySem.W.kitx_str I.kIn True.intro e (fun z=>nomatch z) h
 | flt y=>obtain ⟨t,q⟩:=(show ∃ t,u=Value.float y t from rx);cases q;exact zar PySem.W.kitx_float I.kIn True.intro e (fun z=>nomatch z) h
 | @lst a xs ea =>
   cases (show u=Value.ref a from rx);obtain ⟨_,_,n,_,h1⟩:=(show ObjOk X.prog X.w H s.heap a (.lst xs) from I.hok a _ ea)
   exact zar PySem.W.kitx_list I.kIn ⟨_,h1,rfl⟩ e (fun z=>nomatch z) h
 | @frz a ob xs ea =>
   cases (show u=Value.ref a from rx);obtain ⟨_,_,_,n,_,h1⟩:=(show ObjOk X.prog X.w H s.heap a (.frz ob (.lst xs)) from I.hok a _ ea)
   exact zar PySem.W.kitx_list I.kIn ⟨_,h1,rfl⟩ e (fun z=>nomatch z) h
 | @tup a xs ea =>
   cases (show u=Value.ref a from rx);obtain ⟨_,_,_,p⟩:=(show ObjOk X.prog X.w H s.heap a (.tup xs) from I.hok a _ ea)
   obtain ⟨o,h1,h2,_⟩:=p;exact zar PySem.W.kitx_tuple I.kIn ⟨o,h1,h2⟩ e (fun z=>nomatch z) h
 | @dK a kvs ea =>
   cases (show u=Value.ref a from rx);obtain ⟨_,_,vs,_,p⟩:=(show ObjOk X.prog X.w H s.heap a (.dK kvs) from I.hok a _ ea)
   obtain ⟨o,es,ep,h1,h2,_⟩:=p;exact zar PySem.W.kitx_dict I.kIn ⟨o,h1,h2.1⟩ e (fun z=>nomatch z) h
 | @dT a kvs ea =>
   cases (show u=Value.ref a from rx);obtain ⟨_,_,xs,_,o,es,ep,h1,h2,_⟩:=(show ObjOk X.prog X.w H s.heap a (.dT kvs) from I.hok a _ ea)
   exact zar PySem.W.kitx_dict I.kIn ⟨o,h1,h2.1⟩ e (fun z=>nomatch z) h
 | @ins a C dx fs ea cl ha hn htk hm =>
   cases (show u=Value.ref a from rx);obtain ⟨mA,O,_⟩:=ZeT I.hok ea;obtain ⟨od,J,_⟩:=O.look;exact zar (PySem.W.kitx_own (cl.get _) cl.hd ha hn htk hm) I.kIn J e (fun z=>nomatch z) h
end
structure Room (k:Nat)(A:Around):Prop where
 hd:A.handled=none
 dp:A.depth+3*k+5<recursionLimit
 un:A.units+16*k+200<cLine
theorem Room.mono {j k:Nat}(r:Room k A)(h:j<=k):Room j A:=⟨r.hd,by have:=r.dp;omega,by have:=r.un;omega⟩
theorem Room.deeper {k:Nat}(r:Room (k+1) A)(env:Env):Room k (A.deeper env) :=
 ⟨r.hd,by have:=r.dp;show A.depth+1+3*k+5<_;omega,by have:=r.un;show A.units+3+16*k+200<_;omega⟩
theorem ZiA {kw:List (Str × Value)}:(A.under (.builtin "type.__call__" ⟨.ref C::us,kw⟩)).depth=A.depth+1:=by
 first | rfl | simp [Around.under,Code.weight,Code.isCreation,Code.isGuard,Code.isCaller,Code.frames,Code.isFrame,guardIds]
theorem Zh7 {kw:List (Str × Value)}:(A.under (.builtin "type.__call__" ⟨.ref C::us,kw⟩)).units=A.units+1:=by
 first | rfl | simp [Around.under,Code.cUnits,Code.frames,Code.isFrame]
theorem Room.make {k:Nat}(r:Room (k+1) A)(C:Addr)(us:List Value)(kw:List (Str × Value)):Room k (A.under (.builtin "type.__call__" ⟨.ref C::us,kw⟩)) :=
 ⟨r.hd,by have:=r.dp;rw [ZiA];omega,by have:=r.un;rw [Zh7];omega⟩
theorem Room.depth {k:Nat}(r:Room k A):A.depth<recursionLimit:=by have:=r.dp;omega
def tNil:TA:=fun _ H Q=>Q [] H
def tCons (ta:TE)(tr:TA):TA:=fun σ H Q=>ta σ H fun x H1=>tr σ H1 fun xs H2=>Q (x::xs) H2
section
variable {X:Cx}{e:Expr}{te:TE}{t:TA}{pos:Pos}
theorem Zab:PA X [] tNil:=fun _ _ _ _ H Q I h=>zao ⟨[],H,I,.nil,h⟩
theorem Zaa (ha:PE X e te)(hr:PA X es t)(hs:starEach (e::es) X.env=(false,eval e X.env)::starEach es X.env:=by rfl):PA X (e::es) (tCons te t):=by intro pos pins s σ H Q I h;rw [hs];show wpAny _ _ (spliced ((false,eval e X.env)::backTo pos (starEach es X.env))) _ _ s;refine zaj (thn (ha pins s σ H _ I h) fun u s1 ⟨x,H1,I1,r1,q1⟩=>?_);exact thn (hr pos pins s1 σ H1 _ I1 q1) fun us s2 ⟨xs,H2,I2,r2,q2⟩=>⟨x::xs,H2,I2,.cons r1 r2,q2⟩
def tTup (t:TA):TE:=fun σ H Q=>t σ H fun xs H1=>xs.length<=sizeLine/\∀ p,H1 p=none->Q (.ref p) (upd H1 p (.tup xs))
def tLst (t:TA):TE:=fun σ H Q=>t σ H fun xs H1=>xs.length<=sizeLine/\∀ p,H1 p=none->Q (.ref p) (upd H1 p (.lst xs))
theorem Zcx {x1}(h:PA X es t):PE X (.Tuple es x1 pos) (tTup t):=by intro pins s σ H Q I hq;refine wpAny_Tuple_spliced (thn (h pos pins s σ H _ I hq) fun us s1 ⟨xs,H1,I1,r,z,q⟩=>⟨by rw [<- r.length];exact z,?_⟩);have hf:H1 s1.heap.objs.size=none:=I1.hok.fresh (yag _);refine ⟨.ref s1.heap.objs.size,upd H1 s1.heap.objs.size (.tup xs),I1.laid (t':=s1.toks) (fun b u e=>zab _ e) (yag _) ?_,rfl,q _ hf⟩;exact ⟨z,us,r,⟨_,zaf _ rfl,rfl,_,rfl⟩⟩
theorem ZaS (h:PA X es t):PE X (.List es pos) (tLst t):=by intro pins s σ H Q I hq;refine wpAny_List_spliced (thn (h pos pins s σ H _ I hq) fun us s1 ⟨xs,H1,I1,r,z,q⟩=>⟨by rw [<- r.length];exact z,?_⟩);have hf:H1 s1.heap.objs.size=none:=I1.hok.fresh (yag _);refine ⟨.ref s1.heap.objs.size,upd H1 s1.heap.objs.size (.lst xs),I1.laid (t':=s1.toks) (fun b u e=>zab _ e) (yag _) ?_,rfl,q _ hf⟩;exact ⟨z,us,0,r,zaf _ rfl⟩
end
abbrev Sp:=List V->Hp->VK->XK->Prop
abbrev CXT:=List Env->Hp->Shared->XK->Value->Shared->Prop
structure Env0 (P:Program)(w:World)(K:ZFr)(mg:Str->Option Value)(base:Heap)(A:Around)(outer:List Env)(s:Shared)(H:Hp):Prop where
 frames:A.frames=some outer
 mod:Mod K mg base
 bs:∀ b o,base.get? b=some o->s.heap.get? b=some o/\H b=none
 bsz:base.objs.size<=s.heap.objs.size
 funs:s.heap.FunFrames base outer
 frf:∀ b∈frs outer,H b=none
 hok:HOk P w H s.heap
 bare:AllBare s.gens
def CE (outer:List Env)(P:Program)(w:World)(H:Hp)(s:Shared)(Q:VK)(u:Value)(s':Shared):Prop :=
 ∃ v H',s'.os=s.os/\AllBare s'.gens/\Un (frs outer) [] H H' s.heap s'.heap/\HOk P w H' s'.heap/\RelV v u/\Q v H'
def CR (CX:CXT)(outer:List Env)(P:Program)(w:World)(H:Hp)(s:Shared)(Q:VK)(E:XK)(r:Result)(s':Shared):Prop :=
 match r with
 | .ok (.ret u)=>CE outer P w H s Q u s'
 | .ok _=>False
 | .error e=>CX outer H s E e s'
structure FnOk (P:Program)(w:World)(K:ZFr)(mg:Str->Option Value)(base:Heap)(CX:CXT)(k:Nat)(f:Addr)(fd:FuncData)(ps:List Str)(sp:Sp):Prop where
 len:∀ vs H Q E,sp vs H Q E->vs.length=ps.length
 run:∀ (A:Around) (outer:List Env) (s:Shared) (H:Hp) (args:Args) (us:List Value) (vs:List V) (Q:VK) (E:XK),Room k A->Env0 P w K mg base A outer s H->BindsTo s fd args (ps.zip us)->Vals vs us->sp vs H Q E ->
   codeAny (model P w) A (.call (.ref f) args) (CR CX outer P w H s Q E) s
theorem FnOk.mono {CX:CXT}{j k:Nat}{ps:List Str}{sp:Sp}(F:FnOk P w K mg base CX j f fd ps sp)(h:j<=k) :
   FnOk P w K mg base CX k f fd ps sp:=⟨F.len,fun A outer s H args us vs Q E hr=>F.run A outer s H args us vs Q E (hr.mono h)⟩
theorem FnOk.imp {CX:CXT}{k:Nat}{ps:List Str}{sp sp':Sp}(F:FnOk P w K mg base CX k f fd ps sp)
   (h:∀ vs H Q E,sp' vs H Q E->sp vs H Q E):FnOk P w K mg base CX k f fd ps sp' :=
 ⟨fun vs H Q E q=>F.len vs H Q E (h _ _ _ _ q),fun A outer s H args us vs Q E hr he hb hv hs=>F.run A outer s H args us vs Q E hr he hb hv (h _ _ _ _ hs)⟩
theorem Env0.make {outer:List Env}{H:Hp}(e:Env0 P w K mg base A outer s H)(C:Addr)(us:List Value)(kw:List (Str × Value)) :
   Env0 P w K mg base (A.under (.builtin "type.__call__" ⟨.ref C::us,kw⟩)) outer s H:=⟨by first | exact e.frames | (simpa [Around.under,Code.envs,Code.isFrame,pushEnvs] using e.frames),e.mod,e.bs,e.bsz,e.funs,e.frf,e.hok,e.bare⟩
section
variable {X:Cx}{σ:St}{H:Hp}{s':Shared}
theorem Inv.env0 (I:Inv X pins σ H s):Env0 X.prog X.w X.K X.mg X.base X.A X.stack s H :=
 ⟨I.ok.frames,I.ok.mod,I.bs,yaN I.ok.bsz I.sz,I.stack,I.stkFree,I.hok,I.bare⟩
theorem Inv.after {Q:VK}{u:Value}(I:Inv X pins σ H s)(h:CE X.stack X.prog X.w H s Q u s'):EP X pins σ Q u s':=by obtain ⟨v,H',os,bare,un,hok,r,q⟩:=h;obtain ⟨hh,g,d,t,os'⟩:=s';obtain rfl:os'=s.os:=os;exact ⟨v,H',I.call (h':=hh) (g':=g) (d':=d) (t':=t) (ch:=[]) un hok bare (fun b z=>absurd z (by simp)),r,q⟩
end
def tCall (sp:Sp)(dvs:List V)(E:XK)(t:TA):TE:=fun σ H Q=>t σ H fun vs H1=>sp (vs++dvs) H1 Q E
def tMake (C:Addr)(sp:Sp)(dvs:List V)(E:XK)(t:TA):TE:=fun σ H Q=>t σ H fun vs H1=>∀ x dx,H1 x=none->H1 dx=none->dx≠x ->
 sp (.ref x::(vs++dvs)) (upd (upd H1 dx (.own x)) x (.ins C dx [])) (fun v H2=>v=.non/\Q (.ref x) H2) E
def Binds (K:ZFr)(fd:FuncData)(ps:List Str)(ds:List Value):Prop :=
 ∀ (s:Shared) (us:List Value),K.In s.heap->(us++ds).length=ps.length->BindsTo s fd ⟨us,[]⟩ (ps.zip (us++ds))
theorem Binds.all {ps:List Str}(h:∀ us:List Value,us.length=ps.length->bindArgs fd ⟨us,[]⟩=pure (ps.zip us)):Binds K fd ps []:=fun s us _ hl=>by
 rw [yaO] at hl ⊢;exact .of_eq (h us hl)
def Passes (CX:CXT)(X:Cx)(E:XK):Prop:=∀ (pins:List (Addr × Obj)) (σ:St) (H:Hp) (s:Shared) (e:Value) (s':Shared),Inv X pins σ H s->CX X.stack H s E e s'->X.xe e s'
section
variable {X:Cx}{CX:CXT}{k:Nat}{ps:List Str}{sp:Sp}{dvs:List V}{ds:List Value}{E:XK}{x m:Str}{p pos apos:Pos}{e o:Expr}{ta:TE}{t:TA}
theorem Zfw {σ:St}{H:Hp}{Q:VK}{vs:List V}(F:FnOk X.prog X.w X.K X.mg X.base CX k f fd ps sp)(hr:Room k X.A)(hb:Binds X.K fd ps ds)(hd:Vals dvs ds)(hx:Passes CX X E)
   (I:Inv X pins σ H s) (r:Vals vs us) (h:sp (vs++dvs) H Q E):wpAny (model X.prog X.w) X.A (call (.ref f) us) (EP X pins σ Q) X.xe s:=by
 have r2:Vals (vs++dvs) (us++ds):=r.append hd;have hl:(us++ds).length=ps.length:=by rw [<- r2.length];exact F.len _ _ _ _ h
 refine wpAny_call (zaY (F.run X.A X.stack s H ⟨us,[]⟩ (us++ds) (vs++dvs) Q E hr I.env0 (hb s us I.kIn hl) r2 h) fun r s' hq=>?_);cases r with
 | error e=>exact hx pins σ H s e s' I hq
 | ok fl =>
   cases fl with
   | ret u=>exact I.after hq
   | next=>exact False.elim hq
   | brk=>exact False.elim hq
   | cont=>exact False.elim hq
theorem pe_call (F:FnOk X.prog X.w X.K X.mg X.base CX k f fd ps sp)(hr:Room k X.A)(hg:Gl X x)(hm:X.mg x=some (.ref f))(hk:PySem.W.keepIn X.K (.ref f)=true)(hb:Binds X.K fd ps ds)(hd:Vals dvs ds)(hx:Passes CX X E)
   (ha:PA X (e::es) t) (hdb:(x==("__debug__":Str))=false:=by decide) (he:starEach (e::es) X.env=(false,eval e X.env)::starEach es X.env:=by rfl) (hpl:(backTo pos (starEach es X.env)).any (·.1)=false:=by rfl) :
   PE X (.Call (.Name x p) (e::es) [] pos) (tCall sp dvs E t):=by
 intro pins s σ H Q I h;refine zal (ZdF I hg hm ?_ hdb);refine zaS (h₀:=X.base) I.ok.mod.kin hk (thn (ha pos pins s σ H _ I h) fun us s1 ⟨vs,H1,I1,r,q⟩=>⟨I1.kIn,?_⟩) he hpl;exact Zfw F hr hb hd hx I1 r q
structure Mk (K:ZFr)(C f:Addr):Prop where
 makes:PySem.W.makesIn K C=true
 init:PySem.W.findIn K (.ref C) "__init__"=some (some (.ref f))
 fn:PySem.W.isFn K (.ref f)=true
 kp:PySem.W.keepIn K (.ref C)=true
theorem Zha {σ:St}{H:Hp}{Q:VK}{vs:List V}(M:Mk X.K C f)(F:FnOk X.prog X.w X.K X.mg X.base CX k f fd ps sp)(hr:Room (k+1) X.A)(hb:Binds X.K fd ps ds)(hd:Vals dvs ds)
   (hx:Passes CX X E) (I:Inv X pins σ H s) (r:Vals vs us)
   (h:∀ x dx,H x=none->H dx=none->dx≠x->sp (.ref x::(vs++dvs)) (upd (upd H dx (.own x)) x (.ins C dx [])) (fun v H2=>v=.non/\Q (.ref x) H2) E) :
   wpAny (model X.prog X.w) X.A (call (.ref C) us) (EP X pins σ Q) X.xe s:=by
 have hq:=h (s.heap.objs.size+1) s.heap.objs.size (I.hok.fresh (yca _)) (I.hok.fresh (yag _)) (yaE (ybn _));have I2:=Inv.made (C:=C) I;have r2:Vals (V.ref (s.heap.objs.size+1)::(vs++dvs)) (Value.ref (s.heap.objs.size+1)::(us++ds)):=.cons rfl (r.append hd);have hl:(Value.ref (s.heap.objs.size+1)::us++ds).length=ps.length:=by have e:=r2.length;rw [F.len _ _ _ _ hq] at e;exact e.symm
 refine wpAny_call (make_map (f:=f) I.kIn M.makes M.init (za0.mp M.fn) (zaY (F.run _ X.stack _ _ ⟨Value.ref (s.heap.objs.size+1)::us,[]⟩ (Value.ref (s.heap.objs.size+1)::(us++ds)) _ _ E (hr.make C us [])
   (I2.env0.make C us []) (hb _ (Value.ref (s.heap.objs.size+1)::us) I2.kIn hl) r2 hq) fun r s' hq'=>?_))
 cases r with
 | error e=>exact hx pins σ _ _ e s' I2 hq'
 | ok fl =>
   cases fl with
   | ret u =>
     obtain ⟨v,H',I3,rv,ev,q3⟩:=I2.after hq';subst ev;exact ⟨rv,⟨V.ref (s.heap.objs.size+1),H',I3,rfl,q3⟩⟩
   | next=>exact False.elim hq'
   | brk=>exact False.elim hq'
   | cont=>exact False.elim hq'
theorem pe_make (M:Mk X.K C f)(F:FnOk X.prog X.w X.K X.mg X.base CX k f fd ps sp)(hr:Room (k+1) X.A)(hg:Gl X x)(hm:X.mg x=some (.ref C))(hb:Binds X.K fd ps ds)(hd:Vals dvs ds)(hx:Passes CX X E)
   (ha:PA X (e::es) t) (hdb:(x==("__debug__":Str))=false:=by decide) (he:starEach (e::es) X.env=(false,eval e X.env)::starEach es X.env:=by rfl) (hpl:(backTo pos (starEach es X.env)).any (·.1)=false:=by rfl) :
   PE X (.Call (.Name x p) (e::es) [] pos) (tMake C sp dvs E t):=by
 intro pins s σ H Q I h;refine zal (ZdF I hg hm ?_ hdb);refine zaS (h₀:=X.base) I.ok.mod.kin M.kp (thn (ha pos pins s σ H _ I h) fun us s1 ⟨vs,H1,I1,r,q⟩=>⟨I1.kIn,?_⟩) he hpl;exact Zha M F hr hb hd hx I1 r q
theorem pe_make0 (M:Mk X.K C f)(F:FnOk X.prog X.w X.K X.mg X.base CX k f fd ps sp)(hr:Room (k+1) X.A)(hg:Gl X x)(hm:X.mg x=some (.ref C))(hb:Binds X.K fd ps ds)(hd:Vals dvs ds)(hx:Passes CX X E)
   (hdb:(x==("__debug__":Str))=false:=by decide):PE X (.Call (.Name x p) [] [] pos) (tMake C sp dvs E tNil):=by
 intro pins s σ H Q I h;refine zal (ZdF I hg hm ?_ hdb);exact PySem.W.callWith_K0 I.kIn M.kp (Zha (us:=[]) M F hr hb hd hx I .nil h)
end
section
variable {X:Cx}{CX:CXT}{k:Nat}{ps ks:List Str}{sp:Sp}{E:XK}{x m:Str}{p pos apos kpos:Pos}{e o:Expr}{kws:List Keyword}{te ta:TE}{t tk:TA}{nm:Option Str}
variable {g:List Value->List Value->List Value}{gV:List V->List V->List V}
end
structure FnScope (N P:List Str)(sc:Scope):Prop where
 kind:sc.kind=.function
 co:sc.isCoroutine=false
 gen:sc.isGenerator=false
 nd:N.Nodup
 pre:N.take P.length=P
 par:∀ x∈P,sc.names.lookup x=some .local\/sc.names.lookup x=some .cell
 nofree:∀ y∈sc.names,y.2≠.free
theorem ZfM {kindOf:Str->Option NameKind}{x:Str}:∀ {binds:List (Str × Value)} {m:Str->Option Value},(∀ v,(x,v)∉binds)->bindL kindOf binds m x=m x
 | [],_,_=>rfl
 | (n,v)::r,m,h=>by
   unfold bindL;rw [ZfM fun w hw=>h w (yaM _ hw)];split
   . have:x≠n:=by rintro rfl;exact h v yaK
     simp [this]
   . rfl
theorem Zf7 {kindOf:Str->Option NameKind}{x:Str}:∀ {binds:List (Str × Value)} {m:Str->Option Value},(∀ v,(x,v)∉binds)->bindC kindOf binds m x=m x
 | [],_,_=>rfl
 | (n,v)::r,m,h=>by
   unfold bindC;rw [Zf7 fun w hw=>h w (yaM _ hw)];split
   . rfl
   . have:x≠n:=by rintro rfl;exact h v yaK
     simp [this]
theorem Zgj {kindOf:Str->Option NameKind}{x:Str}{v:Value}:∀ {P:List Str} {vs:List Value} {i:Nat} {m:Str->Option Value},P.Nodup->P[i]?=some x->vs[i]?=some v->kindOf x=some .local ->
   bindL kindOf (P.zip vs) m x=some v
 | [],_,_,_,_,h,_,_=>by simp at h
 | _::_,[],_,_,_,_,h,_=>by simp at h
 | p::P,w::vs,0,m,nd,h1,h2,hk=>by
   simp at h1 h2;subst h1;subst h2;show bindL kindOf ((p,w)::P.zip vs) m p=_;unfold bindL;rw [ZfM fun v hv=>(ybD.mp nd).1 (List.of_mem_zip hv).1,if_pos hk];simp
 | p::P,w::vs,i+1,m,nd,h1,h2,hk=>by
   show bindL kindOf ((p,w)::P.zip vs) m x=_;unfold bindL;exact Zgj (i:=i) (ybD.mp nd).2 (by simpa using h1) (by simpa using h2) hk
theorem Zf4 {kindOf:Str->Option NameKind}{x:Str}{v:Value}:∀ {P:List Str} {vs:List Value} {i:Nat} {m:Str->Option Value},P.Nodup->P[i]?=some x->vs[i]?=some v->kindOf x≠some .local ->
   bindC kindOf (P.zip vs) m x=some v
 | [],_,_,_,_,h,_,_=>by simp at h
 | _::_,[],_,_,_,_,h,_=>by simp at h
 | p::P,w::vs,0,m,nd,h1,h2,hk=>by
   simp at h1 h2;subst h1;subst h2;show bindC kindOf ((p,w)::P.zip vs) m p=_;unfold bindC;rw [Zf7 fun v hv=>(ybD.mp nd).1 (List.of_mem_zip hv).1,if_neg hk];simp
 | p::P,w::vs,i+1,m,nd,h1,h2,hk=>by
   show bindC kindOf ((p,w)::P.zip vs) m x=_;unfold bindC;exact Zf4 (i:=i) (ybD.mp nd).2 (by simpa using h1) (by simpa using h2) hk
def start (N:List Str)(vs:List V):St:=vs.map some++List.replicate (N.length-vs.length) none
def cxOf (CX:CXT)(P:Program)(w:World)(K:ZFr)(mg:Str->Option Value)(base:Heap)(N:List Str)(qual:Str)(scope:Scope)(f:Addr)(cd:Value)(A:Around)(outer:List Env)(s:Shared)(H:Hp)(E:XK):Cx where
 prog:=P
 w:=w
 K:=K
 mg:=mg
 base:=base
 A:=A.deeper (envOfC qual scope s.heap.objs.size f cd)
 N:=N
 s₀:=s
 H₀:=H
 env:=envOfC qual scope s.heap.objs.size f cd
 outer:=outer
 stack:=envOfC qual scope s.heap.objs.size f cd::outer
 ex:=[]
 calm:=true
 fn:=fun _=>true
 pn:=[]
 xe:=fun e s'=>wpAny (model P w) (A.deeper (envOfC qual scope s.heap.objs.size f cd)) (leaving (envOfC qual scope s.heap.objs.size f cd) e) (fun _ s''=>CX outer H s E e s'') (fun e' s''=>CX outer H s E e' s'') s'
theorem Zhi {n:Nat}{x:Str}(h:sc.names.lookup x=some .cell):∃ c,(cellsFrom n sc.names []).lookup x=some c:=by have q:=PySem.W.cellsFrom_some sc.names n [] (.inl h);exact ybG.mp q
theorem Zjr {CX:CXT} {ps:List Str} {cd:Value} {outer:List Env} {s1:Shared} {H:Hp} {E:XK} {vs:List V}
   (S:FnScope N ps scope) (hd:A.handled=none) (e0:Env0 P w K mg base A outer s H) (hl:vs.length=ps.length) (r:Vals vs us)
   (x:InCallC s s.heap.objs.size (bindL (envOfC qual scope s.heap.objs.size f cd).kindOf (ps.zip us) fun _=>none) (cellsFrom (s.heap.objs.size+1) scope.names []) (bindC (envOfC qual scope s.heap.objs.size f cd).kindOf (ps.zip us) fun _=>none) s1) :
   Inv (cxOf CX P w K mg base N qual scope f cd A outer s H E) [] (start N vs) H s1:=by
 have hpl:ps.length<=N.length:=by have:=congrArg List.length S.pre;rw [yaG] at this;omega
 obtain ⟨h1,tk,rfl,hk⟩:=x.done;have noA:∀ b:Addr,b∉(cxOf CX P w K mg base N qual scope f cd A outer s H E).ex:=fun b z=>absurd (show b∈([]:List Addr) from z) (by simp)
 refine ⟨⟨e0.mod,S.kind,rfl,rfl,yag _,fun y z c h1 h2=>?_,fun y hy=>?_,fun y c _ h=>?_,fun _=>hd,Around.frames_deeper e0.frames,.inr ⟨rfl,rfl⟩,fun b z=>absurd z (noA b),e0.bs,e0.bsz,fun b _ _=>noA b,fun b z=>absurd z (noA b),e0.funs,e0.frf⟩,
   rfl,e0.bare,Un.kept hk,⟨_,x.toInCall.ns,fun i y v h1 h2 h3=>?_⟩,fun y c h=>⟨_,x.cell y c h⟩,e0.hok.fresh (yag _),fun y c h=>?_,fun p hp=>absurd (show p∈([]:List (Addr × Obj)) from hp) (by simp),e0.hok.kept hk,?_⟩
 . exact name_of_addr x.apart (zat h1) (zat h2)
 . have hy:scope.names.lookup y=some .cell\/scope.names.lookup y=some .free:=hy
   rcases hy with hy | hy
   . exact Zhi hy
   . exact absurd rfl (S.nofree _ (zat hy))
 . exact ybF (x.above y c (zat h))
 . have hi:i<vs.length:=by
     unfold start at h2;by_cases hi:i<vs.length
     . exact hi
     . rw [yai (by simpa using hi)] at h2
       rw [List.getElem?_replicate] at h2;split at h2<;>cases h2
   have ha:vs[i]?=some v:=by
     unfold start at h2;rw [yaT (by simpa using hi),yav] at h2;cases e:vs[i]? with
     | none=>rw [e] at h2;cases h2
     | some a=>rw [e] at h2;cases h2;rfl
   obtain ⟨u,hu,rv⟩:=r.get ha;have hp:ps[i]?=some y:=by rw [<- S.pre,List.getElem?_take_of_lt (by omega)];exact h1
   have ndP:ps.Nodup:=by rw [<- S.pre];exact S.nd.sublist (ybc _ _)
   refine ⟨u,rv,?_⟩;rcases S.par y (yao hp) with k | k
   . exact .inl ⟨k,Zgj ndP hp hu k⟩
   . obtain ⟨c,e⟩:=Zhi (n:=s.heap.objs.size+1) k
     refine .inr ⟨.inl k,c,e,?_⟩;have q:=x.cell y c e;rw [Zf4 ndP hp hu (by show scope.names.lookup y≠_;rw [k];decide)] at q;exact q
 . exact e0.hok.fresh (ybF (x.above y c (zat h)))
 . unfold start
   show _=N.length;rw [yac,yad,List.length_replicate];omega
theorem fn_of {CX:CXT}{k:Nat}{name:Str}{params:Arguments}{body:List Stmt}{dV kV doc pm cdv ct oc:Value}{an od:Option Addr}{ps:List Str}{sp:Sp}(lk:K.lookup f=some ⟨oc,od,.func (PySem.W.fnOf name qual params body scope dV kV doc pm an cdv ct),osl⟩)(hcd:PySem.W.codeIn K cdv qual=true)(S:FnScope N ps scope)
   (len:∀ vs H Q E,sp vs H Q E->vs.length=ps.length)
   (hbody:∀ (A:Around) (outer:List Env) (s:Shared) (H:Hp) (vs:List V) (Q:VK) (E:XK),Room k (A.deeper (envOfC qual scope s.heap.objs.size f cdv))->sp vs H Q E ->
     ∃ t,PSs (cxOf CX P w K mg base N qual scope f cdv A outer s H E) body t/\t { nx:=fun _ H'=>Q .non H',rt:=Q } (start N vs) H) :
   FnOk P w K mg base CX (k+1) f (PySem.W.fnOf name qual params body scope dV kV doc pm an cdv ct) ps sp:=by
 refine ⟨len,fun A outer s H args us vs Q E hr e0 hb r hsp=>?_⟩;have hl:=len _ _ _ _ hsp;have KX:K.In s.heap:=e0.mod.kin.keeps fun b o e=>(e0.bs b o e).1
 have lim:s.heap.NoLimit:=e0.mod.nolimit.keeps fun b o e=>(e0.bs b o e).1
 have hkind:∀ y∈ps.zip us,scope.names.lookup y.1=some .local\/(scope.names.lookup y.1=some .cell/\((cellsFrom (s.heap.objs.size+1) scope.names []).lookup y.1).isSome=true):=fun ⟨n,v⟩ hy=>by
   rcases S.par n (List.of_mem_zip hy).1 with q | q
   . exact .inl q
   . exact .inr ⟨q,PySem.W.cellsFrom_some _ _ _ (.inl q)⟩
 refine codeAny_call_function hr.depth (KX _ _ lk) rfl S.co S.gen rfl (PySem.W.codeRec_of KX hcd) (hb _ _ _ _ ?_);refine wpAny_newFunctionEnv_cells S.kind hkind fun env he s1 x=>?_
 subst he;refine ⟨lim.keeps x.toInCall.keep,codeAny_func ?_⟩;obtain ⟨t,ht,hq⟩:=hbody A outer s H vs Q E (hr.deeper _) hsp;have I:Inv (cxOf CX P w K mg base N qual scope f cdv A outer s H E) [] (start N vs) H s1:=Zjr S hr.hd e0 hl r x;refine zaB (ht [] s1 (start N vs) H _ I hq) (fun fl s' hs=>?_) fun e s' hs=>hs
 have fin:∀ {σ':St} {H':Hp} {v:V} {u:Value},Inv (cxOf CX P w K mg base N qual scope f cdv A outer s H E) [] σ' H' s'->RelV v u->Q v H'->CE outer P w H s Q u s' :=
   fun {σ' H' v u} J rv q=>⟨v,H',J.os,J.bare,J.base,J.hok,rv,q⟩
 cases fl with
 | ret u =>
   obtain ⟨v,σ',H',J,rv,q⟩:=hs;exact fin J rv q
 | next =>
   obtain ⟨σ',H',J,q⟩:=hs;exact fin (v:=V.non) (u:=Value.none) J rfl q
 | brk =>
   obtain ⟨_,_,_,q⟩:=hs;exact False.elim q
 | cont =>
   obtain ⟨_,_,_,q⟩:=hs;exact False.elim q
end L2
variable {X:L2.Cx}{te:L2.TE}{σ:L2.St}{H H':L2.Hp}{xs ys:List L2.V}{sp:L2.Sp}{kvs:List (L2.Key × L2.V)}{D:L2.Ends}{L:List (PySem.Addr × L2.HO)}
namespace L2
open PySem PySem.Spec PyProof.Rows
section
variable {x:Str}{p pos:Pos}{e:Expr}{t:TA}{id T:String}{r:List V->Hp->VK->Prop}
def tCB (r:List V->Hp->VK->Prop)(t:TA):TE:=fun σ H Q=>t σ H fun vs H1=>r vs H1 Q
theorem ZaB (hc:CallR X (.builtin id) r)(hg:Gl X x)(hm:X.mg x=none)(hv:bootBuiltins x=some (.builtin id))(ha:PA X (e::es) t)(hn:x≠"__name__":=by decide)(hdb:(x==("__debug__":Str))=false:=by decide)
   (he:starEach (e::es) X.env=(false,eval e X.env)::starEach es X.env:=by rfl) (hpl:(backTo pos (starEach es X.env)).any (·.1)=false:=by rfl):PE X (.Call (.Name x p) (e::es) [] pos) (tCB r t):=by
 intro pins s σ H Q I h;refine zal (Zca I hg hm hv ?_ hn hdb);exact PyProof.Rows.callWith_builtin1 (thn (ha pos pins s σ H _ I h) fun us s1 ⟨vs,H1,I1,r1,q1⟩=>hc pins s1 σ H1 vs us Q I1 r1 q1) he hpl
theorem ZcI (hc:CallR X (.type T) r)(hg:Gl X x)(hm:X.mg x=none)(hv:bootBuiltins x=some (.type T))(ha:PA X (e::es) t)(hn:x≠"__name__":=by decide)(hdb:(x==("__debug__":Str))=false:=by decide)
   (he:starEach (e::es) X.env=(false,eval e X.env)::starEach es X.env:=by rfl) (hpl:(backTo pos (starEach es X.env)).any (·.1)=false:=by rfl):PE X (.Call (.Name x p) (e::es) [] pos) (tCB r t):=by
 intro pins s σ H Q I h;refine zal (Zca I hg hm hv ?_ hn hdb);exact zam (thn (ha pos pins s σ H _ I h) fun us s1 ⟨vs,H1,I1,r1,q1⟩=>hc pins s1 σ H1 vs us Q I1 r1 q1) he hpl
end
end L2
namespace HT
open PySem PyProof.Rows
section
open PySem.SeqAt
open PySem.AutoSeq1 (wpAny_loadPart')
open PySem.MeetsSeq PySem.MeetsSeq2 PySem.MeetsSeq3
end
def sIx (n d:Nat):Option Int->Nat
 | none=>d
 | some v=>if v<0 then (v+(n:Int)).toNat else min v.toNat n
theorem sIx_none (n d:Nat):sIx n d none=d:=rfl
theorem sIx_nat (n d k:Nat):sIx n d (some (k:Int))=min k n:=by show (if (k:Int)<0 then ((k:Int)+(n:Int)).toNat else min (k:Int).toNat n)=min k n;rw [if_neg (by omega),yap]
end HT
namespace L2
open PySem PySem.Spec PyProof.Rows
abbrev TO:=St->Hp->(Option Int->Hp->Prop)->Prop
def PO (X:Cx) (e:Option Expr) (t:TO):Prop :=
 ∀ (pins:List (Addr × Obj)) (s:Shared) (σ:St) (H:Hp) (Q:Option Int->Hp->Prop),Inv X pins σ H s->t σ H Q ->
   wpAny (model X.prog X.w) X.A (evalPart e X.env) (fun u s'=>∃ o H',Inv X pins σ H' s'/\IsPart u o/\Q o H') X.xe s
def tNoPart:TO:=fun _ H Q=>Q none H
def tPart (t:TE):TO:=fun σ H Q=>t σ H fun x H1=>∃ i,x=.int i/\Q (some i) H1
theorem Zh8 {ns:List Int}:∀ {us:List Value},Vals (ns.map V.int) us->IntsAre us ns:=by
 induction ns with
 | nil=>intro us r;rw [List.map_nil] at r;cases r;exact .nil
 | cons n ns ih =>
   intro us r;rw [yaC] at r;cases r with
   | cons r1 r2 =>
     obtain ⟨t,e⟩:=r1;subst e;exact .cons n t (ih r2)
section
variable {e:Expr}{lo hi:Option Expr}{tl th:TO}{pos p2:Pos}
theorem Zdu:PO X none tNoPart:=by intro pins s σ H Q I h;rw [evalPart_none];exact zac ⟨none,H,I,.none,h⟩
theorem Zcj (h:PE X e te):PO X (some e) (tPart te):=by
 intro pins s σ H Q I hw;rw [evalPart_some];refine thn (h pins s σ H _ I hw) fun u s1 ⟨x,H1,I1,r1,q1⟩=>?_
 obtain ⟨i,rfl,q⟩:=q1;obtain ⟨t,rfl⟩:=r1;exact ⟨some i,H1,I1,.int i t,q⟩
def SlR (X:Cx) (r:V->Option Int->Option Int->Hp->VK->Prop):Prop :=
 ∀ (pins:List (Addr × Obj)) (s:Shared) (σ:St) (H:Hp) (x:V) (v vl vu:Value) (lo hi:Option Int) (sl:Addr) (Q:VK),Inv X pins σ H s->RelV x v->s.heap.IsSliceOf sl vl vu .none->IsPart vl lo->IsPart vu hi->r x lo hi H Q ->
   ∃ T id,typeLookup (.type T) "__getitem__"=pure (some (.builtin id))/\s.TypeIs v T/\wpAny (model X.prog X.w) X.A (getItem v (.ref sl)) (EP X pins σ Q) X.xe s
def tSl (r:V->Option Int->Option Int->Hp->VK->Prop)(te:TE)(tl th:TO):TE:=fun σ H Q=>te σ H fun x H1=>tl σ H1 fun l H2=>th σ H2 fun u H3=>r x l u H3 Q
theorem Zcc {r:V->Option Int->Option Int->Hp->VK->Prop}(hr:SlR X r)(he:PE X e te)(hl:PO X lo tl)(hu:PO X hi th):PE X (.Subscript e (.Slice lo hi none p2) pos) (tSl r te tl th):=by
 intro pins s σ H Q I h;refine Subscript_ (thn (he pins s σ H _ I h) fun v s1 ⟨x,H1,I1,r1,q1⟩=>?_);refine wpAny_Slice (thn (hl pins s1 σ H1 _ I1 q1) fun vl s2 ⟨l,H2,I2,pl,q2⟩=>thn (hu pins s2 σ H2 _ I2 q2) fun vu s3 ⟨u,H3,I3,pu,q3⟩=>?_);rw [evalPart_none];refine zac ?_;have I4:Inv X pins σ H3 { s3 with heap:=s3.heap.push { cls:=.type "slice",data:=.fields #[vl,vu,.none] } }:=I3.kept (t':=s3.toks) fun b ob q=>zab _ q
 obtain ⟨T,id,hT,ht,hg⟩:=hr pins { s3 with heap:=s3.heap.push { cls:=.type "slice",data:=.fields #[vl,vu,.none] } } σ H3 x v vl vu l u s3.heap.objs.size Q I4 r1 (Heap.IsSliceOf.new ..) pl pu q3;show wpAny (model X.prog X.w) X.A (subscriptTail e (.Slice lo hi none p2) v (.ref s3.heap.objs.size)) (EP X pins σ Q) X.xe { s3 with heap:=s3.heap.push { cls:=.type "slice",data:=.fields #[vl,vu,.none] } };exact tail_any (ops:=[.ref s3.heap.objs.size,v]) ht hT hg (by with_unfolding_all rfl)
def cutV (xs:List V)(lo hi:Option Int):List V:=(xs.drop (HT.sIx xs.length 0 lo)).take (HT.sIx xs.length xs.length hi-HT.sIx xs.length 0 lo)
theorem Zg4 (xs:List V)(lo hi:Option Int):(cutV xs lo hi).length<=xs.length:=by unfold cutV;rw [yaG,yaW];omega
end
def ixN (n:Nat)(i:Int):Option Nat:=if 0<=i then (if i<n then some i.toNat else none) else if -(n:Int)<=i then some (i+n).toNat else none
def atI {α:Type}(xs:List α)(i:Int):Option α:=(ixN xs.length i).bind fun j=>xs[j]?
theorem ixN_seq {n:Nat}{i:Int}{j:Nat}(h:ixN n i=some j):seqIndex? i n=some j/\j<n/\-(n:Int)<=i/\i<n:=by
 unfold ixN at h;by_cases h0:0<=i
 . rw [if_pos h0] at h
   by_cases h1:i<n
   . rw [if_pos h1] at h
     have e:i.toNat=j:=Option.some.inj h;exact ⟨by rw [seqIndex_of h0 h1,e],by omega,by omega,h1⟩
   . rw [if_neg h1] at h;cases h
 . rw [if_neg h0] at h
   by_cases h1:-(n:Int)<=i
   . rw [if_pos h1] at h
     have e:(i+n).toNat=j:=Option.some.inj h;exact ⟨by rw [seqIndex_neg (by omega) h1,e],by omega,h1,by omega⟩
   . rw [if_neg h1] at h;cases h
theorem Zi0 {α:Type}{xs:List α}{i:Int}{v:α}(h:atI xs i=some v):∃ j,seqIndex? i xs.length=some j/\xs[j]?=some v/\j<xs.length/\-(xs.length:Int)<=i/\i<xs.length:=by
 unfold atI at h;cases e:ixN xs.length i with
 | none=>rw [e] at h;cases h
 | some j =>
   rw [e] at h;obtain ⟨h1,h2,h3,h4⟩:=ixN_seq e;exact ⟨j,h1,h,h2,h3,h4⟩
theorem Zc3 {α:Type}{xs:List α}{j:Nat}{v:α}(h:xs[j]?=some v):atI xs (j:Int)=some v:=by
 have hj:j<xs.length:=(yaQ.mp h).1;have e:ixN xs.length (j:Int)=some j:=by unfold ixN;rw [if_pos (by omega),if_pos (by omega)];simp
 unfold atI;rw [e];exact h
def PlainIx (b:Expr):Prop:=∀ o i,subscripted b false o i=operate [o,i] (getItem o i)
def IxR (X:Cx) (r:R2):Prop :=
 ∀ (value slice:Expr) (pins:List (Addr × Obj)) (s:Shared) (σ:St) (H:Hp) (x y:V) (v u:Value) (Q:VK),Inv X pins σ H s->RelV x v->RelV y u->r x y H Q ->
   subscripted slice false v u=operate [v,u] (getItem v u)->wpAny (model X.prog X.w) X.A (subscriptTail value slice v u) (EP X pins σ Q) X.xe s
def MtR (X:Cx) (id:String) (r:V->List V->Hp->VK->Prop):Prop :=
 ∀ (pins:List (Addr × Obj)) (s:Shared) (σ:St) (H:Hp) (x:V) (xs:List V) (v:Value) (us:List Value) (Q:VK),Inv X pins σ H s->RelV x v->Vals xs us->r x xs H Q ->
   wpAny (model X.prog X.w) X.A (call (.builtin id) (v::us)) (EP X pins σ Q) X.xe s
section
variable {a b:Expr}{ta tb:TE}{pos:Pos}
theorem pe_ix {r:R2}(hr:IxR X r)(ha:PE X a ta)(hb:PE X b tb)(hs:PlainIx b):PE X (.Subscript a b pos) (tOp r ta tb):=by intro pins s σ H Q I h;exact Subscript_ (binT ha hb I h fun v u s2 x y H2 I2 rx ry q=>hr a b pins s2 σ H2 x y v u Q I2 rx ry q (hs _ _))
def rIxL (K:ZFr):R2:=fun x y H Q=>∃ p xs i v,x=.ref p/\y=.int i/\SqL K H p xs/\atI xs i=some v/\Q v H
def rIxT (K:ZFr):R2:=fun x y H Q=>∃ p xs i v,x=.ref p/\y=.int i/\SqT K H p xs/\atI xs i=some v/\Q v H
theorem ix_list:IxR X (rIxL X.K):=by
 intro value slice pins s σ H x y v u Q I rx ry h hs;obtain ⟨p,xs,i,z,rfl,rfl,hq,he,q⟩:=h;cases rx;obtain ⟨t,rfl⟩:=ry;obtain ⟨its,r,pl,hz⟩:=I.list hq;obtain ⟨j,h1,h2,h3,h4,h5⟩:=Zi0 he;obtain ⟨w,ew,rw'⟩:=r.get h2;have hl:=r.length;have hn:=line63;have fin:EP X pins σ Q w s:=⟨z,H,I,rw',q⟩
 by_cases h0:0<=i
 . have hj:i.toNat=j:=by
     rw [seqIndex_of h0 h5] at h1;exact Option.some.inj h1
   exact item_listR pl.isList h0 (by omega) (by rw [hj];simpa using ew) fin hs
 . have hj:(i+(its.toArray.size:Int)).toNat=j:=by
     rw [seqIndex_neg (by omega) h4] at h1;rw [yaB,<- hl];exact Option.some.inj h1
   exact subscriptTail_builtinR (x:=w) pl.isList.typeIs slot_list_getitem.lookup
     (wpAny_getItem_list_neg (Q:=fun r s'=>r=w/\EP X pins σ Q r s') pl.isList (by omega) (by rw [yaB]<;>omega) (by omega) (by rw [hj];simpa using ew) ⟨rfl,fin⟩) hs
theorem ix_tup:IxR X (rIxT X.K):=by
 intro value slice pins s σ H x y v u Q I rx ry h hs;obtain ⟨p,xs,i,z,rfl,rfl,hq,he,q⟩:=h;cases rx;obtain ⟨t,rfl⟩:=ry;obtain ⟨its,r,pl,hz⟩:=I.tuple hq;obtain ⟨j,h1,h2,h3,h4,h5⟩:=Zi0 he;obtain ⟨w,ew,rw'⟩:=r.get h2;have hl:=r.length;have hn:=line63;have fin:EP X pins σ Q w s:=⟨z,H,I,rw',q⟩
 exact subscriptTail_builtinR (x:=w) pl.typeIs slot_tuple_getitem.lookup
   (getItem_tuple (j:=j) (Q:=fun r s'=>r=w/\EP X pins σ Q r s') pl (by omega) (by omega) (by rw [yaB,<- hl];exact h1) (by simpa using ew) ⟨rfl,fin⟩) hs
theorem ZgF (lo hi:Option Int)(n:Nat):(sliceBounds lo hi none n).1=((HT.sIx n 0 lo:Nat):Int)/\(sliceBounds lo hi none n).2.1=((HT.sIx n n hi:Nat):Int)/\(sliceBounds lo hi none n).2.2=1:=by
 refine ⟨?_,?_,rfl⟩
 . cases lo with
   | none=>simp [sliceBounds,HT.sIx]
   | some i =>
     simp only [sliceBounds,HT.sIx,Option.getD_none,show (1:Int) > 0 by decide,zaT];by_cases h:i<0
     . simp only [h,zaT]<;>omega
     . simp only [h,zay]<;>omega
 . cases hi with
   | none=>simp [sliceBounds,HT.sIx]
   | some i =>
     simp only [sliceBounds,HT.sIx,Option.getD_none,show (1:Int) > 0 by decide,zaT];by_cases h:i<0
     . simp only [h,zaT]<;>omega
     . simp only [h,zay]<;>omega
theorem ZfD (its:List Value)(lo hi:Option Int):slicePick its.toArray lo hi none=((its.drop (HT.sIx its.length 0 lo)).take (HT.sIx its.length its.length hi-HT.sIx its.length 0 lo)).toArray:=by obtain ⟨h1,h2,h3⟩:=ZgF lo hi its.toArray.size;unfold slicePick;rw [h1,h2,h3];simp only [sliceRange_one,pick_run,yaB]<;>rfl
def rSlL (K:ZFr):V->Option Int->Option Int->Hp->VK->Prop:=fun x lo hi H Q=>∃ a xs,x=.ref a/\SqL K H a xs/\∀ p,H p=none->Q (.ref p) (upd H p (.lst (cutV xs lo hi)))
theorem sl_list:SlR X (rSlL X.K):=by intro pins s σ H x v vl vu lo hi sl Q I rx hs pl pu h;obtain ⟨a,xs,rfl,hx,q⟩:=h;cases rx;obtain ⟨its,r,ht,hz⟩:=I.list hx;have hlen:=r.length;refine ⟨"list",_,slot_list_getitem.lookup,ht.isList.typeIs,?_⟩;refine wpAny_getItem_list_slice ht.isList hs pl pu .none (by simp) ?_ (by rw [yaB]<;>omega);rw [ZfD,<- hlen];refine ⟨.ref s.heap.objs.size,_,I.laid (t':=s.toks) (o:=.lst (cutV xs lo hi)) (fun b ob q=>zab _ q) (yag _) ?_,rfl,q _ (I.hok.fresh (yag _))⟩;exact ⟨yaN (Zg4 xs lo hi) hz,_,0,(r.drop (HT.sIx xs.length 0 lo)).take (HT.sIx xs.length xs.length hi-HT.sIx xs.length 0 lo),zaf _ rfl⟩
theorem Zgx:CallR X (.builtin "len") (fun xs H Q=>∃ p ys,xs=[.ref p]/\(SqL X.K H p ys\/SqT X.K H p ys)/\Q (.int ys.length) H):=by
 intro pins s σ H xs us Q I r h;obtain ⟨p,ys,rfl,hq,q⟩:=h;obtain ⟨u,rfl,rx⟩:=vals1 r;cases rx;have hn:=line63;rcases hq with hq | hq
 . obtain ⟨its,r',pl,hz⟩:=I.list hq
   have hlen:=r'.length;exact Calls.call_len_list pl.isList (by simp only [yaB]<;>omega) ⟨.int ys.length,H,I.tok _,⟨s.toks+1,by rw [yaB,hlen]⟩,q⟩
 . obtain ⟨its,r',pl,hz⟩:=I.tuple hq
   have hlen:=r'.length;exact len_tuple pl (by simp only [yaB]<;>omega) ⟨.int ys.length,H,I.tok _,⟨s.toks+1,by rw [yaB,hlen]⟩,q⟩
theorem Zgq:CallR X (.type "list") (fun xs H Q=>∃ p ys,xs=[.ref p]/\(SqL X.K H p ys\/SqT X.K H p ys)/\∀ l,H l=none->Q (.ref l) (upd H l (.lst ys))):=by
 intro pins s σ H xs us Q I r h;obtain ⟨p,ys,rfl,hq,q⟩:=h;obtain ⟨u,rfl,rx⟩:=vals1 r;cases rx;have fin:∀ (its:List Value),Vals ys its->ys.length<=sizeLine->∀ (h':Heap) (c':Nat),(∀ b o',s.heap.get? b=some o'->h'.get? b=some o') ->
     h'.get? s.heap.objs.size=some { cls:=.type "list",dict:=none,data:=.seq its.toArray c',slots:=#[] }->EP X pins σ Q (.ref s.heap.objs.size) { s with heap:=h' }:=fun its r' hz h' c' kp e =>
   ⟨.ref s.heap.objs.size,_,I.laid (t':=s.toks) kp (yag _) (show ObjOk X.prog X.w _ h' _ (.lst ys) from ⟨hz,its,c',r',e⟩),rfl,q _ (I.hok.fresh (yag _))⟩
 rcases hq with hq | hq
 . obtain ⟨its,r',pl,hz⟩:=I.list hq
   have hlen:=r'.length;obtain ⟨o,ho,hc,n,hd⟩:=pl.isList;exact call_list_seq p (.inl rfl) ho hc hd (fun h' c' kp e=>fin its r' hz h' c' kp e) (by simp only [yaB]<;>omega)
 . obtain ⟨its,r',pl,hz⟩:=I.tuple hq
   have hlen:=r'.length;obtain ⟨o,ho,hc,n,hd⟩:=pl;exact call_list_seq p (.inr rfl) ho hc hd (fun h' c' kp e=>fin its r' hz h' c' kp e) (by simp only [yaB]<;>omega)
def tyV (K:ZFr)(T:String)(x:V)(H:Hp):Prop:=match x with
 | .str _=>T="str"
 | .int _=>T="int"
 | .ref p=>(T="list"/\∃ xs,SqL K H p xs)\/(T="tuple"/\∃ o,K.lookup p=some o/\o.cls=.type "tuple"/\o.dict=none) \/
     (T="dict"/\((∃ kvs,H p=some (.dK kvs))\/∃ kvs,H p=some (.dT kvs)))\/(T="set"/\∃ S n,H p=some (.set S n))
 | _=>False
theorem tyV_is {T:String} {x:V} {v:Value} (I:Inv X pins σ H s) (r:RelV x v) (ty:tyV X.K T x H) :
   s.TypeIs v T/\∀ a,v=.ref a->∃ ob,s.heap.get? a=some ob/\ob.dict=none:=by
 cases x with
 | str z =>
   obtain ⟨t,rfl⟩:=r;cases (show T="str" from ty);exact ⟨typeIs_str s z t,fun _ e=>nomatch e⟩
 | int i =>
   obtain ⟨t,rfl⟩:=r;cases (show T="int" from ty);exact ⟨typeIs_int s i t,fun _ e=>nomatch e⟩
 | ref p =>
   cases r;rcases ty with ⟨rfl,xs,hq⟩ | ⟨rfl,o,hk,hc,hd⟩ | ⟨rfl,hk⟩ | ⟨rfl,S,n,hk⟩
   . obtain ⟨its,_,pl,_⟩:=I.list hq
     refine ⟨pl.isList.typeIs,fun a e=>?_⟩;cases e;obtain ⟨o,n,e,c,hd,_⟩:=pl;exact ⟨o,e,hd⟩
   . refine ⟨⟨o,I.kIn p o hk,hc⟩,fun a e=>?_⟩
     cases e;exact ⟨o,I.kIn _ o hk,hd⟩
   . have z:∃ o,s.heap.get? p=some o/\o.ExactDict:=by
       rcases hk with ⟨kvs,hk⟩ | ⟨kvs,hk⟩
       . obtain ⟨_,_,_,_,o,_,_,e,ex,_⟩:=I.hok p _ hk
         exact ⟨o,e,ex⟩
       . obtain ⟨_,_,_,_,o,_,_,e,ex,_⟩:=I.hok p _ hk
         exact ⟨o,e,ex⟩
     obtain ⟨o,e,ex⟩:=z;refine ⟨⟨o,e,ex.1⟩,fun a e2=>?_⟩;cases e2;exact ⟨o,e,ex.2.1⟩
   . obtain ⟨o,_,_,_,e,ex,_⟩:=I.hok p _ hk
     refine ⟨⟨o,e,ex.1⟩,fun a e2=>?_⟩;cases e2;exact ⟨o,e,ex.2.1⟩
 | _=>exact False.elim ty
def tBM0 (K:ZFr)(T:String)(r:V->List V->Hp->VK->Prop)(to:TE):TE:=fun σ H Q=>to σ H fun x H1=>tyV K T x H1/\r x [] H1 Q
def tBM (K:ZFr)(T:String)(r:V->List V->Hp->VK->Prop)(to:TE)(t:TA):TE:=fun σ H Q=>to σ H fun x H1=>tyV K T x H1/\t σ H1 fun xs H2=>r x xs H2 Q
variable {o e:Expr}{to:TE}{t:TA}{name:Str}{apos cpos:Pos}{T id:String}{r:V->List V->Hp->VK->Prop}
theorem pe_bm0 (pa:PlainAttrs T)(slot:Slot T name id)(hty:typeOf (.builtin id)=pure (.type "method_descriptor"))(hm:MtR X id r)(ho:PE X o to)
   (hbase:attributeBase o name X.env (eval o X.env)=eval o X.env:=by rfl) (hline:(apos.endLine==cpos.line)=true:=by rfl):PE X (.Call (.Attribute o name apos) [] [] cpos) (tBM0 X.K T r to):=by
 intro pins s σ H Q I h;refine wpAny_Call_method0_late hbase hline (thn (ho pins s σ H _ I h) fun v s1 ⟨x,H1,I1,r1,ty,q1⟩=>?_);obtain ⟨h1,h2⟩:=tyV_is I1 r1 ty;exact ⟨T,id,pa,slot,hty,h1,h2,zap rfl (PySem.evalArgs_none (hm pins s1 σ H1 x [] v [] Q I1 r1 .nil q1))⟩
theorem pe_bm (pa:PlainAttrs T)(slot:Slot T name id)(hty:typeOf (.builtin id)=pure (.type "method_descriptor"))(hm:MtR X id r)(ho:PE X o to)(ha:PA X (e::es) t)
   (hbase:attributeBase o name X.env (eval o X.env)=eval o X.env:=by rfl)
   (hfew:((backTo cpos (starEach (e::es) X.env)).all (fun x=>!x.1)&&(backToKw cpos (keywordEach [] X.env)).all (fun x=>x.1.isSome)
     && decide ((e::es).length+([]:List Keyword).length+(if ([]:List Keyword).isEmpty then 0 else 1)<30))=true:=by rfl)
   (hline:(apos.endLine==cpos.line)=true:=by rfl) (hs:starEach (e::es) X.env=(false,eval e X.env)::starEach es X.env:=by rfl) (hplain:(backTo cpos (starEach es X.env)).any (·.1)=false:=by rfl) :
   PE X (.Call (.Attribute o name apos) (e::es) [] cpos) (tBM X.K T r to t):=by
 intro pins s σ H Q I h;refine wpAny_Call_method_late hbase hfew hline rfl (thn (ho pins s σ H _ I h) fun v s1 ⟨x,H1,I1,r1,ty,q1⟩=>?_);obtain ⟨h1,h2⟩:=tyV_is I1 r1 ty;refine ⟨T,id,pa,slot,hty,h1,h2,?_⟩;have hA:=ha cpos pins s1 σ H1 _ I1 q1;rw [hs] at hA ⊢;refine zap (by show (false||(backTo cpos (starEach es X.env)).any (·.1))=false;rw [hplain]<;>rfl) (zaJ ?_);exact thn hA fun us s2 ⟨vs,H2,I2,r2,q2⟩=>hm pins s2 σ H2 x vs v us Q I2 r1 r2 q2
end
def MtM (X:Cx) (id:String) (r:V->List V->Hp->VK->Prop):Prop :=
 ∀ (pins:List (Addr × Obj)) (s:Shared) (σ:St) (H:Hp) (x:V) (xs:List V) (v:Value) (us:List Value) (Q:VK),Inv X pins σ H s->RelV x v->Vals xs us->r x xs H Q ->
   wpAny (model X.prog X.w) X.A (call (.builtin id) (v::us)) (EP X pins σ Q) X.xe s
theorem Vals.one:∀ {x:V} {us:List Value},Vals [x] us->∃ u,us=[u]/\RelV x u
 | _,_,.cons r .nil=>⟨_,rfl,r⟩
theorem Vals.two:∀ {x y:V} {us:List Value},Vals [x,y] us->∃ u v,us=[u,v]/\RelV x u/\RelV y v:=by
 intro x y us h;cases h with
 | cons r t =>
   cases t with
   | cons q t2 =>
     cases t2;exact ⟨_,_,rfl,r,q⟩
theorem Vals.zero:∀ {us:List Value},Vals [] us->us=[]
 | _,.nil=>rfl
theorem Vals.rep (h:Vals xs us):∀ k:Nat,Vals (List.replicate k xs).flatten (List.replicate k us).flatten
 | 0=>.nil
 | k+1=>by
   rw [yci,yci,ybq,ybq];exact Vals.append h (Vals.rep h k)
theorem Zgi (its:List Value):∀ (k:Nat) (acc:List Value),
   List.foldl (fun x1 x2=>x1++x2) acc.toArray (List.replicate k its.toArray)=(acc++(List.replicate k its).flatten).toArray
 | 0,acc=>by simp
 | k + 1,acc=>by
   have e:acc.toArray++its.toArray=(acc++its).toArray:=by simp
   have e2:(acc++its)++(List.replicate k its).flatten=acc++(List.replicate (k+1) its).flatten:=by rw [yci,ybq,yah]
   rw [<- e2,<- Zgi its k (acc++its),<- e,yci,ybK]
section
variable {l b:Addr}{zs:List V}
theorem Inv.lset {its its':List Value}{n:Nat}{f:Array Value->Array Value}(I:Inv X pins σ H s)(hH:H l=some (.lst xs))
   (e:s.heap.get? l=some { cls:=.type "list",data:=.seq its.toArray n }) (hf:f its.toArray=its'.toArray) (hv:Vals ys its') (hz:ys.length<=sizeLine) :
   Inv X pins σ (upd H l (.lst ys)) { s with heap:=s.heap.update l (Obj.mapSeq f),toks:=t' }:=by
 have q:=PySem.IsL.update e f;rw [hf] at q;refine I.write (x:=l) (e:=l) (by rw [hH];exact trivial) (.inl rfl) (fun b' u hb hu=>(zaq s.heap (Obj.mapSeq f) (Ne.symm hb)).trans hu) ⟨_,q⟩ ?_;exact ⟨hz,its',_,hv,q⟩
theorem Inv.lnew {its:List Value}(I:Inv X pins σ H s)(hv:Vals ys its)(hz:ys.length<=sizeLine) :
   Inv X pins σ (upd H s.heap.objs.size (.lst ys)) { s with heap:=s.heap.push { cls:=.type "list",data:=.seq its.toArray },toks:=t' } :=
 I.laid (fun _ _ q=>zab _ q) (yag _) ⟨hz,its,0,hv,zaf _ rfl⟩
theorem Inv.fresh (I:Inv X pins σ H s):H s.heap.objs.size=none:=I.hok.fresh (yag _)
theorem Inv.lstM (I:Inv X pins σ H s)(hH:H l=some (.lst xs)):xs.length<=sizeLine/\∃ (its:List Value) (n:Nat),Vals xs its/\xs.length=its.length/\s.heap.get? l=some { cls:=.type "list",data:=.seq its.toArray n }:=by obtain ⟨z,its,n,r,e⟩:=I.hok l _ hH;exact ⟨z,its,n,r,r.length,e⟩
theorem notLongL {n:Nat}(h:n<=sizeLine):Builtin.List.listTooLong n=false:=by unfold Builtin.List.listTooLong;exact yaw (by omega)
end
def rAppend:V->List V->Hp->VK->Prop:=fun x vs H Q=>∃ l xs y,x=.ref l/\vs=[y]/\H l=some (.lst xs)/\xs.length<sizeLine/\Q .non (upd H l (.lst (xs++[y])))
theorem ZcL:MtM X "list.append" rAppend:=by intro pins s σ H x vs v us Q I rx rv h;obtain ⟨l,xs,y,rfl,rfl,hH,hz,q⟩:=h;cases rx;obtain ⟨u,rfl,ru⟩:=rv.one;obtain ⟨z,its,n,r,hl,e⟩:=I.lstM hH;refine call_meets F.slot_list_append ⟨_,e,rfl⟩ F.entry_list_append (F.args_list_append_2 _ _) (PySem.list_append l its.toArray n u (by rw [yaB];omega)) ⟨e,?_⟩;refine ⟨.non,_,I.lset (its':=its++[u]) hH e (by simp) (r.append (.cons ru .nil)) ?_,rfl,q⟩;rw [yac,List.length_singleton];omega
def rExtend:V->List V->Hp->VK->Prop:=fun x vs H Q=>∃ l b xs zs,x=.ref l/\vs=[.ref b]/\H l=some (.lst xs)/\H b=some (.lst zs)/\xs.length+zs.length<=sizeLine/\Q .non (upd H l (.lst (xs++zs)))
theorem ZjL:MtM X "list.extend" rExtend:=by
 intro pins s σ H x vs v us Q I rx rv h;obtain ⟨l,b,xs,zs,rfl,rfl,hH,hB,hz,q⟩:=h;cases rx;obtain ⟨u,rfl,ru⟩:=rv.one;cases ru;obtain ⟨z,its,n,r,hl,e⟩:=I.lstM hH;obtain ⟨z2,its2,n2,r2,hl2,e2⟩:=I.lstM hB;have hsz:its.toArray.size+its2.toArray.size<=sizeLine:=by rw [yaB,yaB];omega
 have hlong:¬ (!its.toArray.isEmpty&&Builtin.List.listTooLong (its.toArray.size+its2.toArray.size))=true:=by rw [notLongL hsz,Bool.and_false];exact yaL
 refine call_meets F.slot_list_extend ⟨_,e,rfl⟩ F.entry_list_extend (F.args_list_extend_2 _ _)
   (AutoSeq1.list_extend_list_list_0 l its.toArray n b its2.toArray n2 hlong (by rw [yaB];omega) (by omega)) ⟨e,e2,?_⟩
 refine ⟨.non,_,I.lset (its':=its++its2) hH e (by simp) (r.append r2) ?_,rfl,q⟩;rw [yac];omega
def rCat:R2:=fun x y H Q=>∃ l b xs zs,x=.ref l/\y=.ref b/\H l=some (.lst xs)/\H b=some (.lst zs)/\xs.length+zs.length<=sizeLine/\∀ p,H p=none->Q (.ref p) (upd H p (.lst (xs++zs)))
theorem Zev:OpR X (binaryOp .Add) rCat:=by
 intro pins s σ H x y v u Q I rx ry h;obtain ⟨l,b,xs,zs,rfl,rfl,hH,hB,hz,q⟩:=h;cases rx;cases ry;obtain ⟨z,its,n,r,hl,e⟩:=I.lstM hH;obtain ⟨z2,its2,n2,r2,hl2,e2⟩:=I.lstM hB;refine PySem.P.add_list e e2 ?_ (by rw [yaB,yaB];omega);have ea:its.toArray++its2.toArray=(its++its2).toArray:=by simp
 rw [ea];exact ⟨.ref _,_,I.lnew (t':=s.toks) (r.append r2) (by rw [yac];omega),rfl,q _ I.fresh⟩
def rRep:R2:=fun x y H Q=>∃ l k xs,x=.ref l/\y=.int k/\H l=some (.lst xs)/\-(2^63)<=k/\k<2^63/\xs.length*k.toNat<=sizeLine /\
 ∀ p,H p=none->Q (.ref p) (upd H p (.lst (List.replicate k.toNat xs).flatten))
theorem len_rep {α:Type}(xs:List α)(k:Nat):(List.replicate k xs).flatten.length=k*xs.length:=by
 induction k with
 | zero=>simp
 | succ k ih=>rw [yci,ybq,yac,ih,Nat.succ_mul,ycw]
theorem Zh6:OpR X (binaryOp .Mult) rRep:=by
 intro pins s σ H x y v u Q I rx ry h;obtain ⟨l,k,xs,rfl,rfl,hH,h1,h2,hz,q⟩:=h;cases rx;obtain ⟨t,rfl⟩:=ry;obtain ⟨z,its,n,r,hl,e⟩:=I.lstM hH;have hlen:its.toArray.size*k.toNat<=sizeLine:=by rw [yaB,<- hl];exact hz
 have hcap:¬ its.toArray.size*k.toNat > (2^63-1)/8:=by
   have:(sizeLine:Nat)<=(2^63-1)/8:=by decide
   omega
 have hfit:¬ (!Builtin.List.listFitsIndex k)=true:=by rw [fitsIndex_both h1 h2];exact yaL
 have hlong:¬ Builtin.List.listTooLong (its.toArray.size*k.toNat)=true:=by rw [notLongL hlen];exact yaL
 have hnew:List.foldl (fun x1 x2=>x1++x2) #[] (List.replicate (if its.toArray.isEmpty=true then 0 else k.toNat) its.toArray)=(List.replicate k.toNat its).flatten.toArray:=by
   have f0:∀ m:Nat,List.foldl (fun x1 x2=>x1++x2) #[] (List.replicate m its.toArray)=(List.replicate m its).flatten.toArray:=fun m=>by
     have:=Zgi its m [];rw [ybf] at this;exact this
   rw [f0];cases its with
   | nil=>simp
   | cons a r'=>rw [if_neg (by simp)]
 refine wpAny_binaryOp_repeat_ref (T:="list") (U:="int") (by decide) ⟨_,e,rfl⟩ (fun s'=>typeIs_int s' k t) noFill_list_mul F.fills_int_mul F.slot_int_rmul repeat_list F.slot_int_index.lookup
   (call_meets F.slot_int_rmul (typeIs_int s k t) F.entry_int_rmul (F.args_int_rmul_2 _ _) (int___rmul___int_list k t l its.toArray n)
     ⟨e,rfl,⟨_,e,rfl⟩,call_meets F.slot_list_mul ⟨_,e,rfl⟩ F.entry_list_mul (F.args_list_mul_2 _ _) (AutoListH.list___mul___list_int_3 l its.toArray n k t hfit hcap hlong) ⟨e,?_⟩⟩)
 rw [hnew];exact ⟨.ref _,_,I.lnew (t':=s.toks) (r.rep k.toNat) (by rw [len_rep,Nat.mul_comm];exact hz),rfl,q _ I.fresh⟩
section
set_option maxRecDepth 100000 in
end
end L2
namespace Att
open PySem PySem.W PySem.Calls PyProof.Rows
theorem ZeK {P:Params}:∀ (ns:List Int) (vs:List Value),WellAll P h vs (ns.map WData.int)->IntsAre vs ns:=by
 intro ns;induction ns with
 | nil =>
   intro vs w;rw [List.map_nil] at w;cases w;exact .nil
 | cons n ns ih =>
   intro vs w;rw [yaC] at w;cases w with
   | cons a b =>
     cases a;exact .cons _ _ (ih _ b)
theorem Zjs {l:OpenLaw}{n:Nat}(hn:l.most=some n){P:Params}{args:List WData}{vals:List Value}
   (hpre:l.row.toRowW.claim.pre args=true) (hwl:WellAll P h vals args) :
   ∃ a vs ns,vals=[Value.ref a]/\args=[WData.list (ns.map WData.int)]/\h.get? a=some { cls:=.type "list",data:=.seq vs.toArray }/\IntsAre vs ns/\ns.length<=n:=by
 have hsh:WShape.hasAll [] args [.list .int]=true:=(pre_splitW hpre).1;have hc:l.pre.holds [] { args:=args }=true:=(pre_splitW hpre).2;obtain ⟨d,r,rfl,h1,h2⟩:=hasAllW_cons hsh;obtain rfl:=hasAllW_nil h2;obtain ⟨xs,rfl,h3⟩:=hasW_list h1;obtain ⟨ns,rfl⟩:=items_int h3;have hlen:ns.length<=n:=by
   unfold OpenLaw.pre at hc;have h4:(WTm.not (.lt (.lit (.int (n:Int))) (.len (.arg 0)))).holds [] { args:=[.list (ns.map .int)] }=true:=by have h4:=(holds_andW hc).1;rw [hn] at h4;exact h4
   have h5:=condW_of h4 (w_not (w_lt w_lit (w_len_list (w_arg rfl))));rw [yad] at h5;refine Nat.le_of_not_lt fun q=>?_
   have q':(n:Int)<((ns.length:Nat):Int):=by omega
   first
     | (rw [yak q'] at h5;exact absurd h5 (by decide))
     | (simp at h5;omega)
 cases hwl with
 | cons w1 w2 =>
   cases w2;cases w1 with
   | list ho hall=>exact ⟨_,_,ns,rfl,rfl,ho,ZeK ns _ hall,hlen⟩
theorem Zj4 (l:OpenLaw)(args:List WData):l.row.toRowW.claim.post args (.bool true) args=true :=
 postW_of (r:=l.row.toRowW) (X:=(true==true))
   (show WShape.has [] (.bool true) .bool=true by first | rfl | decide | simp [WShape.has,WShape.arms,WShape.armsAll])
   (show (WTm.eq .res (.lit (.bool true))).value [] { args:=args,res:=some (.bool true),after:=args }=some (.bool (true==true)) from w_eq_bool (w_res rfl) w_lit) rfl
section
variable {K:Frag}
end
end Att
namespace L2
open PySem PySem.Spec PyProof.Rows
theorem ZcH:∀ {vs:List Value} {ns:List Int},IntsAre vs ns->Vals (ns.map V.int) vs
 | _,_,.nil=>.nil
 | _,_,.cons n t h=>.cons ⟨t,rfl⟩ (ZcH h)
abbrev KOf {K:ZFr}{h:Heap}(_:K.In h):ZFr:=K
def inClass (s:Stmt)(j:Nat):Stmt:=match s with
 | .ClassDef _ _ _ body _ _ _ _ _ _ _=>body.getD j (.Pass ⟨0,0,0,0⟩)
 | _=>.Pass ⟨0,0,0,0⟩
def defArgs (s:Stmt):Arguments:=match s with
 | .FunctionDef _ a _ _ _ _ _ _ _ _=>a
 | _=>{ posonlyargs:=[],args:=[],vararg:=none,kwonlyargs:=[],kw_defaults:=[],kwarg:=none,defaults:=[] }
def defBody (s:Stmt):List Stmt:=match s with
 | .FunctionDef _ _ b _ _ _ _ _ _ _=>b
 | _=>[]
def defScope (s:Stmt):Scope:=match s with
 | .FunctionDef _ _ _ _ _ _ sc _ _ _=>sc
 | _=>{ kind:=.function,names:=[],isGenerator:=false,isCoroutine:=false }
abbrev CX0:CXT:=fun _ _ _ _ _ _=>False
abbrev E0:XK:=fun _ _ _=>False
theorem pass0:Passes CX0 X E0:=fun _ _ _ _ _ _ _ h=>h.elim
structure Fun (K:ZFr)(x qual:Str)(st:Stmt)(f:Addr)(fd:FuncData):Prop where
 ex:∃ (oc:Value) (od:Option Addr) (kV doc pm:Value) (an:Option Addr) (cdv ct:Value) (osl:Array (Option Value)),
   fd=PySem.W.fnOf x qual (defArgs st) (defBody st) (defScope st) .none kV doc pm an cdv ct/\K.lookup f=some ⟨oc,od,.func fd,osl⟩/\PySem.W.codeIn K cdv qual=true
 kp:PySem.W.keepIn K (.ref f)=true
theorem Fun.ok {x:Str}{ps:List Str}{k:Nat}(F:Fun K x qual st f fd)(S:FnScope N ps (defScope st))(len:∀ vs H Q E,sp vs H Q E->vs.length=ps.length)
   (hbody:∀ (cdv:Value) (A:Around) (outer:List Env) (s:Shared) (H:Hp) (vs:List V) (Q:VK) (E:XK),Room k (A.deeper (envOfC qual (defScope st) s.heap.objs.size f cdv))->sp vs H Q E ->
     ∃ t,PSs (cxOf CX0 P w K mg base N qual (defScope st) f cdv A outer s H E).nox (defBody st) t/\t { nx:=fun _ H'=>Q .non H',rt:=Q } (start N vs) H):FnOk P w K mg base CX0 (k+1) f fd ps sp:=by
 obtain ⟨oc,od,kV,doc,pm,an,cdv,ct,osl,rfl,lk,hcd⟩:=F.ex;refine fn_of lk hcd S len fun A outer s H vs Q E hr hsp=>?_
 obtain ⟨t,h,q⟩:=hbody cdv A outer s H vs Q E hr hsp;exact ⟨t,h.nox,q⟩
theorem Fun.binds {x:Str}{ps:List Str}(F:Fun K x qual st f fd)
   (h:∀ (kV doc pm:Value) (an:Option Addr) (cdv ct:Value) (us:List Value),us.length=ps.length->bindArgs (PySem.W.fnOf x qual (defArgs st) (defBody st) (defScope st) .none kV doc pm an cdv ct) ⟨us,[]⟩=pure (ps.zip us)):Binds K fd ps []:=by
 obtain ⟨oc,od,kV,doc,pm,an,cdv,ct,osl,rfl,lk,hcd⟩:=F.ex;exact .all (h kV doc pm an cdv ct)
theorem ZcQ {x:Str}{oc:Value}{od an:Option Addr}{kV doc pm cdv ct:Value}(l:K.lookup f=some ⟨oc,od,.func (PySem.W.fnOf x qual (defArgs st) (defBody st) (defScope st) .none kV doc pm an cdv ct),osl⟩)
   (c:PySem.W.codeIn K cdv qual=true) (k:PySem.W.keepIn K (.ref f)=true):Fun K x qual st f (PySem.W.fnOf x qual (defArgs st) (defBody st) (defScope st) .none kV doc pm an cdv ct):=⟨⟨oc,od,kV,doc,pm,an,cdv,ct,osl,rfl,l,c⟩,k⟩
theorem small1000 {n:Nat}(h:n<=1000):n<sizeLine:=ybL h (by decide)
theorem pv (i:Nat){x:Str}{pos:Pos}(hN:X.N[i]?=some x:=by rfl)(hv:Vis X.env.scope x:=by first | exact Or.inl rfl | exact Or.inr (Or.inl rfl) | exact Or.inr (Or.inr rfl))(hd:(x==("__debug__":Str))=false:=by decide)
   (hcd:(x==("__classdict__":Str))=false:=by decide):PE X (.Name x pos) (tVar i):=pe_var hN hv hd hcd
def Same (H H':Hp):Prop:=∀ b o,H b=some o->H' b=some o
theorem Same.refl (H:Hp):Same H H:=fun _ _ h=>h
theorem Same.trans {H1 H2:Hp}(a:Same H H1)(b:Same H1 H2):Same H H2:=fun c o h=>b c o (a c o h)
theorem Same.free (e:Same H H'){l:Addr}(h:H' l=Option.none):H l=Option.none:=by
 cases q:H l with
 | none=>rfl
 | some o =>
   rw [e l o q] at h;cases h
theorem Same.seq {a:Addr}(e:Same H H')(h:SqL K H a xs):SqL K H' a xs:=by
 rcases h with (h | ⟨o,h⟩) | h
 . exact .inl (.inl (e _ _ h))
 . exact .inl (.inr ⟨o,e _ _ h⟩)
 . exact .inr h
end L2
namespace L2
open PySem PySem.Spec PyProof.Rows
section
variable {κ:Type}[DecidableEq κ]
def valV (kvs:List (κ × V))(k:κ):Option V:=(kvs.find? fun kv=>decide (kv.1=k)).map (·.2)
def putK (kvs:List (κ × V))(k:κ)(v:V):List (κ × V) :=
 if (kvs.any fun kv=>decide (kv.1=k))=true then kvs.map (fun kv=>if kv.1=k then (kv.1,v) else kv) else kvs++[(k,v)]
def dropK (kvs:List (κ × V))(k:κ):List (κ × V):=kvs.filter fun kv=>decide (kv.1≠k)
theorem Za6 {p:κ × V}{r:List (κ × V)}{k:κ}(e:p.1=k):valV (p::r) k=some p.2:=by simp [valV,ycn,e]
theorem Za4 {p:κ × V}{r:List (κ × V)}{k:κ}(e:¬ p.1=k):valV (p::r) k=valV r k:=by simp [valV,ycn,e]
theorem Zb1 (k:κ):∀ kvs:List (κ × V),(kvs.any fun kv=>decide (kv.1=k))=(valV kvs k).isSome
 | []=>rfl
 | p::r=>by
   rw [List.any_cons];by_cases e:p.1=k
   . simp only [Za6 e,yak e,Bool.true_or,Option.isSome_some]
   . rw [Za4 e,yaw e,Bool.false_or];exact Zb1 k r
theorem Zhk (k j:κ)(y:V):∀ kvs:List (κ × V),valV (kvs.map fun kv=>if kv.1=k then (kv.1,y) else kv) j=(valV kvs j).map fun x=>if j=k then y else x
 | []=>rfl
 | p :: r=>by
   have ih:=Zhk k j y r;rw [yaC];by_cases h:p.1=k
   . rw [if_pos h]
     by_cases e:p.1=j
     . rw [Za6 (p:=(p.1,y)) e,Za6 e,Option.map_some,if_pos (e.symm.trans h)]
     . rw [Za4 (p:=(p.1,y)) e,Za4 e,ih]
   . rw [if_neg h]
     by_cases e:p.1=j
     . rw [Za6 (p:=p) e,Za6 e,Option.map_some,if_neg (fun z=>h (e.trans z))]
     . rw [Za4 (p:=p) e,Za4 e,ih]
theorem ZfR (k j:κ)(y:V):∀ kvs:List (κ × V),valV kvs k=none->valV (kvs++[(k,y)]) j=if j=k then some y else valV kvs j
 | [],_=>by
   by_cases e:k=j
   . rw [if_pos e.symm];exact Za6 (p:=(k,y)) e
   . rw [if_neg (fun z=>e z.symm)];exact Za4 (p:=(k,y)) e
 | p::r,hn=>by
   rw [ybM];have hk:¬ p.1=k:=fun z=>by rw [Za6 z] at hn;cases hn
   rw [Za4 hk] at hn;have ih:=ZfR k j y r hn;by_cases e:p.1=j
   . rw [Za6 e,Za6 e,if_neg (fun z=>hk (e.trans z))]
   . rw [Za4 e,Za4 e,ih]
theorem Zdl (kvs:List (κ × V))(k j:κ)(y:V):valV (putK kvs k y) j=if j=k then some y else valV kvs j:=by
 unfold putK;by_cases a:(kvs.any fun kv=>decide (kv.1=k))=true
 . rw [if_pos a,Zhk]
   rw [Zb1] at a;by_cases e:j=k
   . obtain ⟨x,hx⟩:=ybG.mp a
     rw [if_pos e,e,hx,Option.map_some,if_pos rfl]
   . rw [if_neg e]
     cases valV kvs j with
     | none=>rfl
     | some x=>rw [Option.map_some,if_neg e]
 . rw [if_neg a]
   refine ZfR k j y kvs ?_;rw [Zb1] at a;cases q:valV kvs k with
   | none=>rfl
   | some x=>rw [q] at a;exact (a rfl).elim
theorem Zdd (kvs:List (κ × V))(k:κ)(v:V):(putK kvs k v).length<=kvs.length+1:=by
 unfold putK;split
 . rw [yad];omega
 . rw [yac,yan,ybI];omega
theorem RelO.isSome_eq {o:Option V}{u:Option Value}(r:RelO o u):o.isSome=u.isSome:=by
 cases o with
 | none=>cases u with
   | none=>rfl
   | some _=>exact (show False from r).elim
 | some _=>cases u with
   | none=>exact (show False from r).elim
   | some _=>rfl
theorem RelO.getD {o:Option V}{u:Option Value}{d:V}{d':Value}(r:RelO o u)(rd:RelV d d'):RelV (o.getD d) (u.getD d'):=by
 cases o with
 | none=>cases u with
   | none=>exact rd
   | some _=>exact (show False from r).elim
 | some _=>cases u with
   | none=>exact (show False from r).elim
   | some _=>exact r
theorem KV.val {kvs:List (κ × V)}{vs:List (κ × Value)}(r:KV kvs vs)(k:κ):RelO (valV kvs k) (valueAt vs k):=by
 unfold KV at r;induction r with
 | nil=>exact True.intro
 | @cons p q ps qs h t ih =>
   obtain ⟨h1,h2⟩:=h;by_cases e:p.1=k
   . have e':q.1=k:=h1.symm.trans e
     have b:valueAt (q::qs) k=some q.2:=by simp [valueAt,ycn,e']
     rw [Za6 e,b];exact h2
   . have e':¬ q.1=k:=fun z=>e (h1.trans z)
     have b:valueAt (q::qs) k=valueAt qs k:=by simp [valueAt,ycn,e']
     rw [Za4 e,b];exact ih
theorem KV.any {kvs:List (κ × V)}{vs:List (κ × Value)}(r:KV kvs vs)(k:κ):(kvs.any fun kv=>decide (kv.1=k))=vs.any fun kv=>decide (kv.1=k):=by
 unfold KV at r;induction r with
 | nil=>rfl
 | cons h t ih=>rw [List.any_cons,List.any_cons,ih,h.1]
theorem KV.repl {kvs:List (κ × V)}{vs:List (κ × Value)}(r:KV kvs vs)(k:κ){y:V}{u:Value}(ry:RelV y u) :
   KV (kvs.map fun kv=>if kv.1=k then (kv.1,y) else kv) (vs.map fun kv=>if kv.1=k then (kv.1,u) else kv):=by
 unfold KV at r ⊢;induction r with
 | nil=>exact .nil
 | @cons p q ps qs h t ih =>
   rw [yaC,yaC];refine .cons ?_ ih;obtain ⟨h1,h2⟩:=h;by_cases e:p.1=k
   . rw [if_pos e,if_pos (h1.symm.trans e)];exact ⟨h1,ry⟩
   . rw [if_neg e,if_neg (fun z=>e (h1.trans z))];exact ⟨h1,h2⟩
theorem KV.put {kvs:List (κ × V)}{vs:List (κ × Value)}(r:KV kvs vs)(k:κ){y:V}{u:Value}(ry:RelV y u):KV (putK kvs k y) (stored vs k u):=by
 unfold putK stored;rw [r.any k];by_cases e:(vs.any fun kv=>decide (kv.1=k))=true
 . rw [if_pos e,if_pos e];exact r.repl k ry
 . rw [if_neg e,if_neg e];exact Paired.snoc r ⟨rfl,ry⟩
theorem KV.drop {kvs:List (κ × V)}{vs:List (κ × Value)}(r:KV kvs vs)(k:κ):KV (dropK kvs k) (without vs k):=by
 unfold KV at r ⊢;unfold dropK without;induction r with
 | nil=>exact .nil
 | @cons p q ps qs h t ih =>
   obtain ⟨h1,h2⟩:=h;rw [ybe,ybe];by_cases e:p.1=k
   . have a:¬ decide (p.1≠k)=true:=by simp [e]
     have b:¬ decide (q.1≠k)=true:=by simp [h1.symm.trans e]
     rw [if_neg a,if_neg b];exact ih
   . have e':¬ q.1=k:=fun z=>e (h1.trans z)
     have a:decide (p.1≠k)=true:=by simp [e]
     have b:decide (q.1≠k)=true:=by simp [e']
     rw [if_pos a,if_pos b];exact .cons ⟨h1,h2⟩ ih
theorem KV.keys {kvs:List (κ × V)}{vs:List (κ × Value)}(r:KV kvs vs):kvs.map (·.1)=vs.map (·.1):=by
 unfold KV at r;induction r with
 | nil=>rfl
 | cons h t ih=>rw [yaC,yaC,ih,h.1]
theorem KV.length {kvs:List (κ × V)}{vs:List (κ × Value)}(r:KV kvs vs):kvs.length=vs.length:=Paired.length r
theorem dropK_le (kvs:List (κ × V))(k:κ):(dropK kvs k).length<=kvs.length:=ybp _ _
end
theorem Zez {k:Key}{u:Value}(r:RelV (kV k) u):(mixKind P w).is k u=true:=by
 cases k with
 | inl i=>obtain ⟨t,e⟩:=(show ∃ t,u=Value.int i t from r);subst e;exact Zhd P w i t
 | inr x=>obtain ⟨t,e⟩:=(show ∃ t,u=Value.str x t from r);subst e;exact ZhK P w x t
theorem Zf3 {P:Program}{w:World}:∀ {ks:List Key} {us:List Value},Vals (ks.map kV) us->ItemsAre (mixKind P w) ks us
 | [],_,r=>by rw [List.map_nil] at r;cases r;exact .nil
 | k::ks,_,r=>by
   rw [yaC] at r;cases r with
   | cons h t=>exact .cons (Zez h) (Zf3 t)
abbrev KT (H:Hp):List (List Key × V)->List (List Key × Addr × Value)->Prop:=Paired fun p q=>p.1=q.1/\H q.2.1=some (.tup (p.1.map kV))/\RelV p.2 q.2.2
theorem KT.val {kvs:List (List Key × V)}{xs:List (List Key × Addr × Value)}(r:KT H kvs xs)(k:List Key):RelO (valV kvs k) ((atKey xs k).map (·.2)):=by
 induction r with
 | nil=>exact True.intro
 | @cons p q ps qs h t ih =>
   obtain ⟨h1,_,h2⟩:=h;by_cases e:p.1=k
   . have e':q.1=k:=h1.symm.trans e
     have b:atKey (q::qs) k=some q.2:=by simp [atKey,ycn,e']
     rw [Za6 e,b];exact h2
   . have e':¬ q.1=k:=fun z=>e (h1.trans z)
     have b:atKey (q::qs) k=atKey qs k:=by simp [atKey,ycn,e']
     rw [Za4 e,b];exact ih
theorem KT.repl {kvs:List (List Key × V)}{xs:List (List Key × Addr × Value)}(r:KT H kvs xs)(k:List Key){y:V}{u:Value}(ry:RelV y u) :
   KT H (kvs.map fun kv=>if kv.1=k then (kv.1,y) else kv) (xs.map (putAt k u)):=by
 induction r with
 | nil=>exact .nil
 | @cons p q ps qs h t ih =>
   rw [yaC,yaC];refine .cons ?_ ih;obtain ⟨h1,h2,h3⟩:=h;unfold putAt;by_cases e:p.1=k
   . rw [if_pos e,if_pos (h1.symm.trans e)];exact ⟨h1,h2,ry⟩
   . rw [if_neg e,if_neg (fun z=>e (h1.trans z))];exact ⟨h1,h2,h3⟩
theorem KT.put {kvs:List (List Key × V)}{xs:List (List Key × Addr × Value)}(r:KT H kvs xs)(k:List Key){b:Addr}{y:V}{u:Value}(hb:H b=some (.tup (k.map kV)))(ry:RelV y u) :
   KT H (putK kvs k y) (storedH xs k b u):=by
 have e:(kvs.any fun kv=>decide (kv.1=k))=(atKey xs k).isSome:=by rw [Zb1,(r.val k).isSome_eq,Option.isSome_map]
 unfold putK storedH;rw [e];by_cases q:(atKey xs k).isSome=true
 . rw [if_pos q,if_pos q];exact r.repl k ry
 . rw [if_neg q,if_neg q];exact Paired.snoc r ⟨rfl,hb,ry⟩
theorem KT.keeps {kvs:List (List Key × V)}{xs:List (List Key × Addr × Value)}(r:KT H kvs xs)(ht:∀ b ys,H b=some (.tup ys)->H' b=some (.tup ys)):KT H' kvs xs :=
 Paired.mapP r fun _ _ z=>⟨z.1,ht _ _ z.2.1,z.2.2⟩
section
variable {a:Addr}
theorem rd_of {u:HO}(ok:HOk P w H h)(e:Rd H a u):ObjOk P w H h a u:=e.ok ok
theorem ZfZ (ok:HOk P w H h)(e:Rd H a (.dK kvs)):kvs.length<=sizeLine/\(a==sysModules)=false/\∃ vs,KV kvs vs/\h.DictOf (mixKind P w) a vs :=
 show ObjOk P w H h a (.dK kvs) from rd_of ok e
theorem Zga (ok:HOk P w H h)(e:H a=some (.dK kvs)):kvs.length<=sizeLine/\(a==sysModules)=false/\∃ vs,KV kvs vs/\h.DictOf (mixKind P w) a vs:=ZfZ ok (.inl e)
theorem Ze8 {ks:List Key}(ok:HOk P w H h)(e:H a=some (.tup (ks.map kV))):(tupleKind (mixKind P w)).is h ks a:=by
 obtain ⟨_,its,r,o,h1,h2,n,h3⟩:=(show ObjOk P w H h a (.tup (ks.map kV)) from ok a _ e)
 exact ⟨o,its.toArray,n,h1,h2,h3,by simpa using Zf3 r⟩
theorem Zf0 {kvs:List (List Key × V)} (ok:HOk P w H h) (e:Rd H a (.dT kvs)):kvs.length<=sizeLine/\(a==sysModules)=false /\
   ∃ xs,KT H kvs xs/\h.DictOfH (tupleKind (mixKind P w)) a xs:=by
 obtain ⟨z,y,xs,r,o,es,ep,h1,h2,h3,h4,h5⟩:=(show ObjOk P w H h a (.dT kvs) from rd_of ok e)
 refine ⟨z,y,xs,r,o,es,ep,h1,h2,h3,h4,fun x hx=>?_,h5⟩;have all:∀ {l:List (List Key × V)} {m:List (List Key × Addr × Value)},KT H l m->∀ x∈m,(tupleKind (mixKind P w)).is h x.1 x.2.1:=by
   intro l m q;induction q with
   | nil=>intro x hx;exact nomatch hx
   | @cons p q ps qs hq t ih =>
     intro x hx;rcases yaj.mp hx with e | hx
     . subst e
       exact Ze8 ok (by rw [<- hq.1];exact hq.2.1)
     . exact ih x hx
 exact all r x hx
theorem dt_of {kvs:List (List Key × V)}(ok:HOk P w H h)(e:H a=some (.dT kvs)):kvs.length<=sizeLine/\(a==sysModules)=false /\
   ∃ xs,KT H kvs xs/\h.DictOfH (tupleKind (mixKind P w)) a xs:=Zf0 ok (.inl e)
end
def DGet (H:Hp)(a:Addr)(y:V)(r:Option V):Prop :=
 (∃ kvs k,Rd H a (.dK kvs)/\y=kV k/\r=valV kvs k)\/∃ kvs k b,Rd H a (.dT kvs)/\y=.ref b/\H b=some (.tup (k.map kV))/\r=valV kvs k
def DPut (H:Hp)(a:Addr)(y v:V)(H':Hp):Prop :=
 (∃ kvs k,H a=some (.dK kvs)/\y=kV k/\kvs.length<sizeLine/\H'=upd H a (.dK (putK kvs k v))) \/
 ∃ kvs k b,H a=some (.dT kvs)/\y=.ref b/\H b=some (.tup (k.map kV))/\kvs.length<sizeLine/\H'=upd H a (.dT (putK kvs k v))
theorem DGet.k {H:Hp}{a:Addr}{kvs:List (Key × V)}{k:Key}(e:H a=some (.dK kvs)):DGet H a (kV k) (valV kvs k):=.inl ⟨kvs,k,.inl e,rfl,rfl⟩
theorem DPut.k {H:Hp}{a:Addr}{kvs:List (Key × V)}{k:Key}{v:V}(e:H a=some (.dK kvs))(hl:kvs.length<sizeLine):DPut H a (kV k) v (upd H a (.dK (putK kvs k v))):=.inl ⟨kvs,k,e,rfl,hl,rfl⟩
section
variable {a:Addr}{y v:V}{u r:Value}{o:Option V}
theorem Inv.big (I:Inv X pins σ H s):sysModules<s.heap.objs.size:=by have h:mainGlobals<s.heap.objs.size:=(I.mod.glob.keeps I.bk).lt;exact Nat.lt_trans (by decide) h
theorem ZjY (hu:A.units+1<cLine)(I:Inv X pins σ H s)(g:DGet H a y (some v))(ry:RelV y u)(h:∀ w' s',Inv X pins σ H s'->RelV v w'->Q w' s') :
   wpAny (model X.prog X.w) A (getItem (.ref a) u) Q E s:=by
 rcases g with ⟨kvs,k,e,ey,l⟩ | ⟨kvs,k,b,e,ey,eb,l⟩
 . subst ey
   obtain ⟨z,hd,vs,rel,dd⟩:=ZfZ I.hok e;obtain ⟨w',hw,rw'⟩:=RelO.some_of (v:=v) (o:=valueAt vs k) (by rw [l];exact rel.val k);exact wpAny_getItem_of (Zez ry) dd.mapOf hw (h w' _ (I.tok _) rw')
 . subst ey
   cases (show u=Value.ref b from ry);obtain ⟨z,hd,xs,rel,dd⟩:=Zf0 I.hok e;obtain ⟨w',hw,rw'⟩:=RelO.some_of (v:=v) (o:=(atKey xs k).map (·.2)) (by rw [l];exact rel.val k);obtain ⟨p,hp,hp2⟩:=Option.map_eq_some_iff.mp hw;refine wpAny_getItem_heap (tupleKind_room_in1 hu) (Ze8 I.hok eb) dd hp ?_;rw [hp2];exact h w' _ (I.tok _) rw'
theorem d_in (hu:A.units+1<cLine)(I:Inv X pins σ H s)(g:DGet H a y o)(ry:RelV y u)(h:∀ s',Inv X pins σ H s'->Q (.bool o.isSome) s') :
   wpAny (model X.prog X.w) A (compareOp .In u (.ref a)) Q E s:=by
 rcases g with ⟨kvs,k,e,ey,l⟩ | ⟨kvs,k,b,e,ey,eb,l⟩
 . subst ey
   obtain ⟨z,hd,vs,rel,dd⟩:=ZfZ I.hok e;refine wpAny_in_of (Zez ry) hd dd.mapOf ?_;rw [<- (rel.val k).isSome_eq,<- l];exact h _ (I.tok _)
 . subst ey
   cases (show u=Value.ref b from ry);obtain ⟨z,hd,xs,rel,dd⟩:=Zf0 I.hok e;refine wpAny_in_heap (tupleKind_room_in1 hu) (Ze8 I.hok eb) hd dd ?_;have q:=(rel.val k).isSome_eq;rw [Option.isSome_map] at q;rw [<- q,<- l];exact h _ (I.tok _)
theorem ZeM {ob:HO}(I:Inv X pins σ H s)(mu:Mut (H a))(hs:Heap.SameBut a s.heap h')(he:∃ q,h'.get? a=some q)(new:ObjOk X.prog X.w (upd H a ob) h' a ob) :
   Inv X pins σ (upd H a ob) { s with heap:=h',toks:=t' } :=
 I.write (x:=a) (e:=a) mu (.inl rfl) (fun b q hb z=>(hs.2 b hb).trans z) he new
theorem Ziz {vs:List (Key × Value)}(z:kvs.length<=sizeLine)(hd:(a==sysModules)=false)(rel:KV kvs vs)(dd:h'.DictOf (mixKind P w) a vs) :
   ObjOk P w H' h' a (.dK kvs):=⟨z,hd,vs,rel,dd⟩
theorem Zjt {Q:Unit->Shared->Prop}(hu:A.units+1<cLine)(I:Inv X pins σ H s)(g:DPut H a y v H')(ry:RelV y u)(rv:RelV v r)(h:∀ s',Inv X pins σ H' s'->Q () s') :
   wpAny (model X.prog X.w) A (setItem (.ref a) u r) Q E s:=by
 rcases g with ⟨kvs,k,e,ey,l,eH⟩ | ⟨kvs,k,b,e,ey,eb,l,eH⟩
 . subst ey eH
   obtain ⟨z,hd,vs,rel,dd⟩:=Zga I.hok e;have hz:vs.length<=sizeLine:=by rw [<- rel.length];exact z
   have hl:(putK kvs k v).length<=sizeLine:=by have:=Zdd kvs k v;omega
   refine wpAny_setItem_pairs (hsz:=hz) (Zez ry) dd fun h' dd' hs=>h _ ?_
   have he:∃ q,h'.get? a=some q:=let ⟨q,_,_,hq,_⟩:=dd';⟨q,hq⟩
   exact ZeM I (by rw [e];exact True.intro) hs he (Ziz hl hd (rel.put k rv) dd')
 . subst ey eH
   cases (show u=Value.ref b from ry);obtain ⟨z,hd,xs,rel,dd⟩:=dt_of I.hok e;have hz:xs.length<=sizeLine:=by rw [<- Paired.length rel];exact z
   have hl:(putK kvs k v).length<=sizeLine:=by have:=Zdd kvs k v;omega
   refine wpAny_setItem_heap (hsz:=hz) (tupleKind_room_in1 hu) (Ze8 I.hok eb) dd fun h' dd' hs=>h _ ?_
   obtain ⟨q,es,ep,hq,h2,h3,h4,_,h5⟩:=dd';refine ZeM I (by rw [e];exact True.intro) hs ⟨q,hq⟩ ⟨hl,hd,_,(rel.put k eb rv).keeps fun c ys ec=>?_,q,es,ep,hq,h2,h3,h4,h5⟩;rw [Zai (ne_of ec e (fun z=>nomatch z))];exact ec
end
section
variable {a:Addr}{k:Key}{u:Value}
theorem d_pop {v:V}{more:List Value}(I:Inv X pins σ H s)(e:H a=some (.dK kvs))(ry:RelV (kV k) u)(l:valV kvs k=some v)(hm:more=[]\/∃ x,more=[x])
   (h:∀ w' s',Inv X pins σ (upd H a (.dK (dropK kvs k))) s'->RelV v w'->Q w' s'):wpAny (model X.prog X.w) A (call (.builtin "dict.pop") (.ref a::u::more)) Q E s:=by
 obtain ⟨z,hd,vs,rel,dd⟩:=Zga I.hok e;obtain ⟨w',hw,rw'⟩:=RelO.some_of (v:=v) (o:=valueAt vs k) (by rw [<- l];exact rel.val k);have hp:(keyPart u).isSome=true:=by
   cases k with
   | inl i=>obtain ⟨t,q⟩:=(show ∃ t,u=Value.int i t from ry);subst q;rfl
   | inr x=>obtain ⟨t,q⟩:=(show ∃ t,u=Value.str x t from ry);subst q;rfl
 have ha:argsOk "dict.pop" ⟨.ref a::u::more,[]⟩:=by
   rcases hm with q | ⟨x,q⟩
   . subst q;exact PySem.F.args_dict_pop_2 _ _
   . subst q;exact PySem.F.args_dict_pop_3 _ _ _
 refine call_meetsIn PySem.F.slot_dict_pop dd.typeIs PySem.F.entry_dict_pop ha (meets_dict_pop_there (mixKind X.prog X.w) a (Zez ry) more hm hp)
   ⟨vs,w',dd,by rw [<- rel.length];exact z,hw,fun h' dd' hs=>h w' _ ?_ rw'⟩
 have he:∃ q,h'.get? a=some q:=let ⟨q,_,_,hq,_⟩:=dd';⟨q,hq⟩
 exact ZeM I (by rw [e];exact True.intro) hs he (Ziz (yaN (dropK_le kvs k) z) hd (rel.drop k) dd')
theorem d_popD {r:Value}(I:Inv X pins σ H s)(e:H a=some (.dK kvs))(ry:RelV (kV k) u)(l:valV kvs k=none)(h:∀ s',Inv X pins σ H s'->Q r s') :
   wpAny (model X.prog X.w) A (call (.builtin "dict.pop") [.ref a,u,r]) Q E s:=by
 obtain ⟨z,hd,vs,rel,dd⟩:=Zga I.hok e;have hn:valueAt vs k=none:=RelO.none_of (by rw [<- l];exact rel.val k);have hp:(keyPart u).isSome=true:=by
   cases k with
   | inl i=>obtain ⟨t,q⟩:=(show ∃ t,u=Value.int i t from ry);subst q;rfl
   | inr x=>obtain ⟨t,q⟩:=(show ∃ t,u=Value.str x t from ry);subst q;rfl
 exact call_meetsIn PySem.F.slot_dict_pop dd.typeIs PySem.F.entry_dict_pop (PySem.F.args_dict_pop_3 _ _ _) (meets_dict_pop_default (mixKind X.prog X.w) a (Zez ry) hd hp r) ⟨vs,dd,hn,h _ (I.tok _)⟩
end
def NoSl (i:Expr):Prop:=∀ ov iv,subscripted i false ov iv=operate [ov,iv] (getItem ov iv)
theorem subD_of {env:Env}{value slice:Expr}{pos:Pos}{T id:String}
   (hl:typeLookup (.type T) "__getitem__"=pure (some (.builtin id))) (hs:NoSl slice)
   (h:wpAny (model prog w) A (eval value env) (fun o s₁=>wpAny (model prog w) A (eval slice env) (fun i s₂=>s₂.TypeIs o T/\wpAny (model prog w) A (getItem o i) Q E s₂) E s₁) E s) :
   wpAny (model prog w) A (eval (.Subscript value slice pos) env) Q E s:=by
 refine Subscript_ (zaB h (fun o s₁ h₁=>zaB h₁ (fun i s₂ h₂=>?_) fun _ _ x=>x) fun _ _ x=>x);obtain ⟨hT,h₂⟩:=h₂;unfold subscriptTail;refine zaa ?_;rw [getitemInPython_of_ne hT.not_modules];refine zaa (wpAny_specialOf hT hl ?_);have fin:wpAny (model prog w) A (subscripted slice false o i) (fun r s₃=>wpAny (model prog w) A (letTemporaryGo value o r >>= fun _=>pure r) Q E s₃) E s₂:=by rw [hs o i];exact wpAny_operating (zaB h₂ (fun r s₃ h₃=>zaa (wpAny_letTemporaryGo (zac h₃))) fun _ _ x=>x)
 first
   | exact zac (zaa fin)
   | exact zaa (zac (zaa fin))
   | exact zaa fin
theorem Zg2 {a:Addr}{y:V}{o:Option V}(I:Inv X pins σ H s)(g:DGet H a y o):s.TypeIs (.ref a) "dict":=by
 rcases g with ⟨kvs,k,e,_,_⟩ | ⟨kvs,k,b,e,_,_,_⟩
 . obtain ⟨_,_,vs,_,dd⟩:=ZfZ I.hok e
   exact dd.typeIs
 . obtain ⟨_,_,xs,_,dd⟩:=Zf0 I.hok e
   exact dd.typeIs
def tDGet (td ty:TE):TE:=fun σ H Q=>td σ H fun x H1=>ty σ H1 fun y H2=>∃ a v,x=.ref a/\DGet H2 a y (some v)/\Q v H2
def tDIn (ty td:TE):TE:=fun σ H Q=>ty σ H fun y H1=>td σ H1 fun x H2=>∃ a o,x=.ref a/\DGet H2 a y o/\Q (.bl o.isSome) H2
def sDPut (td ty tv:TE):TS:=fun D σ H=>tv σ H fun v H1=>td σ H1 fun x H2=>ty σ H2 fun y H3=>∃ a H4,x=.ref a/\DPut H3 a y v H4/\D.nx σ H4
section
variable {o i e value:Expr}{pos tpos:Pos}{td ty tv:TE}
theorem Zbq (hu:X.A.units+1<cLine)(ho:PE X o td)(hi:PE X i ty)(hs:NoSl i):PE X (.Subscript o i pos) (tDGet td ty):=by intro pins s σ H Q I h;refine subD_of PySem.F.slot_dict_getitem.lookup hs (thn (ho pins s σ H _ I h) fun u s1 ⟨x,H1,I1,rx,q1⟩=>thn (hi pins s1 σ H1 _ I1 q1) fun iv s2 ⟨y,H2,I2,ry,a,v,ex,g,q2⟩=>?_);subst ex;obtain rfl:u=Value.ref a:=rx;exact ⟨Zg2 I2 g,ZjY hu I2 g ry fun w' s3 I3 rw'=>⟨v,H2,I3,rw',q2⟩⟩
theorem pc_din (hu:X.A.units+1<cLine)(hi:PE X i ty)(ho:PE X o td):PC X .In i o (tDIn ty td):=by
 intro pins s σ H Q I h;refine thn (hi pins s σ H _ I h) fun iv s1 ⟨y,H1,I1,ry,q1⟩=>thn (ho pins s1 σ H1 _ I1 q1) fun u s2 ⟨x,H2,I2,rx,a,ov,ex,g,q2⟩=>?_
 subst ex;obtain rfl:u=Value.ref a:=rx;exact d_in hu I2 g ry fun s3 I3=>⟨.bl ov.isSome,H2,I3,rfl,q2⟩
theorem Zee (hu:X.A.units+1<cLine)(ho:PE X o td)(hi:PE X i ty)(hv:PE X value tv)(hs:swapsWith value (some (.Subscript o i pos')) pos.line X.env=pure false) :
   PS X (.Assign [.Subscript o i pos'] value pos) (sDPut td ty tv):=by
 intro pins s σ H D I h;refine wpAny_Assign_Subscript (thn (hv pins s σ H _ I h) fun r s1 ⟨v,H1,I1,rv,q1⟩=>thn (ho pins s1 σ H1 _ I1 q1) fun u s2 ⟨x,H2,I2,rx,q2⟩=>thn (hi pins s2 σ H2 _ I2 q2) fun iv s3 ⟨y,H3,I3,ry,a,H4,ex,g,q3⟩=>?_) hs;subst ex;obtain rfl:u=Value.ref a:=rx;exact Zjt hu I3 g ry rv fun s4 I4=>⟨σ,H4,I4,q3⟩
end
theorem dk_empty (h:Heap)(hb:sysModules<h.objs.size):ObjOk P w H (h.push { cls:=.type "dict",data:=.dict #[] }) h.objs.size (.dK []) :=
 ⟨yax _,zas.mpr (Ne.symm (yaE hb)),[],.nil,Heap.DictOf.new h⟩
def tDNewK:TE:=fun _ H Q=>∀ p,H p=none->Q (.ref p) (upd H p (.dK []))
section
variable {pos:Pos}
theorem ZcA:PE X (.Dict [] [] pos) tDNewK:=fun pins s σ H Q I h =>
 wpAny_Dict_empty ⟨.ref s.heap.objs.size,_,I.laid (a:=s.heap.objs.size) (o:=.dK []) (t':=s.toks) (fun _ _ q=>zab _ q) (yag _) (dk_empty s.heap I.big),rfl,h _ (I.hok.fresh (yag _))⟩
end
structure M1 (X:Cx)(o:Expr)(m:Str)(apos:Pos)(e:Expr)(cpos:Pos):Prop where
 base:attributeBase o m X.env (eval o X.env)=eval o X.env
 few:((backTo cpos (starEach [e] X.env)).all (fun x=>!x.1)&&(backToKw cpos (keywordEach [] X.env)).all (fun x=>x.1.isSome)
   && decide (([e]:List Expr).length+([]:List Keyword).length+(if ([]:List Keyword).isEmpty then 0 else 1)<30))=true
 line:(apos.endLine==cpos.line)=true
 trees:backTo cpos (starEach [e] X.env)=[(false,eval e X.env)]
structure M2 (X:Cx)(o:Expr)(m:Str)(apos:Pos)(e f:Expr)(cpos:Pos):Prop where
 base:attributeBase o m X.env (eval o X.env)=eval o X.env
 few:((backTo cpos (starEach [e,f] X.env)).all (fun x=>!x.1)&&(backToKw cpos (keywordEach [] X.env)).all (fun x=>x.1.isSome)
   && decide (([e,f]:List Expr).length+([]:List Keyword).length+(if ([]:List Keyword).isEmpty then 0 else 1)<30))=true
 line:(apos.endLine==cpos.line)=true
 trees:backTo cpos (starEach [e,f] X.env)=[(false,eval e X.env),(false,eval f X.env)]
def IsD (H:Hp)(a:Addr):Prop:=(∃ kvs,Rd H a (.dK kvs))\/∃ kvs,Rd H a (.dT kvs)
theorem Zff {a:Addr}(I:Inv X pins σ H s)(d:IsD H a) :
   s.TypeIs (.ref a) "dict"/\(∀ b,Value.ref a=.ref b->∃ ob,s.heap.get? b=some ob/\ob.dict=none)/\(a==sysModules)=false:=by
 rcases d with ⟨kvs,e⟩ | ⟨kvs,e⟩
 . obtain ⟨_,hd,vs,_,dd⟩:=ZfZ I.hok e
   refine ⟨dd.typeIs,fun b q=>?_,hd⟩;cases q;obtain ⟨ob,_,_,h1,h2,_⟩:=dd;exact ⟨ob,h1,h2.2.1⟩
 . obtain ⟨_,hd,xs,_,dd⟩:=Zf0 I.hok e
   refine ⟨dd.typeIs,fun b q=>?_,hd⟩;cases q;obtain ⟨ob,_,_,h1,h2,_⟩:=dd;exact ⟨ob,h1,h2.2.1⟩
section
variable {a:Addr}{y d:V}{u r:Value}{o:Option V}
theorem d_get2 (hu:A.units+1<cLine)(I:Inv X pins σ H s)(g:DGet H a y o)(ry:RelV y u)(rd:RelV d r)(h:∀ w' s',Inv X pins σ H s'->RelV (o.getD d) w'->Q w' s') :
   wpAny (model X.prog X.w) A (call (.builtin "dict.get") [.ref a,u,r]) Q E s:=by
 rcases g with ⟨kvs,k,e,ey,l⟩ | ⟨kvs,k,b,e,ey,eb,l⟩
 . subst ey
   obtain ⟨z,hd,vs,rel,dd⟩:=ZfZ I.hok e;refine call_meetsIn PySem.F.slot_dict_get dd.typeIs PySem.F.entry_dict_get (PySem.F.args_dict_get_3 _ _ _) (meets_dict_get_default (mixKind X.prog X.w) a (Zez ry) hd r) ⟨_,dd.mapOf,h _ _ (I.tok _) ?_⟩;rw [l];exact (rel.val k).getD rd
 . subst ey
   cases (show u=Value.ref b from ry);obtain ⟨z,hd,xs,rel,dd⟩:=Zf0 I.hok e;refine call_meetsIn PySem.F.slot_dict_get dd.typeIs PySem.F.entry_dict_get (PySem.F.args_dict_get_3 _ _ _) (meetsH_dict_get_default (tupleKind (mixKind X.prog X.w)) a b hd r) ⟨tupleKind_room_in1 hu,k,xs,Ze8 I.hok eb,dd,h _ _ (I.tok _) ?_⟩;rw [l];exact (rel.val k).getD rd
end
def tDGet1 (td ty:TE):TE:=fun σ H Q=>td σ H fun x H1=>∃ a,x=.ref a/\IsD H1 a/\ty σ H1 fun y H2=>∃ o,DGet H2 a y o/\Q (o.getD .non) H2
def tDGet2 (td ty tx:TE):TE:=fun σ H Q=>td σ H fun x H1=>∃ a,x=.ref a/\IsD H1 a/\ty σ H1 fun y H2=>tx σ H2 fun z H3=>∃ o,DGet H3 a y o/\Q (o.getD z) H3
def tDPop1 (td ty:TE):TE:=fun σ H Q=>td σ H fun x H1=>∃ a,x=.ref a/\IsD H1 a/\ty σ H1 fun y H2=>∃ kvs k v,H2 a=some (.dK kvs)/\y=kV k/\valV kvs k=some v/\Q v (upd H2 a (.dK (dropK kvs k)))
def tDPop2 (td ty tx:TE):TE:=fun σ H Q=>td σ H fun x H1=>∃ a,x=.ref a/\IsD H1 a/\ty σ H1 fun y H2=>tx σ H2 fun z H3=>∃ kvs k,H3 a=some (.dK kvs)/\y=kV k /\
 (∀ v,valV kvs k=some v->Q v (upd H3 a (.dK (dropK kvs k))))/\(valV kvs k=none->Q z H3)
section
variable {o e f:Expr}{apos cpos:Pos}{td ty tx:TE}
theorem Zhb (hu:X.A.units+1<cLine)(ho:PE X o td)(he:PE X e ty)(hf:PE X f tx)(m:M2 X o "get" apos e f cpos):PE X (.Call (.Attribute o "get" apos) [e,f] [] cpos) (tDGet2 td ty tx):=by
 intro pins s σ H Q I h;refine wpAny_Call_method m.base m.few m.line zaE PySem.F.slot_dict_get PySem.F.type_dict_get (thn (ho pins s σ H _ I h) fun u s1 ⟨x,H1,I1,rx,a,ex,d,q1⟩=>?_);subst ex;obtain rfl:u=Value.ref a:=rx;obtain ⟨t1,t2,_⟩:=Zff I1 d;refine ⟨t1,t2,?_⟩;rw [m.trees];refine zap rfl (zaJ (zaj (thn (he pins s1 σ H1 _ I1 q1) fun iv s2 ⟨y,H2,I2,ry,q2⟩ =>
   zaj (thn (hf pins s2 σ H2 _ I2 q2) fun fv s3 ⟨z,H3,I3,rz,ov,g,q3⟩=>zao ?_))))
 exact d_get2 hu I3 g ry rz fun w' s4 I4 rw'=>⟨_,H3,I4,rw',q3⟩
theorem ZhI (ho:PE X o td)(he:PE X e ty)(m:M1 X o "pop" apos e cpos):PE X (.Call (.Attribute o "pop" apos) [e] [] cpos) (tDPop1 td ty):=by intro pins s σ H Q I h;refine wpAny_Call_method m.base m.few m.line zaE PySem.F.slot_dict_pop PySem.F.type_dict_pop (thn (ho pins s σ H _ I h) fun u s1 ⟨x,H1,I1,rx,a,ex,d,q1⟩=>?_);subst ex;obtain rfl:u=Value.ref a:=rx;obtain ⟨t1,t2,_⟩:=Zff I1 d;refine ⟨t1,t2,?_⟩;rw [m.trees];refine zap rfl (zaJ (zaj (thn (he pins s1 σ H1 _ I1 q1) fun iv s2 ⟨y,H2,I2,ry,kvs,k,v,ea,ey,l,q2⟩=>zao ?_)));subst ey;exact d_pop I2 ea ry l (.inl rfl) fun w' s3 I3 rw'=>⟨v,_,I3,rw',q2⟩
theorem pe_dpop2 (ho:PE X o td)(he:PE X e ty)(hf:PE X f tx)(m:M2 X o "pop" apos e f cpos):PE X (.Call (.Attribute o "pop" apos) [e,f] [] cpos) (tDPop2 td ty tx):=by
 intro pins s σ H Q I h;refine wpAny_Call_method m.base m.few m.line zaE PySem.F.slot_dict_pop PySem.F.type_dict_pop (thn (ho pins s σ H _ I h) fun u s1 ⟨x,H1,I1,rx,a,ex,d,q1⟩=>?_);subst ex;obtain rfl:u=Value.ref a:=rx;obtain ⟨t1,t2,_⟩:=Zff I1 d;refine ⟨t1,t2,?_⟩;rw [m.trees];refine zap rfl (zaJ (zaj (thn (he pins s1 σ H1 _ I1 q1) fun iv s2 ⟨y,H2,I2,ry,q2⟩ =>
   zaj (thn (hf pins s2 σ H2 _ I2 q2) fun fv s3 ⟨z,H3,I3,rz,kvs,k,ea,ey,q3,q4⟩=>zao ?_))))
 subst ey;cases l:valV kvs k with
 | some v=>exact d_pop I3 ea ry l (.inr ⟨fv,rfl⟩) fun w' s4 I4 rw'=>⟨v,_,I4,rw',q3 v l⟩
 | none=>exact d_popD I3 ea ry l fun s4 I4=>⟨z,H3,I4,rz,q4 l⟩
end
section
variable {a:Addr}
end
section
variable {a:Addr}{y:V}{u:Value}
end
section
variable {κ:Type}[DecidableEq κ]
theorem Zjg:∀ {l:List κ} {k:κ},l.Nodup->¬ k∈l->(l++[k]).Nodup
 | [],k,_,_=>by simp
 | a::r,k,h,hk=>by
   obtain ⟨h1,h2⟩:=ybD.mp h;show (a::(r++[k])).Nodup;refine ybD.mpr ⟨fun m=>?_,Zjg h2 fun m=>hk (yaj.mpr (Or.inr m))⟩;rcases yaf.mp m with q | q
   . exact h1 q
   . exact hk (yaj.mpr (Or.inl (yaa.mp q).symm))
end
end L2
namespace BM
open PySem L2 PyProof.Rows
def wd:List Nat->Nat
 | []=>0
 | p::r=>2^p+wd r
def Up:Nat->List Nat->Prop
 | _,[]=>True
 | a,p::r=>a<=p/\Up (p+1) r
theorem Up.mono:∀ {a b:Nat} {ps:List Nat},Up b ps->a<=b->Up a ps
 | _,_,[],_,_=>trivial
 | _,_,_::_,h,e=>⟨yaN e h.1,h.2⟩
theorem Up.filter {p:Nat->Bool}:∀ {a:Nat} {ps:List Nat},Up a ps->Up a (ps.filter p)
 | _,[],_=>trivial
 | a,q::r,h=>by
   rw [ybe];split
   . exact ⟨h.1,Up.filter h.2⟩
   . exact (Up.filter h.2).mono (yaN h.1 (yca _))
theorem Up.dvd:∀ {a:Nat} {ps:List Nat},Up a ps->2^a ∣ wd ps
 | _,[],_=>Nat.dvd_zero _
 | a,p::r,h=>Nat.dvd_add (Nat.pow_dvd_pow 2 h.1) (Nat.dvd_trans (Nat.pow_dvd_pow 2 (yaN h.1 (yca _))) (Up.dvd h.2))
theorem Up.lt:∀ {a k:Nat} {ps:List Nat},Up a ps->(∀ p∈ps,p<k)->a<=k->wd ps+2^a<=2^k
 | _,_,[],_,_,e=>by
   show 0+_<=_;rw [ybH];exact ybB (by decide) e
 | a,k,p::r,h,hk,_=>by
   have h1:p<k:=hk p yaK;have ih:=Up.lt (a:=p+1) (k:=k) h.2 (fun q hq=>hk q (yaM _ hq)) h1;have h2:2^a<=2^p:=ybB (by decide) h.1;rw [Nat.pow_succ] at ih;show 2^p+wd r+2^a<=2^k;omega
theorem Up.lt' {k:Nat}(h:Up 0 ps)(hk:∀ p∈ps,p<k):wd ps<2^k:=by have:=Up.lt h hk (yax _);omega
theorem and_pred (x p:Nat):(2^(p+1)*x+2^p) &&& (2^(p+1)*x+2^p-1)=2^(p+1)*x:=by
 have hp:0<2^p:=ybt (by decide);have e1:2^(p+1)*x+2^p-1=2^(p+1)*x+(2^p-1):=by omega
 have l1:2^p<2^(p+1):=Nat.pow_lt_pow_right (by decide) (ybn _);rw [e1];apply Nat.eq_of_testBit_eq
 intro i;have q:=ybg x (b:=0) (i:=p+1) (ybt (by decide)) i;rw [ycg] at q;rw [Nat.testBit_and,ybg x l1 i,ybg x (b:=2^p-1) (i:=p+1) (by omega) i,q];split
 . rw [Nat.testBit_two_pow,Nat.testBit_two_pow_sub_one,Nat.zero_testBit]
   by_cases e:p=i
   . subst e;simp
   . simp [e]
 . simp
theorem ZeY {p:Nat}{r:List Nat}(h:Up (p+1) r):wd (p::r) &&& (wd (p::r)-1)=wd r:=by obtain ⟨x,hx⟩:=h.dvd;show (2^p+wd r) &&& (2^p+wd r-1)=wd r;rw [hx,ycw (2^p)];exact and_pred x p
theorem ZgH {p:Nat}{r:List Nat}:0<wd (p::r):=by have:0<2^p:=ybt (by decide);show 0<2^p+wd r;omega
theorem ZbB:∀ (xs ys:List Nat),wd (xs++ys)=wd xs+wd ys
 | [],ys=>(ybH _).symm
 | x::xs,ys=>by
   show 2^x+wd (xs++ys)=2^x+wd xs+wd ys;rw [ZbB xs ys,ycx]
theorem Up.left:∀ {a:Nat} {xs ys:List Nat},Up a (xs++ys)->Up a xs
 | _,[],_,_=>trivial
 | _,_::_,_,h=>⟨h.1,Up.left h.2⟩
theorem Up.last:∀ {a p:Nat} {xs ys:List Nat},Up a (xs++p::ys)->∀ q∈xs,q<p
 | _,_,[],_,_,_,hq=>by simp at hq
 | a,p,x::xs,ys,h,q,hq=>by
   have h2:Up (x+1) (xs++p::ys):=h.2;rcases yaj.mp hq with e | e
   . subst e
     have:∀ {b:Nat} {zs:List Nat},Up b (zs++p::ys)->b<=p:=by
       intro b zs;induction zs generalizing b with
       | nil=>exact fun z=>z.1
       | cons z zs ih=>exact fun w=>yaN w.1 (Nat.le_of_succ_le (ih w.2))
     exact this h2
   . exact Up.last h2 q e
theorem wd_mod (k:Nat):∀ {a:Nat} {ps:List Nat},Up a ps->wd ps%2^k=wd (ps.filter fun p=>decide (p<k)):=by
 intro a ps h;have split:wd ps=wd (ps.filter fun p=>decide (p<k))+wd (ps.filter fun p=>!decide (p<k)):=by
   clear h;induction ps with
   | nil=>rfl
   | cons p r ih =>
     rw [ybe,ybe];by_cases e:p<k
     . simp only [e,decide_true,zaT,ybS,yaF,zay]
       show 2^p+wd r=2^p+wd _+wd _;omega
     . simp only [e,decide_false,zay,yct,zaT,yaF]
       show 2^p+wd r=wd _+(2^p+wd _)
       omega
 have h1:wd (ps.filter fun p=>decide (p<k))<2^k:=Up.lt' ((h.filter).mono (yax _)) fun p hp=>by
   have:=(yau.mp hp).2;exact ybo this
 have h2:2^k ∣ wd (ps.filter fun p=>!decide (p<k)):=by
   have:∀ (qs:List Nat),(∀ q∈qs,k<=q)->2^k ∣ wd qs:=by
     intro qs;induction qs with
     | nil=>exact fun _=>Nat.dvd_zero _
     | cons q r ih=>exact fun w=>Nat.dvd_add (Nat.pow_dvd_pow 2 (w q yaK)) (ih fun z hz=>w z (yaM _ hz))
   refine this _ fun q hq=>?_
   have:=(yau.mp hq).2;simp at this;exact this
 rw [split];obtain ⟨x,hx⟩:=h2;rw [hx,Nat.add_mul_mod_self_left,Nat.mod_eq_of_lt h1]
theorem wd_mask (k:Nat)(h:Up 0 ps):wd ps &&& (2^k-1)=wd (ps.filter fun p=>decide (p<k)):=by rw [Nat.and_two_pow_sub_one_eq_mod,wd_mod k h]
theorem Zfc {x y:Int}(hx:0<=x)(hy:0<=y):Builtin.bitOr x y=((x.toNat ||| y.toNat:Nat):Int):=by
 have nn:∀ z:Int,Builtin.bitNot (Builtin.bitNot z)=z:=fun z=>by unfold Builtin.bitNot;omega
 have e:Builtin.bitOr x y=Builtin.bitNot (Builtin.bitAnd (Builtin.bitNot x) (Builtin.bitNot y)):=rfl;rw [e,bitAnd_nn (by unfold Builtin.bitNot;omega) (by unfold Builtin.bitNot;omega),nn,nn,nn]
def pint (ps:List Nat):List V:=ps.map fun (p:Nat)=>V.int (p:Int)
theorem ZaR {i:Nat}{x:V}(hi:(pint ps)[i]?=some x):∃ p:Nat,ps[i]?=some p/\x=.int p:=by
 unfold pint at hi;rw [yav] at hi;cases e:ps[i]? with
 | none=>rw [e] at hi;cases hi
 | some p=>rw [e] at hi;exact ⟨p,rfl,(Option.some.inj hi).symm⟩
theorem Zbl {x:V}(hx:x∈pint ps):∃ p:Nat,p∈ps/\x=.int p:=by obtain ⟨p,h,e⟩:=yaJ.mp hx;exact ⟨p,h,e.symm⟩
theorem Zal (ps:List Nat):(pint ps).length=ps.length:=yad _
theorem ZaT:∀ {a:Nat} {ps:List Nat},Up a ps->∀ i,(wd ps).testBit i=decide (i∈ps)
 | _,[],_,i=>by simp [wd]
 | a,p :: r,h,i=>by
   obtain ⟨x,hx⟩:=Up.dvd h.2;have ih:=ZaT h.2 i;have l1:2^p<2^(p+1):=Nat.pow_lt_pow_right (by decide) (ybn _);have e:wd (p::r)=2^(p+1)*x+2^p:=by show 2^p+wd r=_;rw [hx];omega
   have q:=ybg x (b:=0) (i:=p+1) (ybt (by decide)) i;rw [ycg,<- hx,ih] at q;rw [e,ybg x l1 i];split
   . rename_i hlt
     rw [if_pos hlt] at q;have nm:i∉r:=by simpa using q
     rw [Nat.testBit_two_pow];by_cases hp:p=i
     . subst hp;simp
     . have:¬ i=p:=fun z=>hp z.symm
       simp [hp,nm,this]
   . rename_i hge
     rw [if_neg hge] at q;rw [<- q];have:¬ i=p:=by omega
     simp [this]
theorem Up.of_lt:∀ {a:Nat} {ps:List Nat},Up a ps->∀ p∈ps,a<=p
 | _,[],_,_,h=>by simp at h
 | a,q::r,h,p,hp=>by
   rcases yaj.mp hp with e | e
   . subst e;exact h.1
   . have:=Up.of_lt h.2 p e
     have:=h.1;omega
theorem Up.ext:∀ {a:Nat} {ps qs:List Nat},Up a ps->Up a qs->(∀ i,i∈ps↔i∈qs)->ps=qs
 | _,[],[],_,_,_=>rfl
 | _,[],q::_,_,_,h=>by have:=(h q).mpr yaK;simp at this
 | _,p::_,[],_,_,h=>by have:=(h p).mp yaK;simp at this
 | a,p :: r,q::s,hp,hq,h=>by
   have e:p=q:=by
     have h1:=(h p).mp yaK;have h2:=(h q).mpr yaK;rcases yaj.mp h1 with z | z
     . exact z
     . rcases yaj.mp h2 with y | y
       . exact y.symm
       . have:=Up.of_lt hq.2 p z
         have:=Up.of_lt hp.2 q y;omega
   subst e;have:r=s:=Up.ext hp.2 hq.2 fun i=>by
     have:=h i;constructor
     . intro m
       have l:=Up.of_lt hp.2 i m;rcases yaj.mp (this.mp (yaM _ m)) with z | z
       . omega
       . exact z
     . intro m
       have l:=Up.of_lt hq.2 i m;rcases yaj.mp (this.mpr (yaM _ m)) with z | z
       . omega
       . exact z
   rw [this]
theorem Zfo {w:Nat}(h:Up 0 ps)(hw:∀ i,w.testBit i=decide (i∈ps)):w=wd ps :=
 Nat.eq_of_testBit_eq fun i=>by rw [hw,ZaT h]
theorem ZbZ (p:Nat->Bool)(n:Nat):Up 0 ((List.range n).filter p):=by
 have:∀ a,Up a ((List.range' a n).filter p):=by
   induction n with
   | zero=>exact fun a=>trivial
   | succ n ih =>
     intro a;rw [ybW,ybe];split
     . exact ⟨yag _,ih (a+1)⟩
     . exact (ih (a+1)).mono (yca _)
 rw [List.range_eq_range'];exact this 0
theorem ZfY:∀ (n a:Nat),Up a (List.range' a n)
 | 0,_=>trivial
 | n+1,a=>by rw [ybW];exact ⟨yag _,ZfY n (a+1)⟩
def pl (n w:Nat):List Nat:=(List.range n).filter w.testBit
theorem Zg9 (n w:Nat):Up 0 (pl n w):=ZbZ _ _
theorem mem_pl {n w i:Nat}:i∈pl n w↔i<n/\w.testBit i=true:=by unfold pl;simp
theorem wd_pl {n w:Nat}(h:w<2^n):wd (pl n w)=w:=by
 symm
 refine Zfo (Zg9 n w) fun i=>?_
 have e:decide (i∈pl n w)=(decide (i<n)&&w.testBit i):=by have:=@mem_pl n w i;by_cases h1:i<n<;>cases h2:w.testBit i<;>simp [this,h1,h2]
 rw [e];by_cases h1:i<n
 . simp [h1]
 . have:w.testBit i=false:=Nat.testBit_lt_two_pow (yay h (ybB (by decide) (by omega)))
   simp [this]
theorem pl_wd {n:Nat}(h:Up 0 ps)(hn:∀ p∈ps,p<n):pl n (wd ps)=ps :=
 Up.ext (Zg9 _ _) h fun i=>by
   rw [mem_pl,ZaT h];simp;exact hn i
theorem Up.shift (k:Nat):∀ {a:Nat} {ps:List Nat},Up a ps->Up (a+k) (ps.map (·+k))
 | _,[],_=>trivial
 | a,p::r,h=>by
   have:=Up.shift k h.2;rw [yaC];refine ⟨Nat.add_le_add_right h.1 k,?_⟩;have e:p+1+k=p+k+1:=by omega
   rw [e] at this;exact this
theorem ZhJ (k:Nat):∀ (ps:List Nat),wd (ps.map (·+k))=wd ps*2^k
 | []=>by simp [wd]
 | p::r=>by
   rw [yaC];show 2^(p+k)+wd _=(2^p+wd r)*2^k;rw [ZhJ k r,Nat.pow_add,Nat.add_mul]
theorem up_from {k:Nat}:∀ {a:Nat} {ps:List Nat},Up a ps->(∀ p∈ps,k<=p)->Up k ps
 | _,[],_,_=>trivial
 | a,p::r,h,hk=>⟨hk p yaK,h.2⟩
theorem log2_wd {p:Nat}(h:Up 0 (ps++[p])):(wd (ps++[p])).log2=p:=by
 have hl:wd ps<2^p:=Up.lt' (h.left) h.last;rw [ZbB];have e:wd [p]=2^p:=by show 2^p+0=2^p;omega
 rw [e];have h0:wd ps+2^p≠0:=by have:0<2^p:=ybt (by decide);omega
 have a1:=(Nat.le_log2 h0 (k:=p)).mpr (by omega);have a2:=(Nat.log2_lt h0 (k:=p+1)).mpr (by rw [Nat.pow_succ];omega);omega
theorem ZeQ:∀ (n a:Nat),wd (List.range' a n)+2^a=2^(a+n)
 | 0,a=>by simp [wd]
 | n+1,a=>by
   rw [ybW];have:=ZeQ n (a+1);show 2^a+wd _+2^a=_;have e:a+(n+1)=a+1+n:=by omega
   rw [e,<- this,Nat.pow_succ];omega
theorem Up.drop:∀ (i:Nat) {ps:List Nat},Up 0 ps->Up 0 (ps.drop i)
 | 0,_,h=>h
 | _+1,[],_=>trivial
 | i+1,_::_,h=>Up.drop i (h.2.mono (yax _))
def orW (ps:List Nat):Nat:=ps.foldl (fun w p=>w ||| 2^p) 0
theorem orW_snoc (ps:List Nat)(p:Nat):orW (ps++[p])=orW ps ||| 2^p:=by unfold orW;rw [List.foldl_append];rfl
theorem ZgS (ps:List Nat) (i:Nat):(orW ps).testBit i=decide (i∈ps):=by
 have:∀ (qs:List Nat) (w:Nat),(qs.foldl (fun w p=>w ||| 2^p) w).testBit i=(w.testBit i||decide (i∈qs)):=by
   intro qs;induction qs with
   | nil=>intro w;simp
   | cons p r ih =>
     intro w;rw [ybK,ih,Nat.testBit_or,Nat.testBit_two_pow];by_cases h:p=i
     . subst h;simp
     . have:¬ i=p:=fun z=>h z.symm
       simp [h,this]
 unfold orW;rw [this];simp
theorem orW_up (h:Up 0 ps):orW ps=wd ps:=Zfo h (ZgS ps)
def orR (rs:List (Nat × Nat)):Nat:=rs.foldl (fun w r=>w ||| wd (List.range' r.1 (r.2+1-r.1))) 0
theorem orR_snoc (rs:List (Nat × Nat))(r:Nat × Nat):orR (rs++[r])=orR rs ||| wd (List.range' r.1 (r.2+1-r.1)):=by unfold orR;rw [List.foldl_append];rfl
def cov (rs:List (Nat × Nat))(i:Nat):Prop:=∃ r∈rs,r.1<=i/\i<=r.2
theorem Zhc (rs:List (Nat × Nat)) (i:Nat):(orR rs).testBit i=true↔cov rs i:=by
 have:∀ (qs:List (Nat × Nat)) (w:Nat),(qs.foldl (fun w r=>w ||| wd (List.range' r.1 (r.2+1-r.1))) w).testBit i=true↔(w.testBit i=true\/cov qs i):=by
   intro qs;induction qs with
   | nil=>intro w;simp [cov]
   | cons r q ih =>
     intro w;rw [ybK,ih,Nat.testBit_or,Bool.or_eq_true,ZaT (ZfY _ _)];have e:(decide (i∈List.range' r.1 (r.2+1-r.1))=true)↔(r.1<=i/\i<=r.2):=by rw [yaz,List.mem_range'_1];omega
     rw [e];unfold cov;constructor
     . rintro ((h | h) | ⟨z,hz,h⟩)
       . exact .inl h
       . exact .inr ⟨r,yaK,h⟩
       . exact .inr ⟨z,yaM _ hz,h⟩
     . rintro (h | ⟨z,hz,h⟩)
       . exact .inl (.inl h)
       . rcases yaj.mp hz with e2 | e2
         . subst e2;exact .inl (.inr h)
         . exact .inr ⟨z,e2,h⟩
 unfold orR;rw [this];simp
def addP (rs:List (Nat × Nat))(p:Nat):List (Nat × Nat):=match rs.getLast? with
 | some (a,b)=>if b+1=p then rs.dropLast++[(a,p)] else rs++[(p,p)]
 | none=>[(p,p)]
def runsOf (ps:List Nat):List (Nat × Nat):=ps.foldl addP []
theorem Zdm (p:Nat):addP [] p=[(p,p)]:=rfl
theorem Zcl {a b p:Nat}(h:b+1=p):addP (rs++[(a,b)]) p=rs++[(a,p)]:=by unfold addP;rw [List.getLast?_concat];show (if b+1=p then _ else _)=_;rw [if_pos h,List.dropLast_concat]
theorem ZbK {a b p:Nat}(h:b+1≠p):addP (rs++[(a,b)]) p=rs++[(a,b)]++[(p,p)]:=by unfold addP;rw [List.getLast?_concat];show (if b+1=p then _ else _)=_;rw [if_neg h]
theorem Zcr (ps:List Nat)(p:Nat):runsOf (ps++[p])=addP (runsOf ps) p:=by unfold runsOf;rw [List.foldl_append];rfl
theorem runs_le:∀ {rs:List (Nat × Nat)} {p:Nat},(∀ r∈rs,r.1<=r.2)->∀ r∈addP rs p,r.1<=r.2:=by
 intro rs p h r hr;rcases ybu rs with e | ⟨q,⟨a,b⟩,e⟩
 . subst e
   rw [Zdm] at hr;have:r=(p,p):=by simpa using hr
   subst this;exact yag _
 . rw [ybv] at e
   subst e;have hab:=h (a,b) (by simp);by_cases e:b+1=p
   . rw [Zcl e] at hr
     rcases yaf.mp hr with z | z
     . exact h r (yaf.mpr (.inl z))
     . have:r=(a,p):=by simpa using z
       subst this;show a<=p;have hab:a<=b:=hab;omega
   . rw [ZbK e] at hr
     rcases yaf.mp hr with z | z
     . exact h r z
     . have:r=(p,p):=by simpa using z
       subst this;exact yag _
theorem ZdN (rs qs:List (Nat × Nat))(i:Nat):cov (rs++qs) i↔cov rs i\/cov qs i:=by
 unfold cov;simp only [yaf];constructor
 . rintro ⟨r,h | h,z⟩
   . exact .inl ⟨r,h,z⟩
   . exact .inr ⟨r,h,z⟩
 . rintro (⟨r,h,z⟩ | ⟨r,h,z⟩)
   . exact ⟨r,.inl h,z⟩
   . exact ⟨r,.inr h,z⟩
theorem ZeZ (a b i:Nat):cov [(a,b)] i↔a<=i/\i<=b:=by unfold cov;simp
theorem cov_addP (p i:Nat) (h:∀ r∈rs,r.1<=r.2):cov (addP rs p) i↔cov rs i\/i=p:=by
 rcases ybu rs with e | ⟨q,⟨a,b⟩,e⟩
 . subst e
   rw [Zdm,ZeZ];unfold cov;simp;omega
 . rw [ybv] at e
   subst e;have hab:a<=b:=h (a,b) (by simp);by_cases e:b+1=p
   . rw [Zcl e,ZdN,ZdN,ZeZ,ZeZ]
     constructor
     . rintro (z | z)
       . exact .inl (.inl z)
       . by_cases hp:i=p
         . exact .inr hp
         . exact .inl (.inr (by omega))
     . rintro ((z | z) | z)
       . exact .inl z
       . exact .inr (by omega)
       . exact .inr (by omega)
   . rw [ZbK e,ZdN,ZeZ]
     constructor
     . rintro (z | z)
       . exact .inl z
       . exact .inr (by omega)
     . rintro (z | z)
       . exact .inl z
       . exact .inr (by omega)
theorem snocInd {α:Type} {motive:List α->Prop} (nil:motive []) (snoc:∀ xs x,motive xs->motive (xs++[x])):∀ xs,motive xs:=by
 have:∀ n xs,xs.length=n->motive xs:=by
   intro n;induction n with
   | zero=>intro xs h;cases xs with
     | nil=>exact nil
     | cons _ _=>cases h
   | succ n ih =>
     intro xs h;rcases ybu xs with e | ⟨ys,y,e⟩
     . subst e;exact nil
     . rw [ybv] at e
       subst e;rw [yac] at h;exact snoc ys y (ih ys (by simpa using h))
 exact fun xs=>this _ xs rfl
theorem Zeq (ps:List Nat):∀ r∈runsOf ps,r.1<=r.2:=by
 induction ps using snocInd with
 | nil=>intro r h;simp [runsOf] at h
 | snoc ps p ih=>rw [Zcr];exact runs_le ih
theorem Zfz (ps:List Nat)(i:Nat):cov (runsOf ps) i↔i∈ps:=by
 induction ps using snocInd with
 | nil=>unfold cov runsOf;simp
 | snoc ps p ih=>rw [Zcr,cov_addP p i (Zeq ps),ih];simp
theorem Ziy (h:Up 0 ps):orR (runsOf ps)=wd ps:=Zfo h fun i=>by
 rw [ybJ,Zhc,Zfz];simp
theorem Zjw {n:Nat}(h:∀ p∈ps,p<n):∀ r∈runsOf ps,r.2<n:=fun r hr=>by
 have h1:=Zeq ps r hr;exact h _ ((Zfz ps r.2).mp ⟨r,hr,h1,yag _⟩)
inductive Dec:List Nat->List (Nat × Nat)->Prop
 | nil:Dec [] []
 | cons {p n:Nat} {rest:List Nat} {rs:List (Nat × Nat)} (u:Up (p+n+2) rest) (h:Dec rest rs):Dec (List.range' p (n+1)++rest) ((p,p+n)::rs)
theorem Zeu:∀ (r:List Nat) (p:Nat),Up (p+1) r->∃ n rest,p::r=List.range' p (n+1)++rest/\Up (p+n+2) rest/\rest.length<=r.length
 | [],p,_=>⟨0,[],rfl,trivial,yag _⟩
 | q :: r,p,u=>by
   by_cases e:q=p+1
   . subst e
     obtain ⟨n,rest,h1,h2,h3⟩:=Zeu r (p+1) u.2;refine ⟨n+1,rest,?_,?_,?_⟩
     . rw [ybW,ybM,<- h1]
     . have e:p+(n+1)+2=p+1+n+2:=by omega
       rw [e];exact h2
     . rw [yan];omega
   . exact ⟨0,q::r,rfl,⟨by have:=u.1;omega,u.2⟩,yag _⟩
theorem Ziw:∀ (m:Nat) (ps:List Nat) {a:Nat},ps.length<=m->Up a ps->∃ rs,Dec ps rs
 | _,[],_,_,_=>⟨[],.nil⟩
 | 0,_::_,_,h,_=>by simp at h
 | m+1,p::r,_,h,u=>by
   obtain ⟨n,rest,h1,h2,h3⟩:=Zeu r p u.2;obtain ⟨rs,hd⟩:=Ziw m rest (by rw [yan] at h;omega) h2;exact ⟨_,by rw [h1];exact .cons h2 hd⟩
theorem Zhj {rs0 q:List (Nat × Nat)}(p:Nat)(h:q≠[]):addP (rs0++q) p=rs0++addP q p:=by
 rcases ybu q with e | ⟨q0,⟨a,b⟩,e⟩
 . exact absurd e h
 . rw [ybv] at e
   subst e;by_cases e:b+1=p
   . rw [Zcl e,<- yah,Zcl e,yah]
   . rw [ZbK e,<- yah,ZbK e,yah,yah,yah]
theorem addP_ne (q:List (Nat × Nat))(p:Nat):addP q p≠[]:=by
 rcases ybu q with e | ⟨q0,⟨a,b⟩,e⟩
 . subst e;rw [Zdm];simp
 . rw [ybv] at e
   subst e;by_cases e:b+1=p
   . rw [Zcl e];simp
   . rw [ZbK e];simp
theorem ZeF:∀ (ys:List Nat) {rs0 q:List (Nat × Nat)},q≠[]->ys.foldl addP (rs0++q)=rs0++ys.foldl addP q
 | [],_,_,_=>rfl
 | y::ys,rs0,q,h=>by rw [ybK,Zhj y h,ybK,ZeF ys (addP_ne q y)]
theorem fold_gap {b:Nat}{a:Nat}:∀ {ys:List Nat},Up (b+2) ys->ys.foldl addP [(a,b)]=(a,b)::ys.foldl addP []
 | [],_=>rfl
 | y :: ys,u=>by
   have e:addP [(a,b)] y=[(a,b)]++[(y,y)]:=by have:=ZbK (rs:=[]) (a:=a) (b:=b) (p:=y) (by have:=u.1;omega);simpa using this
   rw [ybK,e,ZeF ys (by simp),ybK,Zdm];rfl
theorem ZgX:∀ (n p a b:Nat),b+1=p->(List.range' p n).foldl addP [(a,b)]=[(a,b+n)]
 | 0,_,_,_,_=>rfl
 | n+1,p,a,b,e=>by
   rw [ybW,ybK];have:=Zcl (rs:=[]) (a:=a) (b:=b) e;rw [show addP [(a,b)] p=[(a,p)] by simpa using this,ZgX n (p+1) a p rfl];congr 2
   omega
theorem ZhR (p n:Nat):runsOf (List.range' p (n+1))=[(p,p+n)]:=by unfold runsOf;rw [ybW,ybK,Zdm,ZgX n (p+1) p p rfl]
theorem Dec.runs:∀ {ps:List Nat} {rs:List (Nat × Nat)},Dec ps rs->runsOf ps=rs
 | _,_,.nil=>rfl
 | _,_,.cons (p:=p) (n:=n) (rest:=rest) u h=>by
   have ih:=Dec.runs h;unfold runsOf;rw [List.foldl_append];show rest.foldl addP (runsOf (List.range' p (n+1)))=_;rw [ZhR,fold_gap u];show _::runsOf rest=_;rw [ih]
def expand (rs:List (Nat × Nat)):List Nat:=rs.flatMap fun r=>List.range' r.1 (r.2+1-r.1)
theorem Dec.expand:∀ {ps:List Nat} {rs:List (Nat × Nat)},Dec ps rs->expand rs=ps
 | _,_,.nil=>rfl
 | _,_,.cons (p:=p) (n:=n) u h=>by
   have ih:=Dec.expand h;unfold BM.expand at ih ⊢;rw [List.flatMap_cons,ih];congr 2
   show p+n+1-p=n+1;omega
def Apart:Nat->List (Nat × Nat)->Prop
 | _,[]=>True
 | a,r::rs=>a<=r.1/\r.1<=r.2/\Apart (r.2+2) rs
theorem Dec.apart:∀ {ps:List Nat} {rs:List (Nat × Nat)} {a:Nat},Dec ps rs->Up a ps->Apart a rs
 | _,_,_,.nil,_=>trivial
 | _,_,_,.cons (p:=p) (n:=n) u h,w=>by
   refine ⟨?_,Nat.le_add_right _ _,Dec.apart h u⟩;rw [ybW] at w;exact w.1
theorem runs_ok (u:Up 0 ps):expand (runsOf ps)=ps/\Apart 0 (runsOf ps):=by obtain ⟨rs,h⟩:=Ziw _ ps (yag _) u;rw [h.runs];exact ⟨h.expand,h.apart u⟩
theorem Zji {p n:Nat}{rest:List Nat}(u:Up (p+n+2) rest):wd (List.range' p (n+1)++rest)+2^p=wd ((p+n+1)::rest)/\wd (List.range' p (n+1)++rest)-wd (List.range' p (n+1))=wd rest:=by
 have h:=ZeQ (n+1) p;rw [ZbB];refine ⟨?_,by omega⟩;show _=2^(p+n+1)+wd rest;have e:p+(n+1)=p+n+1:=by omega
 rw [e] at h;omega
theorem Zia {p n:Nat}{rest:List Nat}(u:Up (p+n+2) rest):runsOf (List.range' p (n+1)++rest)=(p,p+n)::runsOf rest:=by obtain ⟨rs,h⟩:=Ziw _ rest (yag _) u;rw [(Dec.cons u h).runs,h.runs]
end BM
namespace L2
open PySem PySem.Spec PyProof.Rows
section
variable {R:Result->Shared->Prop}
theorem Zgn {elt target iter:Expr}{ifs:List Expr}{pos:Pos}{it acc:Value}{env:Env}(I:Nat->Shared->Prop)
   (turn : ∀ n s,I n s->wpAny (model prog w) A (pyNext it) (fun r s₁=>match r with
     | none=>R (.ok .next) s₁
     | some v=>wpAny (model prog w) A (letOwnedTupleGo target it v) (fun _ s₀=>wpAny (model prog w) A (assign target env v) (fun _ s₂ =>
         wpAny (model prog w) A (forIn ifs true fun c r=>if r=true then do let ok <- isTrue c env (eval c env);pure (ForInStep.yield ok) else pure (ForInStep.yield r)) (fun ok s₃ =>
           if ok=true then wpAny (model prog w) A (eval elt env) (fun x s₄ =>
             wpAny (model prog w) A (call (.builtin "list.append") [acc,x]) (fun _ s₅=>∃ m,m<n/\I m s₅) (fun _ _=>False) s₄) (fun _ _=>False) s₃
           else ∃ m,m<n/\I m s₃) (fun _ _=>False) s₂) (fun _ _=>False) s₀) (fun _ _=>False) s₁) (fun _ _=>False) s)
   (n:Nat) (h:I n s) :
   codeAny (model prog w) A (.compLoop (.ListComp elt [⟨target,iter,ifs,0⟩] scope pos) 0 it acc env) R s:=by
 refine codeAny_loop rfl I (fun n s hI=>?_) n h;show wpAny _ A ((compTurn (.ListComp elt [⟨target,iter,ifs,0⟩] scope pos) 0 it acc env).onRaise (fun x=>do noteFrame x env;theTreesLotGoes x)) _ _ s;refine wpAny_noted ?_;rw [compTurn_list];refine zaa (wpAny_standAt (zaa (zaB (turn n s hI) (fun r s₁ h₁=>?_) fun _ _ h'=>h'.elim)));cases r with
 | none=>exact zac h₁
 | some v =>
   refine zaa (zaB h₁ (fun _ s₀ h₀=>?_) fun _ _ h'=>h'.elim);refine zaa (zaB h₀ (fun _ s₂ h₂=>zaa (zaB h₂ (fun ok s₃ h₃=>?_) fun _ _ h'=>h'.elim)) fun _ _ h'=>h'.elim);cases ok with
   | false=>exact zac ⟨rfl,h₃⟩
   | true =>
     exact zaa (zaa (zaB h₃ (fun x s₄ h₄=>zaa (zaB h₄ (fun _ s₅ h₅=>zac (zac ⟨rfl,h₅⟩)) fun _ _ h'=>h'.elim)) fun _ _ h'=>h'.elim))
end
theorem Zdj {env:Env}:∀ (names:List (Str × NameKind)) (acc:List (Str × Addr)),(∀ z∈names,z.2=.free->∃ c,env.cells.lookup z.1=some c) ->
   ∃ cl,(forIn names acc fun x r=>if (x.2==NameKind.free)=true then do let a <- cellOf env x.1;pure (ForInStep.yield ((x.1,a)::r)) else pure (ForInStep.yield r):Sem (List (Str × Addr)))=pure cl /\
     (∀ y c,cl.lookup y=some c->acc.lookup y=some c\/env.cells.lookup y=some c)/\(∀ y,((∃ c,acc.lookup y=some c)\/(y,NameKind.free)∈names)->∃ c,cl.lookup y=some c)
 | [],acc,_=>⟨acc,by rw [List.forIn_nil],fun _ _ h=>.inl h,fun y h=>by
     rcases h with h | h
     . exact h
     . simp at h⟩
 | (n, k)::r,acc,h=>by
   have hr:∀ z∈r,z.2=.free->∃ c,env.cells.lookup z.1=some c:=fun z hz=>h z (yaM _ hz)
   by_cases hk:k=.free
   . subst hk
     obtain ⟨c,hc⟩:=h (n,.free) yaK rfl;obtain ⟨cl,e,h1,h2⟩:=Zdj r ((n,c)::acc) hr;refine ⟨cl,?_,fun y d hd=>?_,fun y hy=>?_⟩
     . rw [List.forIn_cons]
       have e1:cellOf env n=pure c:=by unfold cellOf;rw [hc]
       simp only [beq_self_eq_true,zaT,e1,pure_bind];exact e
     . rcases h1 y d hd with z | z
       . rw [yba] at z
         cases hy:y==n with
         | true =>
           rw [hy] at z;have:y=n:=by simpa using hy
           subst this;cases z;exact .inr hc
         | false=>rw [hy] at z;exact .inl z
       . exact .inr z
     . refine h2 y ?_
       rcases hy with ⟨d,hd⟩ | hy
       . cases q:y==n with
         | true=>exact .inl ⟨c,by rw [yba,q]⟩
         | false=>exact .inl ⟨d,by rw [yba,q];exact hd⟩
       . rcases yaj.mp hy with z | z
         . cases z
           exact .inl ⟨c,by rw [yba,beq_self_eq_true]⟩
         . exact .inr z
   . obtain ⟨cl,e,h1,h2⟩:=Zdj r acc hr
     refine ⟨cl,?_,h1,fun y hy=>h2 y ?_⟩
     . rw [List.forIn_cons]
       have:(k==NameKind.free)=false:=by simpa using hk
       simp only [this,yaF,zay,pure_bind];exact e
     . rcases hy with z | z
       . exact .inl z
       . rcases yaj.mp z with q | q
         . cases q
           exact absurd rfl hk
         . exact .inr q
theorem Zix {env:Env}(h:∀ z∈scope.names,z.2=.free->∃ c,env.cells.lookup z.1=some c) :
   ∃ cl,closureFor scope env=pure cl/\(∀ y c,cl.lookup y=some c->env.cells.lookup y=some c)/\∀ y,(y,NameKind.free)∈scope.names->∃ c,cl.lookup y=some c:=by
 obtain ⟨cl,e,h1,h2⟩:=Zdj (env:=env) scope.names [] h;refine ⟨cl,?_,fun y c hc=>?_,fun y hy=>h2 y (.inr hy)⟩
 . unfold closureFor
   exact (congrArg (fun m:Sem (List (Str × Addr))=>m >>= fun cs=>pure cs) e).trans (pure_bind _ _)
 . rcases h1 y c hc with z | z
   . cases z
   . exact z
def compX (X:Cx)(scope:Scope)(own:List Str)(caps:List Nat)(cl:List (Str × Addr))(C:Addr)(s₃:Shared)(H₃:Hp)(fp:List Addr):Cx :=
 { X with env:=compEnvC scope cl C X.env,N:=own++caps.map fun j=>X.N.getD j Str.empty,s₀:=s₃,H₀:=H₃,outer:=X.stack,stack:=X.stack,ex:=fp,fn:=fun _=>false,pn:=[],xe:=fun _ _=>False }
def capSt (n:Nat)(caps:List Nat)(σ:St):St:=List.replicate n none++caps.map fun j=>σ.getD j none
def compOk (sc osc:Scope):Bool :=
 (sc.kind==.function)&&sc.names.all fun z=>match z.2 with
   | .cell=>false
   | .local=>sc.names.lookup z.1==some .local
   | .free=>osc.names.lookup z.1==some .cell||osc.names.lookup z.1==some .free
   | _=>true
def capOk (X:Cx)(sc:Scope):List Nat->Prop
 | []=>True
 | j::r=>(∃ y,X.N[j]?=some y/\sc.names.lookup y=some .free/\(X.env.scope.names.lookup y=some .cell\/X.env.scope.names.lookup y=some .free))/\capOk X sc r
def gOwn (n:Nat)(g:TG):Prop:=∀ v σ H Q,g v σ H Q->g v σ H fun σ' H'=>(σ'.length=σ.length/\σ'.drop n=σ.drop n)/\Q σ' H'
theorem ZaY:gOwn 1 (gName 0):=fun v σ H Q h=>⟨⟨by simp,by cases σ<;>simp⟩,h⟩
def tNoTest:TT:=fun _ H Q=>Q true H
def tComp (n:Nat) (caps:List Nat) (wi:TI) (g:TG) (tt:TT) (te:TE):TE:=fun σ H Q=>wi σ H fun J H1=>∀ D,H1 D=none->∃ W:Nat->Nat->Hp->Prop,(∃ m,W 0 m (upd H1 D (.lst [])))/\∀ i m H2,W i m H2 ->
 (J.stop i H2/\Q (.ref D) H2)\/(J.go i H2/\∀ x H3,J.yld i H2 x H3->g x (capSt n caps σ) H3 fun σ4 H4=>tt σ4 H4 fun b H5 =>
   if b=true then te σ4 H5 fun y H6=>∃ xs,H6 D=some (.lst xs)/\xs.length<sizeLine/\∃ m',m'<m/\W (i+1) m' (upd H6 D (.lst (xs++[y]))) else ∃ m',m'<m/\W (i+1) m' H5)
def PTs (X:Cx) (ifs:List Expr) (t:TT):Prop :=
 ∀ (pins:List (Addr × Obj)) (s:Shared) (σ:St) (H:Hp) (Q:Bool->Hp->Prop),Inv X pins σ H s->t σ H Q ->
   wpAny (model X.prog X.w) X.A (forIn ifs true fun c r=>if r=true then do let ok <- isTrue c X.env (eval c X.env);pure (ForInStep.yield ok) else pure (ForInStep.yield r)) (TP X pins σ Q) X.xe s
theorem ZdG:PTs X [] tNoTest:=fun _ _ _ H _ I h=>wpAny_tests_nil ⟨H,I,h⟩
theorem Zd5 {c:Expr}{t:TT}(h:PT X c t):PTs X [c] t:=fun pins s σ H Q I q=>wpAny_tests_one (h pins s σ H Q I q)
theorem ZbO {env:Env}:∀ {names:List (Str × NameKind)} {x:Str} {k:NameKind},names.lookup x=some k ->
   (names.map fun (n,k)=>if (k==NameKind.free&&env.scope.kind==.function&&env.kindOf n==some .cell) then (n,NameKind.cell) else (n,k)).lookup x=some (if (k==NameKind.free&&env.scope.kind==.function&&env.kindOf x==some .cell) then NameKind.cell else k)
 | [],_,_,h=>by simp at h
 | (n,k')::r,x,k,h=>by
   have ih:=@ZbO env r x k;show List.lookup x ((if (k'==NameKind.free&&env.scope.kind==.function&&env.kindOf n==some .cell)=true then (n,NameKind.cell) else (n,k'))::_)=_;cases hx:x==n with
   | true =>
     simp only [yba,hx] at h;cases h;have:x=n:=by simpa using hx
     subst this;split<;>simp [yba]
   | false =>
     simp only [yba,hx] at h;split
     . simp only [yba,hx];exact ih h
     . simp only [yba,hx];exact ih h
theorem Zbi {env:Env}:∀ {names:List (Str × NameKind)} {x:Str} {k:NameKind},
   (names.map fun (n,k)=>if (k==NameKind.free&&env.scope.kind==.function&&env.kindOf n==some .cell) then (n,NameKind.cell) else (n,k)).lookup x=some k ->
   ∃ k',(x,k')∈names/\(k=k'\/(k'=.free/\k=.cell))
 | [],_,_,h=>by simp at h
 | (n, k')::r,x,k,h=>by
   have ih:=@Zbi env r x k;rw [yaC] at h;cases hc:(k'==NameKind.free&&env.scope.kind==.function&&env.kindOf n==some .cell) with
   | true =>
     simp only [hc,zaT,yba] at h;cases hx:x==n with
     | true =>
       simp only [hx,zaV] at h;have e:x=n:=by simpa using hx
       have:k'=.free:=by simp only [ybE,za0] at hc;exact hc.1.1
       exact ⟨.free,by rw [e,<- this];exact yaK,.inr ⟨rfl,h.symm⟩⟩
     | false =>
       simp only [hx] at h;obtain ⟨q,m,z⟩:=ih h;exact ⟨q,yaM _ m,z⟩
   | false =>
     simp only [hc,yaF,zay,yba] at h;cases hx:x==n with
     | true =>
       simp only [hx,zaV] at h;have e:x=n:=by simpa using hx
       exact ⟨k',by rw [e];exact yaK,.inl h.symm⟩
     | false =>
       simp only [hx] at h;obtain ⟨q,m,z⟩:=ih h;exact ⟨q,yaM _ m,z⟩
theorem Zeb {osc:Scope}(h:compOk sc osc=true):sc.kind=.function:=by unfold compOk at h;simp only [ybE,za0] at h;exact h.1
theorem Zgt {osc:Scope}(h:compOk sc osc=true):∀ z∈sc.names,(match z.2 with
   | .cell=>false
   | .local=>sc.names.lookup z.1==some .local
   | .free=>osc.names.lookup z.1==some .cell||osc.names.lookup z.1==some .free
   | _=>true)=true:=by
 unfold compOk at h;simp only [ybE] at h;exact List.all_eq_true.mp h.2
theorem Zg6 {osc:Scope}(h:compOk sc osc=true):∀ z∈sc.names,z.2≠.cell:=fun z hz e=>by
 have:=Zgt h z hz;rw [e] at this;cases this
theorem Zjd {osc:Scope}(h:compOk sc osc=true):∀ z∈sc.names,z.2=.local->sc.names.lookup z.1=some .local:=fun z hz e=>by
 have:=Zgt h z hz;rw [e] at this;simpa using this
theorem cok_free {osc:Scope}(h:compOk sc osc=true):∀ z∈sc.names,z.2=.free->osc.names.lookup z.1=some .cell\/osc.names.lookup z.1=some .free:=fun z hz e=>by
 have:=Zgt h z hz;rw [e] at this;simpa using this
theorem capOk.get:∀ {caps:List Nat} {j:Nat},capOk X sc caps->j∈caps->∃ y,X.N[j]?=some y/\sc.names.lookup y=some .free/\(X.env.scope.names.lookup y=some .cell\/X.env.scope.names.lookup y=some .free)
 | [],_,_,h=>by simp at h
 | i::r,j,h,hj=>by
   rcases yaj.mp hj with e | e
   . subst e;exact h.1
   . exact h.2.get e
theorem Zdb {x:Str}{k:NameKind}:∀ {l:List (Str × NameKind)},l.lookup x=some k->(x,k)∈l
 | [],h=>by simp at h
 | (n,k')::r,h=>by
   rw [yba] at h;cases hx:x==n with
   | true =>
     simp only [hx,zaV] at h;have e:x=n:=by simpa using hx
     rw [e,h];exact yaK
   | false =>
     simp only [hx] at h;exact yaM _ (Zdb h)
section
variable {H2:Hp}{s2:Shared}{own:List Str}
theorem Zf6 {n:Nat}{i:Nat}{v:V}(h:(capSt n caps σ)[i]?=some (some v)):n<=i/\∃ j,caps[i-n]?=some j/\σ[j]?=some (some v):=by
 unfold capSt at h;rw [List.getElem?_append] at h;split at h
 . rename_i hl
   rw [List.length_replicate] at hl;rw [List.getElem?_replicate,if_pos hl] at h;cases h
 . rename_i hl
   rw [List.length_replicate] at h hl;refine ⟨by omega,?_⟩;rw [yav] at h;cases q:caps[i-n]? with
   | none=>rw [q] at h;cases h
   | some j =>
     rw [q] at h;refine ⟨j,rfl,?_⟩;have h:σ.getD j none=some v:=Option.some.inj h;rw [yat] at h;cases z:σ[j]? with
     | none=>rw [z] at h;cases h
     | some o=>rw [z] at h;exact congrArg some h
theorem Inv.comp {n:Nat} {cl:List (Str × Addr)} {h4:Heap} {tk:Nat}
   (I2:Inv X pins σ H2 s2) (hok:compOk scope X.env.scope=true) (hcap:capOk X scope caps) (hown:own.length=n)
   (cl1:∀ y c,cl.lookup y=some c->X.env.cells.lookup y=some c) (cl2:∀ y,(y,NameKind.free)∈scope.names->∃ c,cl.lookup y=some c)
   (hfp:∀ b∈fp,FpOk X pins H2 b) (hobj:∀ b∈fp,b<s2.heap.objs.size) (hC:C=s2.heap.objs.size) (hn:h4.Ns C fun _=>none)
   (hsb:∀ b o,s2.heap.get? b=some o->h4.get? b=some o) :
   Inv (compX X scope own caps cl C s2 H2 fp) [] (capSt n caps σ) H2 { s2 with heap:=h4,toks:=tk }:=by
 have hkind:=Zeb hok;have ok':(compX X scope own caps cl C s2 H2 fp).Ok:=by
   refine ⟨I2.ok.mod,hkind,I2.ok.glob,I2.ok.blt,by rw [hC];exact yag _,fun x y c h1 h2=>I2.ok.inj x y c (cl1 x c h1) (cl1 y c h2),fun x hx=>?_,fun x c h=>(by cases h),I2.ok.hd,I2.ok.frames,.inl rfl,fun b hb=>⟨?_,fun x c h=>(hfp b hb).2.2.2.2.1 x c (cl1 x c h)⟩,I2.bs,?_,fun b o e hb=>?_,fun b hb hf=>?_,I2.stack,I2.stkFree⟩
   . have:∃ k',(x,k')∈scope.names/\(k'=.cell\/k'=.free):=by
       rcases hx with hx | hx
       . obtain ⟨k',m,z⟩:=Zbi (env:=X.env) (names:=scope.names) (x:=x) (k:=.cell) hx
         rcases z with z | z
         . exact ⟨k',m,.inl z.symm⟩
         . exact ⟨k',m,.inr z.1⟩
       . obtain ⟨k',m,z⟩:=Zbi (env:=X.env) (names:=scope.names) (x:=x) (k:=.free) hx
         rcases z with z | z
         . exact ⟨k',m,.inr z.symm⟩
         . cases z.2
     obtain ⟨k',m,z | z⟩:=this
     . subst z;exact absurd rfl (Zg6 hok _ m)
     . subst z;exact cl2 x m
   . show b≠C
     rw [hC];exact yaE (hobj b hb)
   . exact yaN I2.ok.bsz (yaN I2.ok.above (ybF I2.lt))
   . rcases (hfp b hb).2.2.2.1 with z | z
     . exact I2.ok.noex b o e z
     . exact absurd (yay (zad e) (yaN I2.ok.bsz z)) (ybs _)
   . rcases yaj.mp (I2.stkSub b hf) with z | z
     . exact (hfp b hb).2.1 z
     . exact (hfp b hb).2.2.1 z
 have hCn:H2 C=none:=I2.hok.fresh (by rw [hC];exact yag _);refine ⟨ok',rfl,I2.bare,Un.kept hsb,⟨_,hn,fun i x v e1 e2 e3=>?_⟩,fun x c e=>?_,hCn,fun x c e=>I2.freeC x c (cl1 x c e),fun p hp=>(by cases hp),I2.hok.kept hsb,?_⟩
 . obtain ⟨hi,j,hj,hv⟩:=Zf6 e2
   have e1:(own++caps.map fun j=>X.N.getD j Str.empty)[i]?=some x:=e1;rw [yai (by rw [hown];exact hi),yav,hown,hj] at e1;have e1:X.N.getD j Str.empty=x:=Option.some.inj e1;obtain ⟨y,hy,hfree,hout⟩:=hcap.get (yao hj);rw [yat,hy] at e1;have e1:y=x:=e1;subst e1;obtain ⟨m,hm,hl⟩:=I2.loc;obtain ⟨u,r,l⟩:=hl j y v hy hv (.inr hout);refine ⟨u,r,.inr ⟨?_,?_⟩⟩
   . have:=ZbO (env:=X.env) hfree
     show (relabel scope X.env).names.lookup y=some .cell\/(relabel scope X.env).names.lookup y=some .free;unfold relabel;rw [this];split
     . exact .inl rfl
     . exact .inr rfl
   . obtain ⟨c,hc⟩:=cl2 y (Zdb hfree)
     refine ⟨c,hc,?_⟩;rcases l with ⟨k,_⟩ | ⟨_,c',hc',hcell⟩
     . have k:X.env.scope.names.lookup y=some .local:=k
       rcases hout with z | z<;>(rw [k] at z;cases z)
     . rw [cl1 y c hc] at hc'
       cases hc';obtain ⟨o,ho,hd⟩:=hcell;exact ⟨o,hsb _ _ ho,hd⟩
 . obtain ⟨v,o,ho,hd⟩:=I2.cell x c (cl1 x c e)
   exact ⟨v,o,hsb _ _ ho,hd⟩
 . show (capSt n caps σ).length=(own++caps.map fun j=>X.N.getD j Str.empty).length
   unfold capSt;rw [yac,yac,List.length_replicate,yad,yad,hown]
theorem Zgf {n:Nat} {iter elt:Expr} {ifs:List Expr} {pos:Pos} {it:Addr} {tn:Nat->Heap->Prop} {J:It} {cl:List (Str × Addr)} {g:TG} {tt:TT} {RR:Value->Addr->Result->Shared->Prop} {Q:VK}
   (hc:X.calm=true) (I2:Inv X pins σ H2 s2) (T:Turn X.prog X.w X.K tg J fp it tn) (st2:tn 0 s2.heap) (f2:∀ b∈fp,FpOk X pins H2 b)
   (hok:compOk scope X.env.scope=true) (hcap:capOk X scope caps) (hown:own.length=n) (hgo:gOwn n g)
   (cl1:∀ y c,cl.lookup y=some c->X.env.cells.lookup y=some c) (cl2:∀ y,(y,NameKind.free)∈scope.names->∃ c,cl.lookup y=some c)
   (hg:∀ C s₃ H₃,PG (compX X scope own caps cl C s₃ H₃ fp) tg g) (ht:∀ C s₃ H₃,PTs (compX X scope own caps cl C s₃ H₃ fp) ifs tt) (he:∀ C s₃ H₃,PE (compX X scope own caps cl C s₃ H₃ fp) elt te)
   (h:∀ D,H2 D=none->∃ W:Nat->Nat->Hp->Prop,(∃ m,W 0 m (upd H2 D (.lst [])))/\∀ i m H2,W i m H2 ->
     (J.stop i H2/\Q (.ref D) H2)\/(J.go i H2/\∀ x H3,J.yld i H2 x H3->g x (capSt n caps σ) H3 fun σ4 H4=>tt σ4 H4 fun b H5 =>
       if b=true then te σ4 H5 fun y H6=>∃ xs,H6 D=some (.lst xs)/\xs.length<sizeLine/\∃ m',m'<m/\W (i+1) m' (upd H6 D (.lst (xs++[y]))) else ∃ m',m'<m/\W (i+1) m' H5))
   (hRR:∀ D C s' H' m,s'.heap.Ns C m->Inv X pins σ H' s'->FpOk X pins H' C->Q (.ref D) H'->RR (.ref D) C (.ok .next) s') :
   wpAny (model X.prog X.w) X.A (newList []) (fun acc s₃=>wpAny (model X.prog X.w) X.A (newFunctionEnv scope X.env.globals cl [] X.env.qual none .none (some X.env)) (fun cenv s₄ =>
     codeAny (model X.prog X.w) X.A (.compStart (.ListComp elt [⟨tg,iter,ifs,0⟩] scope pos) 0 (.ref it) acc { cenv with scope:=relabel scope X.env }) (RR acc cenv.locals) s₄) E s₃) E s2:=by
 refine wpAny_newList (items:=[]) (wpAny_newFunctionEnv (Zg6 hok) (by intro y hy;simp at hy) (fun h₁ hns₁ hsb₁=>?_) (Zeb hok)) (by show 0<=sizeLine;decide);obtain ⟨W,⟨m0,w0⟩,turn⟩:=h s2.heap.objs.size I2.fresh;have I3:Inv X pins σ (upd H2 s2.heap.objs.size (.lst [])) { s2 with heap:=s2.heap.push { cls:=.type "list",data:=.seq ([]:List Value).toArray } }:=I2.lnew (t':=s2.toks) .nil (by show 0<=sizeLine;decide);generalize hs3:({ s2 with heap:=s2.heap.push { cls:=.type "list",data:=.seq ([]:List Value).toArray } }:Shared)=s₃ at *;have e3:s₃.heap.objs.size=s2.heap.objs.size+1:=by rw [<- hs3];exact zaI _ _
 have k23:∀ b o,s2.heap.get? b=some o->s₃.heap.get? b=some o:=fun b o e=>by rw [<- hs3];exact zab _ e
 have hold:∀ b o,s₃.heap.get? b=some o->h₁.get? b=some o:=fun b o e=>(hsb₁.2 b (yaE (zad e))).trans (zab _ e)
 have lt2:∀ b∈fp,b<s2.heap.objs.size:=fun b hb=>by
   obtain ⟨o,e,_⟩:=T.obj _ _ st2 b hb;exact zad e
 have f3:∀ b∈fp,FpOk X pins (upd H2 s2.heap.objs.size (.lst [])) b:=fun b hb=>by
   obtain ⟨z,r⟩:=f2 b hb;exact ⟨by rw [Zai (yaE (lt2 b hb))];exact z,r⟩
 have tn1:tn 0 h₁:=T.keep _ _ _ st2 fun b hb o e=>hold b o (k23 b o e)
 have I4:=Inv.comp (own:=own) (caps:=caps) (n:=n) (fp:=fp) (cl:=cl) (h4:=h₁) (tk:=s₃.toks+([]:List (Str × Value)).length) I3 hok hcap hown cl1 cl2 f3 (fun b hb=>by rw [e3];exact ybd (lt2 b hb)) rfl (by simpa using hns₁) hold;have hXok:=I4.ok;have loop:codeAny (model X.prog X.w) X.A (.compLoop (.ListComp elt [⟨tg,iter,ifs,0⟩] scope pos) 0 (.ref it) (.ref s2.heap.objs.size) (compEnvC scope cl s₃.heap.objs.size X.env)) (RR (.ref s2.heap.objs.size) s₃.heap.objs.size) { s₃ with heap:=h₁,toks:=s₃.toks+([]:List (Str × Value)).length }:=by
   generalize hX:compX X scope own caps cl s₃.heap.objs.size s₃ (upd H2 s2.heap.objs.size (.lst [])) fp=X' at I4 hXok;have eP:X'.prog=X.prog:=by rw [<- hX];rfl
   have eW:X'.w=X.w:=by rw [<- hX];rfl
   have eK:X'.K=X.K:=by rw [<- hX];rfl
   have eA:X'.A=X.A:=by rw [<- hX];rfl
   have eC:X'.calm=true:=by rw [<- hX];exact hc
   have eE:X'.env=compEnvC scope cl s₃.heap.objs.size X.env:=by rw [<- hX];rfl
   have eL:X'.env.locals=s₃.heap.objs.size:=by rw [eE];rfl
   have eX:X'.xe=fun _ _=>False:=by rw [<- hX];rfl
   have ePn:X'.pn=[]:=by rw [<- hX];rfl
   have eEx:X'.ex=fp:=by rw [<- hX];rfl
   have eFs:X'.fs=frs X.stack:=by rw [<- hX];rfl
   have hg':=hg s₃.heap.objs.size s₃ (upd H2 s2.heap.objs.size (.lst []));have ht':=ht s₃.heap.objs.size s₃ (upd H2 s2.heap.objs.size (.lst []));have he':=he s₃.heap.objs.size s₃ (upd H2 s2.heap.objs.size (.lst []));have eS0:X'.s₀=s₃:=by rw [<- hX];rfl
   have eH0:X'.H₀=upd H2 s2.heap.objs.size (.lst []):=by rw [<- hX];rfl
   rw [hX] at hg' ht' he';have fpOk:∀ {H':Hp} (b:Addr),b∈fp->H' b=none->FpOk X' [] H' b:=fun b hb hn=>by
     refine ⟨hn,(hXok.exf b (eEx ▸ hb)).1,hXok.exfs b (eEx ▸ hb),.inl (eEx ▸ hb),(hXok.exf b (eEx ▸ hb)).2,fun p hp=>?_⟩;rw [ePn] at hp;cases hp
   rw [<- eP,<- eW,<- eA,<- eE];refine Zgn (fun n' s'=>∃ i H',Inv X' [] (capSt n caps σ) H' s'/\tn i s'.heap/\(∀ b∈fp,H' b=none)/\W i n' H') ?_ m0 ⟨0,_,I4,tn1,fun b hb=>(f3 b hb).1,w0⟩;rintro k s5 ⟨i,H5,I5,t5,fr5,w5⟩;have weaken:∀ {σ':St} {H':Hp} {s':Shared} {pl:List (Addr × Obj)},Inv X' pl σ' H' s'->σ'.length=(capSt n caps σ).length->σ'.drop n=(capSt n caps σ).drop n->Inv X' [] (capSt n caps σ) H' s':=fun {σ' H' s' pl} I' hl hd=>by
     have I'':Inv X' [] σ' H' s':=I'.pins_of fun p hp=>by cases hp
     refine I''.weak hl.symm fun j v e=>?_
     have hj:=(Zf6 e).1;have q1:(σ'.drop n)[j-n]?=σ'[j]?:=by rw [List.getElem?_drop];congr 1;omega
     have q2:((capSt n caps σ).drop n)[j-n]?=(capSt n caps σ)[j]?:=by rw [List.getElem?_drop];congr 1;omega
     rw [<- q1,hd,q2];exact e
   rcases turn i k H5 w5 with ⟨stop,qn⟩ | ⟨go,step⟩
   . have z:=T.done X' eP eW eK eC i [] s5 (capSt n caps σ) H5 (fun _ _=>False) I5 (fun b hb=>fpOk b hb (fr5 b hb)) t5 stop
     rw [<- eP,<- eW] at z;refine thn z fun r s6 ⟨hr,I6⟩=>?_
     subst hr;obtain ⟨m,hm,_⟩:=I6.loc;have ub:Un (frs X.stack) fp (upd H2 s2.heap.objs.size (.lst [])) H5 s₃.heap s6.heap:=by have z:=I6.base;rw [eFs,eEx,eS0,eH0] at z;exact z
     have u23:Un (frs X.stack) fp H2 (upd H2 s2.heap.objs.size (.lst [])) s2.heap s₃.heap:=Un.laid k23 (yag _) I2.fresh;have os6:s6.os=s2.os:=by rw [I6.os,eS0,<- hs3]
     have hokk:HOk X.prog X.w H5 s6.heap:=by have z:=I6.hok;rw [eP,eW] at z;exact z
     have Iend:Inv X pins σ H5 s6:=I2.call' os6 (u23.trans ub) hokk I6.bare fun b hb=>⟨(f2 b hb).2.2.2.1,(f2 b hb).2.1,(f2 b hb).2.2.2.2.1,(f2 b hb).2.2.2.2.2⟩
     have hCn:H5 s₃.heap.objs.size=none:=by have z:=I6.free;rw [eL] at z;exact z
     rw [eL] at hm;exact hRR _ _ s6 H5 m hm Iend (I3.fpOk (yag _) hCn) qn
   . have z:=T.item X' eP eW eK eC i [] s5 (capSt n caps σ) H5 (fun _ _=>False) I5 (fun b hb=>fpOk b hb (fr5 b hb)) t5 go
     rw [<- eP,<- eW] at z;refine thn z fun r s6 ⟨u,hr,h6⟩=>?_
     subst hr;refine thn h6 fun _ s7 ⟨x,H7,I7,r7,y7,t7,fr7⟩=>?_
     have I7':=I7.pinned (fun b hb=>fpOk b hb (fr7 b hb)) (T.obj _ _ t7);have pinD:∀ {σ':St} {H':Hp} {s':Shared},Inv X' ([]++pinsAt fp s7.heap) σ' H' s'->tn (i+1) s'.heap/\∀ b∈fp,H' b=none:=fun {σ' H' s'} I'=>by
       have pin:∀ b∈fp,∀ o,s7.heap.get? b=some o->s'.heap.get? b=some o/\H' b=none:=fun b hb o e=>by
         have z:=I'.pin (b,o) (yaI _ (yaI _ (ZdK hb e)));exact ⟨z.1,z.2.1⟩
       refine ⟨T.keep _ _ _ t7 fun b hb o e=>(pin b hb o e).1,fun b hb=>?_⟩;obtain ⟨o,e,_⟩:=T.obj _ _ t7 b hb;exact (pin b hb o e).2
     have xf:∀ {α:Type} {t:Sem α} {Q':α->Shared->Prop} {s':Shared},wpAny (model X'.prog X'.w) X'.A t Q' X'.xe s'->wpAny (model X'.prog X'.w) X'.A t Q' (fun _ _=>False) s':=fun z=>by rw [eX] at z;exact z
     refine thn (xf (hg' _ s7 (capSt n caps σ) H7 x u _ I7' r7 (hgo _ _ _ _ (step x H7 y7)))) fun _ s8 ⟨σ8,H8,I8,⟨l8,d8⟩,q8⟩=>?_
     refine thn (xf (ht' _ s8 σ8 H8 _ I8 q8)) fun b s9 ⟨H9,I9,q9⟩=>?_
     cases b with
     | false =>
       rw [if_neg yaL];obtain ⟨m',hm,w9⟩:=(show ∃ m',m'<k/\W (i+1) m' H9 by simpa using q9)
       obtain ⟨t9,fr9⟩:=pinD I9;exact ⟨m',hm,i+1,H9,weaken I9 l8 d8,t9,fr9,w9⟩
     | true =>
       rw [if_pos rfl];rw [if_pos rfl] at q9;refine thn (xf (he' _ s9 σ8 H9 _ I9 q9)) fun v s10 ⟨y,H10,I10,r10,xs,hD,hlen,m',hm,w10⟩=>?_
       refine thn (xf (ZcL _ s10 σ8 H10 (.ref s2.heap.objs.size) [y] (.ref s2.heap.objs.size) [v] (fun _ H'=>H'=upd H10 s2.heap.objs.size (.lst (xs++[y]))) I10 rfl (.cons r10 .nil) ⟨_,xs,y,rfl,rfl,hD,hlen,rfl⟩)) fun _ s11 ⟨_,H11,I11,_,e11⟩=>?_
       subst e11;obtain ⟨t11,fr11⟩:=pinD I11;exact ⟨m',hm,i+1,_,weaken I11 l8 d8,t11,fr11,w10⟩
 exact codeAny_compStart_list loop (T.self _ 0 _ _ _ tn1 loop)
theorem Inv.closure (I:Inv X pins σ H2 s2)(hok:compOk scope X.env.scope=true):∃ cl,closureFor scope X.env=pure cl/\(∀ y c,cl.lookup y=some c->X.env.cells.lookup y=some c)/\∀ y,(y,NameKind.free)∈scope.names->∃ c,cl.lookup y=some c :=
 Zix fun z hz e=>I.ok.has z.1 (cok_free hok z hz e)
end
section
variable {iter elt:Expr}{ifs:List Expr}{pos:Pos}{wi:TI}{g:TG}{tt:TT}{n:Nat}
theorem ZbQ (own:List Str)(caps:List Nat)(hc:X.calm=true)(hi:PI X tg iter wi)(hg:∀ cl C s₃ H₃ fp,PG (compX X scope own caps cl C s₃ H₃ fp) tg g)(ht:∀ cl C s₃ H₃ fp,PTs (compX X scope own caps cl C s₃ H₃ fp) ifs tt)
   (he:∀ cl C s₃ H₃ fp,PE (compX X scope own caps cl C s₃ H₃ fp) elt te) (hcap:capOk X scope caps) (hgo:gOwn own.length g) (hok:compOk scope X.env.scope=true:=by rfl)
   (hs:∀ x,foldedSetIterable iter X.env x=pure x:=by intro _;rfl):PE X (.ListComp elt [⟨tg,iter,ifs,0⟩] scope pos) (tComp own.length caps wi g tt te):=by
 intro pins s σ H Q I h;obtain ⟨cl,hcl,cl1,cl2⟩:=I.closure hok;rw [eval_ListComp];refine wpAny_comprehension_free (use:=none) rfl hs hcl (Zeb hok) (Zjd hok) (thn (hi pins s σ H _ I h) fun v s1 h1=>thn h1 fun itv s2 h2=>?_);obtain ⟨it,fp,tn,J,H2,e,I2,T,st2,f2,h3⟩:=h2;subst e;refine Zgf (RR:=fun acc C=>compPost (model X.prog X.w) X.A X.xe none (EP X pins σ Q) acc C) (own:=own) (caps:=caps) (n:=own.length) (Q:=Q) hc I2 T st2 f2 hok hcap rfl hgo cl1 cl2 (fun C s₃ H₃=>hg cl C s₃ H₃ fp) (fun C s₃ H₃=>ht cl C s₃ H₃ fp) (fun C s₃ H₃=>he cl C s₃ H₃ fp) h3 ?_;intro D C s' H' m hm I' hC q;refine ⟨m,hm,fun h' hsb=>⟨.ref D,H',?_,rfl,q⟩⟩;exact I'.turned (it:=C) (t':=s'.toks) (fun b o hb e=>(hsb.2 b hb).trans e) hC.1 hC.2.1 hC.2.2.2.1 hC.2.2.2.2.1 hC.2.2.2.2.2
theorem Zfh {i:Nat}{x:Str}{spos:Pos}(own:List Str)(caps:List Nat)(hN:X.N.Nodup)(hx0:X.N[i]?=some x)(hx:Loc X.env.scope x)(hc:X.calm=true)(hi:PI X tg iter wi)(hg:∀ cl C s₃ H₃ fp,PG (compX X scope own caps cl C s₃ H₃ fp) tg g)(ht:∀ cl C s₃ H₃ fp,PTs (compX X scope own caps cl C s₃ H₃ fp) ifs tt)
   (he:∀ cl C s₃ H₃ fp,PE (compX X scope own caps cl C s₃ H₃ fp) elt te) (hcap:capOk X scope caps) (hgo:gOwn own.length g) (hok:compOk scope X.env.scope=true:=by rfl)
   (hs:∀ x,foldedSetIterable iter X.env x=pure x:=by intro _;rfl) (hsw:swapsWith (.ListComp elt [⟨tg,iter,ifs,0⟩] scope pos) (some (.Name x pos')) spos.line X.env=pure true:=by rfl)
   (hf:X.fn x=true\/X.env.scope.names.lookup x=some .local:=by first | exact .inl rfl | exact .inr rfl | assumption):PS X (.Assign [.Name x pos'] (.ListComp elt [⟨tg,iter,ifs,0⟩] scope pos) spos) (tAsg (tComp own.length caps wi g tt te) (gName i)):=by
 intro pins s σ H D I h;obtain ⟨cl,hcl,cl1,cl2⟩:=I.closure hok;rw [exec_Assign_Name_used _ _ _ _ hsw];refine zaa (wpAny_standAt (zaa ?_));show wpAny _ _ (do let _ <- comprehension (.ListComp elt [⟨tg,iter,ifs,0⟩] scope pos) scope X.env _ (newList []) false (eval iter X.env) (some (assign (.Name x pos') X.env))) _ _ s;refine zaa (zaB (wpAny_comprehension_free (use:=some (assign (.Name x pos') X.env)) (Q:=fun _ s'=>SP X pins D .next s') rfl hs hcl (Zeb hok) (Zjd hok)
   (thn (hi pins s σ H _ I h) fun v s1 h1=>thn h1 fun itv s2 h2=>?_)) (fun _ s' hq=>zac (zac hq)) fun _ _ e=>e)
 obtain ⟨it,fp,tn,J,H2,e,I2,T,st2,f2,h3⟩:=h2;subst e;refine Zgf (RR:=fun acc C=>compPost (model X.prog X.w) X.A X.xe (some (assign (.Name x pos') X.env)) (fun _ s'=>SP X pins D .next s') acc C) (own:=own) (caps:=caps) (n:=own.length) (Q:=fun x H1=>gName i x σ H1 D.nx) hc I2 T st2 f2 hok hcap rfl hgo cl1 cl2 (fun C s₃ H₃=>hg cl C s₃ H₃ fp) (fun C s₃ H₃=>ht cl C s₃ H₃ fp) (fun C s₃ H₃=>he cl C s₃ H₃ fp) h3 ?_;intro A' C s' H' m hm I' hC q;obtain ⟨o,es,ep,ho,hd,r⟩:=id hm;have I'':Inv X (pins++[(C,o)]) σ H' s':=I'.pins_of fun p hp=>by
   rcases yaf.mp hp with z | z
   . exact I'.pin p (yaI _ z)
   . have e:p=(C,o):=by simpa using z
     subst e;exact ⟨ho,hC.1,hC.2.1,hC.2.2.1,fun v e=>by rw [hd] at e;cases e⟩
 refine thn (Za2 hN hx0 hx hf _ s' σ H' (.ref A') (.ref A') _ I'' rfl q) fun _ s2' ⟨σ2,H3',I3,q3⟩=>?_
 have p3:=I3.pin (C,o) (yaI _ (yaI _ (by simp)));refine ⟨m,⟨o,es,ep,p3.1,hd,r⟩,fun h' hsb=>⟨σ2,H3',?_,q3⟩⟩;exact (I3.unpinned (pl:=[(C,o)])).turned (it:=C) (t':=s2'.toks) (fun b o hb e=>(hsb.2 b hb).trans e) p3.2.1 p3.2.2.1 hC.2.2.2.1 hC.2.2.2.2.1 hC.2.2.2.2.2
end
end L2
namespace L2
open PySem PySem.Spec PyProof.Rows
theorem Zdf:bootBuiltins "isinstance"=some (.builtin "isinstance"):=by decide +kernel
theorem Zf8:bootBuiltins "min"=some (.builtin "min"):=by decide +kernel
def vOf:V->Option Value
 | .ty n=>some (.type n)
 | .ref a=>some (.ref a)
 | _=>none
def rIsi (K:ZFr):List V->Hp->VK->Prop:=fun xs H Q=>∃ x y c t b,xs=[x,y]/\vOf y=some c/\TyOf K H x t/\PySem.W.kitOne K t c=some b/\Q (.bl b) H
theorem call_isi:CallR X (.builtin "isinstance") (rIsi X.K):=by
 intro pins s σ H xs us Q I r h;obtain ⟨x,y,c,t,b,rfl,hy,ht,hk,q⟩:=h;obtain ⟨u,v,rfl,ru,rv⟩:=r.two;have ev:v=c:=by
   cases y with
   | ty n=>cases (show v=Value.type n from rv);exact Option.some.inj hy
   | ref a=>cases (show v=Value.ref a from rv);exact Option.some.inj hy
   | _=>cases hy
 subst ev;exact Zjk I ru ht hk fun tk=>⟨.bl b,H,I.tok _,rfl,q⟩
theorem ZfJ {a:Int}{k:Nat}(h:a.natAbs<2^k):Builtin.Int.intBits a<=k:=by
 unfold Builtin.Int.intBits;split
 . exact yax _
 . rename_i hz
   have h0:a.natAbs≠0:=by
     intro e;have:a=0:=by omega
     subst this;exact hz rfl
   have:=(Nat.log2_lt h0).mpr h;omega
def CShl (i j:Int):Prop:=0<=j/\j<=1000000/\i.natAbs<2^1000
theorem Zbe:OpR X (binaryOp .LShift) (rI CShl fun i j=>.int (i*2^j.toNat)):=opI fun i j _ _ _ _ _ hc q=>by
 have h1:=ZfJ hc.2.2;have h2:=hc.2.1;exact lshift_int hc.1 (by omega) q
def rBitLen:V->List V->Hp->VK->Prop:=fun x vs H Q=>∃ i,x=.int i/\vs=[]/\Q (.int (Builtin.Int.intBits i)) H
theorem Zju:MtR X "int.bit_length" rBitLen:=by intro pins s σ H x vs v us Q I rx rv h;obtain ⟨i,rfl,rfl,q⟩:=h;obtain ⟨t,rfl⟩:=rx;cases rv.zero;exact call_int_bit_length ⟨.int _,H,I.tok _,⟨_,rfl⟩,q⟩
def LoopJ (J:It)(g:TG)(tb:TS)(D:Ends)(σ:St)(H:Hp):Prop:=∃ W:Nat->Nat->St->Hp->Prop,(∃ m,W 0 m σ H)/\∀ i m σ H,W i m σ H ->
 (J.stop i H/\D.nx σ H)\/(J.go i H/\∃ N:St->Hp->Prop,(∀ σ' H',N σ' H'->∃ m',m'<m/\W (i+1) m' σ' H')/\∀ x H',J.yld i H x H'->g x σ H' fun σ2 H2=>tb { D with nx:=N,ct:=N,bk:=D.nx } σ2 H2)
theorem ZiX {wi:TI}{g:TG}{tb:TS}:tFor wi g tb D σ H=wi σ H fun J H1=>LoopJ J g tb D σ H1:=rfl
theorem loopR {lo:Int}{n:Nat}{g:TG}{tb:TS}(Pv:Nat->St->Hp->Prop)(h0:Pv 0 σ H)
   (hs:∀ i σ H,i<n->Pv i σ H->g (.int (lo+i)) σ H fun σ2 H2=>tb { D with nx:=Pv (i+1),ct:=Pv (i+1),bk:=D.nx } σ2 H2) (hd:∀ σ H,Pv n σ H->D.nx σ H):LoopJ (Itr lo n) g tb D σ H:=ZjV Pv h0 hs hd
theorem loopL {a:Addr}{g:TG}{tb:TS}(Pv:Nat->St->Hp->Prop)(h0:Pv 0 σ H)(hl:∀ i σ H,i<=xs.length->Pv i σ H->SqL K H a xs)
   (hs:∀ i x σ H,xs[i]?=some x->Pv i σ H->g x σ H fun σ2 H2=>tb { D with nx:=Pv (i+1),ct:=Pv (i+1),bk:=D.nx } σ2 H2) (hd:∀ σ H,Pv xs.length σ H->D.nx σ H):LoopJ (Itl K a) g tb D σ H:=for_list Pv h0 hl hs hd
def CompJ (J:It) (n:Nat) (caps:List Nat) (g:TG) (tt:TT) (te:TE) (σ:St) (H1:Hp) (Q:VK):Prop:=∀ D,H1 D=none->∃ W:Nat->Nat->Hp->Prop,(∃ m,W 0 m (upd H1 D (.lst [])))/\∀ i m H2,W i m H2 ->
 (J.stop i H2/\Q (.ref D) H2)\/(J.go i H2/\∀ x H3,J.yld i H2 x H3->g x (capSt n caps σ) H3 fun σ4 H4=>tt σ4 H4 fun b H5 =>
   if b=true then te σ4 H5 fun y H6=>∃ xs,H6 D=some (.lst xs)/\xs.length<sizeLine/\∃ m',m'<m/\W (i+1) m' (upd H6 D (.lst (xs++[y]))) else ∃ m',m'<m/\W (i+1) m' H5)
theorem Zhx {n:Nat}{wi:TI}{g:TG}{tt:TT}{Q:VK}:tComp n caps wi g tt te σ H Q=wi σ H fun J H1=>CompJ J n caps g tt te σ H1 Q:=rfl
theorem compPure {J:It} {m n:Nat} {g:TG} {tt:TT} {H1:Hp} {Q:VK} (x:Nat->V) (p:Nat->Bool) (f:Nat->V) (hn:n<=1000000)
   (hstop:∀ H2,Same H1 H2->J.stop n H2) (hgo:∀ i H2,i<n->Same H1 H2->J.go i H2) (hy:∀ i H2 v H3,i<n->Same H1 H2->J.yld i H2 v H3->v=x i/\H3=H2)
   (hg:∀ i H2 R,i<n->Same H1 H2->(∀ σ4,σ4=(capSt m caps σ).set 0 (some (x i))->R σ4 H2)->g (x i) (capSt m caps σ) H2 R)
   (ht:∀ i H2 R,i<n->Same H1 H2->R (p i) H2->tt ((capSt m caps σ).set 0 (some (x i))) H2 R)
   (he:∀ i H2 R,i<n->p i=true->Same H1 H2->R (f i) H2->te ((capSt m caps σ).set 0 (some (x i))) H2 R)
   (hq:∀ D,H1 D=none->Q (.ref D) (upd H1 D (.lst (((List.range n).filter p).map f)))):CompJ J m caps g tt te σ H1 Q:=by
 intro D hD;have same:∀ l,Same H1 (upd H1 D (.lst l)):=fun l b o e=>by rw [Zai (Zaq e hD)];exact e
 refine ⟨fun i k H2=>k=n-i/\i<=n/\H2=upd H1 D (.lst (((List.range i).filter p).map f)),⟨n,rfl,yax _,rfl⟩,?_⟩;rintro i k H2 ⟨rfl,hi,rfl⟩;by_cases hlt:i<n
 . refine .inr ⟨hgo i _ hlt (same _),fun v H3 y=>?_⟩
   obtain ⟨rfl,rfl⟩:=hy i _ v H3 hlt (same _) y;refine hg i _ _ hlt (same _) fun σ4 e4=>?_
   subst e4;refine ht i _ _ hlt (same _) ?_;have step:(List.range (i+1)).filter p=(List.range i).filter p++if p i=true then [i] else []:=by
     rw [List.range_succ,ybC];congr 1
     cases hp:p i<;>simp [hp]
   cases hp:p i with
   | true =>
     rw [if_pos rfl];refine he i _ _ hlt hp (same _) ⟨_,Zac,?_,n-(i+1),by omega,rfl,hlt,?_⟩
     . rw [yad]
       refine ybL (ybp _ _) ?_;rw [ybP,sizeLine_eq];omega
     . rw [upd_upd,step,hp,if_pos rfl,yaP]
       rfl
   | false =>
     rw [if_neg yaL];refine ⟨n-(i+1),by omega,rfl,hlt,?_⟩;rw [step,hp,if_neg yaL,yaO]
 . have e:i=n:=by omega
   subst e;exact .inl ⟨hstop _ (same _),hq D hD⟩
theorem Zbz {α β:Type}(p:α->Bool)(f:α->β):∀ (xs:List α) (P:Nat->Bool) (F:Nat->β),(∀ i x,xs[i]?=some x->P i=p x/\F i=f x)->((List.range xs.length).filter P).map F=(xs.filter p).map f
 | [],_,_,_=>rfl
 | x::r,P,F,h=>by
   have e:List.range (x::r).length=0::(List.range r.length).map Nat.succ:=by rw [yan,List.range_succ_eq_map]
   have ih:=Zbz p f r (P ∘ Nat.succ) (F ∘ Nat.succ) fun i y hy=>h (i+1) y (by simpa using hy)
   obtain ⟨h1,h2⟩:=h 0 x rfl;rw [e,ybe,ybe,h1,ybw];split
   . rw [yaC,yaC,h2,ybl,ih]
   . rw [ybl,ih]
theorem compL {a:Addr}{m:Nat}{tt:TT}{H1:Hp}{Q:VK}(p:V->Bool)(f:V->V)(hS:SqL K H1 a xs)(hn:xs.length<=1000000)
   (ht:∀ x H2 R,x∈xs->Same H1 H2->R (p x) H2->tt ((capSt m caps σ).set 0 (some x)) H2 R)
   (he:∀ x H2 R,x∈xs->p x=true->Same H1 H2->R (f x) H2->te ((capSt m caps σ).set 0 (some x)) H2 R)
   (hq:∀ D,H1 D=none->Q (.ref D) (upd H1 D (.lst ((xs.filter p).map f)))):CompJ (Itl K a) m caps (gName 0) tt te σ H1 Q:=by
 have get:∀ i,i<xs.length->xs[i]?=some (xs.getD i .non):=fun i hi=>by rw [yat,yae hi];rfl
 have mem:∀ i,i<xs.length->xs.getD i .non∈xs:=fun i hi=>yao (get i hi)
 refine compPure (fun i=>xs.getD i .non) (fun i=>p (xs.getD i .non)) (fun i=>f (xs.getD i .non)) hn (fun H2 s=>⟨xs,s.seq hS,yag _⟩) (fun i H2 hi s=>⟨xs,_,s.seq hS,get i hi⟩)
   (fun i H2 v H3 hi s y=>⟨?_,y.1⟩) (fun i H2 R hi _ h=>h _ rfl) (fun i H2 R hi s h=>ht _ H2 R (mem i hi) s h) (fun i H2 R hi hp s h=>he _ H2 R (mem i hi) hp s h) (fun D hD=>?_)
 . have:=y.2 xs (s.seq hS)
   rw [get i hi] at this;exact (Option.some.inj this).symm
 . have:=Zbz p f xs (fun i=>p (xs.getD i .non)) (fun i=>f (xs.getD i .non)) fun i x hx=>by
     have:xs.getD i .non=x:=by rw [yat,hx];rfl
     rw [this];exact ⟨rfl,rfl⟩
   rw [this];exact hq D hD
section
variable {Q:VK}{QT:Bool->Hp->Prop}{QA:List V->Hp->Prop}{ta tb tc:TE}{t u:TS}{tA tB':TT}{tl:TA}{r r':R2}
theorem scal_ii {i j:Int}:scal (.int i) (.int j)=true:=rfl
theorem scal_bb {i j:Bool}:scal (.bl i) (.bl j)=true:=rfl
theorem scal_ss {i j:Str}:scal (.str i) (.str j)=true:=rfl
theorem tyV_int {i:Int}:tyV K "int" (.int i) H:=rfl
theorem tyV_list {p:Addr}:tyV K "list" (.ref p) H↔∃ xs,SqL K H p xs:=by unfold tyV;simp
theorem rIsi_int {i:Int}:rIsi K [.int i,.ty "int"] H Q↔Q (.bl true) H :=
 ⟨fun ⟨x,y,c,t,b,e,hy,ht,hk,q⟩=>by
   cases e;cases hy;cases ht;cases hk;exact q,fun q=>⟨_,_,_,_,true,rfl,rfl,.int i,rfl,q⟩⟩
theorem Zjh {i:Int}:rIsi K [.int i,.ty "bool"] H Q↔Q (.bl false) H :=
 ⟨fun ⟨x,y,c,t,b,e,hy,ht,hk,q⟩=>by
   cases e;cases hy;cases ht;cases hk;exact q,fun q=>⟨_,_,_,_,false,rfl,rfl,.int i,rfl,q⟩⟩
theorem rIsi_blb {k:Bool}:rIsi K [.bl k,.ty "bool"] H Q↔Q (.bl true) H :=
 ⟨fun ⟨x,y,c,t,b,e,hy,ht,hk,q⟩=>by
   cases e;cases hy;cases ht;cases hk;exact q,fun q=>⟨_,_,_,_,true,rfl,rfl,.bl k,rfl,q⟩⟩
theorem rIsi_bli {k:Bool}:rIsi K [.bl k,.ty "int"] H Q↔Q (.bl true) H :=
 ⟨fun ⟨x,y,c,t,b,e,hy,ht,hk,q⟩=>by
   cases e;cases hy;cases ht;cases hk;exact q,fun q=>⟨_,_,_,_,true,rfl,rfl,.bl k,rfl,q⟩⟩
end
end L2
namespace L2
open PySem PySem.Spec PyProof.Rows
def FnAt (P:Program)(w:World)(K:ZFr)(mg:Str->Option Value)(base:Heap)(x:Str)(ps:List Str)(k:Nat)(sp:Sp):Prop :=
 ∃ f fd,FnOk P w K mg base CX0 k f fd ps sp/\mg x=some (.ref f)/\PySem.W.keepIn K (.ref f)=true/\Binds K fd ps []
def DefAt (K:ZFr)(mg:Str->Option Value)(x:Str)(st:Stmt)(ps:List Str):Prop:=∃ f fd,Fun K x x st f fd/\mg x=some (.ref f)/\Binds K fd ps []
theorem FnAt.of {x:Str}{ps:List Str}{k:Nat}(d:DefAt K mg x st ps)(S:FnScope N ps (defScope st))(len:∀ vs H Q E,sp vs H Q E->vs.length=ps.length)
   (hbody:∀ (f:Addr) (cdv:Value) (A:Around) (outer:List Env) (s:Shared) (H:Hp) (vs:List V) (Q:VK) (E:XK),Room k (A.deeper (envOfC x (defScope st) s.heap.objs.size f cdv))->sp vs H Q E ->
     ∃ t,PSs (cxOf CX0 P w K mg base N x (defScope st) f cdv A outer s H E).nox (defBody st) t/\t { nx:=fun _ H'=>Q .non H',rt:=Q } (start N vs) H):FnAt P w K mg base x ps (k+1) sp:=by
 obtain ⟨f,fd,F,m,b⟩:=d;exact ⟨f,fd,F.ok S len (hbody f),m,F.kp,b⟩
theorem Zel {x:Str}{ps:List Str}{oc:Value}{od an:Option Addr}{kV doc pm cdv ct:Value}(X:K.In h)(G:h.Ns mainGlobals mg)(a:PySem.W.nsIn K mainGlobals x=some (some (.ref f)))
   (l:K.lookup f=some ⟨oc,od,.func (PySem.W.fnOf x x (defArgs st) (defBody st) (defScope st) .none kV doc pm an cdv ct),osl⟩) (c:PySem.W.codeIn K cdv x=true) (k:PySem.W.keepIn K (.ref f)=true)
   (hb:∀ (kV doc pm:Value) (an:Option Addr) (cdv ct:Value) (us:List Value),us.length=ps.length->bindArgs (PySem.W.fnOf x x (defArgs st) (defBody st) (defScope st) .none kV doc pm an cdv ct) ⟨us,[]⟩=pure (ps.zip us)):DefAt K mg x st ps :=
 ⟨f,_,ZcQ l c k,zaZ X G a,(ZcQ l c k).binds hb⟩
section
variable {x:Str}{ps:List Str}{k:Nat}{e:Expr}{t:TA}{p pos:Pos}
theorem Zaj (F:FnAt X.prog X.w X.K X.mg X.base x ps k sp)(ha:PA X (e::es) t)(hr:Room k X.A:=by walk_at "r")(hg:Gl X x:=by rfl)
   (he:starEach (e::es) X.env=(false,eval e X.env)::starEach es X.env:=by rfl) (hdb:(x==("__debug__":Str))=false:=by decide) (hpl:(backTo pos (starEach es X.env)).any (·.1)=false:=by rfl):PE X (.Call (.Name x p) (e::es) [] pos) (tCall sp [] E0 t):=by
 obtain ⟨f,fd,G,m,kp,b⟩:=F;exact pe_call G hr hg m kp b .nil pass0 ha hdb he hpl
end
def rLen (K:ZFr):List V->Hp->VK->Prop:=fun xs H Q=>∃ p ys,xs=[.ref p]/\(SqL K H p ys\/SqT K H p ys)/\Q (.int ys.length) H
def rListOf (K:ZFr):List V->Hp->VK->Prop:=fun xs H Q=>∃ p ys,xs=[.ref p]/\(SqL K H p ys\/SqT K H p ys)/\∀ l,H l=none->Q (.ref l) (upd H l (.lst ys))
theorem ZaE (K:ZFr)(h:X.K=K:=by rfl):IxR X (rIxL K):=h ▸ ix_list
theorem ZiR (K:ZFr)(h:X.K=K:=by rfl):IxR X (rIxT K):=h ▸ ix_tup
theorem ZcK (K:ZFr)(h:X.K=K:=by rfl):CallR X (.builtin "isinstance") (rIsi K):=h ▸ call_isi
theorem ZaX (K:ZFr)(h:X.K=K:=by rfl):CallR X (.builtin "len") (rLen K):=by subst h;exact Zgx
theorem Zb9 (K:ZFr)(h:X.K=K:=by rfl):CallR X (.type "list") (rListOf K):=by subst h;exact Zgq
section
variable {l o e:Expr}{tl to:TE}{t:TA}{name:Str}{apos cpos:Pos}{T id:String}{r:V->List V->Hp->VK->Prop}
theorem ZaC (K:ZFr)(hl:PE X l tl)(h:X.K=K:=by rfl):PI X tg l (iList K tl):=h ▸ pi_list hl
theorem Zfq (K:ZFr)(pa:PlainAttrs T)(slot:Slot T name id)(hty:typeOf (.builtin id)=pure (.type "method_descriptor"))(hm:MtR X id r)(ho:PE X o to)(ha:PA X (e::es) t)(hK:X.K=K:=by rfl)
   (hbase:attributeBase o name X.env (eval o X.env)=eval o X.env:=by rfl)
   (hfew:((backTo cpos (starEach (e::es) X.env)).all (fun x=>!x.1)&&(backToKw cpos (keywordEach [] X.env)).all (fun x=>x.1.isSome)
     && decide ((e::es).length+([]:List Keyword).length+(if ([]:List Keyword).isEmpty then 0 else 1)<30))=true:=by rfl)
   (hline:(apos.endLine==cpos.line)=true:=by rfl) (hs:starEach (e::es) X.env=(false,eval e X.env)::starEach es X.env:=by rfl) (hplain:(backTo cpos (starEach es X.env)).any (·.1)=false:=by rfl) :
   PE X (.Call (.Attribute o name apos) (e::es) [] cpos) (tBM K T r to t):=hK ▸ pe_bm pa slot hty hm ho ha hbase hfew hline hs hplain
theorem pe_bm0K (K:ZFr)(pa:PlainAttrs T)(slot:Slot T name id)(hty:typeOf (.builtin id)=pure (.type "method_descriptor"))(hm:MtR X id r)(ho:PE X o to)(hK:X.K=K:=by rfl)
   (hbase:attributeBase o name X.env (eval o X.env)=eval o X.env:=by rfl) (hline:(apos.endLine==cpos.line)=true:=by rfl):PE X (.Call (.Attribute o name apos) [] [] cpos) (tBM0 K T r to):=hK ▸ pe_bm0 pa slot hty hm ho hbase hline
end
section
variable {rest:List Stmt}{t u:TS}
def tCut (t u:TS):TS:=fun D σ H=>∃ Mid:St->Hp->Prop,t { D with nx:=Mid } σ H/\∀ σ' H',Mid σ' H'->u D σ' H'
theorem Zdz (h1:PS X st t)(h2:PSs X rest u):PSs X (st::rest) (tCut t u):=by
 intro pins s σ H D I h;obtain ⟨Mid,h,hm⟩:=h;refine wpAny_execs_cons (thn (h1 pins s σ H _ I h) fun f s1 q=>?_);cases f with
 | next =>
   obtain ⟨σ1,H1,I1,q1⟩:=q;exact h2 pins s1 σ1 H1 D I1 (hm σ1 H1 q1)
 | brk=>exact q
 | cont=>exact q
 | ret v=>exact q
end
end L2
namespace L2
open PySem PySem.Spec PyProof.Rows
mutual
inductive RdD (K:ZFr) (H:Hp):V->PyData->Prop
 | non:RdD K H .non .none
 | bl (b:Bool):RdD K H (.bl b) (.bool b)
 | int (i:Int):RdD K H (.int i) (.int i)
 | str (x:Str):RdD K H (.str x) (.str x)
 | lst {a:Addr} {xs:List V} {ds:List PyData} (h:SqL K H a xs) (r:RdDs K H xs ds):RdD K H (.ref a) (.list ds)
 | tup {a:Addr} {xs:List V} {ds:List PyData} (h:SqT K H a xs) (r:RdDs K H xs ds):RdD K H (.ref a) (.tuple ds)
inductive RdDs (K:ZFr) (H:Hp):List V->List PyData->Prop
 | nil:RdDs K H [] []
 | cons {x:V} {d:PyData} {xs:List V} {ds:List PyData} (h:RdD K H x d) (r:RdDs K H xs ds):RdDs K H (x::xs) (d::ds)
end
mutual
theorem Inv.rd (I:Inv X pins σ H s):∀ {x:V} {d:PyData},RdD X.K H x d->∀ {u:Value},RelV x u->∃ as,Reads s.heap u d as
 | _,_,.non,_,r=>by cases r;exact ⟨_,.none⟩
 | _,_,.bl b,_,r=>by cases r;exact ⟨_,.bool b⟩
 | _,_,.int i,_,r=>by obtain ⟨t,rfl⟩:=r;exact ⟨_,.int i t⟩
 | _,_,.str x,_,r=>by obtain ⟨t,rfl⟩:=r;exact ⟨_,.str x t⟩
 | _,_,.lst h rs,_,r=>by
   cases r;obtain ⟨its,rv,pl,_⟩:=I.list h;obtain ⟨as,q⟩:=Inv.rds I rs rv;obtain ⟨o,ho,hc,n,hd⟩:=pl.isList;exact ⟨_,.list ho hc hd (by simpa using q)⟩
 | _,_,.tup h rs,_,r=>by
   cases r;obtain ⟨its,rv,pl,_⟩:=I.tuple h;obtain ⟨as,q⟩:=Inv.rds I rs rv;obtain ⟨o,ho,hc,n,hd⟩:=pl;exact ⟨_,.tuple ho hc hd (by simpa using q)⟩
theorem Inv.rds (I:Inv X pins σ H s):∀ {xs:List V} {ds:List PyData},RdDs X.K H xs ds->∀ {us:List Value},Vals xs us->∃ as,ReadsAll s.heap us ds as
 | _,_,.nil,_,r=>by cases r;exact ⟨_,.nil⟩
 | _,_,.cons h t,_,r=>by
   cases r with
   | cons r1 r2 =>
     obtain ⟨as,q⟩:=Inv.rd I h r1;obtain ⟨bs,p⟩:=Inv.rds I t r2;exact ⟨_,.cons q p⟩
end
def rEqD (K:ZFr):R2:=fun x y H Q=>∃ d e,RdD K H x d/\RdD K H y e/\SeqAt.shaped d=true/\SeqAt.shaped e=true/\SeqAt.noMix d e=true/\Q (.bl (PySem.Spec.same d e)) H
def rNeD (K:ZFr):R2:=fun x y H Q=>∃ d e,RdD K H x d/\RdD K H y e/\SeqAt.shaped d=true/\SeqAt.shaped e=true/\SeqAt.noMix d e=true/\Q (.bl (!PySem.Spec.same d e)) H
theorem ZgI (K:ZFr)(hu:X.A.units+64<cLine)(h:X.K=K:=by rfl):OpR X (compareOp .Eq) (rEqD K):=by subst h;intro pins s σ H x y v u Q I rx ry h;obtain ⟨d,e,h1,h2,s1,s2,nm,q⟩:=h;obtain ⟨as,r1⟩:=I.rd h1 rx;obtain ⟨bs,r2⟩:=I.rd h2 ry;exact eq_dataH_same r1 r2 s1 s2 hu nm ⟨.bl _,H,I,rfl,q⟩
theorem op_neD (K:ZFr)(hu:X.A.units+64<cLine)(h:X.K=K:=by rfl):OpR X (compareOp .NotEq) (rNeD K):=by subst h;intro pins s σ H x y v u Q I rx ry h;obtain ⟨d,e,h1,h2,s1,s2,nm,q⟩:=h;obtain ⟨as,r1⟩:=I.rd h1 rx;obtain ⟨bs,r2⟩:=I.rd h2 ry;exact ne_dataH_same r1 r2 s1 s2 hu nm ⟨.bl _,H,I,rfl,q⟩
theorem hu64 {k:Nat}(hr:Room k A):A.units+64<cLine:=ybL (by omega) hr.un
theorem Zeh {K:ZFr}{H:Hp}:∀ ns:List Int,RdDs K H (ns.map V.int) (ns.map PyData.int)
 | []=>.nil
 | n::r=>.cons (.int n) (Zeh r)
section
variable {Q:VK}{a b:Addr}
theorem Zf5 {ns ms:List Int}(h1:SqL K H a (ns.map V.int))(h2:SqL K H b (ms.map V.int))(q:Q (.bl (decide (ns=ms))) H):rEqD K (.ref a) (.ref b) H Q :=
 ⟨_,_,.lst h1 (Zeh ns),.lst h2 (Zeh ms),PySem.W.ke_shaped_ints ns,PySem.W.ke_shaped_ints ms,zaK (.list .int) rfl _ _ (list_map_has fun _=>rfl) (list_map_has fun _=>rfl),by rw [PySem.W.ke_same];exact q⟩
end
theorem Zgg (ps:List Nat):BM.pint ps=(ps.map fun (p:Nat)=>(p:Int)).map V.int:=by unfold BM.pint;rw [ybl];rfl
theorem ZhC:(ps.map fun (p:Nat)=>(p:Int))=(qs.map fun (p:Nat)=>(p:Int))↔ps=qs :=
 ⟨fun h=>List.map_inj_right (fun _ _ e=>Int.ofNat.inj e) |>.mp h,fun h=>by rw [h]⟩
section
variable {Q:VK}{a b:Addr}
theorem Zgb (h1:SqL K H a (BM.pint ps))(h2:SqL K H b (BM.pint qs))(q:Q (.bl (decide (ps=qs))) H):rEqD K (.ref a) (.ref b) H Q:=by rw [Zgg] at h1 h2;refine Zf5 h1 h2 ?_;rw [yaS.mpr ZhC];exact q
end
section
variable {Q:VK}{p:Addr}
end
end L2
namespace BM
open PySem L2 PyProof.Rows
def mapI (f:Int->Int):V->V
 | .int z=>.int (f z)
 | v=>v
theorem Zfs {f:Int->Int}{g:Nat->Nat}:∀ {ps:List Nat},(∀ p∈ps,f (p:Int)=((g p:Nat):Int))->(pint ps).map (mapI f)=pint (ps.map g)
 | [],_=>rfl
 | p::r,h=>by
   have ih:=Zfs (f:=f) (g:=g) (ps:=r) fun q hq=>h q (yaM _ hq)
   show V.int (f p)::(pint r).map (mapI f)=V.int ((g p:Nat):Int)::pint (r.map g);rw [h p yaK,ih]
theorem Zh4 {p:Nat}{r:List Nat}(h:Up (p+1) r):Builtin.bitAnd ((wd (p::r):Nat):Int) (-((wd (p::r):Nat):Int))=((2^p:Nat):Int):=by
 have hw:0<wd (p::r):=ZgH;have e:Builtin.bitAnd ((wd (p::r):Nat):Int) (-((wd (p::r):Nat):Int))=((wd (p::r):Nat):Int)-((((wd (p::r):Nat):Int).toNat &&& (Builtin.bitNot (-((wd (p::r):Nat):Int))).toNat:Nat):Int):=by unfold Builtin.bitAnd;rw [yak (yaU _),yaw (by omega)]
 have e2:(Builtin.bitNot (-((wd (p::r):Nat):Int))).toNat=wd (p::r)-1:=by unfold Builtin.bitNot;omega
 rw [e,e2,yap,ZeY h];have:wd (p::r)=2^p+wd r:=rfl;rw [this,yco];omega
theorem Zgz {p:Nat}(h:Up 0 (ps++[p])):Builtin.Int.intBits ((wd (ps++[p]):Nat):Int)=p+1:=by
 have h0:0<wd (ps++[p]):=by
   rw [ZbB];have:0<2^p:=ybt (by decide);show 0<wd ps+(2^p+0)
   omega
 unfold Builtin.Int.intBits;rw [if_neg (by rw [za0];omega),Int.natAbs_natCast,log2_wd h]
end BM
namespace L2
open PySem PySem.Spec PyProof.Rows
def Itf (x:Nat->V)(n:Nat):It:=⟨fun i _=>i<n,fun i H v H'=>H'=H/\v=x i,fun i _=>i=n⟩
theorem Zjn {it:Addr}{n:Nat}{Pv:Nat->Value->Prop}{St:Nat->Heap->Prop}{x:Nat->V}{ty:String}
   (hty:["enumerate","zip","dict_itemiterator","dict_reverseitemiterator","odict_iterator","itertools.zip_longest","itertools.pairwise"].contains ty=false)
   (W:∀ A:Around,A.handled=none->Walks P w A it [it] [it] n Pv St) (ob:∀ i h,St i h->∃ o vs,h.get? it=some o/\o.cls=.type ty/\o.data=.fields vs)
   (self:∀ (A:Around) (i:Nat) (s:Shared) (Q:Value->Shared->Prop) (E:Value->Shared->Prop),St i s.heap->Q (.ref it) s->wpAny (model P w) A (pyIter (.ref it)) Q E s)
   (val:∀ i v,i<n->Pv i v->RelV (x i) v) (fr:∀ i h h',St i h->(∀ b∈[it],∀ o,h.get? b=some o->h'.get? b=some o)->St i h'):Turn P w K tg (Itf x n) [it] it St where
 mem:=by simp
 obj:=fun i h st b hb=>by
   have e:b=it:=by simpa using hb
   subst e;obtain ⟨o,vs,e,c,d⟩:=ob i h st;exact ⟨o,e,fun v z=>by rw [d] at z;cases z⟩
 keep:=fr
 item:=by
   intro X hP hw hK hc i pins s σ H E I hf st hg;subst hP hw hK;obtain ⟨f0,f1,f2,f3,f4,f5⟩:=hf it (by simp);refine (W X.A (I.ok.hd hc)).item i s _ _ hg st fun v h' tk hv st' kk=>?_
   have I1:Inv X pins σ H { s with heap:=h',toks:=tk }:=I.turned (fun b o hb e=>kk b o (by simpa using hb) e) f0 f1 f3 f4 f5;obtain ⟨o,vs,e,c,d⟩:=ob _ _ st';exact ⟨v,rfl,go_of (s:={ s with heap:=h',toks:=tk }) e c d hty ⟨x i,H,I1,val i v hg hv,⟨rfl,rfl⟩,st',fun b hb=>(hf b hb).1⟩⟩
 done:=by intro X hP hw hK hc i pins s σ H E I hf st hg;subst hP hw hK;have hg:i=n:=hg;subst hg;obtain ⟨f0,f1,f2,f3,f4,f5⟩:=hf it (by simp);refine (W X.A (I.ok.hd hc)).done s _ _ st fun h' tk kk=>⟨rfl,I.turned (fun b o hb e=>kk b o (by simpa using hb) e) f0 f1 f3 f4 f5⟩
 self:=self
def rngN (a b c:Int):Nat:=(Builtin.Range.rangeSize a b c).toNat
def iRng3 (ta:TA):TI:=fun σ H R=>ta σ H fun vs H1=>∃ a b c:Int,vs=[.int a,.int b,.int c]/\c≠0/\c.natAbs<1000000/\Builtin.Range.small a b c=true/\R (Itf (fun i=>.int (a+(i:Nat)*c)) (rngN a b c)) H1
theorem Zgm (a b c:Int):0<=Builtin.Range.rangeSize a b c:=by
 unfold Builtin.Range.rangeSize;split
 . split
   . rename_i h1 h2
     have:=Int.ediv_nonneg (show 0<=b-a-1 by omega) (show 0<=c by omega);omega
   . exact Int.le_refl _
 . split
   . rename_i h1 h2
     have:=Int.ediv_nonneg (show 0<=a-b-1 by omega) (show 0<=-c by omega);omega
   . exact Int.le_refl _
theorem ZjX {a b c:Expr} {ta:TA} {p pos:Pos} (hg:Gl X "range") (hm:X.mg "range"=none) (ha:PA X [a,b,c] ta) (hs:starEach [a,b,c] X.env=[(false,eval a X.env),(false,eval b X.env),(false,eval c X.env)]:=by rfl) (hs2:starEach [b,c] X.env=[(false,eval b X.env),(false,eval c X.env)]:=by rfl) :
   PI X tg (.Call (.Name "range" p) [a,b,c] [] pos) (iRng3 ta):=by
 intro pins s σ H R I h;refine Call_ (Zca I hg hm boot_range (zam (thn (ha pos pins s σ H _ I h) fun us s1 ⟨vs,H1,I1,r1,q1⟩=>?_) (by rw [hs,hs2]) (by rw [hs2];rfl)));obtain ⟨i,j,k,e,hk,hk2,hsm,q⟩:=q1;subst e;cases r1 with
 | cons r rr =>
   cases rr with
   | cons r' rr =>
     cases rr with
     | cons r'' rr =>
       cases rr;obtain ⟨t,rfl⟩:=r;obtain ⟨t',rfl⟩:=r';obtain ⟨t'',rfl⟩:=r'';refine call_range_3 hk ?_ (.inl (PyProof.noPylong_small (by omega)));refine wpAny_pyIter_range (IsRange.new ..) hsm ?_;have I2:Inv X pins σ H1 { s1 with heap:=s1.heap.push { cls:=.type "range",data:=.fields #[.int i t,.int j t',.int k t''] } }:=I1.kept (t':=s1.toks) fun b o e=>zab _ e
       have hn:((rngN i j k:Nat):Int)=Builtin.Range.rangeSize i j k:=by unfold rngN;exact ybQ (Zgm i j k)
       refine ⟨(s1.heap.push { cls:=.type "range",data:=.fields #[.int i t,.int j t',.int k t''] }).objs.size,[(s1.heap.push { cls:=.type "range",data:=.fields #[.int i t,.int j t',.int k t''] }).objs.size],_,_,H1,rfl,
         I2.kept (t':=s1.toks) fun b o e=>zab _ e,Zjn (x:=fun m=>.int (i+(m:Nat)*k)) (ty:="range_iterator") (by decide) (fun A hA=>Walks.range hA _ i k (rngN i j k)) (fun _ h st=>⟨_,_,st,rfl,rfl⟩) (fun A _ s Q E st h=>wpAny_pyIter_rangeiter st h) (fun m v _ hv=>hv) (fun _ h h' st kk=>kk _ (by simp) _ st),?_,fun b hb=>?_,q⟩
       . show IsRangeIter _ _ (i+((0:Nat):Int)*k) (((rngN i j k:Nat):Int)-((0:Nat):Int)) k
         have e1:i+((0:Nat):Int)*k=i:=by simp
         have e2:((rngN i j k:Nat):Int)-((0:Nat):Int)=Builtin.Range.rangeSize i j k:=by rw [hn];omega
         rw [e1,e2];exact zaf _ rfl
       . have e:b=(s1.heap.push { cls:=.type "range",data:=.fields #[.int i t,.int j t',.int k t''] }).objs.size:=by simpa using hb
         subst e;exact I2.fpOk (yag _) (I2.hok.fresh (yag _))
theorem loopF {x:Nat->V}{n:Nat}{g:TG}{tb:TS}(Pv:Nat->St->Hp->Prop)(h0:Pv 0 σ H)
   (hs:∀ i σ H,i<n->Pv i σ H->g (x i) σ H fun σ2 H2=>tb { D with nx:=Pv (i+1),ct:=Pv (i+1),bk:=D.nx } σ2 H2) (hd:∀ σ H,Pv n σ H->D.nx σ H):LoopJ (Itf x n) g tb D σ H:=by
 refine ⟨fun i m σ H=>m=n-i/\i<=n/\Pv i σ H,⟨n,rfl,yax _,h0⟩,?_⟩;rintro i m σ H ⟨rfl,hi,hp⟩;by_cases hlt:i<n
 . refine .inr ⟨hlt,Pv (i+1),fun σ' H' h=>⟨n-(i+1),by omega,rfl,hlt,h⟩,?_⟩
   rintro v H' ⟨rfl,rfl⟩;exact hs i σ H' hlt hp
 . have e:i=n:=by omega
   subst e;exact .inl ⟨rfl,hd σ H hp⟩
theorem tyV_str {z:Str}:tyV K "str" (.str z) H:=rfl
theorem int_mk {x:Str}{n:Int}{t:Tok}(X:K.In h)(G:h.Ns mainGlobals mg)(a:PySem.W.nsIn K mainGlobals x=some (some (.int n t))):∃ t,mg x=some (.int n t):=⟨t,zaZ X G a⟩
end L2
namespace L2
open PySem PySem.Spec PyProof.Rows
def MethAt (P:Program)(w:World)(K:ZFr)(mg:Str->Option Value)(base:Heap)(C:Addr)(m:Str)(ps:List Str)(k:Nat)(sp:Sp):Prop :=
 Cls K C/\∃ f fd,Meth K C m f/\FnOk P w K mg base CX0 k f fd ps sp/\Binds K fd ps []
def MDefAt (K:ZFr)(C:Addr)(m qual:Str)(st:Stmt)(ps:List Str):Prop:=∃ f fd,Fun K m qual st f fd/\Meth K C m f/\Binds K fd ps []
def MakeAt (P:Program)(w:World)(K:ZFr)(mg:Str->Option Value)(base:Heap)(x:Str)(C:Addr)(ps:List Str)(k:Nat)(sp:Sp):Prop :=
 mg x=some (.ref C)/\∃ f fd,Mk K C f/\FnOk P w K mg base CX0 k f fd ps sp/\Binds K fd ps []
def MakerAt (K:ZFr)(C:Addr)(qual:Str)(st:Stmt)(ps:List Str):Prop:=∃ f fd,Fun K "__init__" qual st f fd/\Mk K C f/\Binds K fd ps []
theorem MethAt.of {m:Str}{ps:List Str}{k:Nat}(c:Cls K C)(d:MDefAt K C m qual st ps)(S:FnScope N ps (defScope st))(len:∀ vs H Q E,sp vs H Q E->vs.length=ps.length)
   (hbody:∀ (f:Addr) (cdv:Value) (A:Around) (outer:List Env) (s:Shared) (H:Hp) (vs:List V) (Q:VK) (E:XK),Room k (A.deeper (envOfC qual (defScope st) s.heap.objs.size f cdv))->sp vs H Q E ->
     ∃ t,PSs (cxOf CX0 P w K mg base N qual (defScope st) f cdv A outer s H E).nox (defBody st) t/\t { nx:=fun _ H'=>Q .non H',rt:=Q } (start N vs) H):MethAt P w K mg base C m ps (k+1) sp:=by
 obtain ⟨f,fd,F,m,b⟩:=d;exact ⟨c,f,fd,m,F.ok S len (hbody f),b⟩
theorem MakeAt.of {x:Str}{ps:List Str}{k:Nat}(hx:mg x=some (.ref C))(d:MakerAt K C qual st ps)(S:FnScope N ps (defScope st))(len:∀ vs H Q E,sp vs H Q E->vs.length=ps.length)
   (hbody:∀ (f:Addr) (cdv:Value) (A:Around) (outer:List Env) (s:Shared) (H:Hp) (vs:List V) (Q:VK) (E:XK),Room k (A.deeper (envOfC qual (defScope st) s.heap.objs.size f cdv))->sp vs H Q E ->
     ∃ t,PSs (cxOf CX0 P w K mg base N qual (defScope st) f cdv A outer s H E).nox (defBody st) t/\t { nx:=fun _ H'=>Q .non H',rt:=Q } (start N vs) H):MakeAt P w K mg base x C ps (k+1) sp:=by
 obtain ⟨f,fd,F,m,b⟩:=d;exact ⟨hx,f,fd,m,F.ok S len (hbody f),b⟩
theorem MethAt.mono {m:Str}{ps:List Str}{j k:Nat}(h:MethAt P w K mg base C m ps j sp)(hjk:j<=k):MethAt P w K mg base C m ps k sp:=by obtain ⟨c,f,fd,me,F,b⟩:=h;exact ⟨c,f,fd,me,F.mono hjk,b⟩
theorem ZeR {m:Str}{ps:List Str}{oc:Value}{od an:Option Addr}{kV doc pm cdv ct:Value}(a:PySem.W.findIn K (.ref C) m=some (some (.ref f)))
   (l:K.lookup f=some ⟨oc,od,.func (PySem.W.fnOf m qual (defArgs st) (defBody st) (defScope st) .none kV doc pm an cdv ct),osl⟩) (c:PySem.W.codeIn K cdv qual=true) (k:PySem.W.keepIn K (.ref f)=true) (fn:PySem.W.isFn K (.ref f)=true)
   (hb:∀ (kV doc pm:Value) (an:Option Addr) (cdv ct:Value) (us:List Value),us.length=ps.length->bindArgs (PySem.W.fnOf m qual (defArgs st) (defBody st) (defScope st) .none kV doc pm an cdv ct) ⟨us,[]⟩=pure (ps.zip us)):MDefAt K C m qual st ps :=
 ⟨f,_,ZcQ l c k,⟨a,fn,k⟩,(ZcQ l c k).binds hb⟩
theorem Zhq {ps:List Str}{oc:Value}{od an:Option Addr}{kV doc pm cdv ct:Value}(a:PySem.W.findIn K (.ref C) "__init__"=some (some (.ref f)))
   (l:K.lookup f=some ⟨oc,od,.func (PySem.W.fnOf "__init__" qual (defArgs st) (defBody st) (defScope st) .none kV doc pm an cdv ct),osl⟩) (c:PySem.W.codeIn K cdv qual=true) (k:PySem.W.keepIn K (.ref f)=true) (fn:PySem.W.isFn K (.ref f)=true)
   (mk:PySem.W.makesIn K C=true) (kC:PySem.W.keepIn K (.ref C)=true)
   (hb:∀ (kV doc pm:Value) (an:Option Addr) (cdv ct:Value) (us:List Value),us.length=ps.length->bindArgs (PySem.W.fnOf "__init__" qual (defArgs st) (defBody st) (defScope st) .none kV doc pm an cdv ct) ⟨us,[]⟩=pure (ps.zip us)):MakerAt K C qual st ps :=
 ⟨f,_,ZcQ l c k,⟨mk,a,fn,kC⟩,(ZcQ l c k).binds hb⟩
def tMeD (P:Program)(w:World)(K:ZFr)(mg:Str->Option Value)(base:Heap)(k0:Nat)(m:Str)(ta:TE)(t:TA):TE:=fun σ H Q=>ta σ H fun x H1=>∃ a C dx fs ps sp,x=.ref a/\H1 a=some (.ins C dx fs)/\fs.lookup m=none /\
 MethAt P w K mg base C m ps k0 sp/\t σ H1 fun vs H2=>sp (x::vs) H2 Q E0
section
variable {k0:Nat}{x m:Str}{p pos apos:Pos}{e o:Expr}{ta:TE}{t:TA}
theorem Zap (P:Program)(w:World)(K:ZFr)(mg:Str->Option Value)(base:Heap)(k0:Nat){pl:Sem Bool}(he:PE X o ta)(ha:PA X (e::es) t)(hr:Room k0 X.A:=by walk_at "r")(hP:X.prog=P:=by rfl)(hw:X.w=w:=by rfl)(hK:X.K=K:=by rfl)(hmg:X.mg=mg:=by rfl)(hbs:X.base=base:=by rfl)
   (hst:starEach (e::es) X.env=(false,eval e X.env)::starEach es X.env:=by rfl) (hpl:(backTo pos (starEach es X.env)).any (·.1)=false:=by rfl)
   (ht:eval (.Call (.Attribute o m apos) (e::es) [] pos) X.env=(do
     let ov <- eval o X.env
     standAt apos.atName
     let (f,first) <- holding [ov] (getMethod ov m pl)
     callWith pos f first (backTo pos (starEach (e::es) X.env)) (backToKw pos (keywordEach [] X.env))):=by rfl) :
   PE X (.Call (.Attribute o m apos) (e::es) [] pos) (tMeD P w K mg base k0 m ta t):=by
 subst hP hw hK hmg hbs;intro pins s σ H Q I h;refine PySem.W.methodCall_KW (pl:=pl) (thn (he pins s σ H _ I h) fun u s1 hz=>?_) ht;obtain ⟨x,H1,I1,rx,a,C,dx,fs,ps,sp,ex,ea,l,⟨c,f,fd,me,F,b⟩,q⟩:=hz;subst ex;obtain rfl:u=Value.ref a:=rx;refine Zfa I1 ea c me l ?_;refine zaS (first:=[.ref a]) (h₀:=X.base) I.ok.mod.kin me.kp (thn (ha pos pins s1 σ H1 _ I1 q) fun us s2 ⟨vs,H2,I2,r,q2⟩=>⟨I2.kIn,?_⟩) hst hpl;exact Zfw (us:=.ref a::us) (vs:=.ref a::vs) (dvs:=[]) F hr b .nil pass0 I2 (.cons rfl r) (by rw [yaO];exact q2)
theorem ZaG (P:Program)(w:World)(K:ZFr)(mg:Str->Option Value)(base:Heap)(k0:Nat){pl:Sem Bool}(he:PE X o ta)(hr:Room k0 X.A:=by walk_at "r")(hP:X.prog=P:=by rfl)(hw:X.w=w:=by rfl)(hK:X.K=K:=by rfl)(hmg:X.mg=mg:=by rfl)(hbs:X.base=base:=by rfl)
   (ht:eval (.Call (.Attribute o m apos) [] [] pos) X.env=(do
     let ov <- eval o X.env
     standAt apos.atName
     let (f,first) <- holding [ov] (getMethod ov m pl)
     callWith pos f first (backTo pos (starEach [] X.env)) (backToKw pos (keywordEach [] X.env))):=by rfl) :
   PE X (.Call (.Attribute o m apos) [] [] pos) (tMeD P w K mg base k0 m ta tNil):=by
 subst hP hw hK hmg hbs;intro pins s σ H Q I h;refine PySem.W.methodCall_KW (pl:=pl) (thn (he pins s σ H _ I h) fun u s1 hz=>?_) ht;obtain ⟨x,H1,I1,rx,a,C,dx,fs,ps,sp,ex,ea,l,⟨c,f,fd,me,F,b⟩,q⟩:=hz;subst ex;obtain rfl:u=Value.ref a:=rx;refine Zfa I1 ea c me l ?_;exact PySem.W.callWith_K0 (first:=[.ref a]) I1.kIn me.kp (Zfw (us:=[.ref a]) (vs:=[.ref a]) (dvs:=[]) F hr b .nil pass0 I1 (.cons rfl .nil) q)
theorem Zdp {ps:List Str}{k:Nat}(F:MakeAt X.prog X.w X.K X.mg X.base x C ps k sp)(hr:Room (k+1) X.A)(hg:Gl X x)(ha:PA X (e::es) t)
   (hdb:(x==("__debug__":Str))=false:=by decide) (he:starEach (e::es) X.env=(false,eval e X.env)::starEach es X.env:=by rfl) (hpl:(backTo pos (starEach es X.env)).any (·.1)=false:=by rfl) :
   PE X (.Call (.Name x p) (e::es) [] pos) (tMake C sp [] E0 t):=by
 obtain ⟨hm,f,fd,M,F,b⟩:=F;exact pe_make M F hr hg hm b .nil pass0 ha hdb he hpl
theorem ZaF (K:ZFr){value:Expr}{f:Str}{tv:TE}(ha:PE X o ta)(hv:PE X value tv)(hs:swapsWith value (some (.Attribute o f pos')) pos.line X.env=pure false:=by rfl)(h:X.K=K:=by rfl):PS X (.Assign [.Attribute o f pos'] value pos) (sFld K ta tv f):=h ▸ ps_fld ha hv hs
theorem Zam (K:ZFr){f:Str}(he:PE X e ta)(h:X.K=K:=by rfl)(hb:attributeBase e f X.env (eval e X.env)=eval e X.env:=by rfl):PE X (.Attribute e f pos) (tFld K ta f):=h ▸ pe_fld he hb
end
section
variable {k0:Nat}{m f:Str}{ta tv:TE}{t:TA}{Q:VK}{dvs:List V}{E:XK}
theorem Zb8 (K:ZFr)(h:X.K=K:=by rfl):SlR X (rSlL K):=h ▸ sl_list
theorem ZcY (K:ZFr){pos:Pos}{k:Nat}{t:TGs}{n:Nat}(hc:X.calm=true)(h:PGs X es t)(hK:X.K=K:=by rfl)
   (hn:(assignEach es X.env).length=n:=by rfl) (hst:(assignEach es X.env).findIdx? (·.1)=none:=by rfl):PG X (.Tuple es k pos) (gTup K n t):=hK ▸ pg_tup hc h hn hst
end
def CompYes (n i:Nat)(D:Addr)(I:Nat->List V->Hp->Prop)(y:V)(H6:Hp):Prop:=∃ xs,H6 D=some (.lst xs)/\xs.length<sizeLine/\∃ m',m'<n-i/\m'=n-(i+1)/\∃ ys,I (i+1) ys (upd H6 D (.lst (xs++[y])))
def CompNo (n i:Nat)(I:Nat->List V->Hp->Prop)(H5:Hp):Prop:=∃ m',m'<n-i/\m'=n-(i+1)/\∃ ys,I (i+1) ys H5
theorem compYes {n i:Nat}{D:Addr}{I:Nat->List V->Hp->Prop}{y:V}{H6:Hp}(hn:n<=1000000)(hi:i<n)(hl:ys.length<=i)(h:H6 D=some (.lst ys))(q:I (i+1) (ys++[y]) (upd H6 D (.lst (ys++[y])))):CompYes n i D I y H6 :=
 ⟨ys,h,by rw [sizeLine_eq];omega,n-(i+1),by omega,rfl,_,q⟩
theorem compNo {n i:Nat}{I:Nat->List V->Hp->Prop}{H5:Hp}(hi:i<n)(q:I (i+1) ys H5):CompNo n i I H5:=⟨n-(i+1),by omega,rfl,_,q⟩
theorem compG {J:It}{m n:Nat}{g:TG}{tt:TT}{H1:Hp}{Q:VK}(I:Addr->Nat->List V->Hp->Prop)
   (h0:∀ D,H1 D=none->I D 0 [] (upd H1 D (.lst []))) (hl:∀ D i ys H2,I D i ys H2->i<=n)
   (hstop:∀ D ys H2,H1 D=none->I D n ys H2->J.stop n H2) (hgo:∀ D i ys H2,H1 D=none->i<n->I D i ys H2->J.go i H2)
   (turn:∀ D i ys H2 x H3,H1 D=none->i<n->I D i ys H2->J.yld i H2 x H3->g x (capSt m caps σ) H3 fun σ4 H4=>tt σ4 H4 fun b H5=>if b=true then te σ4 H5 fun y H6=>CompYes n i D (I D) y H6 else CompNo n i (I D) H5)
   (hq:∀ D ys H2,H1 D=none->I D n ys H2->Q (.ref D) H2):CompJ J m caps g tt te σ H1 Q:=by
 intro D hD;refine ⟨fun i k H2=>k=n-i/\∃ ys,I D i ys H2,⟨n,rfl,[],h0 D hD⟩,?_⟩;rintro i k H2 ⟨rfl,ys,hI⟩;have h1:=hl D i ys H2 hI;by_cases hlt:i<n
 . exact .inr ⟨hgo D i ys H2 hD hlt hI,fun x H3 y=>turn D i ys H2 x H3 hD hlt hI y⟩
 . have e:i=n:=by omega
   subst e;exact .inl ⟨hstop D ys H2 hD hI,hq D ys H2 hD hI⟩
theorem Same.put {a:Addr}{o:HO}(s:Same H H')(h:H a=none):Same H (upd H' a o):=fun b u e=>by rw [Zai (Zaq e h)];exact s b u e
theorem Same.new {a:Addr}{o:HO}(h:H a=none):Same H (upd H a o):=(Same.refl H).put h
end L2
namespace L2
open PySem PySem.Spec PyProof.Rows
section
variable {e:Expr}{p p' pos:Pos}
end
end L2
namespace L2
open PySem PySem.Spec PyProof.Rows
structure TyIns (K:ZFr)(C:Addr):Prop where
 a:PySem.W.findIn K (.ref C) "__class__"=some (some (.builtin "object.__class__"))
 b:PySem.W.specialIn K (.builtin "object.__class__") "__get__"=some (some (.builtin "getset_descriptor.__get__"))
 c:PySem.W.takesIn K (.builtin "object.__class__")=some true
 d:PySem.W.mroIn K C (.type "object")=some true
def IsiTo (K:ZFr)(mg:Str->Option Value)(C:Addr)(x:Str)(b:Bool):Prop:=∀ S,mg x=some (.ref S)->PySem.W.kitOne K (.ref C) (.ref S)=some b
theorem isi_to {x:Str}{S:Addr}{b:Bool}(X:K.In h)(G:h.Ns mainGlobals mg)(a:PySem.W.nsIn K mainGlobals x=some (some (.ref S)))(r:PySem.W.kitOne K (.ref C) (.ref S)=some b):IsiTo K mg C x b:=fun T e=>by
 rw [zaZ X G a] at e;cases e;exact r
theorem rIsi_ins {Q:VK}{a S dx:Addr}{fs:List (Str × V)}{x:Str}{b:Bool}(ha:H a=some (.ins C dx fs))(c:Cls K C)(t:TyIns K C)(i:IsiTo K mg C x b)(hS:mg x=some (.ref S))(q:Q (.bl b) H):rIsi K [.ref a,.ref S] H Q :=
 ⟨_,_,_,_,b,rfl,rfl,.ins ha c t.a t.b t.c t.d,i S hS,q⟩
theorem all1 {α:Type}{p:List α->Prop}(h:∀ a,p [a]):∀ us:List α,us.length=1->p us
 | [a],_=>h a
theorem all2 {α:Type}{p:List α->Prop}(h:∀ a b,p [a,b]):∀ us:List α,us.length=2->p us
 | [a,b],_=>h a b
theorem all3 {α:Type}{p:List α->Prop}(h:∀ a b c,p [a,b,c]):∀ us:List α,us.length=3->p us
 | [a,b,c],_=>h a b c
theorem all4 {α:Type}{p:List α->Prop}(h:∀ a b c d,p [a,b,c,d]):∀ us:List α,us.length=4->p us
 | [a,b,c,d],_=>h a b c d
end L2
namespace BM
open PySem L2 PyProof.Rows
theorem and_side {m a b c d:Nat}(ha:a<2^m)(hc:c<2^m):(a+2^m*b) &&& (c+2^m*d)=(a &&& c)+2^m*(b &&& d):=by
 have hac:a &&& c<2^m:=ybL Nat.and_le_left ha;apply Nat.eq_of_testBit_eq
 intro i;rw [Nat.testBit_and];rw [ycw a,ycw c,ycw (a &&& c)];rw [ybg _ ha,ybg _ hc,ybg _ hac];split
 . rw [Nat.testBit_and]
 . rw [Nat.testBit_and]
def msk (k:Nat):Nat->Nat
 | 0=>0
 | n+1=>(2^k-1)+2^(2*k)*msk k n
def lay2 (k:Nat):Nat->Nat->Nat
 | 0,_=>0
 | n+1,w=>(w%2^k+w/2^k%2^k)+2^(2*k)*lay2 k n (w/2^(2*k))
def fs (k:Nat):Nat->Nat->Nat
 | 0,_=>0
 | n+1,w=>w%2^k+fs k n (w/2^k)
theorem ZiU (k:Nat):∀ (n w:Nat),w &&& msk k (n+1)=w%2^k+2^(2*k)*(w/2^(2*k) &&& msk k n):=by
 intro n w;have h2:2^k<=2^(2*k):=ybB (by decide) (by omega);have hp:0<2^k:=ybt (by decide);have e:w=w%2^(2*k)+2^(2*k)*(w/2^(2*k)):=(Nat.mod_add_div _ _).symm
 conv=>lhs;rw [e]
 show _ &&& ((2^k-1)+2^(2*k)*msk k n)=_;rw [and_side (ycc _ (ybt (by decide))) (by omega),Nat.and_two_pow_sub_one_eq_mod];congr 1
 exact Nat.mod_mod_of_dvd _ (Nat.pow_dvd_pow 2 (by omega))
theorem swar (k:Nat):∀ (n w:Nat),(w &&& msk k n)+((w >>> k) &&& msk k n)=lay2 k n w
 | 0,w=>by show (w &&& 0)+((w >>> k) &&& 0)=0;rw [Nat.and_zero,Nat.and_zero]
 | n+1,w=>by
   rw [ZiU,ZiU,Nat.shiftRight_eq_div_pow,Nat.div_div_eq_div_mul,<- Nat.pow_add,ycw k (2*k),Nat.pow_add,<- Nat.div_div_eq_div_mul,<- Nat.shiftRight_eq_div_pow (w/2^(2*k)) k];show _=(w%2^k+w/2^k%2^k)+2^(2*k)*lay2 k n (w/2^(2*k));rw [<- swar k n (w/2^(2*k)),Nat.mul_add];omega
theorem Zea {k:Nat}(hk:0<k):∀ (n w:Nat),fs (2*k) n (lay2 k n w)=fs k (2*n) w
 | 0,_=>rfl
 | n+1,w=>by
   have hp:0<2^k:=ybt (by decide);have h2:2^k*2<=2^(2*k):=by rw [<- Nat.pow_succ];exact ybB (by decide) (by omega)
   have a1:=ycc w hp;have a2:=ycc (w/2^k) hp;have hs:w%2^k+w/2^k%2^k<2^(2*k):=by omega
   show lay2 k (n+1) w%2^(2*k)+fs (2*k) n (lay2 k (n+1) w/2^(2*k))=w%2^k+(w/2^k%2^k+fs k (2*n) (w/2^k/2^k))
   have e:lay2 k (n+1) w=(w%2^k+w/2^k%2^k)+2^(2*k)*lay2 k n (w/2^(2*k)):=rfl;rw [e,Nat.add_mul_mod_self_left,Nat.mod_eq_of_lt hs,Nat.add_mul_div_left _ _ (ybt (by decide)),Nat.div_eq_of_lt hs,ybH,Zea hk n,Nat.div_div_eq_div_mul,<- Nat.pow_add,<- Nat.two_mul];omega
theorem fs_mod (k : Nat):∀ (n w:Nat),w<2^(k*n)->w%(2^k-1)=fs k n w%(2^k-1)
 | 0, w, h => by have:w=0:=by simpa using h
                 subst this;rfl
 | n + 1,w,h=>by
   have hp:0<2^k:=ybt (by decide);have hd:w/2^k<2^(k*n):=by rw [Nat.div_lt_iff_lt_mul hp,<- Nat.pow_add];exact h
   have ih:=fs_mod k n (w/2^k) hd;show _=(w%2^k+fs k n (w/2^k))%(2^k-1);rw [Nat.add_mod,<- ih,<- Nat.add_mod];have e:w=w%2^k+w/2^k+(2^k-1)*(w/2^k):=by
     have:=Nat.mod_add_div w (2^k);have:2^k*(w/2^k)=w/2^k+(2^k-1)*(w/2^k):=by
       generalize w/2^k=q;have z:2^k=1+(2^k-1):=by omega
       conv=>lhs;rw [z]
       rw [Nat.add_mul,Nat.one_mul]
     omega
   conv=>lhs;rw [e]
   rw [Nat.add_mul_mod_self_left]
theorem Zi1 {k:Nat}(hk:0<k):∀ (n w:Nat),lay2 k n w<2^(2*k*n)
 | 0,_=>by show 0<2^(2*k*0);exact ybt (by decide)
 | n+1,w=>by
   have hp:0<2^k:=ybt (by decide);have h2:2^k*2<=2^(2*k):=by rw [<- Nat.pow_succ];exact ybB (by decide) (by omega)
   have a1:=ycc w hp;have a2:=ycc (w/2^k) hp;have ih:=Zi1 hk n (w/2^(2*k));have e:lay2 k (n+1) w=(w%2^k+w/2^k%2^k)+2^(2*k)*lay2 k n (w/2^(2*k)):=rfl;rw [e,Nat.mul_succ,ycw (2*k*n),Nat.pow_add];have:2^(2*k)*(lay2 k n (w/2^(2*k))+1)<=2^(2*k)*2^(2*k*n):=Nat.mul_le_mul_left _ ih;rw [Nat.mul_succ] at this;omega
theorem fs_one:∀ (n w:Nat),fs 1 n w=((List.range n).filter w.testBit).length
 | 0,_=>rfl
 | n + 1,w=>by
   show w%2^1+fs 1 n (w/2^1)=_;rw [fs_one n,List.range_succ_eq_map,ybe,ybw];have hc:(List.range n).filter (w/2^1).testBit=(List.range n).filter (w.testBit ∘ Nat.succ):=yby fun i _=>by
     show (w/2^1).testBit i=w.testBit (i+1);rw [Nat.testBit_succ,Nat.pow_one]
   rw [hc];have h0:w.testBit 0=decide (w%2=1):=Nat.testBit_zero w;rw [h0];rcases Nat.mod_two_eq_zero_or_one w with z | z
   . simp [z]
   . simp [z];omega
theorem fs_le:∀ (n w:Nat),fs 1 n w<=n
 | 0,_=>yag _
 | n+1,w=>by
   show w%2^1+fs 1 n (w/2^1)<=_;have:=fs_le n (w/2^1);have:=ycc w (y:=2^1) (by decide);omega
theorem fs_mod16 (w:Nat)(h:w<2^(2*8*16)):w%65535=fs 16 16 w%65535:=by
 have:=fs_mod 16 16 w h;have e:(2:Nat)^16-1=65535:=by decide
 rw [e] at this;exact this
theorem popc (w:Nat):lay2 8 16 (lay2 4 32 (lay2 2 64 (lay2 1 128 w)))%65535=((List.range 256).filter w.testBit).length:=by have h1:=Zea (k:=1) (by decide) 128 w;have h2:=Zea (k:=2) (by decide) 64 (lay2 1 128 w);have h3:=Zea (k:=4) (by decide) 32 (lay2 2 64 (lay2 1 128 w));have h4:=Zea (k:=8) (by decide) 16 (lay2 4 32 (lay2 2 64 (lay2 1 128 w)));have b:=Zi1 (k:=8) (by decide) 16 (lay2 4 32 (lay2 2 64 (lay2 1 128 w)));have b1:=fs_le 256 w;generalize lay2 8 16 (lay2 4 32 (lay2 2 64 (lay2 1 128 w)))=z at h4 b ⊢;generalize lay2 4 32 (lay2 2 64 (lay2 1 128 w))=y at h3 h4;generalize lay2 2 64 (lay2 1 128 w)=x at h2 h3;generalize lay2 1 128 w=v at h1 h2;have e1:fs 16 16 z=fs 8 32 y:=h4;have e2:fs 8 32 y=fs 4 64 x:=h3;have e3:fs 4 64 x=fs 2 128 v:=h2;have e4:fs 2 128 v=fs 1 256 w:=h1;rw [fs_mod16 z b,e1,e2,e3,e4,<- fs_one];exact Nat.mod_eq_of_lt (by omega)
theorem msk1:msk 1 128=0x5555555555555555555555555555555555555555555555555555555555555555:=by decide +kernel
theorem msk2:msk 2 64=0x3333333333333333333333333333333333333333333333333333333333333333:=by decide +kernel
theorem msk4:msk 4 32=0x0F0F0F0F0F0F0F0F0F0F0F0F0F0F0F0F0F0F0F0F0F0F0F0F0F0F0F0F0F0F0F0F:=by decide +kernel
theorem msk8:msk 8 16=0x00FF00FF00FF00FF00FF00FF00FF00FF00FF00FF00FF00FF00FF00FF00FF00FF:=by decide +kernel
theorem and_wd (hp:Up 0 ps)(hq:Up 0 qs):wd ps &&& wd qs=wd (ps.filter fun p=>decide (p∈qs)):=Zfo hp.filter fun i=>by
 rw [Nat.testBit_and,ZaT hp,ZaT hq,ybJ];simp [yau]
theorem ZiQ (f:Nat->Bool):∀ ps:List Nat,wd ps=wd (ps.filter f)+wd (ps.filter fun p=>!f p)
 | []=>rfl
 | p::r=>by
   have ih:=ZiQ f r;rw [ybe,ybe];cases f p with
   | true=>simp only [zaT,ybS,yaF,zay];show 2^p+wd r=2^p+wd _+_;omega
   | false=>simp only [zaT,yct,yaF,zay];show 2^p+wd r=_+(2^p+wd _);omega
theorem Zi6 (hp:Up 0 ps)(hq:Up 0 qs):wd ps-(wd ps &&& wd qs)=wd (ps.filter fun p=>!decide (p∈qs)):=by rw [and_wd hp hq,ZiQ (fun p=>decide (p∈qs)) ps];omega
theorem or_wd {n:Nat}(hp:Up 0 ps)(hq:Up 0 qs)(h1:∀ p∈ps,p<n)(h2:∀ p∈qs,p<n):wd ps ||| wd qs=wd ((List.range n).filter fun p=>decide (p∈ps)||decide (p∈qs)):=Zfo (ZbZ _ _) fun i=>by
 rw [Nat.testBit_or,ZaT hp,ZaT hq,ybJ];simp [yau];intro h;rcases h with h | h
 . exact h1 _ h
 . exact h2 _ h
def bgs (ps:List Nat):List Nat:=ps.filter fun p=>!decide (p∈ps.map (·+1))
theorem wd_bgs (hp:Up 0 ps):wd ps-(wd ps &&& (wd ps*2))=wd (bgs ps):=by have e:wd ps*2=wd (ps.map (·+1)):=(ZhJ 1 ps).symm;rw [e];exact Zi6 hp ((hp.shift 1).mono (yax _))
theorem ZjQ {p:Nat}:∃ rs a,runsOf (ps++[p])=rs++[(a,p)]:=by
 rw [Zcr];rcases ybu (runsOf ps) with e | ⟨rs,⟨a,b⟩,e⟩
 . rw [e];exact ⟨[],p,rfl⟩
 . rw [ybv] at e
   rw [e];by_cases w:b+1=p
   . exact ⟨rs,a,Zcl w⟩
   . exact ⟨rs++[(a,b)],p,ZbK w⟩
theorem runs_bgs (hp:Up 0 ps):(runsOf ps).length=(bgs ps).length:=by
 induction ps using snocInd with
 | nil=>rfl
 | snoc ps p ih =>
   have up:Up 0 ps:=hp.left;have lt:∀ q∈ps,q<p:=hp.last;have ih:=ih up
   have hb : bgs (ps++[p])=bgs ps++(if p∈ps.map (·+1) then [] else [p]):=by
     unfold bgs;rw [ybC,yaP];congr 1
     . apply yby
       intro q hq;have:q≠p+1:=by have:=lt q hq;omega
       have e:(q∈List.map (·+1) ps++List.map (·+1) [p])↔q∈List.map (·+1) ps:=by
         rw [yaf];constructor
         . intro h
           rcases h with h | h
           . exact h
           . simp at h;omega
         . exact .inl
       simp only [e]
     . have e:(p∈List.map (·+1) ps++List.map (·+1) [p])↔p∈List.map (·+1) ps:=by
         rw [yaf];constructor
         . intro h
           rcases h with h | h
           . exact h
           . simp at h
         . exact .inl
       rw [ybe];simp only [e];by_cases w:p∈List.map (·+1) ps
       . rw [if_pos w];simp [w]
       . rw [if_neg w];simp [w]
   rw [hb,yac,<- ih,Zcr];rcases ybu ps with e | ⟨qs,q,e⟩
   . subst e
     simp [runsOf,addP]
   . rw [ybv] at e
     subst e;obtain ⟨rs,a,er⟩:=ZjQ (ps:=qs) (p:=q);rw [er];by_cases w:q+1=p
     . rw [Zcl w,if_pos (by simp [w])]
       simp
     . rw [ZbK w,if_neg ?_]
       . simp
       . intro z
         rw [yaP,yaf] at z;rcases z with z | z
         . obtain ⟨x,hx,e⟩:=yaJ.mp z
           have l1:x<q:=Up.last (ys:=[p]) (by rw [yah] at hp;exact hp) x hx;have l2:=lt q (by simp);omega
         . simp at z
           omega
theorem and_wdI (hp:Up 0 ps)(hq:Up 0 qs):Builtin.bitAnd ((wd ps:Nat):Int) ((wd qs:Nat):Int)=((wd (ps.filter fun p=>decide (p∈qs)):Nat):Int):=by rw [bitAnd_pp (yaU _) (yaU _),yap,yap,and_wd hp hq]
theorem andNot (x y:Nat):Builtin.bitAnd (x:Int) (Builtin.bitNot (y:Int))=((x-(x &&& y):Nat):Int):=by
 have e:Builtin.bitAnd (x:Int) (Builtin.bitNot (y:Int))=(x:Int)-(((x:Int).toNat &&& (Builtin.bitNot (Builtin.bitNot (y:Int))).toNat:Nat):Int):=by unfold Builtin.bitAnd;rw [yak (yaU _),yaw (by unfold Builtin.bitNot;omega)]
 have e2:Builtin.bitNot (Builtin.bitNot (y:Int))=y:=by unfold Builtin.bitNot;omega
 have:x &&& y<=x:=Nat.and_le_left;rw [e,e2,yap,yap];omega
theorem ZgP (hp:Up 0 ps)(hq:Up 0 qs):Builtin.bitAnd ((wd ps:Nat):Int) (Builtin.bitNot ((wd qs:Nat):Int))=((wd (ps.filter fun p=>!decide (p∈qs)):Nat):Int):=by rw [andNot,Zi6 hp hq]
theorem ZiH {n:Nat}(hp:Up 0 ps)(hq:Up 0 qs)(h1:∀ p∈ps,p<n)(h2:∀ p∈qs,p<n):Builtin.bitOr ((wd ps:Nat):Int) ((wd qs:Nat):Int)=((wd ((List.range n).filter fun p=>decide (p∈ps)||decide (p∈qs)):Nat):Int):=by rw [Zfc (yaU _) (yaU _),yap,yap,or_wd hp hq h1 h2]
theorem bgs_wdI (hp:Up 0 ps):Builtin.bitAnd ((wd ps:Nat):Int) (Builtin.bitNot ((wd ps:Nat)*2^(1:Int).toNat:Int))=((wd (bgs ps):Nat):Int):=by
 have e:((wd ps:Nat)*2^(1:Int).toNat:Int)=((wd ps*2:Nat):Int):=by rw [Int.natCast_mul];rfl
 rw [e,andNot,wd_bgs hp]
theorem len_pl (h:Up 0 ps)(hn:∀ p∈ps,p<256):((List.range 256).filter (wd ps).testBit).length=ps.length:=by have:=pl_wd h hn;unfold pl at this;rw [this]
theorem swarI {k n w:Nat}{m d:Int}(hm:m=((msk k n:Nat):Int))(hd:d=((2^k:Nat):Int)):Builtin.bitAnd (w:Int) m+Builtin.bitAnd ((w:Int)/d) m=((lay2 k n w:Nat):Int):=by subst hm hd;rw [<- Int.natCast_ediv,bitAnd_pp (yaU _) (yaU _),bitAnd_pp (yaU _) (yaU _),yap,yap,yap,<- yco,<- swar k n w,Nat.shiftRight_eq_div_pow]
theorem countI (h:Up 0 ps)(hn:∀ p∈ps,p<256):((lay2 8 16 (lay2 4 32 (lay2 2 64 (lay2 1 128 (wd ps)))):Nat):Int)%65535=(ps.length:Int):=by have e:=popc (wd ps);rw [len_pl h hn] at e;rw [<- e,Int.natCast_emod];rfl
theorem bgs_wdI2 (hp:Up 0 ps):Builtin.bitAnd ((wd ps:Nat):Int) (Builtin.bitNot (((wd ps:Nat):Int)*2))=((wd (bgs ps):Nat):Int):=bgs_wdI hp
theorem bgs_lt (h:∀ p∈ps,p<256):∀ p∈bgs ps,p<256:=fun p hp=>h p (yau.mp hp).1
theorem wd_abs (h:Up 0 ps)(hn:∀ p∈ps,p<256):(((wd ps:Nat):Int)).natAbs<2^1000:=by rw [Int.natAbs_natCast];exact yay (h.lt' hn) (ybB (by decide) (by decide))
end BM
namespace L2
open PySem PySem.Spec PyProof.Rows
theorem Inv.turnedNew {ch:List Addr} {T:Addr} {o:HO} (I:Inv X pins σ H s) (hf:∀ b∈ch,FpOk X pins H b) (k:∀ b u,b∉ch->s.heap.get? b=some u->h'.get? b=some u) (hT:s.heap.objs.size<=T)
   (new:ObjOk X.prog X.w (upd H T o) h' T o):Inv X pins σ (upd H T o) { s with heap:=h',toks:=t' }:=by
 have nT:H T=none:=I.hok.fresh hT;have nch:∀ b u,H b=some u->b∉ch:=fun b u e z=>by
   rw [(hf b z).1] at e;cases e
 have neT:∀ b u,s.heap.get? b=some u->b≠T:=fun b u e z=>absurd (yay (zad e) (by rw [z];exact hT)) (ybs _)
 have lch:X.env.locals∉ch:=fun z=>(hf _ z).2.1 rfl
 refine I.step (g':=s.gens) (d':=s.drawn) (ch:=ch) (fun b hb=>?_) (fun b u _ _ hc e _=>k b u hc e) (fun b u _ _ hc e _=>⟨u.slots,k b u hc e⟩) (fun b u _ e n=>?_) (fun b u hc e=>⟨u,k b u hc e⟩) (fun b xs e=>?_) (fun b u v e=>?_) (fun b ps e=>⟨#[],?_⟩) (fun m hm=>?_) (fun b u e=>?_) I.bare
 . obtain ⟨_,f1,_,f3,f4,f5⟩:=hf b hb
   exact ⟨f3,f1,f4,f5⟩
 . rw [Zai (neT b u e)]
   exact n
 . rw [Zai (Zaq e nT)]
   exact e
 . rw [Zai (Zaq e nT)]
   exact e
 . rw [Zai (Zaq e nT),e]
   simp
 . obtain ⟨u,es,ep,ho,r⟩:=hm
   exact ⟨u,es,ep,k _ u lch ho,r⟩
 . by_cases hb:b=T
   . subst hb
     rw [Zac] at e;cases e;exact new
   . rw [Zai hb] at e
     refine (I.hok b u e).stay (fun c v hc q=>k c v ?_ q) (fun c q=>?_) fun c xs q=>?_
     . rcases hc with z | z
       . rw [z];exact nch b u e
       . exact nch c _ z
     . rw [Zai (Zaq q nT)]
       exact q
     . rw [Zai (Zaq q nT)]
       exact q
theorem Inv.turnedL {ch:List Addr}(I:Inv X pins σ H s)(hf:∀ b∈ch,FpOk X pins H b)(k:∀ b u,b∉ch->s.heap.get? b=some u->h'.get? b=some u):Inv X pins σ H { s with heap:=h',toks:=t' }:=by
 have nch:∀ b u,H b=some u->b∉ch:=fun b u e z=>by
   rw [(hf b z).1] at e;cases e
 have lch:X.env.locals∉ch:=fun z=>(hf _ z).2.1 rfl
 refine I.step (g':=s.gens) (d':=s.drawn) (ch:=ch) (fun b hb=>?_) (fun b u _ _ hc e _=>k b u hc e) (fun b u _ _ hc e _=>⟨u.slots,k b u hc e⟩) (fun _ _ _ _ n=>n) (fun b u hc e=>⟨u,k b u hc e⟩) (fun _ _ e=>e) (fun _ _ _ e=>e) (fun b ps e=>⟨#[],by rw [e];simp⟩) (fun m hm=>?_) (fun b u e=>?_) I.bare
 . obtain ⟨_,f1,_,f3,f4,f5⟩:=hf b hb
   exact ⟨f3,f1,f4,f5⟩
 . obtain ⟨u,es,ep,ho,r⟩:=hm
   exact ⟨u,es,ep,k _ u lch ho,r⟩
 . refine (I.hok b u e).stay (fun c v hc q=>k c v ?_ q) (fun _ q=>q) fun _ _ q=>q
   rcases hc with z | z
   . rw [z];exact nch b u e
   . exact nch c _ z
def Itz (K:ZFr)(a b:Addr):It :=
 ⟨fun i H=>∃ xs ys x y,SqL K H a xs/\SqL K H b ys/\xs[i]?=some x/\ys[i]?=some y,
  fun i H v H'=>∃ T x y,v=.ref T/\H T=none/\H'=upd H T (.tup [x,y])/\(∀ xs,SqL K H a xs->xs[i]?=some x)/\(∀ ys,SqL K H b ys->ys[i]?=some y),
  fun i H=>∃ xs ys,SqL K H a xs/\SqL K H b ys/\(xs.length<=i\/ys.length<=i)⟩
structure ZipTn (z TI TO i1 i2 a b:Addr)(i:Nat)(h:Heap):Prop where
 z:IsZip h z TI TO .none
 ti:IsPair h TI (.ref i1) (.ref i2)
 to:∃ x y,IsPair h TO x y
 i1:h.IsListIter i1 a i
 i2:h.IsListIter i2 b i
theorem turn_zip {x1} {pos:Pos} {z TI TO i1 i2 a b:Addr} (D:ZipApart z TI TO i1 i2 a b):Turn P w K (.Tuple es x1 pos) (Itz K a b) [z,TI,TO,i1,i2] z (ZipTn z TI TO i1 i2 a b) where
 mem:=by simp
 obj:=fun i h st c hc=>by
   simp only [yaj,yaX,zaP] at hc;obtain ⟨x,y,hto⟩:=st.to;obtain ⟨o1,e1,_,d1⟩:=st.i1;obtain ⟨o2,e2,_,d2⟩:=st.i2;rcases hc with rfl | rfl | rfl | rfl | rfl
   . exact ⟨_,st.z,fun v q=>by cases q⟩
   . exact ⟨_,st.ti,fun v q=>by cases q⟩
   . exact ⟨_,hto,fun v q=>by cases q⟩
   . exact ⟨o1,e1,fun v q=>by rw [d1] at q;cases q⟩
   . exact ⟨o2,e2,fun v q=>by rw [d2] at q;cases q⟩
 keep:=fun i h h' st k=>by
   obtain ⟨x,y,hto⟩:=st.to;exact ⟨k z (by simp) _ st.z,k TI (by simp) _ st.ti,⟨x,y,k TO (by simp) _ hto⟩,st.i1.at fun o e=>k i1 (by simp) o e,st.i2.at fun o e=>k i2 (by simp) o e⟩
 item:=by
   intro X hP hw hK hc i pins s σ H E I hf st hg;subst hP hw hK;obtain ⟨xs,ys,x,y,hq,hr,hx,hy⟩:=hg;obtain ⟨its,rv,p,_⟩:=I.list hq;obtain ⟨jts,rw_,p2,_⟩:=I.list hr;obtain ⟨u,hu,ru⟩:=rv.get hx;obtain ⟨v,hv,rv2⟩:=rw_.get hy;obtain ⟨x0,y0,hto⟩:=st.to;refine wpAny_pyNext_zip_item D st.z st.ti hto st.i1 st.i2 p.isList p2.isList (x:=u) (y:=v) (by simpa using hu) (by simpa using hv) fun g1 k1 k2 k3 k4 k5 k6 k7=>?_
   refine ⟨_,rfl,wpAny_letOwnedTupleGo_zip k1 fun g2 k8 k9=>?_⟩;have lt:∀ {c:Addr} {o:Obj},s.heap.get? c=some o->s.heap.objs.size≠c:=fun e=>ybY (zad e)
   have keep:∀ c o,c∉[z,TI,TO,i1,i2]->s.heap.get? c=some o->g2.get? c=some o:=fun c o hc e=>by
     simp only [yaj,yaX,zaP,not_or] at hc;exact k9.extBut _ _ hc.1 (k7 c o hc.1 hc.2.2.1 hc.2.2.2.1 hc.2.2.2.2 e)
   have hT:g2.get? s.heap.objs.size=some { cls:=.type "tuple",data:=.seq #[u,v] }:=k9.extBut _ _ (lt st.z) k5;have nT:H s.heap.objs.size=none:=I.hok.fresh (yag _);have I1:Inv X pins σ (upd H s.heap.objs.size (.tup [x,y])) { s with heap:=g2 }:=I.turnedNew (t':=s.toks) hf keep (yag _) ⟨by show 2<=sizeLine;decide,[u,v],.cons ru (.cons rv2 .nil),_,hT,rfl,_,rfl⟩;refine ⟨.ref s.heap.objs.size,_,I1,rfl,⟨_,x,y,rfl,nT,rfl,fun zs hz=>by rw [I.list_inj hz hq];exact hx,fun zs hz=>by rw [I.list_inj hz hr];exact hy⟩,?_,fun c hc=>?_⟩
   . have nz:∀ c,c≠z->∀ o,g1.get? c=some o->g2.get? c=some o:=fun c hc o e=>k9.extBut _ _ hc e
     exact ⟨k8,nz _ D.TIz _ (k7 _ _ D.TIz D.TITO D.TIi1 D.TIi2 st.ti),⟨u,v,nz _ D.TOz _ k2⟩,k3.at fun o e=>nz _ D.i1z o e,k4.at fun o e=>nz _ D.i2z o e⟩
   . rw [Zai ?_]
     . exact (hf c hc).1
     . rintro rfl
       simp only [yaj,yaX,zaP] at hc;obtain ⟨o1,e1,_⟩:=st.i1;obtain ⟨o2,e2,_⟩:=st.i2;rcases hc with q | q | q | q | q
       . exact lt st.z q
       . exact lt st.ti q
       . exact lt hto q
       . exact lt e1 q
       . exact lt e2 q
 done:=by
   intro X hP hw hK hc i pins s σ H E I hf st hg;subst hP hw hK;obtain ⟨xs,ys,hq,hr,hx⟩:=hg;obtain ⟨its,rv,p,_⟩:=I.list hq;obtain ⟨jts,rw_,p2,_⟩:=I.list hr;obtain ⟨x0,y0,hto⟩:=st.to;have e1:=rv.length;have e2:=rw_.length;refine wpAny_pyNext_zip_end (I.ok.hd hc) D st.z st.ti hto st.i1 st.i2 p.isList p2.isList ?_ fun g1 k=>?_
   . rcases hx with q | q
     . exact .inl (by simp;omega)
     . exact .inr (by simp;omega)
   . refine ⟨rfl,I.turnedL (t':=s.toks) hf fun c o hc e=>?_⟩
     simp only [yaj,yaX,zaP,not_or] at hc;exact k c o hc.1 hc.2.2.1 hc.2.2.2.1 hc.2.2.2.2 e
 self:=fun _ _ _ _ _ st h=>wpAny_pyIter_zip st.z h
theorem ZgY:bootBuiltins "zip"=some (.type "zip"):=by decide +kernel
def iZip (K:ZFr)(ta:TA):TI:=fun σ H R=>ta σ H fun vs H1=>∃ a b,vs=[.ref a,.ref b]/\(∃ xs,SqL K H1 a xs)/\(∃ ys,SqL K H1 b ys)/\R (Itz K a b) H1
theorem Zje (K:ZFr) {x1} {p3:Pos} {a b:Expr} {ta:TA} {p pos:Pos} (hg:Gl X "zip") (hm:X.mg "zip"=none) (ha:PA X [a,b] ta) (hK:X.K=K:=by rfl) (hs:starEach [a,b] X.env=[(false,eval a X.env),(false,eval b X.env)]:=by rfl) (hs2:starEach [b] X.env=[(false,eval b X.env)]:=by rfl) :
   PI X (.Tuple es x1 p3) (.Call (.Name "zip" p) [a,b] [] pos) (iZip K ta):=by
 subst hK;intro pins s σ H R I h;refine Call_ (Zca I hg hm ZgY (zam (thn (ha pos pins s σ H _ I h) fun us s1 ⟨vs,H1,I1,r1,q1⟩=>?_) (by rw [hs,hs2]) (by rw [hs2];rfl)));obtain ⟨l1,l2,rfl,⟨xs,hx⟩,⟨ys,hy⟩,q⟩:=q1;cases r1 with
 | cons r rr =>
   cases rr with
   | cons r' rr =>
     cases rr;cases r;cases r';obtain ⟨its,rv,pl1,_⟩:=I1.list hx;obtain ⟨jts,rw_,pl2,_⟩:=I1.list hy;refine call_zip_2 pl1.isList pl2.isList fun g k1 k2 k3 k4 k5 k6 k7=>?_
     refine wpAny_pyIter_zip k1 ?_;have lt1:l1<s1.heap.objs.size:=by obtain ⟨o,e,_⟩:=pl1.isList;exact zad e
     have lt2:l2<s1.heap.objs.size:=by obtain ⟨o,e,_⟩:=pl2.isList;exact zad e
     have D:ZipApart (s1.heap.objs.size+4) (s1.heap.objs.size+2) (s1.heap.objs.size+3) s1.heap.objs.size (s1.heap.objs.size+1) l1 l2:=by constructor<;>(intro q;simp only [Addr] at *;omega)
     refine ⟨_,_,_,_,H1,rfl,I1.kept (t':=s1.toks) k7,turn_zip D,⟨k1,k2,⟨_,_,k3⟩,k4,k5⟩,fun c hc=>?_,q⟩;have le:s1.heap.objs.size<=c:=by simp only [yaj,yaX,zaP] at hc;rcases hc with q | q | q | q | q<;>subst q<;>first | exact yag _ | exact Nat.le_add_right _ _
     exact I1.fpOk le (I1.hok.fresh le)
theorem loopZ {a b:Addr}{g:TG}{tb:TS}(Pv:Nat->St->Hp->Prop)(h0:Pv 0 σ H)(hl:∀ i σ H,Pv i σ H->SqL K H a xs/\SqL K H b ys)
   (hs:∀ i x y T σ H,xs[i]?=some x->ys[i]?=some y->H T=none->Pv i σ H->g (.ref T) σ (upd H T (.tup [x,y])) fun σ2 H2=>tb { D with nx:=Pv (i+1),ct:=Pv (i+1),bk:=D.nx } σ2 H2)
   (hd:∀ σ H,Pv (min xs.length ys.length) σ H->D.nx σ H):LoopJ (Itz K a b) g tb D σ H:=by
 refine ⟨fun i m σ H=>m=min xs.length ys.length-i/\i<=min xs.length ys.length/\Pv i σ H,⟨_,rfl,yax _,h0⟩,?_⟩;rintro i m σ H ⟨rfl,hi,hp⟩;obtain ⟨h1,h2⟩:=hl i σ H hp;by_cases hlt:i<min xs.length ys.length
 . have l1:i<xs.length:=by omega
   have l2:i<ys.length:=by omega
   have e1:xs[i]?=some xs[i]:=yae l1;have e2:ys[i]?=some ys[i]:=yae l2;refine .inr ⟨⟨xs,ys,_,_,h1,h2,e1,e2⟩,Pv (i+1),fun σ' H' q=>⟨_,by omega,rfl,by omega,q⟩,?_⟩;rintro v H' ⟨T,x,y,rfl,nT,rfl,hx,hy⟩;have q1:=hx xs h1;have q2:=hy ys h2;exact hs i x y T σ H q1 q2 nT hp
 . have e:i=min xs.length ys.length:=by omega
   subst e;refine .inl ⟨⟨xs,ys,h1,h2,?_⟩,hd σ H hp⟩;omega
end L2
namespace ZT
open PySem PySem.Spec PyProof.Rows
theorem size_push {o:Obj}:(h.push o).objs.size=h.objs.size+1:=zaI ..
end ZT
namespace Srt
open PySem PyProof.Rows
def gallop':Bool->Keyed->Array Keyed->Nat->Nat->Nat->StateT SortSt Sem (Option Nat):=sortPriv% PySem.Builtin.gallop
def beyond' (left:Bool)(key:Keyed)(arr:Array Keyed)(base i:Nat):StateT SortSt Sem (Option Bool):=do
 let x <- elem' arr (base+i)
 if left then lt' x key else return (<- lt' key x).map (!·)
structure Cmp (M:Model)(A:Around)(E:Value->Shared->Prop)(s:Shared)(kd:SortKind)(S:Keyed->Prop)(L:Keyed->Keyed->Bool):Prop where
 lt:∀ (x y:Keyed) (st:SortSt) (Q:Option Bool->SortSt->Prop),S x->S y->kindOf st=kd->Q (some (L x y)) st->wpS M A E s (lt' x y) Q st
 asym:∀ x y,L x y=true->L y x=false
 neg:∀ x y z,S x->S y->S z->L x z=true->L x y=true\/L y z=true
section
variable {M:Model}{kd:SortKind}{S:Keyed->Prop}{L:Keyed->Keyed->Bool}
def pb (L:Keyed->Keyed->Bool)(left:Bool)(key:Keyed)(arr:Array Keyed)(base i:Nat):Bool:=match arr[base+i]? with
 | some x=>if left then L x key else !L key x
 | none=>false
theorem Zay {arr:Array Keyed}{i:Nat}{x:Keyed}{st:SortSt}{Q:Keyed->SortSt->Prop}(e:arr[i]?=some x)(h:Q x st):wpS M A E s (elem' arr i) Q st:=by rw [elem'_eq,e];exact zag h
theorem Zir (C:Cmp M A E s kd S L){left:Bool}{key:Keyed}{arr:Array Keyed}{base i:Nat}{st:SortSt}{Q:Option Bool->SortSt->Prop}(hk:kindOf st=kd)(sk:S key)(sa:∀ x∈arr.toList,S x)(hi:base+i<arr.size)
   (h:Q (some (pb L left key arr base i)) st):wpS M A E s (beyond' left key arr base i) Q st:=by
 have e:arr[base+i]?=some (arr[base+i]'hi):=yaR arr (base+i) hi;have sx:S (arr[base+i]'hi):=sa _ (by simp);unfold pb at h;rw [e] at h;unfold beyond';refine zae (Zay e ?_);cases left with
 | true=>exact C.lt _ _ _ _ sx sk hk h
 | false =>
   simp only [yaF,zay] at h ⊢;exact zae (C.lt _ _ _ _ sk sx hk (zag h))
theorem Zby (C:Cmp M A E s kd S L) {left:Bool} {key:Keyed} {arr:Array Keyed} {base n hint:Nat} {st:SortSt} {Q:Option Nat->SortSt->Prop} (hk:kindOf st=kd) (sk:S key) (sa:∀ x∈arr.toList,S x) (hn:base+n<=arr.size) (hh:hint<n)
   (mono:∀ i j,i<=j->j<n->pb L left key arr base j=true->pb L left key arr base i=true)
   (h:∀ k,k<=n->(∀ i,i<k->pb L left key arr base i=true)->(∀ i,k<=i->i<n->pb L left key arr base i=false)->Q (some k) st):wpS M A E s (gallop' left key arr base n hint) Q st:=by
 unfold gallop'
 k_delta "gallop"
 dsimp only;generalize hp:pb L left key arr base=p at mono h;have monoF:∀ i j,i<=j->j<n->p i=false->p j=false:=fun i j hij hj hi=>by
   cases e:p j with
   | false=>rfl
   | true=>rw [mono i j hij hj e] at hi;cases hi
 have ask:∀ {i:Nat} {Q':Option Bool->SortSt->Prop},i<n->Q' (some (p i)) st->wpS M A E s (beyond' left key arr base i) Q' st:=fun hi q =>
   Zir C hk sk sa (by omega) (by rw [hp];exact q)
 refine zae (ask hh ?_);dsimp only;cases e0:p hint with
 | true =>
   rw [if_pos rfl];refine zae (zaQ (zan (I:=fun x c st'=>st=st'/\c.1=none/\c.2.1<c.2.2/\hint+c.2.1<n/\x+1<=c.2.2/\p (hint+c.2.1)=true)
     (Q:=fun c st'=>st=st'/\c.1=none/\c.2.1<c.2.2/\hint+c.2.1<n/\p (hint+c.2.1)=true/\(c.2.2≥n-hint\/p (hint+c.2.2)=false)) ?step ?fin ?init) ?post)
   case init=>exact ⟨rfl,rfl,Nat.one_pos,hh,yag _,e0⟩
   case fin =>
     rintro ⟨c1,c2,c3⟩ st' ⟨rfl,e1,g1,g2,g3,g4⟩;refine ⟨rfl,e1,g1,g2,g4,.inl ?_⟩;dsimp only at *;omega
   case step =>
     rintro x ⟨c1,c2,c3⟩ st' _ hx ⟨rfl,e1,g1,g2,g3,g4⟩;dsimp only at *;subst e1;by_cases hlt:c3≥n-hint
     . rw [if_pos hlt]
       exact zag ⟨rfl,rfl,g1,g2,g4,.inl hlt⟩
     . rw [if_neg hlt]
       refine zae (ask (by omega) ?_);dsimp only;cases e:p (hint+c3) with
       | true =>
         rw [if_neg (by decide)];refine zag ⟨rfl,rfl,?_,?_,?_,e⟩
         . show c3<2*c3+1
           omega
         . show hint+c3<n
           omega
         . show x+1+1<=2*c3+1
           omega
       | false =>
         rw [if_pos (by decide)];exact zag ⟨rfl,rfl,g1,g2,g4,.inr e⟩
   case post =>
     rintro ⟨c1,c2,c3⟩ st' ⟨rfl,e1,g1,g2,g4,g5⟩;dsimp only at *;subst e1;dsimp only;have h1:hint+c2+1<=hint+min c3 (n-hint):=by omega
     have h2:hint+min c3 (n-hint)<=n:=by omega
     have h3:∀ i,i<hint+c2+1->p i=true:=fun i hi=>mono i (hint+c2) (by omega) g2 g4
     have h4:∀ i,hint+min c3 (n-hint)<=i->i<n->p i=false:=by
       intro i hi hin;rcases g5 with z | z
       . omega
       . by_cases hc:c3≥n-hint
         . omega
         . exact monoF _ i (by omega) hin z
     clear g1 g2 g4 g5;refine zae (zaQ (zan (I:=fun x c st'=>st=st'/\c.1=none/\c.2.1<=c.2.2/\c.2.2<=n/\(c.2.2-c.2.1<=n-x)/\(∀ i,i<c.2.1->p i=true)/\(∀ i,c.2.2<=i->i<n->p i=false))
       (Q:=fun c st'=>st=st'/\c.1=none/\c.2.2<=n/\(∀ i,i<c.2.2->p i=true)/\(∀ i,c.2.2<=i->i<n->p i=false)) ?step2 ?fin2 ?init2) ?post2)
     case init2=>exact ⟨rfl,rfl,h1,h2,yaN (Nat.sub_le _ _) h2,h3,h4⟩
     case fin2 =>
       rintro ⟨c1,c2,c3⟩ st' ⟨rfl,e1,g1,g2,g3,g4,g5⟩;dsimp only at *;have:c2=c3:=by omega
       subst this;exact ⟨rfl,e1,g2,g4,g5⟩
     case post2 =>
       rintro ⟨c1,c2,c3⟩ st' ⟨rfl,e1,g2,g4,g5⟩;dsimp only at *;subst e1;exact zag (h _ g2 g4 g5)
     case step2 =>
       rintro x ⟨c1,c2,c3⟩ st' _ hx ⟨rfl,e1,g1,g2,g3,g4,g5⟩;dsimp only at *;subst e1;by_cases hlt:c2≥c3
       . rw [if_pos hlt]
         have:c2=c3:=by omega
         subst this;exact zag ⟨rfl,rfl,g2,g4,g5⟩
       . walk_at "xc"
 | false =>
   rw [if_neg (by decide)];refine zae (zaQ (zan (I:=fun x c st'=>st=st'/\c.1=none/\c.2.1<c.2.2/\c.2.1<=hint/\x+1<=c.2.2/\p (hint-c.2.1)=false)
     (Q:=fun c st'=>st=st'/\c.1=none/\c.2.1<c.2.2/\c.2.1<=hint/\p (hint-c.2.1)=false/\(c.2.2≥hint+1\/p (hint-c.2.2)=true)) ?step ?fin ?init) ?post)
   case init=>exact ⟨rfl,rfl,Nat.one_pos,yax _,yag _,e0⟩
   case fin =>
     rintro ⟨c1,c2,c3⟩ st' ⟨rfl,e1,g1,g2,g3,g4⟩;refine ⟨rfl,e1,g1,g2,g4,.inl ?_⟩;dsimp only at *;omega
   case step =>
     rintro x ⟨c1,c2,c3⟩ st' _ hx ⟨rfl,e1,g1,g2,g3,g4⟩;dsimp only at *;subst e1;by_cases hlt:c3≥hint+1
     . rw [if_pos hlt]
       exact zag ⟨rfl,rfl,g1,g2,g4,.inl hlt⟩
     . rw [if_neg hlt]
       refine zae (ask (by omega) ?_);dsimp only;cases e:p (hint-c3) with
       | true =>
         rw [if_pos rfl];exact zag ⟨rfl,rfl,g1,g2,g4,.inr e⟩
       | false =>
         rw [if_neg (by decide)];refine zag ⟨rfl,rfl,?_,?_,?_,e⟩
         . show c3<2*c3+1
           omega
         . show c3<=hint
           omega
         . show x+1+1<=2*c3+1
           omega
   case post =>
     rintro ⟨c1,c2,c3⟩ st' ⟨rfl,e1,g1,g2,g4,g5⟩;dsimp only at *;subst e1;dsimp only;have h1:hint+1-min c3 (hint+1)<=hint-c2:=by omega
     have h2:hint-c2<=n:=by omega
     have h3:∀ i,i<hint+1-min c3 (hint+1)->p i=true:=by
       intro i hi;rcases g5 with z | z
       . omega
       . by_cases hc:c3≥hint+1
         . omega
         . exact mono i (hint-c3) (by omega) (by omega) z
     have h4:∀ i,hint-c2<=i->i<n->p i=false:=fun i hi hin=>monoF _ i hi hin g4
     clear g1 g2 g4 g5;refine zae (zaQ (zan (I:=fun x c st'=>st=st'/\c.1=none/\c.2.1<=c.2.2/\c.2.2<=n/\(c.2.2-c.2.1<=n-x)/\(∀ i,i<c.2.1->p i=true)/\(∀ i,c.2.2<=i->i<n->p i=false))
       (Q:=fun c st'=>st=st'/\c.1=none/\c.2.2<=n/\(∀ i,i<c.2.2->p i=true)/\(∀ i,c.2.2<=i->i<n->p i=false)) ?step2 ?fin2 ?init2) ?post2)
     case init2=>exact ⟨rfl,rfl,h1,h2,yaN (Nat.sub_le _ _) h2,h3,h4⟩
     case fin2 =>
       rintro ⟨c1,c2,c3⟩ st' ⟨rfl,e1,g1,g2,g3,g4,g5⟩;dsimp only at *;have:c2=c3:=by omega
       subst this;exact ⟨rfl,e1,g2,g4,g5⟩
     case post2 =>
       rintro ⟨c1,c2,c3⟩ st' ⟨rfl,e1,g2,g4,g5⟩;dsimp only at *;subst e1;exact zag (h _ g2 g4 g5)
     case step2 =>
       rintro x ⟨c1,c2,c3⟩ st' _ hx ⟨rfl,e1,g1,g2,g3,g4,g5⟩;dsimp only at *;subst e1;by_cases hlt:c2≥c3
       . rw [if_pos hlt]
         have:c2=c3:=by omega
         subst this;exact zag ⟨rfl,rfl,g2,g4,g5⟩
       . walk_at "xc"
end
end Srt
namespace Srt
open PySem PyProof.Rows
structure Ord (S:Keyed->Prop)(L:Keyed->Keyed->Bool):Prop where
 asym:∀ x y,L x y=true->L y x=false
 neg:∀ x y z,S x->S y->S z->L x z=true->L x y=true\/L y z=true
abbrev Rise (L:Keyed->Keyed->Bool)(l:List Keyed):Prop:=l.Pairwise fun x y=>L y x=false
section
variable {S:Keyed->Prop}{L:Keyed->Keyed->Bool}
theorem Ord.step (O:Ord S L){x y z:Keyed}(sx:S x)(sy:S y)(sz:S z)(h1:L z y=false)(h2:L y x=false):L z x=false:=by
 cases e:L z x with
 | false=>rfl
 | true =>
   rcases O.neg z y x sz sy sx e with q | q
   . rw [q] at h1;cases h1
   . rw [q] at h2;cases h2
structure MI (L:Keyed->Keyed->Bool)(al bl ol:List Keyed)(ia ib:Nat):Prop where
 perm:ol.Perm (al.take ia++bl.take ib)
 rise:Rise L ol
 lea:∀ x∈ol,∀ y∈al.drop ia,L y x=false
 leb:∀ x∈ol,∀ y∈bl.drop ib,L y x=false
 ha:ia<=al.length
 hb:ib<=bl.length
theorem MI.len {al bl ol:List Keyed}{ia ib:Nat}(h:MI L al bl ol ia ib):ol.length=ia+ib:=by rw [h.perm.length_eq,yac,yaG,yaG];have:=h.ha;have:=h.hb;omega
theorem ZfU {α:Type}(l:List α)(i k:Nat):l.take (i+k)=l.take i++(l.drop i).take k:=by rw [List.take_add]
theorem Zhm {α:Type}{l:List α}{i k:Nat}{y:α}(h:y∈l.drop (i+k)):y∈l.drop i:=by rw [<- ycl] at h;exact ybm h
theorem Zdi {l:List Keyed}(h:Rise L l)(i k:Nat):∀ x∈(l.drop i).take k,∀ y∈l.drop (i+k),L y x=false:=by intro x hx y hy;have h2:Rise L (l.drop i):=h.sublist (yaZ _ _);rw [<- yaq k (l.drop i)] at h2;rw [<- ycl] at hy;exact (yal.mp h2).2.2 x hx y hy
theorem MI.takeB {al bl ol:List Keyed}{ia ib:Nat}(h:MI L al bl ol ia ib)(rb:Rise L bl)(k:Nat)(hk:ib+k<=bl.length)(c:∀ y∈(bl.drop ib).take k,∀ z∈al.drop ia,L z y=false):MI L al bl (ol++(bl.drop ib).take k) ia (ib+k) where
 perm:=by rw [ZfU,<- yah];exact h.perm.append_right _
 rise:=yal.mpr ⟨h.rise,(rb.sublist (yaZ _ _)).sublist (ybc _ _),fun x hx y hy=>h.leb x hx y (ybb hy)⟩
 lea:=fun x hx y hy=>by
   rcases yaf.mp hx with z | z
   . exact h.lea x z y hy
   . exact c x z y hy
 leb:=fun x hx y hy=>by
   rcases yaf.mp hx with z | z
   . exact h.leb x z y (Zhm hy)
   . exact Zdi rb ib k x z y hy
 ha:=h.ha
 hb:=hk
theorem MI.takeA {al bl ol:List Keyed}{ia ib:Nat}(h:MI L al bl ol ia ib)(ra:Rise L al)(k:Nat)(hk:ia+k<=al.length)(c:∀ y∈(al.drop ia).take k,∀ z∈bl.drop ib,L z y=false):MI L al bl (ol++(al.drop ia).take k) (ia+k) ib where
 perm:=by rw [ZfU];refine (h.perm.append_right _).trans ?_;rw [yah,yah];exact zah _ ybx
 rise:=yal.mpr ⟨h.rise,(ra.sublist (yaZ _ _)).sublist (ybc _ _),fun x hx y hy=>h.lea x hx y (ybb hy)⟩
 lea:=fun x hx y hy=>by
   rcases yaf.mp hx with z | z
   . exact h.lea x z y (Zhm hy)
   . exact Zdi ra ia k x z y hy
 leb:=fun x hx y hy=>by
   rcases yaf.mp hx with z | z
   . exact h.leb x z y hy
   . exact c x z y hy
 ha:=hk
 hb:=h.hb
abbrev Mrg (L:Keyed->Keyed->Bool)(al bl ol:List Keyed):Prop:=ol.Perm (al++bl)/\Rise L ol
theorem MI.doneA {al bl ol:List Keyed}{ia:Nat}(h:MI L al bl ol ia bl.length)(ra:Rise L al):Mrg L al bl (ol++al.drop ia):=by
 constructor
 . refine (h.perm.append_right _).trans ?_
   rw [yas (yag _),yah];refine (zah _ ybx).trans ?_;rw [<- yah,yaq]
 . exact yal.mpr ⟨h.rise,ra.sublist (yaZ _ _),h.lea⟩
theorem MI.doneB {al bl ol:List Keyed}{ib:Nat}(h:MI L al bl ol al.length ib)(rb:Rise L bl):Mrg L al bl (ol++bl.drop ib):=by
 constructor
 . refine (h.perm.append_right _).trans ?_
   rw [yas (yag al.length),yah,yaq]
 . exact yal.mpr ⟨h.rise,rb.sublist (yaZ _ _),h.leb⟩
theorem MI.lastA {al bl ol:List Keyed}{ia ib:Nat}(h:MI L al bl ol ia ib)(ra:Rise L al)(rb:Rise L bl)(c:∀ y∈bl.drop ib,∀ z∈al.drop ia,L z y=false):Mrg L al bl (ol++bl.drop ib++al.drop ia):=by
 constructor
 . refine ((h.perm.append_right _).append_right _).trans ?_
   have e:al.take ia++bl.take ib++bl.drop ib++al.drop ia=al.take ia++(bl++al.drop ia):=by rw [yah (al.take ia),yaq,yah]
   rw [e];refine (zah _ ybx).trans ?_;rw [<- yah,yaq]
 . refine yal.mpr ⟨yal.mpr ⟨h.rise,rb.sublist (yaZ _ _),h.leb⟩,ra.sublist (yaZ _ _),fun x hx y hy=>?_⟩
   rcases yaf.mp hx with z | z
   . exact h.lea x z y hy
   . exact c x z y hy
end
def mergeLo':Array Keyed->Array Keyed->StateT SortSt Sem (Array Keyed):=sortPriv% PySem.Builtin.mergeLo
def setMinGallop':Nat->StateT SortSt Sem Unit:=sortPriv% PySem.Builtin.setMinGallop
theorem Zeo (g:Nat):setMinGallop' g=modify fun s=>SortSt.mk' (kindOf s) (arrOf s) (pendingOf s) g (failedOf s):=rfl
structure Sm (st st':SortSt):Prop where
 kind:kindOf st'=kindOf st
 arr:arrOf st'=arrOf st
 pend:pendingOf st'=pendingOf st
 failed:failedOf st'=failedOf st
section
variable {M:Model}{kd:SortKind}{S:Keyed->Prop}{L:Keyed->Keyed->Bool}
theorem Cmp.ord (C:Cmp M A E s kd S L):Ord S L:=⟨C.asym,C.neg⟩
theorem ZbT {a:Array Keyed}{i:Nat}(h:i<a.size):a.toList.drop i=a[i]::a.toList.drop (i+1):=by rw [ybr (by simpa using h)];simp
theorem Zaw {a:Array Keyed}{i:Nat}(h:i<a.size):a[i]∈a.toList:=by simp
theorem Ze0 {a:Array Keyed}{i:Nat}(ra:Rise L a.toList)(h:i<a.size):∀ z∈a.toList.drop (i+1),L z a[i]=false:=by intro z hz;have h2:Rise L (a.toList.drop i):=ra.sublist (yaZ _ _);rw [ZbT h] at h2;exact (ybZ.mp h2).1 z hz
theorem ZgG (O:Ord S L){a:Array Keyed}{i:Nat}(sa:∀ x∈a.toList,S x)(ra:Rise L a.toList)(h:i<a.size){y:Keyed}(sy:S y)(c:L a[i] y=false):∀ z∈a.toList.drop i,L z y=false:=by
 intro z hz;rw [ZbT h] at hz;rcases yaj.mp hz with e | e
 . rw [e]
   exact c
 . exact O.step sy (sa _ (Zaw h)) (sa _ (ybm e)) (Ze0 ra h z e) c
variable {a b out:Array Keyed}{ia ib k:Nat}
theorem MI.pushB (O:Ord S L)(m:MI L a.toList b.toList out.toList ia ib)(sa:∀ x∈a.toList,S x)(sb:∀ x∈b.toList,S x)(ra:Rise L a.toList)(rb:Rise L b.toList)(hia:ia<a.size)(hib:ib<b.size)(c:L a[ia] b[ib]=false) :
   MI L a.toList b.toList (out.push b[ib]).toList ia (ib+1):=by
 have e:(b.toList.drop ib).take 1=[b[ib]]:=by rw [ZbT hib];rfl
 have:=m.takeB rb 1 (by simp;omega) (by
   rw [e];intro y hy z hz;have hy:y=b[ib]:=by simpa using hy
   subst hy;exact ZgG O sa ra hia (sb _ (Zaw hib)) c z hz)
 rw [e] at this;rw [ycd];exact this
theorem MI.pushA (O:Ord S L)(m:MI L a.toList b.toList out.toList ia ib)(sa:∀ x∈a.toList,S x)(sb:∀ x∈b.toList,S x)(ra:Rise L a.toList)(rb:Rise L b.toList)(hia:ia<a.size)(hib:ib<b.size)(c:L b[ib] a[ia]=false) :
   MI L a.toList b.toList (out.push a[ia]).toList (ia+1) ib:=by
 have e:(a.toList.drop ia).take 1=[a[ia]]:=by rw [ZbT hia];rfl
 have:=m.takeA ra 1 (by simp;omega) (by
   rw [e];intro y hy z hz;have hy:y=a[ia]:=by simpa using hy
   subst hy;exact ZgG O sb rb hib (sa _ (Zaw hia)) c z hz)
 rw [e] at this;rw [ycd];exact this
theorem Zfm (a:Array Keyed)(i k:Nat):(a.extract i (i+k)).toList=(a.toList.drop i).take k:=by simp [List.extract_eq_take_drop]
theorem ZdB (a:Array Keyed)(i:Nat):(a.extract i a.size).toList=a.toList.drop i:=by simp only [Array.toList_extract,List.extract_eq_take_drop];exact yas (by simp)
theorem ZbI {a:Array Keyed}{i k:Nat}{x:Keyed}(h:x∈(a.toList.drop i).take k):∃ j,j<k/\∃ q:i+j<a.size,x=a[i+j]:=by
 obtain ⟨j,hj,e⟩:=yaV.mp h;rw [yaG,yaW] at hj;have:i+j<a.size:=by simp at hj;omega
 refine ⟨j,by omega,this,?_⟩;rw [<- e];simp
theorem MI.extA (O:Ord S L)(m:MI L a.toList b.toList out.toList ia ib)(sa:∀ x∈a.toList,S x)(sb:∀ x∈b.toList,S x)(ra:Rise L a.toList)(rb:Rise L b.toList)(hib:ib<b.size)(hk:ia+k<=a.size)(c:∀ i,i<k->pb L false b[ib] a ia i=true) :
   MI L a.toList b.toList (out++a.extract ia (ia+k)).toList (ia+k) ib:=by
 rw [yaY,Zfm];refine m.takeA ra k (by simpa using hk) fun y hy z hz=>?_
 obtain ⟨j,hj,q,rfl⟩:=ZbI hy;have:=c j hj;unfold pb at this;rw [yaR a (ia+j) q] at this;simp only [yaF,zay,ycr] at this;exact ZgG O sb rb hib (sa _ (Zaw q)) this z hz
theorem MI.extB (O:Ord S L)(m:MI L a.toList b.toList out.toList ia ib)(sa:∀ x∈a.toList,S x)(sb:∀ x∈b.toList,S x)(ra:Rise L a.toList)(rb:Rise L b.toList)(hia:ia<a.size)(hk:ib+k<=b.size)(c:∀ i,i<k->pb L true a[ia] b ib i=true) :
   MI L a.toList b.toList (out++b.extract ib (ib+k)).toList ia (ib+k):=by
 rw [yaY,Zfm];refine m.takeB rb k (by simpa using hk) fun y hy z hz=>?_
 obtain ⟨j,hj,q,rfl⟩:=ZbI hy;have:=c j hj;unfold pb at this;rw [yaR b (ib+j) q] at this;simp only [zaT] at this;exact ZgG O sa ra hia (sb _ (Zaw q)) (O.asym _ _ this) z hz
theorem MI.finA (m:MI L a.toList b.toList out.toList ia ib)(ra:Rise L a.toList)(e:ib=b.size):Mrg L a.toList b.toList (out++a.extract ia a.size++b.extract ib b.size).toList:=by
 have e1:ib=b.toList.length:=by simpa using e
 subst e1;rw [yaY,yaY,ZdB,ZdB,ybh (yag _),yaO];exact m.doneA ra
theorem MI.finB (m:MI L a.toList b.toList out.toList ia ib)(rb:Rise L b.toList)(e:ia=a.size):Mrg L a.toList b.toList (out++a.extract ia a.size++b.extract ib b.size).toList:=by
 have e1:ia=a.toList.length:=by simpa using e
 subst e1;rw [yaY,yaY,ZdB,ZdB,ybh (yag a.toList.length),yaO];exact m.doneB rb
theorem MI.finL (m:MI L a.toList b.toList out.toList ia ib)(ra:Rise L a.toList)(rb:Rise L b.toList)(e:ia+1=a.size)(hl:∀ z∈a.toList.drop (a.size-1),∀ y∈b.toList,L z y=false) :
   Mrg L a.toList b.toList (out++b.extract ib b.size++a.extract ia a.size).toList:=by
 rw [yaY,yaY,ZdB,ZdB];refine m.lastA ra rb fun y hy z hz=>hl z (by rw [<- e];exact hz) y (ybm hy)
structure MS (L:Keyed->Keyed->Bool)(st:SortSt)(a b out:Array Keyed)(ia ib:Nat)(st':SortSt):Prop where
 sm:Sm st st'
 mi:MI L a.toList b.toList out.toList ia ib
 ha:ia+1<a.size
 hb:ib<b.size
theorem MI.size {a b out:Array Keyed}{ia ib:Nat}(m:MI L a.toList b.toList out.toList ia ib):out.size=ia+ib:=by have:=m.len;simpa using this
theorem Sm.refl (st:SortSt):Sm st st:=⟨rfl,rfl,rfl,rfl⟩
theorem Sm.gal {st st':SortSt}(h:Sm st st')(g:Nat):Sm st (SortSt.mk' (kindOf st') (arrOf st') (pendingOf st') g (failedOf st')):=⟨h.kind,h.arr,h.pend,h.failed⟩
theorem ZbJ {g:Nat}{st:SortSt}{Q:Unit->SortSt->Prop}(h:Q () (SortSt.mk' (kindOf st) (arrOf st) (pendingOf st) g (failedOf st))):wpS M A E s (setMinGallop' g) Q st:=by rw [Zeo];exact zaW h
theorem Zf1 (O:Ord S L){a:Array Keyed}{ia n:Nat}{key:Keyed}(sa:∀ x∈a.toList,S x)(ra:Rise L a.toList)(sk:S key)(hn:ia+n<=a.size):∀ i j,i<=j->j<n->pb L false key a ia j=true->pb L false key a ia i=true:=by
 intro i j hij hj h;unfold pb at *;rw [yaR a (ia+j) (by omega)] at h;rw [yaR a (ia+i) (by omega)];simp only [yaF,zay,ycr] at h ⊢;rcases ybN i j with q | q
 . have:=Ze0 ra (i:=ia+i) (by omega) (a[ia+j]'(by omega)) (yaV.mpr ⟨j-i-1,by simp;omega,by simp;congr 1;omega⟩)
   exact O.step (sa _ (Zaw _)) (sa _ (Zaw _)) sk h this
 . have:i=j:=by omega
   subst this;exact h
theorem Zf2 (O:Ord S L){a:Array Keyed}{ia n:Nat}{key:Keyed}(sa:∀ x∈a.toList,S x)(ra:Rise L a.toList)(sk:S key)(hn:ia+n<=a.size):∀ i j,i<=j->j<n->pb L true key a ia j=true->pb L true key a ia i=true:=by
 intro i j hij hj h;unfold pb at *;rw [yaR a (ia+j) (by omega)] at h;rw [yaR a (ia+i) (by omega)];simp only [zaT] at h ⊢;rcases ybN i j with q | q
 . have:=Ze0 ra (i:=ia+i) (by omega) (a[ia+j]'(by omega)) (yaV.mpr ⟨j-i-1,by simp;omega,by simp;congr 1;omega⟩)
   rcases O.neg _ _ _ (sa _ (Zaw _)) (sa _ (Zaw (i:=ia+i) (by omega))) sk h with z | z
   . rw [this] at z
     cases z
   . exact z
 . have:i=j:=by omega
   subst this;exact h
theorem pb_f {a:Array Keyed}{ia i:Nat}{key:Keyed}(q:ia+i<a.size):pb L false key a ia i=!L key a[ia+i]:=by unfold pb;rw [yaR a (ia+i) q];rfl
theorem pb_t {a:Array Keyed}{ia i:Nat}{key:Keyed}(q:ia+i<a.size):pb L true key a ia i=L a[ia+i] key:=by unfold pb;rw [yaR a (ia+i) q];rfl
theorem ZiO {α β γ:Type}{X:StateT SortSt Sem α}{Q:α->SortSt->Prop}{st:SortSt}(v:β->γ->StateT SortSt Sem α)(hv:∀ q x,wpS M A E s (v q x) Q st)(h:(∀ q x,wpS M A E s (v q x) Q st)->wpS M A E s X Q st):wpS M A E s X Q st:=h hv
theorem ZeU {α β γ δ:Type}{X:StateT SortSt Sem α}{Q:α->SortSt->Prop}{st:SortSt}(v:β->γ->δ->StateT SortSt Sem α)(P:γ->δ->Prop)(hv:∀ q x y,P x y->wpS M A E s (v q x y) Q st)(h:(∀ q x y,P x y->wpS M A E s (v q x y) Q st)->wpS M A E s X Q st):wpS M A E s X Q st:=h hv
theorem Zhv (C:Cmp M A E s kd S L) {a b:Array Keyed} {st:SortSt} {Q:Array Keyed->SortSt->Prop} (hk:kindOf st=kd) (sa:∀ x∈a.toList,S x) (sb:∀ x∈b.toList,S x) (ra:Rise L a.toList) (rb:Rise L b.toList) (na:0<a.size) (nb:0<b.size)
   (h0:∀ z∈a.toList,L z b[0]=false) (hl:∀ z∈a.toList.drop (a.size-1),∀ y∈b.toList,L z y=false)
   (h:∀ o st',Sm st st'->Mrg L a.toList b.toList o.toList->Q o st'):wpS M A E s (mergeLo' a b) Q st:=by
 have O:=C.ord;unfold mergeLo'
 k_delta "mergeLo"
 refine zae (wpS_lift (zaR ⟨rfl,?_⟩));refine zae (Zay (yaR b 0 nb) ?_);dsimp -zeta only;have nil:MI L a.toList b.toList (#[]:Array Keyed).toList 0 0:=⟨by simp,.nil,fun _ z=>by simp at z,fun _ z=>by simp at z,yax _,yax _⟩
 have ini:MI L a.toList b.toList (#[b[0]]:Array Keyed).toList 0 1:=nil.pushB O sa sb ra rb na nb (h0 _ (Zaw na));by_cases e1:(1==b.size)=true
 . rw [if_pos e1]
   exact zag (h _ _ (Sm.refl _) (ini.finA ra (by simpa using e1)))
 rw [if_neg e1];by_cases e2:(0+1==a.size)=true
 . rw [if_pos e2]
   exact zag (h _ _ (Sm.refl _) (ini.finL ra rb (by simpa using e2) hl))
 rw [if_neg e2];have e1':1<b.size:=by
   have:1≠b.size:=by simpa using e1
   omega
 have e2':1<a.size:=by
   have:1≠a.size:=by simpa using e2
   omega
 refine zae (wpS_get ?_);refine zae (zaQ (zan (I:=fun x c st'=>c.1=none/\MS L st a b c.2.1 c.2.2.1 c.2.2.2.1 st'/\x+1<=c.2.1.size) (Q:=fun c st'=>∃ o,c.1=some o/\Sm st st'/\Mrg L a.toList b.toList o.toList) ?step ?fin ?init) ?post)
 case init=>exact ⟨rfl,⟨Sm.refl _,ini,e2',e1'⟩,by simp⟩
 case fin =>
   rintro ⟨c1,out,ia,ib,g⟩ st' ⟨_,ms,hs⟩;dsimp only at *;have:=ms.mi.size;have:=ms.ha;have:=ms.hb;omega
 case post =>
   rintro ⟨c1,out,ia,ib,g⟩ st' ⟨o,rfl,sm,m⟩;exact zag (h _ _ sm m)
 case step =>
   rintro x ⟨c1,out,ia,ib,g⟩ st' _ hx ⟨rfl,ms,hs⟩;dsimp -zeta only at *;refine zae (zaQ (zan (I:=fun _ c st'=>c.1=none/\MS L st a b c.2.1 c.2.2.1 c.2.2.2.1 st'/\x+1<=c.2.1.size)
     (Q:=fun c st'=>(∃ o,c.1=some o/\Sm st st'/\Mrg L a.toList b.toList o.toList)\/(c.1=none/\MS L st a b c.2.1 c.2.2.1 c.2.2.2.1 st'/\x+1<=c.2.1.size)) ?step1 (fun _ _ z=>.inr z) ?init1) ?post1)
   case init1=>exact ⟨rfl,ms,hs⟩
   case step1 =>
     rintro y ⟨c1,out,ia,ib,ac,bc⟩ st' _ hy ⟨rfl,ms,hs⟩;dsimp only at *;have hib:=ms.hb;have hia:ia<a.size:=by have:=ms.ha;omega
     refine zae (Zay (yaR b ib hib) ?_);refine zae (Zay (yaR a ia hia) ?_);refine zae (C.lt _ _ _ _ (sb _ (Zaw hib)) (sa _ (Zaw hia)) (ms.sm.kind.trans hk) ?_);dsimp only;cases e:L b[ib] a[ia] with
     | true =>
       rw [if_pos rfl];refine zae (Zay (yaR b ib hib) ?_);have m2:=ms.mi.pushB O sa sb ra rb hia hib (C.asym _ _ e);by_cases z:(ib+1==b.size)=true
       . rw [if_pos z]
         exact zag (.inl ⟨_,rfl,ms.sm,m2.finA ra (by simpa using z)⟩)
       . rw [if_neg z]
         have z':ib+1<b.size:=by
           have:ib+1≠b.size:=by simpa using z
           omega
         split
         . exact zag (.inr ⟨rfl,⟨ms.sm,m2,ms.ha,z'⟩,by simp;omega⟩)
         . exact zag ⟨rfl,⟨ms.sm,m2,ms.ha,z'⟩,by simp;omega⟩
     | false =>
       rw [if_neg (by decide)];refine zae (Zay (yaR a ia hia) ?_);have m2:=ms.mi.pushA O sa sb ra rb hia hib e;by_cases z:(ia+1+1==a.size)=true
       . rw [if_pos z]
         exact zag (.inl ⟨_,rfl,ms.sm,m2.finL ra rb (by simpa using z) hl⟩)
       . rw [if_neg z]
         have z':ia+1+1<a.size:=by
           have:ia+1+1≠a.size:=by simpa using z
           have:=ms.ha;omega
         split
         . exact zag (.inr ⟨rfl,⟨ms.sm,m2,z',hib⟩,by simp;omega⟩)
         . exact zag ⟨rfl,⟨ms.sm,m2,z',hib⟩,by simp;omega⟩
   case post1 =>
     rintro ⟨c1,out,ia,ib,ac,bc⟩ st' (⟨o,rfl,sm,m⟩ | ⟨rfl,ms,hs⟩)
     . exact zag ⟨o,rfl,sm,m⟩
     . dsimp -zeta only at *
       refine zae (wpS_lift (zaR ⟨rfl,?_⟩));refine zae (zaQ (zan (I:=fun y c st'=>c.1=none/\MS L st a b c.2.1 c.2.2.1 c.2.2.2.1 st'/\x+1+y<=c.2.1.size)
         (Q:=fun c st'=>(∃ o,c.1=some o/\Sm st st'/\Mrg L a.toList b.toList o.toList)\/(c.1=none/\MS L st a b c.2.1 c.2.2.1 c.2.2.2.1 st'/\x+2<=c.2.1.size)) ?step2 ?fin2 ?init2) ?post2)
       case init2=>exact ⟨rfl,ms,hs⟩
       case fin2 =>
         rintro ⟨c1,out,ia,ib,g,ac,bc⟩ st' ⟨e,ms,hs⟩;refine .inr ⟨e,ms,?_⟩;dsimp only at *;omega
       case post2 =>
         rintro ⟨c1,out,ia,ib,g,ac,bc⟩ st' (⟨o,rfl,sm,m⟩ | ⟨rfl,ms,hs⟩)
         . exact zag ⟨o,rfl,sm,m⟩
         . dsimp only at *
           exact zae (ZbJ (zag ⟨rfl,⟨ms.sm.gal _,ms.mi,ms.ha,ms.hb⟩,by dsimp only;omega⟩))
       case step2 =>
         rintro y ⟨c1,out,ia,ib,g,ac,bc⟩ st' _ hy ⟨e3,ms,hs⟩;dsimp -zeta only at e3 ms hs ⊢;subst e3;have hib:=ms.hb;have hia:=ms.ha
         extract_lets +onlyGivenNames -underBinder s1 n1 s2 n2 s3 n3 s4 n4 s5 n5 n6 jp
         refine ZiO jp (fun _ g=>?_) fun hj=>by clear_value jp;split<;>exact hj _ _
         dsimp -zeta only [s1,s2,s3,s4,s5,n1,n2,n3,n4,n5,n6,jp];clear jp s1 s2 s3 s4 s5 n1 n2 n3 n4 n5 n6;refine zae (ZbJ ?_);refine zae (Zay (yaR b ib hib) ?_);refine zae (Zby C (ms.sm.kind.trans hk) (sb _ (Zaw hib)) sa (by omega) (by omega) (Zf1 O sa ra (sb _ (Zaw hib)) (by omega)) fun k1 hk1 ht1 hf1=>?_);dsimp -zeta only
         extract_lets +onlyGivenNames -underBinder ac jp
         refine ZeU jp (fun out ia=>∃ h:ia+1<a.size,MI L a.toList b.toList out.toList ia ib/\L (a[ia]'(by omega)) b[ib]=false/\x+1+y<=out.size) ?_ ?_
         . rintro _ out ia ⟨ha,m1,nx,hs⟩
           dsimp -zeta only [jp];clear jp;refine zae (Zay (yaR b ib hib) ?_);have m2:=m1.pushB O sa sb ra rb (by omega) hib nx
           extract_lets +onlyGivenNames -underBinder ou n1
           by_cases z3:(ib+1==b.size)=true
           . rw [if_pos z3]
             exact zag (.inl ⟨_,rfl,ms.sm.gal _,m2.finA ra (by simpa using z3)⟩)
           rw [if_neg z3];have z3':ib+1<b.size:=by
             have:ib+1≠b.size:=by simpa using z3
             omega
           refine zae (Zay (yaR a ia (by omega)) ?_);refine zae (Zby C (ms.sm.kind.trans hk) (sa _ (Zaw (by omega))) sb (by omega) (by omega) (Zf2 O sb rb (sa _ (Zaw (by omega))) (by omega)) fun k2 hk2 ht2 hf2=>?_);dsimp -zeta only
           extract_lets +onlyGivenNames -underBinder bc jp
           refine ZeU jp (fun ou ib=>∃ h:ib<b.size,MI L a.toList b.toList ou.toList ia ib/\L b[ib] (a[ia]'(by omega))=false/\x+2+y<=ou.size) ?_ ?_
           . rintro _ ou ib ⟨hb,m3,nx2,hs⟩
             dsimp -zeta only [jp];clear jp;refine zae (Zay (yaR a ia (by omega)) ?_);have m4:=m3.pushA O sa sb ra rb (by omega) hb nx2;dsimp only;by_cases z5:(ia+1+1==a.size)=true
             . rw [if_pos z5]
               exact zag (.inl ⟨_,rfl,ms.sm.gal _,m4.finL ra rb (by simpa using z5) hl⟩)
             rw [if_neg z5];have z5':ia+1+1<a.size:=by
               have:ia+1+1≠a.size:=by simpa using z5
               omega
             split
             . exact zag (.inr ⟨rfl,⟨ms.sm.gal _,m4,z5',hb⟩,by simp;omega⟩)
             . exact zag ⟨rfl,⟨ms.sm.gal _,m4,z5',hb⟩,by simp;omega⟩
           clear_value jp
           intro hj;by_cases kz:k2 > 0
           . rw [if_pos kz]
             have m3:=m2.extB (k:=k2) O sa sb ra rb (by omega) (by omega) ht2;dsimp only;by_cases z4:(ib+1+k2==b.size)=true
             . rw [if_pos z4]
               exact zag (.inl ⟨_,rfl,ms.sm.gal _,m3.finA ra (by simpa using z4)⟩)
             rw [if_neg z4];have:ib+1+k2≠b.size:=by simpa using z4
             have nx2:=hf2 k2 (yag _) (by omega);rw [pb_t (by omega)] at nx2;exact hj _ _ _ ⟨by omega,m3,nx2,by simp [ou];omega⟩
           . rw [if_neg kz]
             have nx2:=hf2 0 (by omega) (by omega);rw [pb_t (by omega)] at nx2;exact hj _ _ _ ⟨by omega,m2,nx2,by simp [ou];omega⟩
         clear_value jp
         intro hj;by_cases kz:k1 > 0
         . rw [if_pos kz]
           have m1:=ms.mi.extA (k:=k1) O sa sb ra rb hib (by omega) ht1;dsimp only;by_cases z1:(ia+k1+1==a.size)=true
           . rw [if_pos z1]
             exact zag (.inl ⟨_,rfl,ms.sm.gal _,m1.finL ra rb (by simpa using z1) hl⟩)
           rw [if_neg z1];by_cases z2:(ia+k1==a.size)=true
           . rw [if_pos z2]
             exact zag (.inl ⟨_,rfl,ms.sm.gal _,m1.finB rb (by simpa using z2)⟩)
           rw [if_neg z2];have:ia+k1+1≠a.size:=by simpa using z1
           have:ia+k1≠a.size:=by simpa using z2
           have nx:=hf1 k1 (yag _) (by omega);rw [pb_f (by omega)] at nx;exact hj _ _ _ ⟨by omega,m1,C.asym _ _ (by simpa using nx),by simp;omega⟩
         . rw [if_neg kz]
           have nx:=hf1 0 (by omega) (by omega);rw [pb_f (by omega)] at nx;exact hj _ _ _ ⟨hia,ms.mi,C.asym _ _ (by simpa using nx),hs⟩
end
end Srt
namespace Srt
open PySem PyProof.Rows
section
variable {S:Keyed->Prop}{L:Keyed->Keyed->Bool}
structure MH (L:Keyed->Keyed->Bool)(al bl ol:List Keyed)(na nb:Nat):Prop where
 perm:ol.Perm (al.drop na++bl.drop nb)
 rise:Rise L ol
 lea:∀ x∈ol,∀ y∈al.take na,L x y=false
 leb:∀ x∈ol,∀ y∈bl.take nb,L x y=false
 ha:na<=al.length
 hb:nb<=bl.length
theorem MH.len {al bl ol:List Keyed}{na nb:Nat}(h:MH L al bl ol na nb):ol.length+na+nb=al.length+bl.length:=by rw [h.perm.length_eq,yac,yaW,yaW];have:=h.ha;have:=h.hb;omega
theorem Zhz {α:Type}{l:List α}{i n:Nat}{y:α}(hi:i<=n)(h:y∈l.take i):y∈l.take n:=by
 have:l.take i=(l.take n).take i:=by rw [List.take_take,Nat.min_eq_left hi]
 rw [this] at h;exact ybb h
theorem Zhn {α:Type}(l:List α){i n:Nat}(h:i<=n):l.drop i=(l.take n).drop i++l.drop n:=by
 rw [List.drop_take];have:l.drop n=(l.drop i).drop (n-i):=by rw [ycl];congr 1;omega
 rw [this,yaq]
theorem Zc6 {l:List Keyed}(h:Rise L l){i n:Nat}(hi:i<=n):∀ x∈(l.take n).drop i,∀ y∈l.take i,L x y=false:=by intro x hx y hy;have h2:Rise L (l.take n):=h.sublist (ybc _ _);rw [<- yaq i (l.take n)] at h2;rw [show l.take i=(l.take n).take i by rw [List.take_take,Nat.min_eq_left hi]] at hy;exact (yal.mp h2).2.2 y hy x hx
theorem MH.takeA {al bl ol:List Keyed}{na nb:Nat}(h:MH L al bl ol na nb)(ra:Rise L al)(i:Nat)(hi:i<=na)(c:∀ y∈(al.take na).drop i,∀ z∈bl.take nb,L y z=false):MH L al bl ((al.take na).drop i++ol) i nb where
 perm:=by rw [Zhn al hi,yah];exact zah _ h.perm
 rise:=yal.mpr ⟨(ra.sublist (ybc _ _)).sublist (yaZ _ _),h.rise,fun x hx y hy=>h.lea y hy x (ybm hx)⟩
 lea:=fun x hx y hy=>by
   rcases yaf.mp hx with z | z
   . exact Zc6 ra hi x z y hy
   . exact h.lea x z y (Zhz hi hy)
 leb:=fun x hx y hy=>by
   rcases yaf.mp hx with z | z
   . exact c x z y hy
   . exact h.leb x z y hy
 ha:=yaN hi h.ha
 hb:=h.hb
theorem MH.takeB {al bl ol:List Keyed}{na nb:Nat}(h:MH L al bl ol na nb)(rb:Rise L bl)(i:Nat)(hi:i<=nb)(c:∀ y∈(bl.take nb).drop i,∀ z∈al.take na,L y z=false):MH L al bl ((bl.take nb).drop i++ol) na i where
 perm:=by rw [Zhn bl hi];refine (zah _ h.perm).trans ?_;rw [<- yah,<- yah];exact List.Perm.append_right _ ybx
 rise:=yal.mpr ⟨(rb.sublist (ybc _ _)).sublist (yaZ _ _),h.rise,fun x hx y hy=>h.leb y hy x (ybm hx)⟩
 lea:=fun x hx y hy=>by
   rcases yaf.mp hx with z | z
   . exact c x z y hy
   . exact h.lea x z y hy
 leb:=fun x hx y hy=>by
   rcases yaf.mp hx with z | z
   . exact Zc6 rb hi x z y hy
   . exact h.leb x z y (Zhz hi hy)
 ha:=h.ha
 hb:=yaN hi h.hb
theorem MH.doneB {al bl ol:List Keyed}{nb:Nat}(h:MH L al bl ol 0 nb)(rb:Rise L bl):Mrg L al bl (bl.take nb++ol):=by
 constructor
 . refine (zah _ h.perm).trans ?_
   rw [ycb];refine (zah _ ybx).trans ?_;rw [<- yah,yaq];exact ybx
 . exact yal.mpr ⟨rb.sublist (ybc _ _),h.rise,fun x hx y hy=>h.leb y hy x hx⟩
theorem MH.doneA {al bl ol:List Keyed}{na:Nat}(h:MH L al bl ol na 0)(ra:Rise L al):Mrg L al bl (al.take na++ol):=by
 constructor
 . refine (zah _ h.perm).trans ?_
   rw [ycb,<- yah,yaq]
 . exact yal.mpr ⟨ra.sublist (ybc _ _),h.rise,fun x hx y hy=>h.lea y hy x hx⟩
theorem MH.firstB {al bl ol:List Keyed}{na nb:Nat}(h:MH L al bl ol na nb)(ra:Rise L al)(rb:Rise L bl)(c:∀ y∈bl.take nb,∀ z∈al.take na,L z y=false):Mrg L al bl (bl.take nb++al.take na++ol):=by
 constructor
 . refine (zah _ h.perm).trans ?_
   have e:bl.take nb++al.take na++(al.drop na++bl.drop nb)=bl.take nb++(al++bl.drop nb):=by rw [yah,<- yah (al.take na),yaq]
   rw [e];refine (zah _ ybx).trans ?_;rw [<- yah,yaq];exact ybx
 . refine yal.mpr ⟨yal.mpr ⟨rb.sublist (ybc _ _),ra.sublist (ybc _ _),c⟩,h.rise,fun x hx y hy=>?_⟩
   rcases yaf.mp hx with z | z
   . exact h.leb y hy x z
   . exact h.lea y hy x z
variable {a b out:Array Keyed}{na nb k:Nat}
theorem Zg8 {a:Array Keyed}{i:Nat}(h:i<a.size):(a.toList.take (i+1)).drop i=[a[i]]:=by rw [List.drop_take,ZbT h,show i+1-i=1 by omega];rfl
theorem ZjR {a:Array Keyed}{n:Nat}{x:Keyed}(h:x∈a.toList.take n):∃ j,j<n/\∃ q:j<a.size,x=a[j]:=by have:=ZbI (a:=a) (i:=0) (k:=n) (x:=x) (by simpa using h);obtain ⟨j,hj,q,e⟩:=this;exact ⟨j,hj,by omega,by simpa using e⟩
theorem get_le {a:Array Keyed}(ra:Rise L a.toList)(O:Ord S L){i j:Nat}(hij:i<=j)(hj:j<a.size)(ir:L a[j] a[j]=false):L a[j] (a[i]'(by omega))=false:=by
 rcases ybN i j with q | q
 . exact Ze0 ra (i:=i) (by omega) a[j] (yaV.mpr ⟨j-i-1,by simp;omega,by simp;congr 1;omega⟩)
 . have:i=j:=by omega
   subst this;exact ir
theorem Ord.irr (O:Ord S L)(x:Keyed):L x x=false:=by
 cases e:L x x with
 | false=>rfl
 | true=>rw [O.asym x x e] at e;cases e
theorem ZgB (O:Ord S L)(sa:∀ x∈a.toList,S x)(ra:Rise L a.toList){n:Nat}(hn:n<a.size){y:Keyed}(sy:S y)(c:L y a[n]=false):∀ z∈a.toList.take (n+1),L y z=false:=by intro z hz;obtain ⟨j,hj,q,rfl⟩:=ZjR hz;exact O.step (sa _ (Zaw q)) (sa _ (Zaw hn)) sy c (get_le ra O (by omega) hn (O.irr _))
theorem ZhA (out:Array Keyed)(x:Keyed):(out.push x).reverse.toList=x::out.reverse.toList:=by simp
theorem ZiJ (out p:Array Keyed):(out++p.reverse).reverse.toList=p.toList++out.reverse.toList:=by simp
theorem MH.pushA (O:Ord S L)(m:MH L a.toList b.toList out.reverse.toList (na+1) (nb+1))(sa:∀ x∈a.toList,S x)(sb:∀ x∈b.toList,S x)(ra:Rise L a.toList)(rb:Rise L b.toList)(hna:na<a.size)(hnb:nb<b.size)(c:L a[na] b[nb]=false) :
   MH L a.toList b.toList (out.push a[na]).reverse.toList na (nb+1):=by
 have e:=Zg8 hna;have:=m.takeA ra na (yca _) (by
   rw [e];intro y hy z hz;have hy:y=a[na]:=by simpa using hy
   subst hy;exact ZgB O sb rb hnb (sa _ (Zaw hna)) c z hz)
 rw [e] at this;rw [ZhA];exact this
theorem MH.pushB (O:Ord S L)(m:MH L a.toList b.toList out.reverse.toList (na+1) (nb+1))(sa:∀ x∈a.toList,S x)(sb:∀ x∈b.toList,S x)(ra:Rise L a.toList)(rb:Rise L b.toList)(hna:na<a.size)(hnb:nb<b.size)(c:L b[nb] a[na]=false) :
   MH L a.toList b.toList (out.push b[nb]).reverse.toList (na+1) nb:=by
 have e:=Zg8 hnb;have:=m.takeB rb nb (yca _) (by
   rw [e];intro y hy z hz;have hy:y=b[nb]:=by simpa using hy
   subst hy;exact ZgB O sa ra hna (sb _ (Zaw hnb)) c z hz)
 rw [e] at this;rw [ZhA];exact this
theorem Zdv (a:Array Keyed){i n:Nat}(h:i<=n):(a.extract i n).toList=(a.toList.take n).drop i:=by simp only [Array.toList_extract,List.extract_eq_take_drop,List.drop_take]
theorem Zgd {a:Array Keyed}{i n:Nat}{x:Keyed}(h:x∈(a.toList.take n).drop i):∃ j,i<=j/\j<n/\∃ q:j<a.size,x=a[j]:=by rw [List.drop_take] at h;obtain ⟨j,hj,q,e⟩:=ZbI h;exact ⟨i+j,by omega,by omega,q,e⟩
theorem MH.extA (O:Ord S L)(m:MH L a.toList b.toList out.reverse.toList na (nb+1))(sa:∀ x∈a.toList,S x)(sb:∀ x∈b.toList,S x)(ra:Rise L a.toList)(rb:Rise L b.toList)(hnb:nb<b.size)(hk:k<=na)(c:∀ i,k<=i->i<na->pb L false b[nb] a 0 i=false) :
   MH L a.toList b.toList (out++(a.extract k na).reverse).reverse.toList k (nb+1):=by
 rw [ZiJ,Zdv a hk];refine m.takeA ra k hk fun y hy z hz=>?_
 obtain ⟨j,hj,hj2,q,rfl⟩:=Zgd hy;have:=c j hj hj2;rw [pb_f (by omega)] at this;have this:L b[nb] a[j]=true:=by simpa using this
 exact ZgB O sb rb hnb (sa _ (Zaw q)) (O.asym _ _ this) z hz
theorem MH.extB (O:Ord S L)(m:MH L a.toList b.toList out.reverse.toList (na+1) nb)(sa:∀ x∈a.toList,S x)(sb:∀ x∈b.toList,S x)(ra:Rise L a.toList)(rb:Rise L b.toList)(hna:na<a.size)(hk:k<=nb)(c:∀ i,k<=i->i<nb->pb L true a[na] b 0 i=false) :
   MH L a.toList b.toList (out++(b.extract k nb).reverse).reverse.toList (na+1) k:=by
 rw [ZiJ,Zdv b hk];refine m.takeB rb k hk fun y hy z hz=>?_
 obtain ⟨j,hj,hj2,q,rfl⟩:=Zgd hy;have:=c j hj hj2;rw [pb_t (by omega)] at this;have this:L b[j] a[na]=false:=by simpa using this
 exact ZgB O sa ra hna (sb _ (Zaw q)) this z hz
theorem ext0 (a:Array Keyed)(n:Nat):(a.extract 0 n).toList=a.toList.take n:=by rw [Zdv a (yax n),ycb]
theorem MH.fin0 (m:MH L a.toList b.toList out.reverse.toList na nb)(rb:Rise L b.toList)(e:na=0):Mrg L a.toList b.toList (a.extract 0 na++b.extract 0 nb++out.reverse).toList:=by subst e;rw [yaY,yaY,ext0,ext0,List.take_zero,ybf];exact m.doneB rb
theorem MH.fin0b (m:MH L a.toList b.toList out.reverse.toList na nb)(ra:Rise L a.toList)(e:nb=0):Mrg L a.toList b.toList (a.extract 0 na++b.extract 0 nb++out.reverse).toList:=by subst e;rw [yaY,yaY,ext0,ext0,List.take_zero,yaO];exact m.doneA ra
theorem MH.fin1 (m:MH L a.toList b.toList out.reverse.toList na nb)(ra:Rise L a.toList)(rb:Rise L b.toList)(e:nb=1)(h0:∀ z∈a.toList,∀ y∈b.toList.take 1,L z y=false):Mrg L a.toList b.toList (b.extract 0 nb++a.extract 0 na++out.reverse).toList:=by subst e;rw [yaY,yaY,ext0,ext0];exact m.firstB ra rb fun y hy z hz=>h0 z (ybb hz) y hy
theorem MH.size (m:MH L a.toList b.toList out.reverse.toList na nb):out.size+na+nb=a.size+b.size:=by have:=m.len;simpa using this
end
def mergeHi':Array Keyed->Array Keyed->StateT SortSt Sem (Array Keyed):=sortPriv% PySem.Builtin.mergeHi
section
variable {M:Model}{kd:SortKind}{S:Keyed->Prop}{L:Keyed->Keyed->Bool}
structure MHS (L:Keyed->Keyed->Bool)(st:SortSt)(a b out:Array Keyed)(na nb:Nat)(st':SortSt):Prop where
 sm:Sm st st'
 mi:MH L a.toList b.toList out.reverse.toList na nb
 ha:0<na
 hb:1<nb
theorem pb0_f {a:Array Keyed}{i:Nat}{key:Keyed}(q:i<a.size):pb L false key a 0 i=!L key a[i]:=by unfold pb;rw [ybH,yaR a i q];rfl
theorem pb0_t {a:Array Keyed}{i:Nat}{key:Keyed}(q:i<a.size):pb L true key a 0 i=L a[i] key:=by unfold pb;rw [ybH,yaR a i q];rfl
variable {a b out:Array Keyed}{na nb k:Nat}
theorem MH.hA (m:MH L a.toList b.toList out.reverse.toList na nb):na<=a.size:=by simpa using m.ha
theorem MH.hB (m:MH L a.toList b.toList out.reverse.toList na nb):nb<=b.size:=by simpa using m.hb
theorem MH.putA (O:Ord S L)(m:MH L a.toList b.toList out.reverse.toList na nb)(sa:∀ x∈a.toList,S x)(sb:∀ x∈b.toList,S x)(ra:Rise L a.toList)(rb:Rise L b.toList)(hna:0<na)(hnb:0<nb)(qa:na-1<a.size)(qb:nb-1<b.size)(c:L a[na-1] b[nb-1]=false) :
   MH L a.toList b.toList (out.push a[na-1]).reverse.toList (na-1) nb:=by
 obtain ⟨i,rfl⟩:∃ i,na=i+1:=⟨na-1,by omega⟩
 obtain ⟨j,rfl⟩:∃ j,nb=j+1:=⟨nb-1,by omega⟩
 exact m.pushA O sa sb ra rb qa qb c
theorem MH.putB (O:Ord S L)(m:MH L a.toList b.toList out.reverse.toList na nb)(sa:∀ x∈a.toList,S x)(sb:∀ x∈b.toList,S x)(ra:Rise L a.toList)(rb:Rise L b.toList)(hna:0<na)(hnb:0<nb)(qa:na-1<a.size)(qb:nb-1<b.size)(c:L b[nb-1] a[na-1]=false) :
   MH L a.toList b.toList (out.push b[nb-1]).reverse.toList na (nb-1):=by
 obtain ⟨i,rfl⟩:∃ i,na=i+1:=⟨na-1,by omega⟩
 obtain ⟨j,rfl⟩:∃ j,nb=j+1:=⟨nb-1,by omega⟩
 exact m.pushB O sa sb ra rb qa qb c
theorem MH.putAs (O:Ord S L)(m:MH L a.toList b.toList out.reverse.toList na nb)(sa:∀ x∈a.toList,S x)(sb:∀ x∈b.toList,S x)(ra:Rise L a.toList)(rb:Rise L b.toList)(hnb:0<nb)(qb:nb-1<b.size)(hk:k<=na)(c:∀ i,k<=i->i<na->pb L false b[nb-1] a 0 i=false) :
   MH L a.toList b.toList (out++(a.extract k na).reverse).reverse.toList k nb:=by
 obtain ⟨j,rfl⟩:∃ j,nb=j+1:=⟨nb-1,by omega⟩
 exact m.extA O sa sb ra rb qb hk c
theorem MH.putBs (O:Ord S L)(m:MH L a.toList b.toList out.reverse.toList na nb)(sa:∀ x∈a.toList,S x)(sb:∀ x∈b.toList,S x)(ra:Rise L a.toList)(rb:Rise L b.toList)(hna:0<na)(qa:na-1<a.size)(hk:k<=nb)(c:∀ i,k<=i->i<nb->pb L true a[na-1] b 0 i=false) :
   MH L a.toList b.toList (out++(b.extract k nb).reverse).reverse.toList na k:=by
 obtain ⟨j,rfl⟩:∃ j,na=j+1:=⟨na-1,by omega⟩
 exact m.extB O sa sb ra rb qa hk c
theorem ZgR (C:Cmp M A E s kd S L) {a b:Array Keyed} {st:SortSt} {Q:Array Keyed->SortSt->Prop} (hk:kindOf st=kd) (sa:∀ x∈a.toList,S x) (sb:∀ x∈b.toList,S x) (ra:Rise L a.toList) (rb:Rise L b.toList) (na:0<a.size) (nb:0<b.size)
   (h0:∀ z∈a.toList,∀ y∈b.toList.take 1,L z y=false) (hl:∀ y∈b.toList,L (a[a.size-1]'(by omega)) y=false)
   (h:∀ o st',Sm st st'->Mrg L a.toList b.toList o.toList->Q o st'):wpS M A E s (mergeHi' a b) Q st:=by
 have O:=C.ord;unfold mergeHi'
 k_delta "mergeHi"
 refine zae (wpS_lift (zaR ⟨rfl,?_⟩));refine zae (Zay (yaR a (a.size-1) (by omega)) ?_);dsimp -zeta only;have nil:MH L a.toList b.toList (#[]:Array Keyed).reverse.toList a.size b.size:=⟨by simp,.nil,fun _ z=>by simp at z,fun _ z=>by simp at z,by simp,by simp⟩
 have ini:MH L a.toList b.toList (#[a[a.size-1]'(by omega)]:Array Keyed).reverse.toList (a.size-1) b.size:=nil.putA O sa sb ra rb na nb (by omega) (by omega) (hl _ (Zaw (by omega)));by_cases e1:(a.size-1==0)=true
 . rw [if_pos e1]
   exact zag (h _ _ (Sm.refl _) (ini.fin0 rb (by simpa using e1)))
 rw [if_neg e1];by_cases e2:(b.size==1)=true
 . rw [if_pos e2]
   exact zag (h _ _ (Sm.refl _) (ini.fin1 ra rb (by simpa using e2) h0))
 rw [if_neg e2];have e1':0<a.size-1:=by
   have:a.size-1≠0:=by simpa using e1
   omega
 have e2':1<b.size:=by
   have:b.size≠1:=by simpa using e2
   omega
 refine zae (wpS_get ?_)
 skip
 refine zae (zaQ (zan (I:=fun x c st'=>c.1=none/\MHS L st a b c.2.2.2.1 c.2.1 c.2.2.1 st'/\x+1<=c.2.2.2.1.size) (Q:=fun c st'=>∃ o,c.1=some o/\Sm st st'/\Mrg L a.toList b.toList o.toList) ?step ?fin ?init) ?post)
 case init=>exact ⟨rfl,⟨Sm.refl _,ini,e1',e2'⟩,by simp⟩
 case fin =>
   rintro ⟨c1,na,nb,out,g⟩ st' ⟨_,ms,hs⟩;dsimp only at *;have:=ms.mi.size;have:=ms.ha;have:=ms.hb;omega
 case post =>
   rintro ⟨c1,na,nb,out,g⟩ st' ⟨o,rfl,sm,m⟩;exact zag (h _ _ sm m)
 case step =>
   rintro x ⟨c1,na,nb,out,g⟩ st' _ hx ⟨rfl,ms,hs⟩;dsimp -zeta only at *;refine zae (zaQ (zan (I:=fun _ c st'=>c.1=none/\MHS L st a b c.2.2.2.1 c.2.1 c.2.2.1 st'/\x+1<=c.2.2.2.1.size)
     (Q:=fun c st'=>(∃ o,c.1=some o/\Sm st st'/\Mrg L a.toList b.toList o.toList)\/(c.1=none/\MHS L st a b c.2.2.2.1 c.2.1 c.2.2.1 st'/\x+1<=c.2.2.2.1.size)) ?step1 (fun _ _ z=>.inr z) ?init1) ?post1)
   case init1=>exact ⟨rfl,ms,hs⟩
   case step1 =>
     rintro y ⟨c1,na,nb,out,ac,bc⟩ st' _ hy ⟨rfl,ms,hs⟩;dsimp only at *;have hA:=ms.mi.hA;have hB:=ms.mi.hB;have ha:=ms.ha;have hb:=ms.hb;refine zae (Zay (yaR b (nb-1) (by omega)) ?_);refine zae (Zay (yaR a (na-1) (by omega)) ?_);refine zae (C.lt _ _ _ _ (sb _ (Zaw (by omega))) (sa _ (Zaw (by omega))) (ms.sm.kind.trans hk) ?_);dsimp only;cases e:L (b[nb-1]'(by omega)) (a[na-1]'(by omega)) with
     | true =>
       rw [if_pos rfl];refine zae (Zay (yaR a (na-1) (by omega)) ?_);have m2:=ms.mi.putA O sa sb ra rb (by omega) (by omega) (by omega) (by omega) (C.asym _ _ e);by_cases z:(na-1==0)=true
       . rw [if_pos z]
         exact zag (.inl ⟨_,rfl,ms.sm,m2.fin0 rb (by simpa using z)⟩)
       . rw [if_neg z]
         have z':0<na-1:=by
           have:na-1≠0:=by simpa using z
           omega
         split
         . exact zag (.inr ⟨rfl,⟨ms.sm,m2,z',hb⟩,by simp;omega⟩)
         . exact zag ⟨rfl,⟨ms.sm,m2,z',hb⟩,by simp;omega⟩
     | false =>
       rw [if_neg (by decide)];refine zae (Zay (yaR b (nb-1) (by omega)) ?_);have m2:=ms.mi.putB O sa sb ra rb (by omega) (by omega) (by omega) (by omega) e;by_cases z:(nb-1==1)=true
       . rw [if_pos z]
         exact zag (.inl ⟨_,rfl,ms.sm,m2.fin1 ra rb (by simpa using z) h0⟩)
       . rw [if_neg z]
         have z':1<nb-1:=by
           have:nb-1≠1:=by simpa using z
           omega
         split
         . exact zag (.inr ⟨rfl,⟨ms.sm,m2,ha,z'⟩,by simp;omega⟩)
         . exact zag ⟨rfl,⟨ms.sm,m2,ha,z'⟩,by simp;omega⟩
   case post1 =>
     rintro ⟨c1,na,nb,out,ac,bc⟩ st' (⟨o,rfl,sm,m⟩ | ⟨rfl,ms,hs⟩)
     . exact zag ⟨o,rfl,sm,m⟩
     . iterate 10 skip
       dsimp (config:={ zeta:=false }) only at *;refine zae (wpS_lift (zaR ⟨rfl,?_⟩))
       skip
       refine zae (zaQ (zan (I:=fun y c st'=>c.1=none/\MHS L st a b c.2.2.2.1 c.2.1 c.2.2.1 st'/\x+1+y<=c.2.2.2.1.size)
         (Q:=fun c st'=>(∃ o,c.1=some o/\Sm st st'/\Mrg L a.toList b.toList o.toList)\/(c.1=none/\MHS L st a b c.2.2.2.1 c.2.1 c.2.2.1 st'/\x+2<=c.2.2.2.1.size)) ?step2 ?fin2 ?init2) ?post2)
       case init2=>exact ⟨rfl,ms,hs⟩
       case fin2 =>
         rintro ⟨c1,na,nb,out,g,ac,bc⟩ st' ⟨e,ms,hs⟩;refine .inr ⟨e,ms,?_⟩;dsimp only at *;omega
       case post2 =>
         rintro ⟨c1,na,nb,out,g,ac,bc⟩ st' (⟨o,rfl,sm,m⟩ | ⟨rfl,ms,hs⟩)
         . exact zag ⟨o,rfl,sm,m⟩
         . dsimp only at *
           exact zae (ZbJ (zag ⟨rfl,⟨ms.sm.gal _,ms.mi,ms.ha,ms.hb⟩,by dsimp only;omega⟩))
       case step2 =>
         rintro y ⟨c1,na,nb,out,g,ac,bc⟩ st' _ hy ⟨e3,ms,hs⟩;dsimp -zeta only at e3 ms hs ⊢;subst e3;have hA:=ms.mi.hA;have hB:=ms.mi.hB;have ha:=ms.ha;have hb:=ms.hb;have mz:=ms.mi.size
         extract_lets +onlyGivenNames -underBinder s1 n1 s2 n2 s3 n3 s4 n4 s5 n5 n6 jp
         refine ZiO jp (fun _ g=>?_) fun hj=>by clear_value jp;split<;>exact hj _ _
         dsimp -zeta only [s1,s2,s3,s4,s5,n1,n2,n3,n4,n5,n6,jp];clear jp s1 s2 s3 s4 s5 n1 n2 n3 n4 n5 n6;refine zae (ZbJ ?_);refine zae (Zay (yaR b (nb-1) (by omega)) ?_);refine zae (Zby C (ms.sm.kind.trans hk) (sb _ (Zaw (by omega))) sa (by omega) (by omega) (Zf1 O sa ra (sb _ (Zaw (by omega))) (by omega)) fun k1 hk1 ht1 hf1=>?_);dsimp -zeta only
         extract_lets +onlyGivenNames -underBinder k ac jp
         refine ZeU jp (fun na out=>∃ _:0<na/\na<=a.size,MH L a.toList b.toList out.reverse.toList na nb/\L (b[nb-1]'(by omega)) (a[na-1]'(by omega))=false/\x+1+y<=out.size) ?_ ?_
         . rintro _ na out ⟨_,m1,nx,hs⟩
           dsimp -zeta only [jp];clear jp;refine zae (Zay (yaR b (nb-1) (by omega)) ?_);have m2:=m1.putB O sa sb ra rb (by omega) (by omega) (by omega) (by omega) nx
           extract_lets +onlyGivenNames -underBinder ou
           by_cases z3:(nb-1==1)=true
           . rw [if_pos z3]
             exact zag (.inl ⟨_,rfl,ms.sm.gal _,m2.fin1 ra rb (by simpa using z3) h0⟩)
           rw [if_neg z3];have z3':1<nb-1:=by
             have:nb-1≠1:=by simpa using z3
             omega
           refine zae (Zay (yaR a (na-1) (by omega)) ?_);refine zae (Zby C (ms.sm.kind.trans hk) (sa _ (Zaw (by omega))) sb (by omega) (by omega) (Zf2 O sb rb (sa _ (Zaw (by omega))) (by omega)) fun k2 hk2 ht2 hf2=>?_);dsimp -zeta only
           extract_lets +onlyGivenNames -underBinder k bc jp
           refine ZeU jp (fun nb ou=>∃ _:1<nb/\nb<=b.size,MH L a.toList b.toList ou.reverse.toList na nb/\L (a[na-1]'(by omega)) (b[nb-1]'(by omega))=false/\x+2+y<=ou.size) ?_ ?_
           . rintro _ nb ou ⟨⟨h1,_⟩,m3,nx2,hs⟩
             dsimp -zeta only [jp];clear jp;refine zae (Zay (yaR a (na-1) (by omega)) ?_);have m4:=m3.putA O sa sb ra rb (by omega) (by omega) (by omega) (by omega) nx2;dsimp only;by_cases z5:(na-1==0)=true
             . rw [if_pos z5]
               exact zag (.inl ⟨_,rfl,ms.sm.gal _,m4.fin0 rb (by simpa using z5)⟩)
             rw [if_neg z5];have z5':0<na-1:=by
               have:na-1≠0:=by simpa using z5
               omega
             split
             . exact zag (.inr ⟨rfl,⟨ms.sm.gal _,m4,z5',h1⟩,by simp;omega⟩)
             . exact zag ⟨rfl,⟨ms.sm.gal _,m4,z5',h1⟩,by simp;omega⟩
           clear_value jp
           intro hj;have nx2:∀ n,(hn:0<n)->n<=k2->(hb:n<=b.size)->L (a[na-1]'(by omega)) (b[n-1]'(by omega))=false:=fun n hn hk hb=>by
             have:=ht2 (n-1) (by omega);rw [pb0_t (by omega)] at this;exact C.asym _ _ this
           by_cases kz:k > 0
           . rw [if_pos kz]
             have m3:=m2.putBs (k:=k2) O sa sb ra rb (by omega) (by omega) hk2 hf2;dsimp only;by_cases z4:(k2==1)=true
             . rw [if_pos z4]
               exact zag (.inl ⟨_,rfl,ms.sm.gal _,m3.fin1 ra rb (by simpa using z4) h0⟩)
             rw [if_neg z4];by_cases z6:(k2==0)=true
             . rw [if_pos z6]
               exact zag (.inl ⟨_,rfl,ms.sm.gal _,m3.fin0b ra (by simpa using z6)⟩)
             rw [if_neg z6];have:k2≠1:=by simpa using z4
             have:k2≠0:=by simpa using z6
             exact hj _ _ _ ⟨⟨by omega,by omega⟩,m3,nx2 _ (by omega) (by omega) (by omega),by simp [ou];omega⟩
           . rw [if_neg kz]
             exact hj _ _ _ ⟨⟨by omega,by omega⟩,m2,nx2 _ (by omega) (by omega) (by omega),by simp [ou];omega⟩
         clear_value jp
         intro hj;have nx:∀ n,(hn:0<n)->n<=k1->(hb:n<=a.size)->L (b[nb-1]'(by omega)) (a[n-1]'(by omega))=false:=fun n hn hk hb=>by
           have:=ht1 (n-1) (by omega);rw [pb0_f (by omega)] at this;simpa using this
         by_cases kz:k > 0
         . rw [if_pos kz]
           have m1:=ms.mi.putAs (k:=k1) O sa sb ra rb (by omega) (by omega) hk1 hf1;dsimp only;by_cases z1:(k1==0)=true
           . rw [if_pos z1]
             exact zag (.inl ⟨_,rfl,ms.sm.gal _,m1.fin0 rb (by simpa using z1)⟩)
           rw [if_neg z1];have:k1≠0:=by simpa using z1
           exact hj _ _ _ ⟨⟨by omega,by omega⟩,m1,nx _ (by omega) (by omega) (by omega),by simp;omega⟩
         . rw [if_neg kz]
           exact hj _ _ _ ⟨⟨by omega,by omega⟩,ms.mi,nx _ (by omega) (by omega) (by omega),hs⟩
end
end Srt
namespace Srt
open PySem PyProof.Rows
section
variable {S:Keyed->Prop}{L:Keyed->Keyed->Bool}
theorem ZdW {arr:Array Keyed}{pre A rest:List Keyed}(e:arr.toList=pre++(A++rest)){i:Nat}(hi:i<A.length):arr[pre.length+i]?=some A[i]:=by rw [<- yaD,e,yai (by omega),show pre.length+i-pre.length=i by omega,yaT hi];exact yae hi
theorem seg_f {arr:Array Keyed}{pre A rest:List Keyed}(e:arr.toList=pre++(A++rest)){key:Keyed}{i:Nat}(hi:i<A.length):pb L false key arr pre.length i=!L key A[i]:=by unfold pb;rw [ZdW e hi];rfl
theorem seg_t {arr:Array Keyed}{pre A rest:List Keyed}(e:arr.toList=pre++(A++rest)){key:Keyed}{i:Nat}(hi:i<A.length):pb L true key arr pre.length i=L A[i] key:=by unfold pb;rw [ZdW e hi];rfl
theorem Zb4 {A:List Keyed}(r:Rise L A){i j:Nat}(hij:i<j)(hj:j<A.length):L A[j] (A[i]'(by omega))=false:=List.pairwise_iff_getElem.mp r i j (by omega) hj hij
theorem Zij (O:Ord S L){arr:Array Keyed}{pre A rest:List Keyed}(e:arr.toList=pre++(A++rest))(r:Rise L A)(sA:∀ x∈A,S x){key:Keyed}(sk:S key) :
   ∀ i j,i<=j->j<A.length->pb L false key arr pre.length j=true->pb L false key arr pre.length i=true:=by
 intro i j hij hj h;rw [seg_f e hj] at h;rw [seg_f e (by omega)];rcases ybN i j with q | q
 . have h:L key A[j]=false:=by simpa using h
   have:=O.step (sA _ (yaA (by omega))) (sA _ (yaA hj)) sk h (Zb4 r q hj);simpa using this
 . have:i=j:=by omega
   subst this;exact h
theorem ZiD (O:Ord S L){arr:Array Keyed}{pre A rest:List Keyed}(e:arr.toList=pre++(A++rest))(r:Rise L A)(sA:∀ x∈A,S x){key:Keyed}(sk:S key) :
   ∀ i j,i<=j->j<A.length->pb L true key arr pre.length j=true->pb L true key arr pre.length i=true:=by
 intro i j hij hj h;rw [seg_t e hj] at h;rw [seg_t e (by omega)];rcases ybN i j with q | q
 . rcases O.neg _ (A[i]'(by omega)) _ (sA _ (yaA hj)) (sA _ (yaA (by omega))) sk h with z | z
   . rw [Zb4 r q hj] at z
     cases z
   . exact z
 . have:i=j:=by omega
   subst this;exact h
theorem Zdo {A:List Keyed}{k:Nat}{x:Keyed}(h:x∈A.take k):∃ i,i<k/\∃ q:i<A.length,x=A[i]:=by obtain ⟨j,hj,e⟩:=yaV.mp h;rw [yaG] at hj;exact ⟨j,by omega,by omega,by rw [<- e];simp⟩
theorem Zde {A:List Keyed}{k:Nat}{x:Keyed}(h:x∈A.drop k):∃ i,k<=i/\∃ q:i<A.length,x=A[i]:=by obtain ⟨j,hj,e⟩:=yaV.mp h;rw [yaW] at hj;exact ⟨k+j,by omega,by omega,by rw [<- e];simp⟩
theorem Zi7:∀ (l:List Keyed) (n:Nat) (sa:Nat) (arr:Array Keyed),sa+n+l.length<=arr.size ->
   ((l.zipIdx n).foldl (fun (a:Array Keyed) (q:Keyed × Nat)=>a.setIfInBounds (sa+q.2) q.1) arr).toList=arr.toList.take (sa+n)++l++arr.toList.drop (sa+n+l.length)
 | [],n,sa,arr,h=>by simp
 | x :: l,n,sa,arr,h=>by
   rw [List.zipIdx_cons,ybK];have h':sa+(n+1)+l.length<=(arr.setIfInBounds (sa+n) x).size:=by rw [Array.size_setIfInBounds];simp only [yan] at h;omega
   rw [Zi7 l (n+1) sa _ h'];have hlt:sa+n<arr.toList.length:=by simp only [yan] at h;simp;omega
   rw [Array.toList_setIfInBounds,List.take_set,List.drop_set];rw [if_pos (by omega)];have e1:(arr.toList.take (sa+(n+1))).set (sa+n) x=arr.toList.take (sa+n)++[x]:=by
     rw [show sa+(n+1)=sa+n+1 by omega,ybk,yae hlt];have hl:(arr.toList.take (sa+n)).length=sa+n:=by rw [yaG];omega
     rw [List.set_append_right _ _ (by omega),hl,ych];rfl
   rw [e1];simp only [yan,yah,ybM,ybf];rw [show sa+(n+1)+l.length=sa+n+(l.length+1) by omega]
theorem ZdJ (O:Ord S L) {A B M:List Keyed} {k n:Nat} {b0 al:Keyed} (rA:Rise L A) (rB:Rise L B) (sA:∀ x∈A,S x) (sB:∀ x∈B,S x) (sb0:S b0) (sal:S al) (hb0:∀ y∈B,L y b0=false) (hal:∀ x∈A,L al x=false)
   (f1:∀ x∈A.take k,L b0 x=false) (f2:∀ y∈B.drop n,L y al=false) (pM:M.Perm (A.drop k++B.take n)) (rM:Rise L M):Rise L (A.take k++M++B.drop n)/\(A.take k++M++B.drop n).Perm (A++B):=by
 have bp:∀ x∈A.take k,∀ y∈B,L y x=false:=fun x hx y hy=>O.step (sA _ (ybb hx)) sb0 (sB _ hy) (hb0 y hy) (f1 x hx)
 have qa:∀ x∈A,∀ y∈B.drop n,L y x=false:=fun x hx y hy=>O.step (sA _ hx) sal (sB _ (ybm hy)) (f2 y hy) (hal x hx)
 constructor
 . refine yal.mpr ⟨yal.mpr ⟨rA.sublist (ybc _ _),rM,fun x hx y hy=>?_⟩,rB.sublist (yaZ _ _),fun x hx y hy=>?_⟩
   . rcases yaf.mp (pM.mem_iff.mp hy) with z | z
     . have r:=rA
       rw [<- yaq k A] at r;exact (yal.mp r).2.2 x hx y z
     . exact bp x hx y (ybb z)
   . rcases yaf.mp hx with w | w
     . exact qa x (ybb w) y hy
     . rcases yaf.mp (pM.mem_iff.mp w) with z | z
       . exact qa x (ybm z) y hy
       . have r:=rB
         rw [<- yaq n B] at r;exact (yal.mp r).2.2 x z y hy
 . refine ((zah _ pM).append_right _).trans ?_
   rw [<- yah,yaq,yah,yaq]
end
structure Two (L:Keyed->Keyed->Bool)(st:SortSt)(i:Nat)(pre A B post:List Keyed):Prop where
 arr:(arrOf st).toList=pre++(A++(B++post))
 pa:∃ pw,(pendingOf st)[i]?=some (pre.length,A.length,pw)
 pb:∃ pw,(pendingOf st)[i+1]?=some (pre.length+A.length,B.length,pw)
 rA:Rise L A
 rB:Rise L B
 nA:0<A.length
 nB:0<B.length
section
variable {M:Model}{Ar:Around}{kd:SortKind}{S:Keyed->Prop}{L:Keyed->Keyed->Bool}
theorem wpS_set {σ:Type}{x:σ}{Q:PUnit->σ->Prop}{st:σ}(h:Q ⟨⟩ x):wpS M Ar E s (set x:StateT σ Sem PUnit) Q st:=by unfold wpS;rw [StateT.run_set];exact zac ⟨rfl,h⟩
theorem Zht (C:Cmp M Ar E s kd S L){st:SortSt}{i:Nat}{pre A B post:List Keyed}{Q:Bool->SortSt->Prop}(hk:kindOf st=kd)(hf:failedOf st=none)(sS:∀ x∈(arrOf st).toList,S x)(T:Two L st i pre A B post)
   (h:∀ (st':SortSt) (R:List Keyed) (pw:Nat),kindOf st'=kd->failedOf st'=none->(arrOf st').toList=pre++(R++post)->Rise L R->R.Perm (A++B) ->
     pendingOf st'=((pendingOf st).setIfInBounds i (pre.length,A.length+B.length,pw)).eraseIdxIfInBounds (i+1)->Q true st'):wpS M Ar E s (mergeAt' i) Q st:=by
 have O:=C.ord;obtain ⟨earr,⟨pw,epa⟩,⟨pw2,epb⟩,rA,rB,nA,nB⟩:=T;have sA:∀ x∈A,S x:=fun x hx=>sS x (by rw [earr];simp [hx])
 have sB:∀ x∈B,S x:=fun x hx=>sS x (by rw [earr];simp [hx])
 have earr2:(arrOf st).toList=(pre++A)++(B++post):=by rw [earr,yah]
 have hsz:(arrOf st).size=pre.length+A.length+B.length+post.length:=by rw [<- yam,earr];simp only [yac];omega
 have ga:=fun {j:Nat} (hj:j<A.length)=>ZdW earr hj
 have gb:∀ {j:Nat} (hj:j<B.length),(arrOf st)[pre.length+A.length+j]?=some B[j]:=fun {j} hj=>by
   have:=ZdW earr2 hj;rw [yac] at this;exact this
 have ht:=fun {key:Keyed} {j:Nat} (hj:j<B.length)=>seg_t (L:=L) (key:=key) earr2 hj
 have mt:=fun {key:Keyed} (sk:S key)=>ZiD O earr2 rB sB sk
 rw [yac] at ht mt;have aux:∀ {P:Prop},P->P:=fun x=>x
 unfold mergeAt'
 k_delta "mergeAt"
 refine zae (wpS_get ?_);dsimp only;rw [epa,epb];dsimp only;refine zae (wpS_set ?_);refine zae (Zay (gb (j:=0) nB) ?_);refine zae (Zby (arr:=arrOf st) C (by exact hk) (sB _ (yaA nB)) sS (by omega) nA (Zij O earr rA sA (sB _ (yaA nB))) fun k hk1 t1 f1=>?_);dsimp only;have hb0:∀ y∈B,L y B[0]=false:=fun y hy=>by
   obtain ⟨j,hj,rfl⟩:=yaV.mp hy;rcases Nat.eq_zero_or_pos j with z | z
   . subst z
     exact O.irr _
   . exact Zb4 rB z hj
 have hal:∀ x∈A,L A[A.length-1] x=false:=fun x hx=>by
   obtain ⟨j,hj,rfl⟩:=yaV.mp hx;rcases ybN j (A.length-1) with z | z
   . exact Zb4 rA z (by omega)
   . have:j=A.length-1:=by omega
     subst this;exact O.irr _
 have F1:∀ x∈A.take k,L B[0] x=false:=fun x hx=>by
   obtain ⟨j,hj,q,rfl⟩:=Zdo hx;have:=t1 j hj;rw [seg_f earr q] at this;simpa using this
 have F1':∀ x∈A.drop k,L B[0] x=true:=fun x hx=>by
   obtain ⟨j,hj,q,rfl⟩:=Zde hx;have:=f1 j hj q;rw [seg_f earr q] at this;simpa using this
 by_cases z1:(A.length-k==0)=true
 . rw [if_pos z1]
   have ek:A.length<=k:=by
     have:A.length-k=0:=by simpa using z1
     omega
   have:=ZdJ (M:=[]) (n:=0) O rA rB sA sB (sB _ (yaA nB)) (sA A[A.length-1] (yaA (by omega))) hb0 hal F1 (fun y hy=>?_) (by rw [ybh ek];simp) .nil
   . refine zag (h _ (A.take k++[]++B.drop 0) pw hk hf ?_ this.1 this.2 rfl)
     rw [yas ek];simp only [yaO,ycb,yah];exact earr
   . exact O.step (sA _ (yaA (by omega))) (sB _ (yaA nB)) (sB _ hy) (hb0 y hy) (F1 _ (by rw [yas ek];exact yaA (by omega)))
 rw [if_neg z1];have z1':k<A.length:=by
   have:A.length-k≠0:=by simpa using z1
   omega
 have el:(arrOf st)[pre.length+k+(A.length-k)-1]?=some A[A.length-1]:=by rw [show pre.length+k+(A.length-k)-1=pre.length+(A.length-1) by omega];exact ga (by omega)
 refine zae (Zay el ?_);refine zae (Zby (arr:=arrOf st) C (by exact hk) (sA _ (yaA (by omega))) sS (by omega) (by omega) (mt (sA _ (yaA (by omega)))) fun n hn t2 f2=>?_);dsimp only;have F2:∀ y∈B.drop n,L y A[A.length-1]=false:=fun y hy=>by
   obtain ⟨j,hj,q,rfl⟩:=Zde hy;have:=f2 j hj q;rw [ht q] at this;exact this
 have F2':∀ y∈B.take n,L y A[A.length-1]=true:=fun y hy=>by
   obtain ⟨j,hj,q,rfl⟩:=Zdo hy;have:=t2 j hj;rw [ht q] at this;exact this
 by_cases z2:(n==0)=true
 . rw [if_pos z2]
   have en:n=0:=by simpa using z2
   subst en;have:=ZdJ (M:=A.drop k) (n:=0) O rA rB sA sB (sB _ (yaA nB)) (sA A[A.length-1] (yaA (by omega))) hb0 hal F1 F2 (by simp) (rA.sublist (yaZ _ _));refine zag (h _ (A.take k++A.drop k++B.drop 0) pw hk hf ?_ this.1 this.2 rfl);rw [yaq,ycb,yah];exact earr
 rw [if_neg z2];have z2':0<n:=by
   have:n≠0:=by simpa using z2
   omega
 have ex:((arrOf st).extract (pre.length+k) (pre.length+A.length)).toList=A.drop k:=by rw [Zdv _ (by omega),earr];rw [show pre++(A++(B++post))=(pre++A)++(B++post) by rw [yah]];rw [List.take_append_of_le_length (by simp),yas (by simp),<- ycl];simp
 have ey:((arrOf st).extract (pre.length+A.length) (pre.length+A.length+n)).toList=B.take n:=by rw [Zfm,earr2];rw [show pre.length+A.length=(pre++A).length by simp,List.drop_left,List.take_append_of_le_length hn]
 generalize (arrOf st).extract (pre.length+k) (pre.length+A.length)=x at ex ⊢;generalize (arrOf st).extract (pre.length+A.length) (pre.length+A.length+n)=y at ey ⊢;have xs:x.size=A.length-k:=by rw [<- yam,ex,yaW]
 have ys:y.size=n:=by rw [<- yam,ey,yaG];omega
 have y0:∀ (q:0<y.size),y[0]=B[0]:=fun q=>by
   have:y.toList[0]?=(B.take n)[0]?:=by rw [ey]
   rw [List.getElem?_take_of_lt z2',yae nB,yaD,yaR y 0 q] at this;exact Option.some.inj this
 have xl:∀ (q:x.size-1<x.size),x[x.size-1]=A[A.length-1]:=fun q=>by
   have e2:(A.drop k)[x.size-1]?=some A[A.length-1]:=by rw [List.getElem?_drop,xs,show k+(A.length-k-1)=A.length-1 by omega];exact yae (by omega)
   have:x.toList[x.size-1]?=some A[A.length-1]:=by rw [ex];exact e2
   rw [yaD,yaR x (x.size-1) q] at this;exact Option.some.inj this
 have fin:∀ (o:Array Keyed) (st':SortSt),Sm (setPending st (((pendingOf st).setIfInBounds i (pre.length,A.length+B.length,pw)).eraseIdxIfInBounds (i+1))) st'->Mrg L x.toList y.toList o.toList ->
     wpS M Ar E s (do
       modify fun s=>setArr s (o.toList.zipIdx.foldl (fun (a:Array Keyed) (q:Keyed × Nat)=>a.setIfInBounds (pre.length+k+q.2) q.1) (arrOf s))
       return (failedOf (<- get)).isNone) Q st':=by
   intro o st' sm ⟨mp,mr⟩;rw [ex,ey] at mp;have:=ZdJ O rA rB sA sB (sB _ (yaA nB)) (sA A[A.length-1] (yaA (by omega))) hb0 hal F1 F2 mp mr;have ol:o.toList.length=A.length-k+n:=by rw [mp.length_eq,yac,yaW,yaG];omega
   refine zae (zaW ?_);refine zae (wpS_get (zag ?_));have ef:failedOf st'=none:=sm.failed.trans hf;show Q (failedOf st').isNone _;rw [ef];refine h _ _ pw (sm.kind.trans hk) ef ?_ this.1 this.2 sm.pend;show (o.toList.zipIdx.foldl _ (arrOf st')).toList=_;have ea:arrOf st'=arrOf st:=sm.arr;rw [ea];refine (Zi7 o.toList 0 (pre.length+k) (arrOf st) (by omega)).trans ?_;rw [ycg,earr,ol];have t3:(pre++(A++(B++post))).take (pre.length+k)=pre++A.take k:=by rw [List.take_append,yas (by omega),show pre.length+k-pre.length=k by omega,List.take_append_of_le_length (by omega)]
   have t4:(pre++(A++(B++post))).drop (pre.length+k+(A.length-k+n))=B.drop n++post:=by rw [show pre.length+k+(A.length-k+n)=pre.length+(A.length+n) by omega,<- ycl,List.drop_left,<- ycl,List.drop_left,List.drop_append_of_le_length hn]
   rw [t3,t4];simp only [yah]
 have sx:∀ z∈x.toList,S z:=fun z hz=>sA z (by rw [ex] at hz;exact ybm hz)
 have sy:∀ z∈y.toList,S z:=fun z hz=>sB z (by rw [ey] at hz;exact ybb hz)
 have rx:Rise L x.toList:=by rw [ex];exact rA.sublist (yaZ _ _)
 have ry:Rise L y.toList:=by rw [ey];exact rB.sublist (ybc _ _)
 have hx0:∀ z∈x.toList,L z B[0]=false:=fun z hz=>C.asym _ _ (F1' z (by rw [<- ex];exact hz))
 have hyl:∀ z∈y.toList,L A[A.length-1] z=false:=fun z hz=>C.asym _ _ (F2' z (by rw [<- ey];exact hz))
 by_cases z3:A.length-k<=n
 . rw [if_pos z3]
   refine zae (Zhv C (by exact hk) sx sy rx ry (by omega) (by omega) (fun z hz=>by rw [y0 (by omega)];exact hx0 z hz) (fun z hz w hw=>?_) fin);rw [ZbT (by omega),show x.size-1+1=x.toList.length by simp;omega,ybh (yag _)] at hz;have hz:z=x[x.size-1]:=by simpa using hz
   rw [hz,xl (by omega)];exact hyl w hw
 . rw [if_neg z3]
   refine zae (ZgR C (by exact hk) sx sy rx ry (by omega) (by omega) (fun z hz w hw=>?_) (fun w hw=>by rw [xl (by omega)];exact hyl w hw) fin);have e1:y.toList.take 1=[y[0]'(by omega)]:=by have:=ZbT (a:=y) (i:=0) (by omega);rw [ycb] at this;rw [this];rfl
   rw [e1] at hw;have hw:w=y[0]'(by omega):=by simpa using hw
   rw [hw,y0 (by omega)];exact hx0 z hz
end
end Srt
namespace Srt
open PySem PyProof.Rows
theorem swap_adj {xs:Array Keyed} {u v:List Keyed} {x y:Keyed} (e:xs.toList=u++(y::x::v)):(xs.swapIfInBounds (u.length+1) u.length).toList=u++(x::y::v):=by
 have sz:xs.size=u.length+(v.length+2):=by rw [<- yam,e];simp
 apply List.ext_getElem?
 intro t;rw [yaD,getElem?_swapIB (by omega) (by omega)];have g:∀ i,xs[i]?=(u++(y::x::v))[i]?:=fun i=>by rw [<- yaD,e]
 rw [g,g,g];by_cases h1:u.length=t
 . subst h1
   rw [if_pos rfl,yai (by omega),yai (by omega),ych,show u.length+1-u.length=1 by omega];rfl
 . rw [if_neg h1]
   by_cases h2:u.length+1=t
   . subst h2
     rw [if_pos rfl,yai (by omega),yai (by omega),ych,show u.length+1-u.length=1 by omega];rfl
   . rw [if_neg h2]
     rcases ybN t u.length with q | q
     . rw [yaT q,yaT q]
     . rw [yai q,yai q]
       obtain ⟨w,hw⟩:∃ w,t-u.length=w+2:=⟨t-u.length-2,by omega⟩
       rw [hw];rfl
theorem ZeI {arr:Array Keyed}{pre A rest:List Keyed}{x:Keyed}(e:arr.toList=pre++(A++(x::rest))):∀ d,d<=A.length->(bubble arr (pre.length+A.length) d).toList=pre++(A.take (A.length-d)++(x::(A.drop (A.length-d)++rest)))
 | 0,_=>by
   rw [Nat.sub_zero,yas (yag _),ybh (yag _),ybf];exact e
 | d + 1,h=>by
   have ih:=ZeI e d (by omega);rw [bubble_succ];obtain ⟨m,hm⟩:∃ m,A.length-d=m+1:=⟨A.length-d-1,by omega⟩
   have hm2:A.length-(d+1)=m:=by omega
   have hmA:m<A.length:=by omega
   rw [hm] at ih;rw [hm2];have e1:A.take (m+1)=A.take m++[A[m]]:=by rw [ybk,yae hmA];rfl
   have e2:A.drop m=A[m]::A.drop (m+1):=ybr hmA;have ih2:(bubble arr (pre.length+A.length) d).toList=(pre++A.take m)++(A[m]::x::(A.drop (m+1)++rest)):=by rw [ih,e1];simp only [yah,ybM,ybf]
   have:=swap_adj ih2;rw [show (pre++A.take m).length=pre.length+m by rw [yac,yaG];omega] at this;rw [show pre.length+A.length-d=pre.length+m+1 by omega,show pre.length+m+1-1=pre.length+m by omega,this,e2];simp only [yah,ybM,ybf]
theorem Zhu {arr:Array Keyed}{u w v:List Keyed}(e:arr.toList=u++(w++v)):(mirror arr u.length (u.length+w.length) ((u.length+w.length-u.length)/2)).toList=u++(w.reverse++v):=by
 have sz:arr.size=u.length+(w.length+v.length):=by rw [<- yam,e];simp
 apply List.ext_getElem?
 intro t;rw [yaD,getElem?_mirror_all (by omega)];have g:∀ i,arr[i]?=(u++(w++v))[i]?:=fun i=>by rw [<- yaD,e]
 rw [g,g];by_cases h1:u.length<=t/\t<u.length+w.length
 . rw [if_pos h1,yai (by omega),yai h1.1,yaT (by omega),yaT (by rw [ybO];omega),List.getElem?_reverse (by omega)]
   congr 1
   omega
 . rw [if_neg h1]
   rcases ybN t u.length with q | q
   . rw [yaT q,yaT q]
   . rw [yai q,yai q,yai (by omega),yai (by rw [ybO];omega),ybO]
structure Sa (st st':SortSt):Prop where
 kind:kindOf st'=kindOf st
 pend:pendingOf st'=pendingOf st
 failed:failedOf st'=failedOf st
section
variable {M:Model}{Ar:Around}{kd:SortKind}{S:Keyed->Prop}{L:Keyed->Keyed->Bool}
theorem Zej (C:Cmp M Ar E s kd S L){st:SortSt}{i j:Nat}{x y:Keyed}{Q:Option Bool->SortSt->Prop}(hk:kindOf st=kd)(ei:(arrOf st)[i]?=some x)(ej:(arrOf st)[j]?=some y)(sx:S x)(sy:S y)(h:Q (some (L x y)) st):wpS M Ar E s (ltAt' i j) Q st:=by rw [ltAt'_eq];refine zae (wpS_get ?_);dsimp only;exact zae (Zay ei (zae (Zay ej (C.lt _ _ _ _ sx sy hk h))))
theorem ZiE (C:Cmp M Ar E s kd S L) {st:SortSt} {pre A U post:List Keyed} {Q:Bool->SortSt->Prop} (hk:kindOf st=kd) (sS:∀ x∈A++U,S x) (e:(arrOf st).toList=pre++(A++(U++post))) (rA:Rise L A) (nA:0<A.length)
   (h:∀ (st':SortSt) (R:List Keyed),Sa st st'->(arrOf st').toList=pre++(R++post)->Rise L R->R.Perm (A++U)->Q true st'):wpS M Ar E s (binarySort' pre.length (A.length+U.length) A.length) Q st:=by
 have O:=C.ord;rw [binarySort'_eq];rw [show max A.length 1=A.length by omega];refine zae (zaQ (zan (I:=fun k c st'=>c.1=none/\Sa st st'/\A.length<=k/\k<=A.length+U.length/\∃ R,R.length=k/\(arrOf st').toList=pre++(R++(U.drop (k-A.length)++post))/\Rise L R/\R.Perm (A++U.take (k-A.length)))
   (Q:=fun c st'=>c.1=none/\Sa st st'/\∃ R,(arrOf st').toList=pre++(R++post)/\Rise L R/\R.Perm (A++U)) ?step ?fin ?init) ?post)
 case init=>exact ⟨rfl,⟨rfl,rfl,rfl⟩,yag _,by omega,A,rfl,by rw [ych,ycb];exact e,rA,by rw [ych];simp⟩
 case fin =>
   rintro c st' ⟨e1,sm,h1,h2,R,hl,ea,rR,pR⟩;refine ⟨e1,sm,R,?_,rR,?_⟩
   . rw [ea,ybh (by omega),ybf]
   . rw [yas (by omega)] at pR
     exact pR
 case post =>
   rintro ⟨c1,c2⟩ st' ⟨e1,sm,R,ea,rR,pR⟩;dsimp only at e1;subst e1;exact zag (h st' R sm ea rR pR)
 case step =>
   rintro k ⟨c1,_⟩ st' _ hkn ⟨e1,sm,h1,h2,R,hl,ea,rR,pR⟩;dsimp only at e1 ⊢;subst e1;have hu:k-A.length<U.length:=by omega
   have ed:U.drop (k-A.length)=U[k-A.length]::U.drop (k-A.length+1):=ybr hu;generalize hx:U[k-A.length]=x at ed;have sx:S x:=sS x (by rw [<- hx];exact yaI _ (yaA hu));have sR:∀ z∈R,S z:=fun z hz=>sS z (by
     rcases yaf.mp (pR.mem_iff.mp hz) with q | q
     . exact ybj _ q
     . exact yaI _ (ybb q))
   rw [ed] at ea;have ek:(arrOf st')[pre.length+k]?=some x:=by rw [<- yaD,ea,yai (by omega),show pre.length+k-pre.length=k by omega,yai (by omega),hl,ych];rfl
   have kk:kindOf st'=kd:=sm.kind.trans hk;refine zae (zaQ (zan (I:=fun y c st2=>st'=st2/\c.1=none/\c.2.1<=c.2.2/\c.2.2<=k/\c.2.2-c.2.1<=k-y/\(∀ z∈R.take c.2.1,L x z=false)/\(∀ z∈R.drop c.2.2,L x z=true))
     (Q:=fun c st2=>st'=st2/\c.1=none/\c.2.1<=k/\(∀ z∈R.take c.2.1,L x z=false)/\(∀ z∈R.drop c.2.1,L x z=true)) ?step2 ?fin2 ?init2) ?post2)
   case init2=>exact ⟨rfl,rfl,yax _,yag _,by dsimp only;omega,fun z hz=>by simp at hz,fun z hz=>by rw [ybh (by dsimp only;omega)] at hz;simp at hz⟩
   case fin2 =>
     rintro ⟨c1,l,r⟩ st2 ⟨rfl,e1,g1,g2,g3,g4,g5⟩;dsimp only at *;have:l=r:=by omega
     subst this;exact ⟨rfl,e1,g2,g4,g5⟩
   case step2 =>
     rintro y ⟨c1,l,r⟩ st2 _ hy ⟨rfl,e1,g1,g2,g3,g4,g5⟩;dsimp only at *;subst e1;by_cases hlt:l≥r
     . rw [if_pos hlt]
       have:l=r:=by omega
       subst this;exact zag ⟨rfl,rfl,g2,g4,g5⟩
     . rw [if_neg hlt]
       have hm:(l+r)/2<R.length:=by omega
       refine zae (Zej C kk ek (ZdW ea hm) sx (sR _ (yaA hm)) ?_);dsimp only;cases el:L x R[(l+r)/2] with
       | true =>
         rw [if_pos rfl];refine zag ⟨rfl,rfl,by dsimp only;omega,by dsimp only;omega,by dsimp only;omega,g4,fun z hz=>?_⟩;obtain ⟨j,hj,q,rfl⟩:=Zde hz;dsimp only at hj;rcases ybN ((l+r)/2) j with w | w
         . rcases O.neg x R[j] R[(l+r)/2] sx (sR _ (yaA q)) (sR _ (yaA hm)) el with v | v
           . exact v
           . rw [Zb4 rR w q] at v
             cases v
         . have:j=(l+r)/2:=by omega
           subst this;exact el
       | false =>
         rw [if_neg (by decide)];refine zag ⟨rfl,rfl,by dsimp only;omega,g2,by dsimp only;omega,fun z hz=>?_,g5⟩;obtain ⟨j,hj,q,rfl⟩:=Zdo hz;dsimp only at hj;rcases ybN j ((l+r)/2) with w | w
         . exact O.step (sR _ (yaA q)) (sR _ (yaA hm)) sx el (Zb4 rR w hm)
         . have:j=(l+r)/2:=by omega
           subst this;exact el
   case post2 =>
     rintro ⟨c1,l,r⟩ st2 ⟨rfl,e1,g2,g4,g5⟩;dsimp only at *;subst e1;rw [moveDown'_eq];refine zae (zaW (zag ⟨rfl,⟨sm.kind,sm.pend,sm.failed⟩,by omega,by omega,R.take l++(x::R.drop l),?_,?_,?_,?_⟩))
     . simp only [yac,yaG,yan,yaW]
       omega
     . show (bubble (arrOf st') (pre.length+k) (pre.length+k-(pre.length+l))).toList=_
       have:=ZeI ea (k-l) (by omega);rw [hl,show k-(k-l)=l by omega] at this;rw [show pre.length+k-(pre.length+l)=k-l by omega,this,show k+1-A.length=k-A.length+1 by omega];simp only [yah,ybM];rfl
     . refine yal.mpr ⟨rR.sublist (ybc _ _),ybZ.mpr ⟨fun z hz=>O.asym _ _ (g5 z hz),rR.sublist (yaZ _ _)⟩,fun z hz w hw=>?_⟩
       rcases yaj.mp hw with q | q
       . rw [q]
         exact g4 z hz
       . have r2:=rR
         rw [<- yaq l R] at r2;exact (yal.mp r2).2.2 z hz w q
     . rw [show k+1-A.length=k-A.length+1 by omega,ybk,yae hu,hx,<- yah]
       refine (List.perm_middle (l₁:=R.take l) (l₂:=R.drop l)).trans ?_;rw [yaq];refine (List.Perm.cons x pR).trans ?_;exact (List.perm_append_singleton x _).symm
end
end Srt
namespace Srt
open PySem PyProof.Rows
abbrev Fall (L:Keyed->Keyed->Bool)(l:List Keyed):Prop:=l.Pairwise fun x y=>L x y=false
structure CR (st st':SortSt)(pre all D T:List Keyed):Prop where
 sa:Sa st st'
 arr:(arrOf st').toList=pre++(D++T)
 perm:(D++T).Perm all
section
variable {M:Model}{Ar:Around}{kd:SortKind}{S:Keyed->Prop}{L:Keyed->Keyed->Bool}
theorem Sa.arr {st st':SortSt}(h:Sa st st')(a:Array Keyed):Sa st (setArr st' a):=⟨h.kind,h.pend,h.failed⟩
theorem CR.get {st st':SortSt}{pre all D T:List Keyed}(h:CR st st' pre all D T){i:Nat}(hi:i<(D++T).length):(arrOf st')[pre.length+i]?=some (D++T)[i]:=by rw [<- yaD,h.arr,yai (by omega),show pre.length+i-pre.length=i by omega];exact yae hi
theorem CR.ends {st st':SortSt}{pre all D T:List Keyed}{x y:Keyed}(h:CR st st' pre all (D++[y]) (x::T)){n:Nat}(hn:n=D.length+1):(arrOf st')[pre.length+n]?=some x/\(arrOf st')[pre.length+n-1]?=some y:=by
 subst hn;constructor
 . rw [<- yaD,h.arr,yai (by omega),show pre.length+(D.length+1)-pre.length=D.length+1 by omega,yai (by simp)]
   simp
 . rw [<- yaD,h.arr,yai (by omega),show pre.length+(D.length+1)-1-pre.length=D.length by omega,yaT (by simp),yai (by omega)]
   simp
theorem Zi5 {D:List Keyed}(h:0<D.length):∃ D0 y,D=D0++[y]:=⟨D.dropLast,D.getLast (by intro e;rw [e] at h;simp at h),(List.dropLast_concat_getLast _).symm⟩
theorem ZjN (O:Ord S L){D0:List Keyed}{x y:Keyed}(sD:∀ z∈D0++[y],S z)(sx:S x)(r:Rise L (D0++[y]))(c:L x y=false):Rise L (D0++[y]++[x]):=by
 refine yal.mpr ⟨r,by simp,fun z hz w hw=>?_⟩;have hw:w=x:=by simpa using hw
 subst hw;rcases yaf.mp hz with q | q
 . exact O.step (sD z hz) (sD y (by simp)) sx c ((yal.mp r).2.2 z q y (by simp))
 . have q:z=y:=by simpa using q
   rw [q];exact c
theorem Zj8 (O:Ord S L){D0:List Keyed}{x y:Keyed}(sD:∀ z∈D0++[y],S z)(sx:S x)(r:Fall L (D0++[y]))(c:L y x=false):Fall L (D0++[y]++[x]):=by
 refine yal.mpr ⟨r,by simp,fun z hz w hw=>?_⟩;have hw:w=x:=by simpa using hw
 subst hw;rcases yaf.mp hz with q | q
 . exact O.step sx (sD y (by simp)) (sD z hz) ((yal.mp r).2.2 z q y (by simp)) c
 . have q:z=y:=by simpa using q
   rw [q];exact c
theorem ZdY {D:List Keyed}(h:Fall L D):Rise L D.reverse:=List.pairwise_reverse.mpr h
theorem CR.next {st st':SortSt}{pre all D T:List Keyed}{x:Keyed}(h:CR st st' pre all D (x::T)):CR st st' pre all (D++[x]) T:=⟨h.sa,by rw [h.arr];simp,by have:=h.perm;simpa using this⟩
theorem CR.turn {st st':SortSt}{pre all D1 W T:List Keyed}(h:CR st st' pre all (D1++W) T):CR st (setArr st' (mirror (arrOf st') (pre.length+D1.length) (pre.length+D1.length+W.length) ((pre.length+D1.length+W.length-(pre.length+D1.length))/2))) pre all (D1++W.reverse) T:=by
 refine ⟨h.sa.arr _,?_,?_⟩
 . have e:(arrOf st').toList=(pre++D1)++(W++T):=by rw [h.arr];simp
   have:=Zhu e;rw [yac] at this;show (mirror _ _ _ _).toList=_;rw [this];simp
 . refine List.Perm.trans ?_ h.perm
   exact (zah _ (List.reverse_perm W)).append_right _
theorem ZdU (C:Cmp M Ar E s kd S L) {st st0:SortSt} {pre all D T:List Keyed} {n nrem:Nat} {f:Nat->Option (Option Nat) × Nat->StateT SortSt Sem (ForInStep (Option (Option Nat) × Nat))} {Q:Option (Option Nat) × Nat->SortSt->Prop} (hk:kindOf st=kd) (sS:∀ x∈all,S x)
   (h:CR st st0 pre all D T) (r:Rise L D) (hn:D.length=n) (nD:0<n) (hnr:n+T.length=nrem)
   (hf:∀ x c,f x c=(do
     let __x <- ltAt' (pre.length+c.2) (pre.length+c.2-1)
     match __x with
     | some smaller=>if smaller=true then pure (ForInStep.done (none,c.2)) else pure (ForInStep.yield (none,c.2+1))
     | _=>pure (ForInStep.done (some none,c.2))))
   (h2:∀ st' D' T' m,CR st st' pre all D' T'->Rise L D'->D'.length=m->n<=m->m+T'.length=nrem->(m=nrem\/∃ D0 y x T0,D'=D0++[y]/\T'=x::T0/\L x y=true)->Q (none,m) st') :
   wpS M Ar E s (forIn [n:nrem] ((none,n):Option (Option Nat) × Nat) f) Q st0:=by
 have O:=C.ord;refine zan (I:=fun x c st'=>c.1=none/\c.2=x/\x<=nrem/\n<=x/\∃ D' T',CR st st' pre all D' T'/\Rise L D'/\D'.length=x/\x+T'.length=nrem) ?step ?fin ?init
 case init=>exact ⟨rfl,rfl,by omega,yag _,D,T,h,r,hn,hnr⟩
 case fin =>
   rintro ⟨c1,c2⟩ st' ⟨e1,e2,h3,h4,D',T',cr,r',hl,hT⟩;dsimp only at e1 e2;subst e1;rw [e2];exact h2 st' D' T' _ cr r' hl (by omega) (by omega) (.inl (by omega))
 case step =>
   rintro x ⟨c1,c2⟩ st' hx1 hx2 ⟨e1,e2,h3,h4,D',T',cr,r',hl,hT⟩;dsimp only at e1 e2;subst e1 e2;obtain ⟨D0,y,rfl⟩:=Zi5 (D:=D') (by omega);cases T' with
   | nil=>simp at hT;omega
   | cons z T0 =>
     have hl':c2=D0.length+1:=by rw [<- hl];simp
     obtain ⟨g1,g2⟩:=cr.ends hl';have sall:∀ w∈D0++[y]++z::T0,S w:=fun w hw=>sS w (cr.perm.mem_iff.mp hw)
     have sz:S z:=sall z (by simp);have sy:S y:=sall y (by simp);rw [hf];refine zae (Zej C (cr.sa.kind.trans hk) g1 g2 sz sy ?_);dsimp only;cases e:L z y with
     | true =>
       rw [if_pos rfl];exact zag (h2 st' _ _ _ cr r' hl (by omega) hT (.inr ⟨D0,y,z,T0,rfl,rfl,e⟩))
     | false =>
       rw [if_neg (by decide)];refine zag ⟨rfl,rfl,by omega,by omega,D0++[y]++[z],T0,cr.next,ZjN O (fun w hw=>sall w (ybj _ hw)) sz r' e,?_,?_⟩
       . simp only [yac,yan,ybI] at hl ⊢
         omega
       . simp only [yan] at hT
         omega
structure Dn (L:Keyed->Keyed->Bool)(D:List Keyed)(neq:Nat):Prop where
 fall:Fall L D
 lt:neq<D.length
 same:∀ x∈D.drop (D.length-(neq+1)),∀ y∈D.drop (D.length-(neq+1)),L x y=false
theorem Dn.turn {D:List Keyed}{neq:Nat}(h:Dn L D neq):Fall L (D.take (D.length-(neq+1))++(D.drop (D.length-(neq+1))).reverse):=by have f:=h.fall;rw [<- yaq (D.length-(neq+1)) D] at f;obtain ⟨f1,f2,f3⟩:=yal.mp f;refine yal.mpr ⟨f1,?_,fun x hx y hy=>f3 x hx y (ybX.mp hy)⟩;refine List.Pairwise.imp_of_mem (R:=fun _ _=>True) (fun {x y} hx hy _=>h.same x (ybX.mp hx) y (ybX.mp hy)) ?_;exact List.pairwise_of_forall fun _ _=>trivial
theorem Zcu {i j:Nat}{st:SortSt}{Q:Unit->SortSt->Prop}(h:Q () (setArr st (mirror (arrOf st) i j ((j-i)/2)))):wpS M Ar E s (reverseSlice' i j) Q st:=by rw [reverseSlice'_eq];exact zaW h
theorem CR.turnEnd {st st':SortSt}{pre all D T:List Keyed}{neq n:Nat}(h:CR st st' pre all D T)(d:Dn L D neq)(hn:D.length=n) :
   CR st (setArr st' (mirror (arrOf st') (pre.length+n-(neq+1)) (pre.length+n) ((pre.length+n-(pre.length+n-(neq+1)))/2))) pre all (D.take (n-(neq+1))++(D.drop (n-(neq+1))).reverse) T:=by
 subst hn;have hl:=d.lt;have h':CR st st' pre all (D.take (D.length-(neq+1))++D.drop (D.length-(neq+1))) T:=by rw [yaq];exact h
 have:=h'.turn;rw [yaG,yaW,Nat.min_eq_left (by omega),show pre.length+(D.length-(neq+1))+(D.length-(D.length-(neq+1)))=pre.length+D.length by omega,show pre.length+(D.length-(neq+1))=pre.length+D.length-(neq+1) by omega] at this;exact this
theorem Zes {D:List Keyed}{x:Keyed}{k:Nat}(h:k<=D.length):(D++[x]).drop ((D++[x]).length-(k+1))=D.drop (D.length-k)++[x]:=by rw [yac,List.length_singleton,show D.length+1-(k+1)=D.length-k by omega,List.drop_append_of_le_length (by omega)]
theorem Zhe (C:Cmp M Ar E s kd S L) {st st0:SortSt} {pre all D T:List Keyed} {n nrem:Nat} {f:Nat->Option (Option Nat) × Nat × Nat->StateT SortSt Sem (ForInStep (Option (Option Nat) × Nat × Nat))} {Q:Option (Option Nat) × Nat × Nat->SortSt->Prop} (hk:kindOf st=kd) (sS:∀ x∈all,S x)
   (h:CR st st0 pre all D T) (r:Dn L D 0) (hn:D.length=n) (hnr:n+T.length=nrem)
   (hf : ∀ x c,f x c=(do
     let __x <- ltAt' (pre.length+c.2.1) (pre.length+c.2.1-1)
     match __x with
     | some smaller =>
       if smaller=true then
         if c.2.2 > 0 then do
           reverseSlice' (pre.length+c.2.1-(c.2.2+1)) (pre.length+c.2.1)
           pure (ForInStep.yield (none,c.2.1+1,0))
         else pure (ForInStep.yield (none,c.2.1+1,0))
       else do
         let __x <- ltAt' (pre.length+c.2.1-1) (pre.length+c.2.1)
         match __x with
         | some larger=>if larger=true then pure (ForInStep.done (none,c.2.1,c.2.2)) else pure (ForInStep.yield (none,c.2.1+1,c.2.2+1))
         | _=>pure (ForInStep.done (some none,c.2.1,c.2.2))
     | _=>pure (ForInStep.done (some none,c.2.1,c.2.2))))
   (h2:∀ st' D' T' m neq,CR st st' pre all D' T'->Dn L D' neq->D'.length=m->m+T'.length=nrem->Q (none,m,neq) st') :
   wpS M Ar E s (forIn [n:nrem] ((none,n,0):Option (Option Nat) × Nat × Nat) f) Q st0:=by
 have O:=C.ord;refine zan (I:=fun x c st'=>c.1=none/\c.2.1=x/\x<=nrem/\∃ D' T',CR st st' pre all D' T'/\Dn L D' c.2.2/\D'.length=x/\x+T'.length=nrem) ?step ?fin ?init
 case init=>exact ⟨rfl,rfl,by omega,D,T,h,r,hn,hnr⟩
 case fin =>
   rintro ⟨c1,c2,c3⟩ st' ⟨e1,e2,h3,D',T',cr,r',hl,hT⟩;dsimp only at e1 e2 r';subst e1;exact h2 st' D' T' _ _ cr r' (hl.trans e2.symm) (by omega)
 case step =>
   rintro x ⟨c1,c2,c3⟩ st' hx1 hx2 ⟨e1,e2,h3,D',T',cr,dn,hl,hT⟩;dsimp only at e1 e2 dn;subst e1 e2;obtain ⟨D0,y,eD⟩:=Zi5 (D:=D') (by have:=dn.lt;omega);cases T' with
   | nil=>simp at hT;omega
   | cons z T0 =>
     have hl':c2=D0.length+1:=by rw [<- hl,eD];simp
     have cr':=cr;rw [eD] at cr';obtain ⟨g1,g2⟩:=cr'.ends hl';have sall:∀ w∈D'++z::T0,S w:=fun w hw=>sS w (cr.perm.mem_iff.mp hw)
     have sz:S z:=sall z (by simp);have sy:S y:=sall y (by rw [eD];simp);have hle:=dn.lt;simp only [yan] at hT;rw [hf];refine zae (Zej C (cr.sa.kind.trans hk) g1 g2 sz sy ?_);dsimp only;cases e:L z y with
     | true =>
       rw [if_pos rfl];have zl:∀ w∈D',L w z=false:=by
         intro w hw;have f:=dn.fall;rw [eD] at f hw;rcases yaf.mp hw with q | q
         . exact O.step sz sy (sall w (by rw [eD];exact ybj _ (ybj _ q))) ((yal.mp f).2.2 w q y (by simp)) (O.asym _ _ e)
         . have q:w=y:=by simpa using q
           rw [q];exact O.asym _ _ e
       have mk:∀ D2:List Keyed,Fall L D2->(∀ w∈D2,L w z=false)->Dn L (D2++[z]) 0:=by
         intro D2 f2 z2;refine ⟨yal.mpr ⟨f2,by simp,fun w hw v hv=>?_⟩,by simp,fun u hu v hv=>?_⟩
         . have hv:v=z:=by simpa using hv
           rw [hv];exact z2 w hw
         . rw [Zes (yax _),Nat.sub_zero,ybh (yag _),ybf] at hu hv
           have hu:u=z:=by simpa using hu
           have hv:v=z:=by simpa using hv
           rw [hu,hv];exact O.irr z
       by_cases hq:c3 > 0
       . rw [if_pos hq]
         have ct:=cr.turnEnd dn hl;refine zae (Zcu (zag ⟨rfl,rfl,by omega,_,T0,ct.next,mk _ (by have:=dn.turn;rw [hl] at this;exact this) (fun w hw=>zl w ?_),?_,by omega⟩))
         . rcases yaf.mp hw with q | q
           . exact ybb q
           . exact ybm (ybX.mp q)
         . simp only [yac,yaG,ybO,yaW,yan,ybI]
           omega
       . rw [if_neg hq]
         refine zag ⟨rfl,rfl,by omega,D'++[z],T0,cr.next,mk _ dn.fall zl,?_,by omega⟩;simp only [yac,yan,ybI];omega
     | false =>
       rw [if_neg (by decide)];refine zae (Zej C (cr.sa.kind.trans hk) g2 g1 sy sz ?_);dsimp only;cases e':L y z with
       | true =>
         rw [if_pos rfl];exact zag (h2 st' _ _ _ _ cr dn hl (by simp only [yan];omega))
       | false =>
         rw [if_neg (by decide)];have yin:y∈D'.drop (D'.length-(c3+1)):=by rw [eD,yac,List.length_singleton,List.drop_append_of_le_length (by omega)];simp
         refine zag ⟨rfl,rfl,by omega,D'++[z],T0,cr.next,⟨?_,by simp;omega,fun u hu v hv=>?_⟩,?_,by omega⟩
         . have f:=dn.fall
           rw [eD] at f ⊢;exact Zj8 O (fun w hw=>sall w (by rw [eD];exact ybj _ hw)) sz f e'
         . dsimp only at hu hv
           rw [Zes (by omega)] at hu hv;have sD:∀ w∈D'.drop (D'.length-(c3+1)),S w:=fun w hw=>sall w (ybj _ (ybm hw))
           rcases yaf.mp hu with q | q
           . rcases yaf.mp hv with p | p
             . exact dn.same u q v p
             . have p:v=z:=by simpa using p
               rw [p];exact O.step sz sy (sD u q) (dn.same u q y yin) e'
           . have q:u=z:=by simpa using q
             rw [q];rcases yaf.mp hv with p | p
             . exact O.step (sD v p) sy sz e (dn.same y yin v p)
             . have p:v=z:=by simpa using p
               rw [p];exact O.irr z
         . simp only [yac,yan,ybI]
           omega
theorem ZfH (C:Cmp M Ar E s kd S L) {st:SortSt} {pre all:List Keyed} {Q:Option Nat->SortSt->Prop} (hk:kindOf st=kd) (sS:∀ x∈all,S x) (e:(arrOf st).toList=pre++all) (ne:0<all.length)
   (h:∀ st' R T,Sa st st'->(arrOf st').toList=pre++(R++T)->Rise L R->(R++T).Perm all->0<R.length->Q (some R.length) st'):wpS M Ar E s (countRun' pre.length all.length) Q st:=by
 have O:=C.ord;rw [countRun'_eq];obtain ⟨x0,T0,rfl⟩:∃ x T,all=x::T:=by
   cases all with
   | nil=>simp at ne
   | cons x T=>exact ⟨x,T,rfl⟩
 have c0:CR st st pre (x0::T0) [x0] T0:=⟨⟨rfl,rfl,rfl⟩,e,List.Perm.refl _⟩
 dsimp only;refine zae (ZdU C hk sS c0 (by simp) rfl (by decide) (by simp;omega) (fun x c=>rfl) fun st1 D T m c1 r1 l1 m1 t1 w1=>?_);dsimp only;by_cases z1:(m==(x0::T0).length)=true
 . rw [if_pos z1,<- l1]
   exact zag (h st1 D T c1.sa c1.arr r1 c1.perm (by omega))
 rw [if_neg z1];have z1':m≠(x0::T0).length:=by simpa using z1
 obtain ⟨D0,y,x,T1,eD,eT,hxy⟩:=w1.resolve_left z1';subst eD eT;have sall:∀ w∈D0++[y]++x::T1,S w:=fun w hw=>sS w (c1.perm.mem_iff.mp hw)
 have sx:S x:=sall x (by simp);have sD:∀ w∈D0++[y],S w:=fun w hw=>sall w (ybj _ hw)
 have mk:∀ D2:List Keyed,Fall L D2->(∀ w∈D2,L w x=false)->Dn L (D2++[x]) 0:=by
   intro D2 f2 z2;refine ⟨yal.mpr ⟨f2,by simp,fun w hw v hv=>?_⟩,by simp,fun u hu v hv=>?_⟩
   . have hv:v=x:=by simpa using hv
     rw [hv];exact z2 w hw
   . rw [Zes (yax _),Nat.sub_zero,ybh (yag _),ybf] at hu hv
     have hu:u=x:=by simpa using hu
     have hv:v=x:=by simpa using hv
     rw [hu,hv];exact O.irr x
 simp only [yan] at t1;by_cases z2:m > 1
 . rw [if_pos z2]
   have hD0:0<D0.length:=by simp only [yac,yan,ybI] at l1;omega
   have e0:(arrOf st1)[pre.length]?=some (D0[0]'hD0):=by have:=c1.get (i:=0) (by simp;omega);rw [ycg] at this;rw [this,yce (by simp),yce hD0]
   have e1:(arrOf st1)[pre.length+m-1]?=some y:=by
     have hl':m=D0.length+1:=by rw [<- l1];simp
     exact (c1.ends hl').2
   have s0:S (D0[0]'hD0):=sD _ (ybj _ (yaA hD0));refine zae (Zej C (c1.sa.kind.trans hk) e0 e1 s0 (sD y (by simp)) ?_);dsimp only;cases er:L (D0[0]'hD0) y with
   | true =>
     rw [if_pos rfl,<- l1];exact zag (h st1 _ _ c1.sa c1.arr r1 c1.perm (by omega))
   | false =>
     rw [if_neg (by decide)];have up0:∀ w∈D0++[y],L w (D0[0]'hD0)=false:=by
       intro w hw;obtain ⟨j,hj,rfl⟩:=yaV.mp hw;rcases Nat.eq_zero_or_pos j with q | q
       . subst q
         rw [yce hD0];exact O.irr _
       . have:=Zb4 r1 q hj
         rw [yce (i:=0) hD0] at this;exact this
     have upy:∀ w∈D0++[y],L y w=false:=by
       intro w hw;rcases yaf.mp hw with q | q
       . exact (yal.mp r1).2.2 w q y (by simp)
       . have q:w=y:=by simpa using q
         rw [q];exact O.irr y
     have sy:S y:=sD y (by simp);have toy:∀ w∈D0++[y],L w y=false:=fun w hw=>O.step sy s0 (sD w hw) (up0 w hw) er
     have eqv:∀ w∈D0++[y],∀ v∈D0++[y],L w v=false:=fun w hw v hv=>O.step (sD v hv) sy (sD w hw) (toy w hw) (upy v hv)
     have xl:∀ w∈D0++[y],L w x=false:=fun w hw=>by
       rcases O.neg x w y sx (sD w hw) sy hxy with q | q
       . exact O.asym _ _ q
       . rw [toy w hw] at q
         cases q
     have cd0:=CR.turn (D1:=[]) (by simpa using c1);rw [ybI,ycg,l1] at cd0;have cd:=cd0.next;have dd:=mk ([]++(D0++[y]).reverse) (by
       rw [ybf];refine List.Pairwise.imp_of_mem (R:=fun _ _=>True) (fun {u v} hu hv _=>eqv u (ybX.mp hu) v (ybX.mp hv)) ?_;exact List.pairwise_of_forall fun _ _=>trivial) (fun w hw=>xl w (by rw [ybf] at hw;exact ybX.mp hw))
     have ld:([]++(D0++[y]).reverse++[x]).length=m+1:=by rw [<- l1];simp
     have hTd:m+1+T1.length=(x0::T0).length:=by simp only [yan] at t1 ⊢;omega
     refine zae (Zcu ?_);refine zae (wpS_lift (zaR ⟨rfl,?_⟩));refine zae (Zhe C hk sS cd dd ld hTd (fun x c=>rfl) fun st3 D3 T3 m3 neq c3 d3 l3 hT3=>?_);dsimp only;have p3:=d3.lt;by_cases hq:neq > 0
     . rw [if_pos hq]
       have ct:=c3.turnEnd d3 l3;have ft:=d3.turn;rw [l3] at ft;have lt3:(List.take (m3-(neq+1)) D3++(List.drop (m3-(neq+1)) D3).reverse).length=m3:=by simp only [yac,yaG,ybO,yaW];omega
       refine zae (Zcu ?_);walk_at "xa"
     . rw [if_neg hq]
       have ct:=c3;have ft:=d3.fall;have lt3:=l3;walk_at "xa"
 . rw [if_neg z2]
   have hD0:D0=[]:=by simp only [yac,yan,ybI] at l1;exact ybz.mp (by omega)
   subst hD0;have cd:=c1.next;have dd:=mk ([]++[y]) (by simp) (fun w hw=>by
     have hw:w=y:=by simpa using hw
     rw [hw];exact O.asym _ _ hxy)
   have ld:([]++[y]++[x]).length=m+1:=by rw [<- l1];simp
   have hTd:m+1+T1.length=(x0::T0).length:=by simp only [yan] at t1 ⊢;omega
   refine zae (wpS_lift (zaR ⟨rfl,?_⟩));refine zae (Zhe C hk sS cd dd ld hTd (fun x c=>rfl) fun st3 D3 T3 m3 neq c3 d3 l3 hT3=>?_);dsimp only;have p3:=d3.lt;by_cases hq:neq > 0
   . rw [if_pos hq]
     have ct:=c3.turnEnd d3 l3;have ft:=d3.turn;rw [l3] at ft;have lt3:(List.take (m3-(neq+1)) D3++(List.drop (m3-(neq+1)) D3).reverse).length=m3:=by simp only [yac,yaG,ybO,yaW];omega
     refine zae (Zcu ?_);walk_at "xa"
   . rw [if_neg hq]
     have ct:=c3;have ft:=d3.fall;have lt3:=l3;walk_at "xa"
end
end Srt
namespace Srt
open PySem PyProof.Rows
def Pd (L:Keyed->Keyed->Bool):Nat->List (Nat × Nat × Nat)->List (List Keyed)->Prop
 | _,[],[]=>True
 | off,p::ps,R::rs=>p.1=off/\p.2.1=R.length/\0<R.length/\Rise L R/\Pd L (off+R.length) ps rs
 | _,_,_=>False
section
variable {S:Keyed->Prop}{L:Keyed->Keyed->Bool}
theorem Pd.len:∀ {off:Nat} {ps:List (Nat × Nat × Nat)} {rs:List (List Keyed)},Pd L off ps rs->ps.length=rs.length
 | _,[],[],_=>rfl
 | _,_::_,_::_,h=>by simp [Pd.len h.2.2.2.2]
 | _,[],_::_,h=>h.elim
 | _,_::_,[],h=>h.elim
theorem Pd.append:∀ {off:Nat} {ps qs:List (Nat × Nat × Nat)} {rs ts:List (List Keyed)},Pd L off ps rs->Pd L (off+rs.flatten.length) qs ts->Pd L off (ps++qs) (rs++ts)
 | _,[],_,[],_,_,h=>by simpa using h
 | _,_::_,_,_::_,_,h,h2=>⟨h.1,h.2.1,h.2.2.1,h.2.2.2.1,Pd.append h.2.2.2.2 (by simpa [ycx] using h2)⟩
 | _,[],_,_::_,_,h,_=>h.elim
 | _,_::_,_,[],_,h,_=>h.elim
theorem Pd.split:∀ {off:Nat} {ps:List (Nat × Nat × Nat)} (rs:List (List Keyed)) {ts:List (List Keyed)},Pd L off ps (rs++ts)->∃ p1 p2,ps=p1++p2/\Pd L off p1 rs/\Pd L (off+rs.flatten.length) p2 ts
 | _,ps,[],_,h=>⟨[],ps,rfl,trivial,by simpa using h⟩
 | _,p::ps,R::rs,_,h=>by
   obtain ⟨p1,p2,e,h1,h2⟩:=Pd.split rs h.2.2.2.2;exact ⟨p::p1,p2,by rw [e];rfl,⟨h.1,h.2.1,h.2.2.1,h.2.2.2.1,h1⟩,by simpa [ycx] using h2⟩
 | _,[],_::_,_,h=>h.elim
theorem Pd.pos:∀ {off:Nat} {ps:List (Nat × Nat × Nat)} {rs:List (List Keyed)},Pd L off ps rs->rs.length<=rs.flatten.length
 | _,[],[],_=>by simp
 | _,_::_,R::rs,h=>by
   have:=Pd.pos h.2.2.2.2;have:=h.2.2.1;simp only [ybq,yac,yan];omega
 | _,[],_::_,h=>h.elim
 | _,_::_,[],h=>h.elim
structure SI (L:Keyed->Keyed->Bool)(kd:SortKind)(all:List Keyed)(st:SortSt)(runs:List (List Keyed))(T:List Keyed):Prop where
 arr:(arrOf st).toList=runs.flatten++T
 perm:(runs.flatten++T).Perm all
 pend:Pd L 0 (pendingOf st).toList runs
 kind:kindOf st=kd
 failed:failedOf st=none
theorem split_at {α:Type}{l:List α}{i:Nat}(h:i+1<l.length):∃ l1 a b l2,l=l1++(a::b::l2)/\l1.length=i:=by refine ⟨l.take i,l[i],l[i+1],l.drop (i+2),?_,by rw [yaG];omega⟩;rw [<- ybr (by omega),<- ybr (by omega),yaq]
end
section
variable {M:Model}{Ar:Around}{kd:SortKind}{S:Keyed->Prop}{L:Keyed->Keyed->Bool}
theorem Zcw (C:Cmp M Ar E s kd S L){all:List Keyed}{st:SortSt}{runs:List (List Keyed)}{T:List Keyed}{i:Nat}{Q:Bool->SortSt->Prop}(sS:∀ x∈all,S x)(h:SI L kd all st runs T)(hi:i+1<runs.length)
   (q:∀ st' runs',SI L kd all st' runs' T->runs'.length+1=runs.length->runs'.flatten.length=runs.flatten.length->Q true st'):wpS M Ar E s (mergeAt' i) Q st:=by
 obtain ⟨r1,A,B,r2,er,hl⟩:=split_at hi;subst er;obtain ⟨p1,p2,ep,d1,d2⟩:=Pd.split r1 h.pend;have lp:=d1.len;obtain ⟨a,b,p3,rfl⟩:∃ a b p3,p2=a::b::p3:=by
   have:=d2.len
   match p2,this with
   | a::b::p3,_=>exact ⟨a,b,p3,rfl⟩
   | [],e=>simp at e
   | [_],e=>simp at e
 obtain ⟨a1,a2,a3,a4,b1,b2,b3,b4,d3⟩:=d2;rw [ybH] at a1 b1 d3;obtain ⟨as_,an,apw⟩:=a;obtain ⟨bs_,bn,bpw⟩:=b;dsimp only at a1 a2 b1 b2;subst a1 a2 b1 b2;have hpa:(pendingOf st)[i]?=some (r1.flatten.length,A.length,apw):=by rw [<- yaD,ep,yai (by omega),show i-p1.length=0 by omega];rfl
 have hpb:(pendingOf st)[i+1]?=some (r1.flatten.length+A.length,B.length,bpw):=by rw [<- yaD,ep,yai (by omega),show i+1-p1.length=1 by omega];rfl
 have earr:(arrOf st).toList=r1.flatten++(A++(B++(r2.flatten++T))):=by rw [h.arr];simp
 refine Zht C h.kind h.failed (fun x hx=>sS x (h.perm.mem_iff.mp (by rw [<- h.arr];exact hx))) ⟨earr,⟨_,hpa⟩,⟨_,hpb⟩,a4,b4,a3,b3⟩ fun st' R pw k' f' ar' rR pR pe'=>?_
 refine q st' (r1++(R::r2)) ⟨?_,?_,?_,k',f'⟩ ?_ ?_
 . rw [ar']
   simp
 . refine List.Perm.trans ?_ h.perm
   simp only [ybT,ybq,yah];refine zah _ ?_;rw [<- yah A];exact pR.append_right _
 . rw [pe']
   have lR:R.length=A.length+B.length:=by rw [pR.length_eq,yac]
   have ee:(((pendingOf st).setIfInBounds i (r1.flatten.length,A.length+B.length,pw)).eraseIdxIfInBounds (i+1)).toList=p1++((r1.flatten.length,A.length+B.length,pw)::p3):=by
     have sz:(pendingOf st).size=p1.length+(p3.length+2):=by rw [<- yam,ep];simp
     rw [Array.eraseIdxIfInBounds,dif_pos (by rw [Array.size_setIfInBounds];omega)];have hp1:p1.length=i:=lp.trans hl;rw [Array.toList_eraseIdx,Array.toList_setIfInBounds,ep,List.set_append_right _ _ (by omega),show i-p1.length=0 by omega,List.set_cons_zero,List.eraseIdx_append_of_length_le (by omega),show i+1-p1.length=1 by omega];rfl
   rw [ee];refine Pd.append d1 ?_;rw [ybH];exact ⟨rfl,lR.symm,by show 0<R.length;omega,rR,by rw [lR,<- ycx];exact d3⟩
 . simp only [yac,yan]
   omega
 . simp only [ybT,ybq,yac,pR.length_eq]
   omega
theorem ZgZ (p:Prop)[Decidable p](a:Nat):(if p then a-1 else a)<=a:=by split<;>omega
theorem SI.setLast {all:List Keyed} {st:SortSt} {runs:List (List Keyed)} {T:List Keyed} (h:SI L kd all st runs T) (pw:Nat):SI L kd all (setPending st ((pendingOf st).modify ((pendingOf st).size-1) fun (s1,len,_)=>(s1,len,pw))) runs T:=by
 refine ⟨h.arr,h.perm,?_,h.kind,h.failed⟩;show Pd L 0 ((pendingOf st).modify _ _).toList runs;rw [Array.toList_modify];generalize (pendingOf st).size-1=j;have:∀ (ps:List (Nat × Nat × Nat)) (rs:List (List Keyed)) (off j:Nat),Pd L off ps rs->Pd L off (ps.modify j fun (s1,len,_)=>(s1,len,pw)) rs:=by
   intro ps;induction ps with
   | nil=>intro rs off j h;simpa using h
   | cons p ps ih =>
     intro rs off j h;cases rs with
     | nil=>exact h.elim
     | cons R rs =>
       obtain ⟨p0,p1,p2⟩:=p;cases j with
       | zero=>exact h
       | succ j=>exact ⟨h.1,h.2.1,h.2.2.1,h.2.2.2.1,ih rs _ j h.2.2.2.2⟩
 exact this _ _ _ _ h.pend
theorem SI.push {all:List Keyed}{st st':SortSt}{runs:List (List Keyed)}{R T:List Keyed}(pe:Pd L 0 (pendingOf st').toList runs)(k:kindOf st'=kd)(f:failedOf st'=none)(ar:(arrOf st').toList=runs.flatten++(R++T))(pm:(runs.flatten++(R++T)).Perm all)(rR:Rise L R)(nR:0<R.length){lo n:Nat}
   (hlo:lo=runs.flatten.length) (hn:n=R.length):SI L kd all (setPending st' ((pendingOf st').push (lo,n,0))) (runs++[R]) T:=by
 subst hlo hn;refine ⟨?_,?_,?_,k,f⟩
 . show (arrOf st').toList=_
   rw [ar];simp
 . have e:(runs++[R]).flatten++T=runs.flatten++(R++T):=by simp
   rw [e];exact pm
 . show Pd L 0 ((pendingOf st').push _).toList _
   rw [ycd];exact Pd.append pe ⟨by simp,rfl,nR,rR,trivial⟩
theorem ZfG (C:Cmp M Ar E s kd S L) {all:List Keyed} {st:SortSt} {Q:Unit->SortSt->Prop} (sS:∀ x∈all,S x) (k:kindOf st=kd) (f:failedOf st=none) (pe:pendingOf st=#[]) (ar:(arrOf st).toList=all)
   (h:∀ st',failedOf st'=none->(arrOf st').toList.Perm all->Rise L (arrOf st').toList->Q () st'):wpS M Ar E s sortRuns' Q st:=by
 have h0:SI L kd all st [] all:=⟨by simpa using ar,by simp,by rw [pe];trivial,k,f⟩
 have sz:(arrOf st).size=all.length:=by rw [<- yam,ar]
 rw [sortRuns'_eq];refine zae (wpS_get ?_);dsimp only;rw [sz];generalize minRun' all.length all.length 0=mr;refine zae (zaQ (zan (I:=fun x c st'=>c.1=none/\x<=c.2/\∃ runs T,SI L kd all st' runs T/\runs.flatten.length=c.2)
   (Q:=fun c st'=>c.1=none/\∃ runs,SI L kd all st' runs []) ?step ?fin ?init) ?post)
 case init=>exact ⟨rfl,yax _,[],all,h0,rfl⟩
 case fin =>
   rintro ⟨c1,lo⟩ st' ⟨e1,hx,runs,T,si,hl⟩;refine ⟨e1,runs,?_⟩;dsimp only at hx hl;have:=si.perm.length_eq;rw [yac] at this;have hT:T=[]:=ybz.mp (by omega);subst hT;exact si
 case post =>
   rintro ⟨c1,lo⟩ st' ⟨e1,runs,si⟩;dsimp only at e1 ⊢;subst e1;dsimp only;refine zae (zaQ (zan (I:=fun x c st'=>c.1=none/\∃ runs,SI L kd all st' runs []/\(runs.length+x<=all.length\/runs.length<=1)) (Q:=fun c st'=>c.1=none/\∃ runs,SI L kd all st' runs []/\runs.length<=1) ?step5 ?fin5 ?init5) ?post5)
   case init5 =>
     refine ⟨rfl,runs,si,.inl ?_⟩;have h1:=si.pend.pos;have h2:=si.perm.length_eq;rw [yaO] at h2;omega
   case fin5 =>
     rintro ⟨c1,u⟩ st' ⟨e1,runs,si,hr⟩;refine ⟨e1,runs,si,?_⟩;omega
   case post5 =>
     rintro ⟨c1,u⟩ st' ⟨e1,runs,si,hr⟩;dsimp only at e1;subst e1;have e2:=si.arr;rw [yaO] at e2;refine zag (h st' si.failed ?_ ?_)
     . have:=si.perm
       rw [yaO] at this;rw [e2];exact this
     . rw [e2]
       have pd:=si.pend
       match runs,hr,pd with
       | [],_,_=>simp
       | [R],_,pd =>
         match hq:(pendingOf st').toList,pd with
         | p::ps,pd=>simpa using pd.2.2.2.1
         | [],pd=>exact pd.elim
   case step5 =>
     rintro x ⟨c1,u⟩ st' _ hx ⟨e1,runs,si,hr⟩;dsimp only at e1;subst e1;have pl:(pendingOf st').size=runs.length:=by rw [<- yam];exact si.pend.len
     refine zae (wpS_get ?_);by_cases z:(pendingOf st').size<=1
     . rw [if_pos z]
       exact zag ⟨rfl,runs,si,by omega⟩
     . rw [if_neg z]
       refine zae (Zcw C sS si (ybL (Nat.add_le_add_right (ZgZ _ _) 1) (by omega)) fun st4 runs4 si4 hl4 _=>?_);simp only [ybS,yaF,zay];exact zag ⟨rfl,runs4,si4,by omega⟩
 case step =>
   rintro x ⟨c1,lo⟩ st' _ hx ⟨e1,hxl,runs,T,si,hl⟩;dsimp only at e1 hxl hl ⊢;subst e1;by_cases z:lo≥all.length
   . rw [if_pos z]
     refine zag ⟨rfl,runs,?_⟩;have:=si.perm.length_eq;rw [yac] at this;have hT:T=[]:=ybz.mp (by omega);subst hT;exact si
   . rw [if_neg z]
     have lT:all.length-lo=T.length:=by have:=si.perm.length_eq;rw [yac] at this;omega
     rw [lT];have nT:0<T.length:=by omega
     have sT:∀ x∈T,S x:=fun x hx=>sS x (si.perm.mem_iff.mp (yaI _ hx))
     have cnt:=fun {Q:Option Nat->SortSt->Prop}=>ZfH (Q:=Q) (M:=M) (Ar:=Ar) (E:=E) (s:=s) C (st:=st') (pre:=runs.flatten) (all:=T) si.kind sT si.arr nT
     rw [hl] at cnt;refine zae (cnt fun st1 R1 T1 sa1 ar1 rR1 pR1 nR1=>?_);dsimp only;have pm1:(runs.flatten++(R1++T1)).Perm all:=(zah _ pR1).trans si.perm;have l1:R1.length+T1.length=T.length:=by rw [<- yac];exact pR1.length_eq
     by_cases z2:R1.length<mr
     . rw [if_pos z2]
       refine zae (wpS_lift (zaR ⟨rfl,?_⟩));have hk:min T.length mr=R1.length+(T1.take (min T.length mr-R1.length)).length:=by rw [yaG];omega
       have bs:=fun {Q:Bool->SortSt->Prop}=>ZiE (Q:=Q) (M:=M) (Ar:=Ar) (E:=E) (s:=s) C (st:=st1) (pre:=runs.flatten) (A:=R1) (U:=T1.take (min T.length mr-R1.length)) (post:=T1.drop (min T.length mr-R1.length)) (sa1.kind.trans si.kind)
         (fun x hx=>sT x (pR1.mem_iff.mp (by
           rcases yaf.mp hx with q | q
           . exact ybj _ q
           . exact yaI _ (ybb q)))) (by rw [yaq];exact ar1) rR1 nR1
       rw [hl,<- hk] at bs;refine zae (bs fun st2 R sa2 ar2 rR pR=>?_);simp only [ybS,yaF,zay];have hn:min T.length mr=R.length:=by rw [pR.length_eq,yac];exact hk
       have nR:0<R.length:=by omega
       generalize hT2:T1.drop (min T.length mr-R1.length)=T2 at *;have si2:SI L kd all st2 runs (R++T2):=by refine ⟨ar2,?_,by rw [sa2.pend,sa1.pend];exact si.pend,sa2.kind.trans (sa1.kind.trans si.kind),sa2.failed.trans (sa1.failed.trans si.failed)⟩;refine List.Perm.trans (zah _ ?_) pm1;refine (pR.append_right _).trans ?_;rw [yah,<- hT2,yaq]
       generalize hnn:min T.length mr=nn at *;refine zae (wpS_get ?_);cases eb:(pendingOf st2).back? with
       | none =>
         dsimp only;refine zae (zaW (zag ⟨rfl,by dsimp only;omega,_,T2,SI.push (st:=st2) si2.pend si2.kind si2.failed si2.arr si2.perm rR nR hl.symm hn,?_⟩));simp only [ybT,ybq,List.flatten_nil,yaO,yac];omega
       | some p =>
         obtain ⟨s1,n1,w1⟩:=p;dsimp only;refine zae (zaQ (zan (I:=fun _ c st3=>c.1=none/\∃ runs3,SI L kd all st3 runs3 (R++T2)/\runs3.flatten.length=lo) (Q:=fun c st3=>c.1=none/\∃ runs3,SI L kd all st3 runs3 (R++T2)/\runs3.flatten.length=lo) ?stepm (fun _ _ z=>z) ?initm) ?postm)
         case initm=>exact ⟨rfl,runs,si2,hl⟩
         case stepm =>
           rintro y ⟨c1,u⟩ st3 _ _ ⟨e3,runs3,si3,hl3⟩;dsimp only at e3;subst e3;refine zae (wpS_get ?_);have pl:(pendingOf st3).size=runs3.length:=by rw [<- yam];exact si3.pend.len
           split
           next older he =>
             split
             . exact zag ⟨rfl,runs3,si3,hl3⟩
             . have h1:(pendingOf st3).size > 1:=by
                 by_cases hz:(pendingOf st3).size > 1
                 . exact hz
                 . rw [if_neg hz] at he
                   cases he
               refine zae (Zcw C sS si3 (by omega) fun st4 runs4 si4 _ hf4=>?_);simp only [ybS,yaF,zay];exact zag ⟨rfl,runs4,si4,hf4.trans hl3⟩
           next=>exact zag ⟨rfl,runs3,si3,hl3⟩
         case postm =>
           rintro ⟨c1,u⟩ st3 ⟨e3,runs3,si3,hl3⟩;dsimp only at e3;subst e3;dsimp only;refine zae (zaW ?_);have si4:=si3.setLast (power' all.length (2*s1+n1) (2*s1+n1+n1+nn) all.length);refine zae (zaW (zag ⟨rfl,by dsimp only;omega,_,T2,SI.push (st:=st3) si4.pend si4.kind si4.failed si4.arr si4.perm rR nR hl3.symm hn,?_⟩));simp only [ybT,ybq,List.flatten_nil,yaO,yac];omega
     . rw [if_neg z2]
       have si2:SI L kd all st1 runs (R1++T1):=⟨ar1,pm1,by rw [sa1.pend];exact si.pend,sa1.kind.trans si.kind,sa1.failed.trans si.failed⟩
       have rR:=rR1;have nR:=nR1;obtain ⟨nn,hn⟩:∃ nn,nn=R1.length:=⟨_,rfl⟩
       rw [<- hn];refine zae (wpS_get ?_);cases eb:(pendingOf st1).back? with
       | none =>
         dsimp only;refine zae (zaW (zag ⟨rfl,by dsimp only;omega,_,T1,SI.push (st:=st1) si2.pend si2.kind si2.failed si2.arr si2.perm rR nR hl.symm hn,?_⟩));simp only [ybT,ybq,List.flatten_nil,yaO,yac];omega
       | some p =>
         obtain ⟨s1,n1,w1⟩:=p;dsimp only;refine zae (zaQ (zan (I:=fun _ c st3=>c.1=none/\∃ runs3,SI L kd all st3 runs3 (R1++T1)/\runs3.flatten.length=lo) (Q:=fun c st3=>c.1=none/\∃ runs3,SI L kd all st3 runs3 (R1++T1)/\runs3.flatten.length=lo) ?stepm (fun _ _ z=>z) ?initm) ?postm)
         case initm=>exact ⟨rfl,runs,si2,hl⟩
         case stepm =>
           rintro y ⟨c1,u⟩ st3 _ _ ⟨e3,runs3,si3,hl3⟩;dsimp only at e3;subst e3;refine zae (wpS_get ?_);have pl:(pendingOf st3).size=runs3.length:=by rw [<- yam];exact si3.pend.len
           split
           next older he =>
             split
             . exact zag ⟨rfl,runs3,si3,hl3⟩
             . have h1:(pendingOf st3).size > 1:=by
                 by_cases hz:(pendingOf st3).size > 1
                 . exact hz
                 . rw [if_neg hz] at he
                   cases he
               refine zae (Zcw C sS si3 (by omega) fun st4 runs4 si4 _ hf4=>?_);simp only [ybS,yaF,zay];exact zag ⟨rfl,runs4,si4,hf4.trans hl3⟩
           next=>exact zag ⟨rfl,runs3,si3,hl3⟩
         case postm =>
           rintro ⟨c1,u⟩ st3 ⟨e3,runs3,si3,hl3⟩;dsimp only at e3;subst e3;dsimp only;refine zae (zaW ?_);have si4:=si3.setLast (power' all.length (2*s1+n1) (2*s1+n1+n1+nn) all.length);refine zae (zaW (zag ⟨rfl,by dsimp only;omega,_,T1,SI.push (st:=st3) si4.pend si4.kind si4.failed si4.arr si4.perm rR nR hl3.symm hn,?_⟩));simp only [ybT,ybq,List.flatten_nil,yaO,yac];omega
end
end Srt
namespace L2
open PySem PySem.Spec PyProof.Rows
section
variable {a:Addr}{o:HO}
end
end L2
namespace Srt
open PySem PyProof.Rows
abbrev SInt (p:Keyed):Prop:=∃ n t,p.1=.int n t
abbrev LInt (x y:Keyed):Bool:=decide (numOf x.1<numOf y.1)
section
variable {Ar:Around}
theorem cmp_int:Cmp (model prog w) Ar E s oneType' SInt LInt where
 lt:=fun x y st Q hx hy hk h=>by
   obtain ⟨x1,x2⟩:=x;obtain ⟨y1,y2⟩:=y;obtain ⟨n,t,ex⟩:=hx;obtain ⟨m,u,ey⟩:=hy;dsimp only at ex ey;subst ex ey;rw [lt'_eq];refine zae (wpS_get ?_);rw [hk,keyLt'_oneType];exact zae (wpS_lift (wpAny_attempt (oneLt_int ⟨rfl,zag h⟩)))
 asym:=fun x y h=>by
   have h:numOf x.1<numOf y.1:=by simpa using h
   simp;omega
 neg:=fun x y z _ _ _ h=>by
   have h:numOf x.1<numOf z.1:=by simpa using h
   simp;omega
theorem sort_ints {a:Addr} {vs:List Value} {ns:List Int} {n:Nat} {P:Fin->Shared->Prop} (ho:s.heap.get? a=some (seqObj "list" vs.toArray n)) (hI:IntsAre vs ns) (hz:vs.length<=sizeLine)
   (h:∀ (out:Array Value) (ns':List Int),IntsAre out.toList ns'->ns'.Perm ns->ns'.Pairwise (·<=·)->P (.done (.ret .none)) { s with heap:=sortedHeap s.heap a vs out }) :
   wpAny (model prog w) Ar (Builtin.«list.sort» ⟨[.ref a],[]⟩) P E s:=by
 rw [list_sort_plain];have la:a<s.heap.objs.size:=zad ho;refine zaa (listItems_at ho rfl (zaa (listUpdate_at ho rfl ?_ (hsz:=by simpa using hz))));obtain ⟨e1,h1⟩:∃ e1,(s.heap.update a (Obj.mapSeq fun _=>#[])).get? a=some (seqObj "list" #[] e1):=⟨_,get?_update_seq ho (fun _=>#[])⟩
 refine zaa (seqEpoch_at h1 rfl (zaa (wpAny_newTuple ?_ (by simpa using hz))));refine zaa (wpAny_newList (zaw ?_));have h6:(((s.heap.update a (Obj.mapSeq fun _=>#[])).push (seqObj "tuple" vs.toArray 0)).push (seqObj "list" #[] 0)).get? a=some (seqObj "list" #[] e1) :=
   zab _ (zab _ h1)
 show wpAny (model prog w) Ar _ P E { s with heap:=((s.heap.update a (Obj.mapSeq fun _=>#[])).push (seqObj "tuple" vs.toArray 0)).push (seqObj "list" #[] 0) };dsimp only;have pz:(pairsOf vs).size=vs.length:=pairsOf_size vs;have done:∀ st':SortSt,(arrOf st').toList.Perm (pairsOf vs).toList->Rise LInt (arrOf st').toList->P (.done (.ret .none)) { s with heap:=sortedHeap s.heap a vs ((arrOf st').map (·.2)) }:=by
   intro st' hp hs;have hp':(arrOf st').Perm (pairsOf vs):=Array.perm_iff_toList_perm.mpr hp;obtain ⟨ns',g1,g2,g3⟩:=sorted_out hI hp' (fun i j hij hj=>by
     have hj':j<(arrOf st').size:=by rw [hp'.size_eq];exact hj
     rw [K_eq (by omega),K_eq hj'];rcases ybN i j with q | q
     . have:=List.pairwise_iff_getElem.mp hs i j (by simp;omega) (by simpa using hj') q
       simp at this;exact this
     . have:i=j:=by omega
       subst this;exact Int.le_refl _)
   exact h _ ns' g1 g2 g3
 by_cases h2:vs.toArray.size<2
 . rw [if_pos h2,if_pos h2]
   refine zaa (zac ?_);rw [StateT.run_pure];refine zaa (zac ?_);dsimp only;refine zaa (seqEpoch_at h6 rfl (zaa (listUpdate_at h6 rfl ?_ (hsz2:=?_))))
   . simp only [bne_self_eq_false,yaF,zay]
     refine zac (done (SortSt.mk' general' (pairsOf vs) #[] 7 none) (List.Perm.refl _) ?_);show Rise LInt (pairsOf vs).toList;have hl:(pairsOf vs).toList.length<2:=by rw [yam,pz];simpa using h2
     match (pairsOf vs).toList,hl with
     | [],_=>simp
     | [_],_=>simp
     | _::_::_,hl=>simp at hl;omega
   . rw [Array.size_map]
     exact yaN (Nat.le_of_eq pz) (Nat.le_succ_of_le hz)
 . rw [if_neg h2,if_neg h2]
   obtain ⟨v1,v2,rest,ev⟩:∃ v1 v2 rest,vs=v1::v2::rest:=by
     match vs,h2 with
     | [],h2=>simp at h2
     | [_],h2=>simp at h2
     | v1::v2::rest,_=>exact ⟨v1,v2,rest,rfl⟩
   have kk:keyKind' vs.toArray=pure oneType':=by subst ev;exact keyKind_ints hI
   rw [kk];refine zaa (zac ?_);refine zaa (zaB (ZfG (all:=(pairsOf vs).toList) (st:=SortSt.mk' oneType' (pairsOf vs) #[] 7 none) (Q:=fun _ st'=>(arrOf st').toList.Perm (pairsOf vs).toList/\failedOf st'=none/\Rise LInt (arrOf st').toList)
     cmp_int hI.intKeys rfl rfl rfl rfl fun st' f1 p1 r1=>⟨p1,f1,r1⟩) ?_ fun _ _ e=>e)
   rintro ⟨⟨⟩,st'⟩ s' ⟨rfl,hp,hf,hr⟩;dsimp only;refine zaa (seqEpoch_at h6 rfl (zaa (listUpdate_at h6 rfl ?_ (hsz2:=?_))))
   . rw [hf]
     simp only [bne_self_eq_false,yaF,zay];exact zac (done st' hp hr)
   . rw [Array.size_map,<- yam,hp.length_eq,yam]
     exact yaN (Nat.le_of_eq pz) (Nat.le_succ_of_le hz)
end
end Srt
namespace L2
open PySem PySem.Spec PyProof.Rows
theorem boot_sorted:bootBuiltins "sorted"=some (.builtin "sorted"):=by decide +kernel
end L2
namespace SG
open PySem PySem.Spec PyProof.Rows
def Ris (xs:Array Nat):Prop:=∀ i j (hj:j<xs.size) (h:i<j),xs[i]<xs[j]
theorem Ris.le {xs:Array Nat}(r:Ris xs){i j:Nat}(hj:j<xs.size)(h:i<=j):xs[i]<=xs[j]:=by
 rcases ybN i j with q | q
 . exact ybF (r i j hj q)
 . have:i=j:=Nat.le_antisymm h q
   subst this;exact yag _
theorem go_ok {xs:Array Nat} (r:Ris xs) (j:Nat):∀ (n lo hi:Nat),hi-lo<=n->lo<=hi->hi<=xs.size->(∀ i (h:i<xs.size),i<lo->xs[i]<j)->(∀ i (h:i<xs.size),hi<=i->j<=xs[i]) ->
   (∀ i (h:i<xs.size),i<SetTable.below.go xs j n lo hi->xs[i]<j)/\(∀ i (h:i<xs.size),SetTable.below.go xs j n lo hi<=i->j<=xs[i])/\SetTable.below.go xs j n lo hi<=xs.size
 | 0,lo,hi,hn,h1,h2,a,b=>by
   have e:lo=hi:=by omega
   subst e;unfold SetTable.below.go;exact ⟨a,b,h2⟩
 | n + 1,lo,hi,hn,h1,h2,a,b=>by
   unfold SetTable.below.go;by_cases q:lo<hi
   . rw [if_pos q]
     have hm:(lo+hi)/2<xs.size:=by omega
     have eg:xs.getD ((lo+hi)/2) j=xs[(lo+hi)/2]:=by simp [Array.getD,hm]
     dsimp only;rw [eg];by_cases c:xs[(lo+hi)/2]<j
     . rw [if_pos c]
       refine go_ok r j n ((lo+hi)/2+1) hi (by omega) (by omega) h2 (fun i h hi'=>?_) b;exact ybL (r.le hm (by omega)) c
     . rw [if_neg c]
       refine go_ok r j n lo ((lo+hi)/2) (by omega) (by omega) (by omega) a (fun i h hi'=>?_);exact yaN (Nat.le_of_not_lt c) (r.le h hi')
   . rw [if_neg q]
     have e:lo=hi:=by omega
     subst e;exact ⟨a,b,h2⟩
theorem ZgN {xs:Array Nat}(r:Ris xs)(j:Nat):(∀ i (h:i<xs.size),i<SetTable.below xs j->xs[i]<j)/\(∀ i (h:i<xs.size),SetTable.below xs j<=i->j<=xs[i])/\SetTable.below xs j<=xs.size:=by unfold SetTable.below;exact go_ok r j xs.size 0 xs.size (by omega) (by omega) (yag _) (fun i h z=>absurd z (ycp _)) (fun i h z=>absurd h (by omega))
theorem ZiY {xs:Array Nat}:Ris xs↔xs.toList.Pairwise (·<·):=by
 rw [List.pairwise_iff_getElem];constructor
 . intro r i j hi hj h
   have:=r i j (by simpa using hj) h;simpa using this
 . intro r i j hj h
   have:=r i j (by simp;omega) (by simpa using hj) h;simpa using this
theorem ris_put {xs:Array Nat}(r:Ris xs){j:Nat}(n:xs[SetTable.below xs j]?≠some j):Ris (SetTable.insertAt xs (SetTable.below xs j) j):=by
 obtain ⟨a,b,c⟩:=ZgN r j;have b':∀ i (h:i<xs.size),SetTable.below xs j<=i->j<xs[i]:=by
   intro i h q;have h1:=b i h q;rcases ybN j xs[i] with z | z
   . exact z
   . exfalso
     have e:xs[i]=j:=Nat.le_antisymm z h1;have hp:SetTable.below xs j<xs.size:=by omega
     have e2:xs[SetTable.below xs j]=j:=Nat.le_antisymm (by have:=r.le h q;omega) (b _ hp (yag _));apply n
     rw [yaH hp,e2]
 generalize SetTable.below xs j=p at a b' c;rw [ZiY] at r ⊢;unfold SetTable.insertAt;have e:((xs.extract 0 p).push j++xs.extract p xs.size).toList=xs.toList.take p++j::xs.toList.drop p:=by simp [Array.toList_extract,List.extract];exact yas (by rw [yaW,yam];exact yag _)
 rw [e,yal];refine ⟨r.sublist (ybc _ _),?_,?_⟩
 . rw [ybZ]
   refine ⟨fun y hy=>?_,r.sublist (yaZ _ _)⟩;obtain ⟨i,hi,rfl⟩:=yaV.mp hy;rw [List.getElem_drop];have hl:p+i<xs.size:=by rw [yaW,yam] at hi;omega
   have:=b' (p+i) hl (by omega);simpa using this
 . intro y hy z hz
   have hy1:y<j:=by
     obtain ⟨i,hi,rfl⟩:=yaV.mp hy;rw [List.getElem_take];have hl:i<p:=by rw [yaG] at hi;omega
     have:=a i (by rw [yaG,yam] at hi;omega) hl;simpa using this
   rcases yaj.mp hz with rfl | hz
   . exact hy1
   . obtain ⟨i,hi,rfl⟩:=yaV.mp hz
     rw [List.getElem_drop];have hl:p+i<xs.size:=by rw [yaW,yam] at hi;omega
     have:=b' (p+i) hl (by omega);have:j<xs.toList[p+i]'(by simpa using hl):=by simpa using this
     omega
theorem ZdO {t:SetTable} {f:Nat->Int} {h:Int}:∀ (n:Nat) (p:SetTable.Probe) (j:Nat) (d:Option Nat),(∀ x,p.dummy=some x->t.slot x=.dummy)->SetTable.probe.go t f h n p=some (.empty j d)->(t.slot j=.empty)/\∀ x,d=some x->t.slot x=.dummy
 | 0,p,j,d,hd,e=>by unfold SetTable.probe.go at e;cases e
 | n + 1,p,j,d,hd,e=>by
   unfold SetTable.probe.go at e;have adv:∀ q:SetTable.Probe,(t.advance q).dummy=q.dummy:=by intro q;unfold SetTable.advance;split<;>rfl
   split at e
   . rename_i hs
     cases e;exact ⟨hs,hd⟩
   . rename_i hs
     refine ZdO n _ j d (fun x hx=>?_) e;rw [adv] at hx;cases hx;exact hs
   . split at e
     . cases e
     . refine ZdO n _ j d (fun x hx=>?_) e
       rw [adv] at hx;exact hd x hx
theorem Zho {t:SetTable}{j:Nat}(h:t.slot j=.empty\/t.slot j=.dummy):t.place[SetTable.below t.place j]?≠some j:=by intro e;unfold SetTable.slot at h;simp only [e,beq_self_eq_true,zaT] at h;rcases h with h | h<;>cases h
theorem free_not {t:SetTable}{h:Int}{j:Nat}{b:Bool}(e:t.freeSlot h=some (j,b)):t.place[SetTable.below t.place j]?≠some j:=by
 unfold SetTable.freeSlot at e;split at e
 . rename_i j0 d hp
   unfold SetTable.probe at hp;obtain ⟨h1,h2⟩:=ZdO _ _ _ _ (fun x hx=>by cases hx) hp;cases e;cases d with
   | none=>exact Zho (.inl h1)
   | some x=>exact Zho (.inr (h2 x rfl))
 . cases e
structure Good (bt:Bool)(t:SetTable):Prop where
 led:t.led=!bt
 ris:t.plain=true->Ris t.place
theorem Good.fresh (bt:Bool):Good bt (.fresh 0 0 (!bt)):=⟨rfl,fun _ i j hj=>absurd hj (ycp _)⟩
theorem Good.standIn {bt:Bool}{t:SetTable}(g:Good bt t)(n:Nat):Good bt (t.standIn n):=⟨g.led,fun h=>by cases h⟩
theorem Good.layNew {bt:Bool}{t:SetTable}(g:Good bt t)(es:Array (Int × Value))(h:Int)(x:Value):Good bt (layNew t es h x).2.1:=by
 unfold PySem.layNew;split
 . rename_i j b e
   show Good bt ((t.put j).1.orStandIn _);have gp:Good bt (t.put j).1:=⟨g.led,fun hp=>ris_put (g.ris hp) (free_not e)⟩
   unfold SetTable.orStandIn;split
   . exact gp
   . exact gp.standIn _
 . exact g.standIn _
theorem Good.relayAll {bt:Bool}{t:SetTable}(g:Good bt t)(es:Array (Int × Value))(n:Nat):Good bt (relayAll t es n).2.1:=by
 unfold PySem.relayAll;split
 . rename_i t' ord e
   have gt:Good bt t':=by unfold SetTable.relaid SetTable.laid at e;simp only [Option.bind_eq_bind,Option.bind_eq_some_iff,Option.pure_def] at e;obtain ⟨ow,_,e⟩:=e;cases e;refine ⟨g.led,fun _=>?_⟩;rw [ZiY];show (List.map _ _).Pairwise _;rw [List.pairwise_map];refine List.Pairwise.filterMap (R:=(·<·)) _ (fun a a' haa b hb c hc=>?_) List.pairwise_lt_range;simp only [Option.map_eq_some_iff] at hb hc;obtain ⟨_,_,rfl⟩:=hb;obtain ⟨_,_,rfl⟩:=hc;exact haa
   dsimp only;split
   . exact gt
   . exact g.standIn _
 . exact g.standIn _
end SG
namespace SG
open PySem PySem.Spec PyProof.Rows
def iv:Value->Int
 | .int k _=>k
 | _=>0
def bt (w:World):Bool:=w.params.followText "set-order"
def ST (prog:Program)(w:World)(h:Heap)(a:Addr)(ks:List Int):Prop :=
 ∃ o es ep t,h.get? a=some o/\o.ExactSet/\o.data=.set es ep t/\ElemsOf (intKind prog w) es.toList/\es.size<scanBound/\t.fits es.size=true/\Good (bt w) t/\(es.toList.map fun e=>iv e.2)=ks/\ks.Nodup
section
theorem ST.but {a d:Addr}{ks:List Int}(x:ST prog w h a ks)(k:∀ o,h.get? a=some o->h'.get? a=some o):ST prog w h' a ks:=let ⟨o,es,ep,t,e,r⟩:=x;⟨o,es,ep,t,k o e,r⟩
theorem ZgM {k:Int}{e:Int × Value}{es:List (Int × Value)}(el:ElemsOf (intKind prog w) es)(he:e∈es):(intKind prog w).is k e.2=true↔iv e.2=k:=by
 obtain ⟨⟨k',h1,_⟩,_⟩:=el e he;obtain ⟨t,e2⟩:=Value.isInt_shape h1;rw [e2];constructor
 . intro h
   exact (intKind prog w).inj _ _ _ (intKind_is prog w k' t) h
 . intro h
   have h:k'=k:=h;subst h;exact intKind_is prog w k' t
theorem put_at {a:Addr}{o:Obj}{es:Array (Int × Value)}{ep:Nat}{t:SetTable}(ho:h.get? a=some o)(hd:o.data=.set es ep t)(es':Array (Int × Value))(t':SetTable) :
   (h.update a (Obj.putSet es' t')).get? a=some { o with data:=.set es' (ep+1) t' }:=by
 have q:=zav (Obj.putSet es' t') ho (by rw [putSet_of es' t' hd];rfl);rw [putSet_of es' t' hd] at q;exact q
theorem Zkb {es es':Array (Int × Value)}(p:es'.toList.Perm es.toList):es'.size=es.size:=by rw [<- yam,p.length_eq,yam]
theorem ZhO {g:Bool->Sem Unit}(hg:∀ (b:Bool) (s1:Shared) (Q':Unit->Shared->Prop),Q' () s1->wpAny (model prog w) A (g b) Q' E s1){a:Addr}{o:Obj}{es:Array (Int × Value)}{ep:Nat}{t:SetTable}(ho:s.heap.get? a=some o)(hx:o.ExactSet)(hd:o.data=.set es ep t)
   {es1:Array (Int × Value)} {t2:SetTable} {wd:Bool} {R:Option Bool->Shared->Prop} (el:ElemsOf (intKind prog w) es1.toList) (hb:es1.size<scanBound) (hf:t2.fits es1.size=true) (gd:Good (bt w) t2) (nd:(es1.toList.map fun e=>iv e.2).Nodup)
   (q:∀ h' ks',Heap.SameBut a s.heap h'->ST prog w h' a ks'->ks'.Perm (es1.toList.map fun e=>iv e.2)->R (some true) { s with heap:=h' }) :
   wpAny (model prog w) A (do storeSet a es1 t2;if (!wd&&t2.tooFull)=true then (do g (relayAll t2 es1 (SetTable.grown es1.size)).2.2;storeSet a (relayAll t2 es1 (SetTable.grown es1.size)).1 (relayAll t2 es1 (SetTable.grown es1.size)).2.1;pure (some true)) else pure (some true)) R E s:=by
 refine zaa (wpAny_storeSet_of ho hd ?_ (fits_of_scanBound hb));have ho1:=put_at ho hd es1 t2;have sb:=zaG s.heap a (Obj.putSet es1 t2);split
 . have pp:=relayAll_perm t2 es1 (SetTable.grown es1.size)
   have pf:=relayAll_fits t2 es1 (SetTable.grown es1.size);have pg:=gd.relayAll es1 (SetTable.grown es1.size);generalize relayAll t2 es1 (SetTable.grown es1.size)=Z at pp pf pg ⊢;obtain ⟨es2,t3,gv⟩:=Z;have pp:es2.toList.Perm es1.toList:=pp;have hb2:es2.size<scanBound:=by rw [Zkb pp];exact hb
   refine zaa (hg _ _ _ (zaa (wpAny_storeSet_of ho1 rfl ?_ (fits_of_scanBound hb2))));refine zac (q _ _ (sb.trans (zaG _ a _)) ⟨_,es2,_,t3,put_at ho1 rfl es2 t3,hx,rfl,el.perm pp,hb2,pf,pg,rfl,?_⟩ (pp.map _));exact (pp.map fun e=>iv e.2).nodup_iff.mpr nd
 . exact zac (q _ _ sb ⟨_,es1,_,t2,ho1,hx,rfl,el,hb,hf,gd,rfl,nd⟩ (.refl _))
theorem add_int {a:Addr} {ks:List Int} {k:Int} {tk:Tok} {Q:Bool->Shared->Prop} (hS:ST prog w s.heap a ks) (room:ks.length+1<scanBound)
   (q:∀ b h' ks',Heap.SameBut a s.heap h'->ST prog w h' a ks'->(∀ y,y∈ks'↔y∈ks\/y=k)->ks'.length<=ks.length+1->Q b { s with heap:=h' }):wpAny (model prog w) A (setAddHashed a (.int k tk) ((intKind prog w).hash k)) Q E s:=by
 obtain ⟨o,es,ep,t,ho,hx,hd,el,hb,hf,gd,rfl,nd⟩:=hS;have hk:=intKind_is prog w k tk;have lz:(es.toList.map fun e=>iv e.2).length=es.size:=by rw [yad,yam]
 unfold setAddHashed;unfold setAddHashedIn;refine zaw (zaa (zaM ho hd hf ?_));dsimp only;rw [byScan_of (x:=Value.int k tk) rfl hb el,if_pos rfl];unfold setAddByScan;refine zaa (zaa (zaR (zaa (wpAny_setScan_of hk ho hd hf el ?_))));cases hr:List.findIdx? (fun e=>(intKind prog w).is k e.2) es.toList with
 | some j =>
   dsimp only;obtain ⟨hj,pj,_⟩:=List.findIdx?_eq_some_iff_getElem.mp hr;have hm:k∈es.toList.map fun e=>iv e.2:=yaJ.mpr ⟨_,yaA hj,(ZgM el (yaA hj)).mp pj⟩
   refine zac (zac ?_);have:=q false s.heap _ (Heap.SameBut.refl a s.heap) ⟨o,es,ep,t,ho,hx,hd,el,hb,hf,gd,rfl,nd⟩ (fun y=>⟨.inl,fun z=>z.elim id fun e=>e ▸ hm⟩) (yca _);exact this
 | none =>
   dsimp only;have hm:k∉es.toList.map fun e=>iv e.2:=by intro z;obtain ⟨e,he,e1⟩:=yaJ.mp z;have:=List.findIdx?_eq_none_iff.mp hr e he;rw [(ZgM el he).mpr e1] at this;cases this
   have gw:∀ (b:Bool) (s1:Shared) (Q':Unit->Shared->Prop),Q' () s1->wpAny (model prog w) A (match b with | true=>rule "set.scan.the-table-gave-way" | false=>pure ()) Q' E s1:=fun b s1 Q' z=>by
     cases b
     . exact zac z
     . exact zaR z
   have lp:=layNew_perm t es ((intKind prog w).hash k) (.int k tk);have lf:=layNew_fits t es ((intKind prog w).hash k) (.int k tk);have lg:=gd.layNew es ((intKind prog w).hash k) (.int k tk);generalize layNew t es ((intKind prog w).hash k) (.int k tk)=Z at lp lf lg ⊢;obtain ⟨es1,t1,wd,gv⟩:=Z;have lf:t1.fits es1.size=true:=lf;have lg:Good (bt w) t1:=lg;have lp:es1.toList.Perm (es.toList++[((intKind prog w).hash k,.int k tk)]):=by
     have:=lp
     rwa [ycd] at this
   have el1:ElemsOf (intKind prog w) es1.toList:=(el.push hk rfl).perm lp;have l1:es1.size=es.size+1:=by have:=lp.length_eq;rw [yac,yam,yam] at this;exact this
   have hb1:es1.size<scanBound:=by rw [l1];rw [lz] at room;exact room
   have pm:(es1.toList.map fun e=>iv e.2).Perm ((es.toList.map fun e=>iv e.2)++[k]):=by
     have:=lp.map fun e=>iv e.2
     rwa [yaP] at this
   have nd1:(es1.toList.map fun e=>iv e.2).Nodup:=by rw [pm.nodup_iff,ycf];exact ⟨nd,(by simp),fun x hx y hy e=>hm (by rw [yaa.mp hy] at e;rw [<- e];exact hx)⟩
   have fin:∀ h' ks',Heap.SameBut a s.heap h'->ST prog w h' a ks'->ks'.Perm (es1.toList.map fun e=>iv e.2)->Q true { s with heap:=h' }:=fun h' ks' sb st p=>by
     refine q true h' ks' sb st (fun y=>?_) ?_
     . rw [p.mem_iff,pm.mem_iff,yaf,yaa]
     . rw [p.length_eq,yad,yam,l1,lz]
       exact yag _
   dsimp only;refine zaa (gw _ _ _ ?_);split
   . refine zaa ?_
     rw [hashByValue_scannable 8 (x:=Value.int k tk) rfl];refine zac (ZhO (fun b s1 Q' z=>gw b s1 Q' z) ho hx hd el1 hb1 ?_ ?_ nd1 fun h' ks' sb st p=>zac (fin h' ks' sb st p))
     . exact lf
     . exact lg
   . refine zaa (zac (ZhO (fun b s1 Q' z=>gw b s1 Q' z) ho hx hd el1 hb1 ?_ ?_ nd1 fun h' ks' sb st p=>zac (fin h' ks' sb st p)))
     . exact lf
     . exact lg
theorem upd_loop {R:Result->Shared->Prop} {I:Addr} {wr:List Addr} {n:Nat} {P:Nat->Value->Prop} {St:Nat->Heap->Prop} (W:Walks prog w A.in1 I fp wr n P St) (S:Addr) (hS:S∉fp) (val:Nat->Int) (hv:∀ i v,P i v->∃ t,v=.int (val i) t) (hb:n+1<scanBound) :
   ∀ (d i:Nat) (s:Shared) (ks:List Int),n-i=d->i<=n->St i s.heap->ST prog w s.heap S ks->(∀ y,y∈ks↔∃ j,j<i/\y=val j)->ks.length<=i ->
   (∀ h' tk ks',(∀ b o,b≠S->b∉wr->s.heap.get? b=some o->h'.get? b=some o)->ST prog w h' S ks'->(∀ y,y∈ks'↔∃ j,j<n/\y=val j)->R (.ok (.ret .none)) { s with heap:=h',toks:=tk }) ->
   codeAny (model prog w) A (Code.builtin "set.update.loop" ⟨[.ref S,.ref I],[]⟩) R s:=by
 have hSw:S∉wr:=fun z=>hS (W.sub _ z)
 intro d;induction d with
 | zero =>
   intro i s ks hd hi st hk hm hl q;have e:i=n:=by omega
   subst e;refine zaH F.entry_set_update_loop ?_;rw [zax F.plain_set_update_loop _];refine zaa (m:=pyNext (.ref I)) (W.done s _ _ st fun h' tk k=>?_);exact zac (q h' tk ks (fun b o _ n2 e=>k b o n2 e) (hk.but (d:=S) fun o e=>k S o hSw e) hm)
 | succ d ih =>
   intro i s ks hd hi st hk hm hl q;refine zaH F.entry_set_update_loop ?_;rw [zax F.plain_set_update_loop _];refine zaa (m:=pyNext (.ref I)) (W.item i s _ _ (by omega) st fun v h1 tk pv st1 k1=>?_);obtain ⟨t,rfl⟩:=hv i v pv;have hk1:ST prog w h1 S ks:=hk.but (d:=S) fun o e=>k1 S o hSw e
   refine zaa (m:=holding [Value.int (val i) t] (setAdd S (.int (val i) t))) (zaw ?_);unfold setAdd;refine zaw (zaa ((intKind prog w).pyHash (k:=val i) (intKind_is _ _ _ _) ?_));refine add_int (s:={ s with heap:=h1,toks:=tk+1 }) hk1 (by omega) fun b h2 ks2 sb st2 m2 l2=>?_
   refine zac ⟨zaX F.plain_set_update_loop _,ih (i+1) _ ks2 (by omega) (by omega) (W.frame _ h1 h2 st1 fun c hc o e=>?_) st2 (fun y=>?_) (by omega) fun h3 tk3 ks3 k3 st3 m3=>?_⟩
   . rw [sb.2 c (fun z=>hS (z ▸ hc))]
     exact e
   . rw [m2,hm]
     constructor
     . rintro (⟨j,hj,e⟩ | e)
       . exact ⟨j,by omega,e⟩
       . exact ⟨i,by omega,e⟩
     . rintro ⟨j,hj,e⟩
       by_cases c:j<i
       . exact .inl ⟨j,c,e⟩
       . have:j=i:=by omega
         subst this;exact .inr e
   . refine q h3 tk3 ks3 (fun c o n1 n2 e=>k3 c o n1 n2 ?_) st3 m3
     show h2.get? c=some o;rw [sb.2 c n1];exact k1 c o n2 e
theorem new_set (a:Value)(q:Q (.ref s.heap.objs.size) { s with heap:=s.heap.push { cls:=.type "set",dict:=none,data:=.set #[] 0 (.fresh 0 0 (!bt w)) } }) :
   codeAny (model prog w) A (.call (.builtin "set.__new__") ⟨[.type "set",a],[]⟩) (wants Q E) s:=by
 refine codeAny_of_tree ?_;refine zaa (m:=checkBuiltinCall "set.__new__" ⟨[.type "set",a],[]⟩) (wpAny_of_eq (PySem.F.newCall_set_1 a) (zac ⟨zaX PySem.F.plain_set_new _,zaH PySem.F.entry_set_new ?_⟩));rw [zax PySem.F.plain_set_new _];unfold Builtin.«set.__new__»;unfold Builtin.Frozenset.newClass;have hsub:=sub_set_self;obtain ⟨hp,ge,dr,tk,os⟩:=s;dsimp only
 wp_walk
 refine wpAny_askSetting (zac ?_);simp only [newObj];exact zaa (wpAny_alloc (zac (zac q)))
def emptyObj (w:World):Obj:={ cls:=.type "set",dict:=none,data:=.set #[] 0 (.fresh 0 0 (!bt w)) }
theorem st_empty {a:Addr}(e:h.get? a=some (emptyObj w)):ST prog w h a [] :=
 ⟨_,#[],0,.fresh 0 0 (!bt w),e,⟨rfl,rfl,rfl⟩,rfl,(fun x hx=>nomatch hx),(by decide),rfl,Good.fresh _,rfl,List.nodup_nil⟩
set_option maxHeartbeats 3200000 in
theorem call_set {l:Addr} {its:Array Value} {ns:List Int} (hh:A.handled=none) (hl:s.heap.IsList l its) (hi:IntsAre its.toList ns) (hb:its.size+1<scanBound)
   (q:∀ (h':Heap) (tk:Nat) (ks:List Int),ST prog w h' s.heap.objs.size ks->(∀ y,y∈ks↔y∈ns)->(∀ b o,b<s.heap.objs.size->s.heap.get? b=some o->h'.get? b=some o)->Q (.ref s.heap.objs.size) { s with heap:=h',toks:=tk }) :
   wpAny (model prog w) A (call (.type "set") [.ref l]) Q E s:=by
 have ln:its.size=ns.length:=by rw [<- yam];exact IntsAre.length hi
 obtain ⟨c,tl,hmro⟩:=PySem.F.called_set.mro;have hmade:=PySem.F.called_set.made;have hsub:=PySem.F.called_set.sub;refine wpAny_call (codeAny_of_tree ?_);refine zac ⟨Code.quiet_builtin _ (by decide +kernel),zaH F.entry_type_call ?_⟩;rw [Around.under_plain (weight_type_call_type "set" [.ref l] []) rfl];have h1:=PySem.F.called_set.notType;have h2:=PySem.F.called_set.canCreate;have hct:=PySem.F.typeCall_set_1 (.ref l)
 repeat (any_goals (first | assumption | wp_step))
 refine zaY (new_set (.ref l) (E:=E) (Q:=fun obj s1=>obj=.ref s.heap.objs.size/\s1={ s with heap:=s.heap.push (emptyObj w) }) ⟨rfl,rfl⟩) fun r s1 hr=>?_
 cases r with
 | error e=>exact hr
 | ok fl =>
   cases fl with
   | ret obj =>
     obtain ⟨rfl,rfl⟩:=hr;have hS:(s.heap.push (emptyObj w)).get? s.heap.objs.size=some (emptyObj w):=zaf _ rfl;have hT:Shared.TypeIs { s with heap:=s.heap.push (emptyObj w) } (.ref s.heap.objs.size) "set":=⟨_,hS,rfl⟩
     have hli:=PySem.F.called_set.init.lookup;have hbi:=PySem.F.called_set.init.bind (.ref s.heap.objs.size)
     repeat (any_goals (first | assumption | wp_step))
     refine zaY (codeAny_call_builtin (R:=wants (fun r s2=>r=.none/\∃ h' tk ks,s2={ s with heap:=h',toks:=tk }/\ST prog w h' s.heap.objs.size ks/\(∀ y,y∈ks↔y∈ns)/\∀ b o,b<s.heap.objs.size->s.heap.get? b=some o->h'.get? b=some o) E) PySem.F.called_set.init.plain PySem.F.entry_set_init (check_set_init_1 hT ?_)) fun r2 s2 hr2=>?_
     . obtain ⟨ol,hol,hcl,nl,hdl⟩:=hl
       obtain ⟨ocls,odict,odata,oslots⟩:=ol;simp only at hcl hdl;subst hcl;subst hdl;have hol1:(s.heap.push (emptyObj w)).get? l=some { cls:=.type "list",dict:=odict,data:=.seq its nl,slots:=oslots }:=zab _ hol;have g1:=PySem.F.sub_list_set;have g2:=PySem.F.sub_list_frozenset;have g3:(Value.type "list"==Value.type "dict")=false:=by decide
       have hl1:(s.heap.push (emptyObj w)).IsList l its:=⟨_,hol1,rfl,nl,rfl⟩
       unfold Builtin.«set.__init__»;unfold noKeywords;unfold Builtin.Frozenset.updateFrom;generalize hPI:pyIter=PI
       wp_walk
       subst hPI;refine wpAny_pyIter_list hl1 (zaa (wpAny_runValue ?_));have lt:l<s.heap.objs.size:=zad hol;have hh3:A.in1.in1.in1.handled=none:=by simp [hh]
       have sz:(s.heap.push (emptyObj w)).objs.size=s.heap.objs.size+1:=zaI ..;have neI:l≠(s.heap.push (emptyObj w)).objs.size:=by rw [sz];exact yaE (ybd lt)
       have neS:s.heap.objs.size∉[(s.heap.push (emptyObj w)).objs.size,l]:=by
         rw [sz];intro z;rcases yaj.mp z with z | z
         . exact yaE (ybn _) z
         . exact ybY lt (yaa.mp z)
       refine upd_loop (Walks.list hh3 _ l neI its) s.heap.objs.size neS (fun i=>ns.getD i 0) (fun i v hv=>IntsAre.int_at hi i v (by rw [yaD];exact hv)) hb its.size 0 _ [] rfl (yax _) ⟨⟨_,zaf _ rfl,rfl,rfl⟩,hl1.push _⟩ (st_empty (zab _ hS)) (fun y=>⟨fun z=>(nomatch z),fun ⟨j,hj,_⟩=>absurd hj (ycp _)⟩) (yag _) fun h' tk ks k st m=>?_
       refine zac (zac ⟨rfl,h',tk,ks,rfl,st,fun y=>?_,fun b o lb e=>?_⟩)
       . rw [m,ln]
         constructor
         . rintro ⟨j,hj,rfl⟩
           show ns.getD j 0∈ns;rw [yat,yae hj];exact yaA hj
         . intro hy
           obtain ⟨j,hj,rfl⟩:=yaV.mp hy;refine ⟨j,hj,?_⟩;show _=ns.getD j 0;rw [yat,yae hj];rfl
       . refine k b o (yaE lb) (fun z=>?_) (zab _ (zab _ e))
         have:=yaa.mp z;rw [sz] at this;exact yaE (ybd lb) this
     . cases r2 with
       | error e=>exact hr2
       | ok f2 =>
         cases f2 with
         | ret r =>
           obtain ⟨rfl,h',tk,ks,rfl,st,m,k⟩:=hr2
           repeat (any_goals (first | assumption | wp_step))
           exact q _ _ _ st m k
         | _=>exact hr2.elim
   | _=>exact hr.elim
end
end SG
namespace SG
open PySem PySem.Spec PyProof.Rows
theorem slot_it_next:Slot "set_iterator" "__next__" "set_iterator.__next__" :=
 .of (owner:="set_iterator") (n:="__next__") (by rw [typeLookup_type,builtinLookup_eq_fast];kernel_rfl) (by decide +kernel) (by decide +kernel) (by decide +kernel) (by first | exact .inl (by decide +kernel) | exact .inr (by decide +kernel)) (by rw [isSubtype_type];kernel_rfl)
theorem Zd3:Slot "set_iterator" "__iter__" "set_iterator.__iter__" :=
 .of (owner:="set_iterator") (n:="__iter__") (by rw [typeLookup_type,builtinLookup_eq_fast];kernel_rfl) (by decide +kernel) (by decide +kernel) (by decide +kernel) (by first | exact .inl (by decide +kernel) | exact .inr (by decide +kernel)) (by rw [isSubtype_type];kernel_rfl)
theorem ZbG:entryFor table "set_iterator.__next__"=some Builtin.«set_iterator.__next__»:=entryFor_of_tree (by kernel_rfl)
theorem ZbR (a:Value):argsOk "set_iterator.__next__" ⟨[a],[]⟩:=by unfold argsOk;kernel_rfl
theorem Zgv (a:Value):argsOk "set_iterator.__iter__" ⟨[a],[]⟩:=by unfold argsOk;kernel_rfl
theorem ZfI:entryFor table "set_iterator.__iter__"=some Builtin.«dict_keyiterator.__iter__»:=entryFor_alias (id':="dict_keyiterator.__iter__") (by kernel_rfl) (by first | rfl | decide +kernel | (unfold String.splitOn;simp +decide [String.splitOnAux])) (by decide +kernel) (by kernel_rfl)
theorem Ze3:entryFor table "set.__iter__"=some Builtin.«frozenset.__iter__»:=entryFor_alias (id':="frozenset.__iter__") (by kernel_rfl) rfl (by decide +kernel) (by kernel_rfl)
theorem ZdQ {α:Type}:∀ (l:List α) {i:Nat} (h:i<l.length),(l[i]::l.eraseIdx i).Perm l
 | [],_,h=>absurd h (ycp _)
 | x::l,0,_=>.refl _
 | x::l,i+1,h=>by
   have:=ZdQ l (i:=i) (by simpa using h);exact (List.Perm.swap _ _ _).trans (this.cons x)
theorem Zi4 {α:Type}(next:Nat->Nat):∀ (n k:Nat) (l:List α) (out:Array α),l.length=n->(pickOrder.go next n k l out).toList.Perm (out.toList++l)
 | 0,k,l,out,h=>by
   have e:l=[]:=ybz.mp h;subst e;unfold pickOrder.go;rw [yaO]
 | n+1,k,l,out,h=>by
   unfold pickOrder.go;have hl:next k%l.length<l.length:=ycc _ (by omega);rw [yae hl];dsimp only;refine (Zi4 next n (k+1) _ _ (by rw [List.length_eraseIdx];rw [if_pos hl];omega)).trans ?_;rw [ycd,yah];refine zah _ ?_;exact ZdQ l hl
theorem ZfQ {α:Type}(next:Nat->Nat)(xs:Array α):(pickOrder next xs).toList.Perm xs.toList:=by unfold pickOrder;have:=Zi4 next xs.size 0 xs.toList #[] (yam ..);simpa using this
def itObj (f:Value)(i:Int)(c:Value)(n ep:Nat):Obj:={ cls:=.type "set_iterator",dict:=none,data:=.fields #[f,rawInt i,c,rawInt n,rawInt ep],slots:=#[] }
section
variable {a:Addr}{o:Obj}{es:Array (Int × Value)}{ep:Nat}{t:SetTable}
theorem ZeX {Q:Bool->Shared->Prop}(q:Q (bt w) s):wpAny (model prog w) A setsByText Q E s:=by unfold setsByText;exact zaa (wpAny_askSetting (zac q))
theorem ZiN {sl gi:Nat}{Q:Option (Value × Nat)->Shared->Prop}(hb:bt w=true)(ho:s.heap.get? a=some o)(hd:o.data=.set es ep t)(hf:t.fits es.size=true)(q:Q (((pickOrder (w.params.setOrder a ep) es)[gi]?).map fun e=>(e.2,sl)) s):wpAny (model prog w) A (setNext a sl gi ep) Q E s:=by unfold setNext;refine zaa (zaM ho hd hf ?_);dsimp only;refine zaa (ZeX ?_);rw [hb,if_pos rfl,if_neg (by simp)];unfold setWalk;refine zaa (zaa (zaM ho hd hf ?_));dsimp only;refine zaa (ZeX ?_);rw [hb,if_pos rfl];exact zaa (wpAny_askSetting (zac (zac q)))
theorem Zhw {sl gi:Nat}{Q:Option (Value × Nat)->Shared->Prop}(hb:bt w=false)(hl:t.led=true)(hp:(!t.plain&&decide (es.size > 1))=false)(ho:s.heap.get? a=some o)(hd:o.data=.set es ep t)(hf:t.fits es.size=true)
   (q:Q (match es[SetTable.below t.place sl]?,t.place[SetTable.below t.place sl]? with | some (_,x),some j=>some (x,j+1) | _,_=>none) s):wpAny (model prog w) A (setNext a sl gi ep) Q E s:=by
 unfold setNext;refine zaa (zaM ho hd hf ?_);dsimp only;refine zaa (ZeX ?_);rw [hb,if_neg (by decide)];show wpAny _ _ (if (!t.plain&&decide (es.size > 1))=true then _ else _) _ _ _;rw [hp,if_neg (by decide)];refine zaa (m:=if (!t.led&&!es.isEmpty)=true then unsupported "set:maker-not-led" else pure ()) ?_;rw [hl,if_neg (by simp)];exact zac (zac q)
end
end SG
namespace SG
open PySem PySem.Spec PyProof.Rows
section
variable {a I:Addr}{o:Obj}{es:Array (Int × Value)}{ep:Nat}{t:SetTable}
theorem ZdT {f c:Value}{i:Int}{n:Nat}(hI:s.heap.get? I=some (itObj f i c n ep)):s.TypeIs (.ref I) "set_iterator":=⟨_,hI,rfl⟩
theorem Zgl {h0:Heap}{R:Fin->Shared->Prop}{Q:Option Value->Shared->Prop}(hh:A.handled=none)(ex:Heap.ExtBut I h0 s.heap)(q:∀ g,Heap.ExtBut I h0 g->Q none { s with heap:=g }) :
   wpAny (model prog w) A.in1 (newExc (.type "StopIteration") [] >>= fun e=>raiseNew e) R (fun e s'=>wpAny (model prog w) A (do if <- isInstance e (.type "StopIteration") then pure none else throw e) Q E s') s:=by
 refine zaa ?_;simp only [newExc,newTuple];refine zaa (wpAny_newObj_type (zaa (m:=firstArgMember _ _) (wpAny_of_eq (a:=Value.none) (by first | rfl | (simp only [firstArgMember];rfl)) (wpAny_newObj_type ?_ (by size_fits)))) (by size_fits));simp only [raiseNew];refine zaa (wpAny_handled ?_);rw [show A.in1.handled=none from hh];refine zaa (zac (wpAny_throw ?_));exact zaa (wpAny_isInstance (T:="StopIteration") (b:=true) ⟨_,zaf _ rfl,rfl⟩ isSubtype_stop (zac (q _ ((ex.push _).push _))))
theorem ZiV {sl i n nx:Nat}{x:Value}{Q:Option Value->Shared->Prop}(hI:s.heap.get? I=some (itObj (rawInt sl) i (.ref a) n ep))(ho:s.heap.get? a=some o)(hd:o.data=.set es ep t)(hf:t.fits es.size=true)(sz:es.size=n)
   (hs:∀ {A:Around} {E:Value->Shared->Prop} {Q:Option (Value × Nat)->Shared->Prop},Q (some (x,nx)) s->wpAny (model prog w) A (setNext a sl i ep) Q E s)
   (q:∀ g,g.get? I=some (itObj (rawInt nx) (i+1:Nat) (.ref a) n ep)->Heap.SameBut I s.heap g->Q (some x) { s with heap:=g }):wpAny (model prog w) A (pyNext (.ref I)) Q E s:=by
 have hT:=ZdT hI;walk_at "xb";simp only [yap];refine zaa (hs ?_);dsimp only;refine zaa (zaC hI (by show 0<5;decide) fun g1 e1 s1=>?_);refine zaa (zaC e1 (by show 1<5;decide) fun g2 e2 s2=>?_);exact zac ⟨x,rfl,zac (q g2 e2 (s1.trans s2))⟩
theorem it_end {sl i n:Nat}{Q:Option Value->Shared->Prop}(hh:A.handled=none)(hI:s.heap.get? I=some (itObj (rawInt sl) i (.ref a) n ep))(ho:s.heap.get? a=some o)(hd:o.data=.set es ep t)(hf:t.fits es.size=true)(sz:es.size=n)
   (hs:∀ {A:Around} {E:Value->Shared->Prop} {Q:Option (Value × Nat)->Shared->Prop},Q none s->wpAny (model prog w) A (setNext a sl i ep) Q E s)
   (q:∀ g,Heap.ExtBut I s.heap g->Q none { s with heap:=g }):wpAny (model prog w) A (pyNext (.ref I)) Q E s:=by
 have hT:=ZdT hI;walk_at "xb";simp only [yap];refine zaa (hs ?_);dsimp only;refine zaa (zaC hI (by show 2<5;decide) fun g1 e1 s1=>?_);exact Zgl (s:={ s with heap:=g1 }) (h0:=s.heap) hh s1.extBut q
theorem dr_item {T:Addr}{pls:Array Value}{i n pl:Nat}{h0:Int}{x:Value}{Q:Option Value->Shared->Prop}(hI:s.heap.get? I=some (itObj (.ref T) i (.ref a) n ep))(hT0:IsTup s.heap T pls)(hp:pls[i]?=some (rawInt pl))(hx:es[pl]?=some (h0,x))(ho:s.heap.get? a=some o)(hd:o.data=.set es ep t)(hf:t.fits es.size=true)(sz:es.size=n)
   (q:∀ g,g.get? I=some (itObj (.ref T) (i+1:Nat) (.ref a) n ep)->Heap.SameBut I s.heap g->Q (some x) { s with heap:=g }):wpAny (model prog w) A (pyNext (.ref I)) Q E s:=by
 have hT:=ZdT hI;obtain ⟨oT,eT,_,nT,dT⟩:=hT0;walk_at "xb";refine zaa (wpAny_seqItems eT dT ?_);simp only [yap,hp,rawInt];unfold setNextDrawn;refine zaa (zaa (zaM ho hd hf ?_));dsimp only;rw [if_neg (by simp),hx];refine zac (zaa (zaC hI (by show 1<5;decide) fun g2 e2 s2=>?_));exact zac ⟨x,rfl,zac (q g2 e2 s2)⟩
theorem dr_end {T:Addr}{pls:Array Value}{i n:Nat}{Q:Option Value->Shared->Prop}(hh:A.handled=none)(hI:s.heap.get? I=some (itObj (.ref T) i (.ref a) n ep))(hT0:IsTup s.heap T pls)(hp:pls[i]?=none)(ho:s.heap.get? a=some o)(hd:o.data=.set es ep t)(hf:t.fits es.size=true)(sz:es.size=n)
   (q:∀ g,Heap.ExtBut I s.heap g->Q none { s with heap:=g }):wpAny (model prog w) A (pyNext (.ref I)) Q E s:=by
 have hT:=ZdT hI;obtain ⟨oT,eT,_,nT,dT⟩:=hT0;walk_at "xb";refine zaa (wpAny_seqItems eT dT ?_);simp only [yap,hp];refine zaa (zaC hI (by show 0<5;decide) fun g1 e1 s1=>?_);refine zaa (zaC e1 (by show 2<5;decide) fun g2 e2 s2=>?_);exact Zgl (s:={ s with heap:=g2 }) (h0:=s.heap) hh (s1.trans s2).extBut q
theorem Zgy {f c:Value}{i:Int}{n:Nat}(hI:s.heap.get? I=some (itObj f i c n ep))(q:Q (.ref I) s):wpAny (model prog w) A (pyIter (.ref I)) Q E s:=by have hT:=ZdT hI;refine wpAny_pyIter_slot hT Zd3 (zaD Zd3 hT ZfI ?_ (Zgv _));exact zac ⟨_,rfl,"set_iterator",_,hT,slot_it_next.lookup,q⟩
theorem ZfC {α:Type}:∀ (n:Nat) (l:List α) (s:Shared) (Q:List α->Shared->Prop),l.length=n->(∀ l' d,l'.Perm l->Q l' { s with drawn:=d })->wpAny (model prog w) A (drawOrder n l) Q E s
 | 0,l,s,Q,h,q=>by
   have e:l=[]:=ybz.mp h;subst e;unfold drawOrder;exact zac (q [] s.drawn (.refl _))
 | n+1,[],s,Q,h,q=>by cases h
 | n+1,x::l,s,Q,h,q=>by
   unfold drawOrder;refine zaa (?_:wpAny (model prog w) A (choose .order (x::l).length) _ E s);intro Γ p hΓ;refine ⟨by simp,?_⟩;have hl:=ycc ((model prog w).w.draws .order (s.drawn.get .order)) (show 0<(x::l).length by simp);generalize (model prog w).w.draws .order (s.drawn.get .order)%(x::l).length=i at hl ⊢;show wpAny _ _ _ _ _ _;rw [yae hl];dsimp only;refine zaa (ZfC n ((x::l).eraseIdx i) _ _ (by rw [List.length_eraseIdx,if_pos hl];simp at h ⊢;omega) fun l' d pl=>?_);exact zac (q _ d ((pl.cons _).trans (ZdQ _ hl)))
end
end SG
namespace SG
open PySem PySem.Spec PyProof.Rows
structure Wk (prog:Program)(w:World)(h0 h2:Heap)(a:Addr)(ks:List Int)(I:Addr):Prop where
 ex:∃ (fp wr:List Addr) (vs:List Value) (ks':List Int) (St:Nat->Heap->Prop),(∀ A:Around,A.handled=none->Walks prog w A I fp wr vs.length (fun i v=>vs[i]?=some v) St)/\St 0 h2/\(∀ b∈fp,b<h2.objs.size)/\I∈fp/\(∀ b∈wr,h0.get? b=none)/\IntsAre vs ks'/\ks'.Perm ks/\(∀ b∈fp,b=a\/h0.get? b=none)
 old:∀ b o,h0.get? b=some o->h2.get? b=some o
section
variable {a I:Addr}{o:Obj}{es:Array (Int × Value)}{ep:Nat}{t:SetTable}
theorem ZfV {l:List (Int × Value)}(el:ElemsOf (intKind prog w) l):IntsAre (l.map (·.2)) (l.map fun e=>iv e.2):=by
 induction l with
 | nil=>exact .nil
 | cons e l ih =>
   obtain ⟨⟨k,hk,_⟩,_⟩:=el e (.head _);obtain ⟨t,e2⟩:=Value.isInt_shape hk;have:=ih el.tail;rw [yaC,yaC,e2];constructor;exact this
theorem ZhZ (hb:bt w=true) (hf:t.fits es.size=true) (hd:o.data=.set es ep t) (ne:a≠I):∀ A:Around,A.handled=none->Walks prog w A I [I,a] [I] ((pickOrder (w.params.setOrder a ep) es).toList.map (·.2)).length (fun i v=>((pickOrder (w.params.setOrder a ep) es).toList.map (·.2))[i]?=some v) (fun i h=>h.get? I=some (itObj (rawInt (0:Nat)) (i:Nat) (.ref a) es.size ep)/\h.get? a=some o):=fun A hh =>
 { sub := fun b hb=>yaj.mpr (.inl (yaa.mp hb))
   frame:=fun i h h' st k=>⟨k I (by simp) _ st.1,k a (by simp) _ st.2⟩
   item:=fun i s Q E hi st q=>by
     have hi':i<(pickOrder (w.params.setOrder a ep) es).size:=by simpa using hi
     refine ZiV (x:=((pickOrder (w.params.setOrder a ep) es)[i]).2) (nx:=0) st.1 st.2 hd hf rfl (fun z=>ZiN hb st.2 hd hf ?_) fun g e1 e2=>q _ g s.toks ?_ ⟨e1,e2.extBut _ _ ne st.2⟩ fun b u hb e=>e2.extBut _ _ (fun z=>hb (yaa.mpr z)) e
     . rw [yaH hi']
       exact z
     . rw [yav,yaD,yaH hi']
       rfl
   done:=fun s Q E st q=>by
     refine it_end hh st.1 st.2 hd hf rfl (fun z=>ZiN hb st.2 hd hf ?_) fun g e2=>q g s.toks fun b u hb e=>e2 _ _ (fun z=>hb (yaa.mpr z)) e
     rw [Array.getElem?_eq_none (by simp)];exact z
   self:=fun i s Q E st q=>Zgy st.1 q }
theorem ZhD (hb:bt w=false) (hl:t.led=true) (hp:(!t.plain&&decide (es.size > 1))=false) (hr:Ris t.place) (hf:t.fits es.size=true) (hd:o.data=.set es ep t) (ne:a≠I):∀ A:Around,A.handled=none->Walks prog w A I [I,a] [I] (es.toList.map (·.2)).length (fun i v=>(es.toList.map (·.2))[i]?=some v)
   (fun i h=>(∃ sl:Nat,h.get? I=some (itObj (rawInt sl) (i:Nat) (.ref a) es.size ep)/\(∀ j (q:j<t.place.size),j<i->t.place[j]<sl)/\(∀ j (q:j<t.place.size),i<=j->sl<=t.place[j]))/\h.get? a=some o):=fun A hh=>by
 have sp:t.place.size=es.size:=by unfold SetTable.fits at hf;simp at hf;exact hf.1
 have at_:∀ (i sl:Nat),i<=t.place.size->(∀ j (q:j<t.place.size),j<i->t.place[j]<sl)->(∀ j (q:j<t.place.size),i<=j->sl<=t.place[j])->SetTable.below t.place sl=i:=by
   intro i sl hi c1 c2;obtain ⟨b1,b2,b3⟩:=ZgN hr sl;rcases Nat.lt_trichotomy (SetTable.below t.place sl) i with q | q | q
   . have hq:SetTable.below t.place sl<t.place.size:=by omega
     have z1:=c1 _ hq q;have z2:=b2 _ hq (yag _);omega
   . exact q
   . have hq:i<t.place.size:=by omega
     have z1:=b1 _ hq q;have z2:=c2 _ hq (yag _);omega
 exact
 { sub := fun b hb=>yaj.mpr (.inl (yaa.mp hb))
   frame:=fun i h h' st k=>⟨let ⟨sl,e,c⟩:=st.1;⟨sl,k I (by simp) _ e,c⟩,k a (by simp) _ st.2⟩
   item:=fun i s Q E hi st q=>by
     obtain ⟨⟨sl,e0,c1,c2⟩,ea⟩:=st;have hi':i<es.size:=by simpa using hi
     have hi2:i<t.place.size:=by omega
     have bl:=at_ i sl (by omega) c1 c2;refine ZiV (x:=(es[i]).2) (nx:=t.place[i]+1) e0 ea hd hf rfl (fun z=>Zhw hb hl hp ea hd hf ?_) fun g e1 e2=>q _ g s.toks ?_ ⟨⟨_,e1,fun j hj lt=>?_,fun j hj le=>?_⟩,e2.extBut _ _ ne ea⟩ fun b u hb e=>e2.extBut _ _ (fun z=>hb (yaa.mpr z)) e
     . rw [bl,yaH hi',yaH hi2]
       exact z
     . rw [yav,yaD,yaH hi']
       rfl
     . have:=hr.le hi2 (show j<=i by omega)
       omega
     . have:=hr i j hj (by omega)
       omega
   done:=fun s Q E st q=>by
     obtain ⟨⟨sl,e0,c1,c2⟩,ea⟩:=st;have en:(es.toList.map (·.2)).length=es.size:=by simp
     rw [en] at e0 c1 c2;have bl:=at_ es.size sl (by omega) c1 c2;refine it_end hh e0 ea hd hf rfl (fun z=>Zhw hb hl hp ea hd hf ?_) fun g e2=>q g s.toks fun b u hb e=>e2 _ _ (fun z=>hb (yaa.mpr z)) e
     rw [bl,Array.getElem?_eq_none (yag _)];exact z
   self:=fun i s Q E st q=>let ⟨sl,e,_⟩:=st.1;Zgy e q }
theorem Zg5 {T:Addr} {ls:List Nat} (hls:∀ j∈ls,j<es.size) (hf:t.fits es.size=true) (hd:o.data=.set es ep t) (ne:a≠I) (neT:T≠I):∀ A:Around,A.handled=none->Walks prog w A I [I,T,a] [I] (ls.map fun j=>(es.getD j (0,.none)).2).length (fun i v=>(ls.map fun j=>(es.getD j (0,.none)).2)[i]?=some v)
   (fun i h=>h.get? I=some (itObj (.ref T) (i:Nat) (.ref a) es.size ep)/\IsTup h T (ls.map fun (j:Nat)=>rawInt j).toArray/\h.get? a=some o):=fun A hh =>
 { sub := fun b hb=>yaj.mpr (.inl (yaa.mp hb))
   frame:=fun i h h' st k=>⟨k I (by simp) _ st.1,let ⟨u,e,c⟩:=st.2.1;⟨u,k T (by simp) _ e,c⟩,k a (by simp) _ st.2.2⟩
   item:=fun i s Q E hi st q=>by
     obtain ⟨e0,eT,ea⟩:=st;have hi':i<ls.length:=by simpa using hi
     have hj:=hls ls[i] (yaA hi');refine dr_item (pl:=ls[i]) (h0:=(es[ls[i]]).1) (x:=(es[ls[i]]).2) e0 eT ?_ ?_ ea hd hf rfl fun g e1 e2=>q _ g s.toks ?_ ⟨e1,IsTup.extBut eT e2.extBut neT,e2.extBut _ _ ne ea⟩ fun b u hb e=>e2.extBut _ _ (fun z=>hb (yaa.mpr z)) e
     . simp [hi']
     . rw [yaH hj]
     . rw [yav,yae hi']
       simp [Array.getD,hj]
   done:=fun s Q E st q=>by
     obtain ⟨e0,eT,ea⟩:=st;refine dr_end hh e0 eT ?_ ea hd hf rfl fun g e2=>q g s.toks fun b u hb e=>e2 _ _ (fun z=>hb (yaa.mpr z)) e
     simp
   self:=fun i s Q E st q=>Zgy st.1 q }
theorem ZfT (el:ElemsOf (intKind prog w) es.toList):∀ {ls:List Nat},(∀ j∈ls,j<es.size)->IntsAre (ls.map fun j=>(es.getD j (0,.none)).2) (ls.map fun j=>iv (es.getD j (0,.none)).2)
 | [],_=>.nil
 | j::ls,h=>by
   have hj:=h j (.head _);have eg:es.getD j (0,.none)=es[j]:=by simp [Array.getD,hj]
   obtain ⟨⟨k,hk,_⟩,_⟩:=el es[j] (by simp);obtain ⟨t,e2⟩:=Value.isInt_shape hk;have:=ZfT el (ls:=ls) fun j hj=>h j (.tail _ hj)
   rw [yaC,yaC,eg,e2];constructor;exact this
theorem ZiB (es:Array (Int × Value)):((List.range es.size).map fun j=>iv (es.getD j (0,.none)).2)=es.toList.map fun e=>iv e.2:=by
 refine List.ext_getElem (by simp) fun i h1 h2=>?_
 have hi:i<es.size:=by simpa using h1
 simp [Array.getD,hi]
theorem iter_set {ks:List Int} (hS:ST prog w s.heap a ks) (q:∀ I h2 d,Wk prog w s.heap h2 a ks I->Q (.ref I) { s with heap:=h2,drawn:=d }):wpAny (model prog w) A (pyIter (.ref a)) Q E s:=by
 obtain ⟨o,es,ep,t,ho,hx,hd,el,hb,hf,gd,rfl,nd⟩:=hS;have hT:s.TypeIs (.ref a) "set":=⟨_,ho,hx.1⟩
 have la:a<s.heap.objs.size:=zad ho;have fr:s.heap.get? s.heap.objs.size=none:=by
   cases e:s.heap.get? s.heap.objs.size with
   | none=>rfl
   | some u=>exact absurd (zad e) (ybs _)
 refine wpAny_pyIter_slot hT PySem.F.slot_set_iter (zaD PySem.F.slot_set_iter hT Ze3 ?_ (PySem.F.args_set_iter_1 _));unfold Builtin.«frozenset.__iter__»;refine zaa (m:=Builtin.Frozenset.slot0 "__iter__" ⟨[.ref a],[]⟩) (zac ?_);refine zaa (m:=Builtin.Frozenset.sizeOf a) (zaa (wpAny_setEntries_of ho hd hf (zac ?_)));refine zaa (m:=setDrawn a) ?_;unfold setDrawn;refine zaa (zaM ho hd hf (zaa (ZeX (zac ?_))));show wpAny _ _ (if (!bt w&&(!t.plain&&decide (es.size > 1)))=true then _ else _) _ _ _;have mk:∀ (f:Value) (s1:Shared),s1.heap.get? a=some o->(∀ h2,h2=s1.heap.push (itObj f (0:Nat) (.ref a) es.size ep)->Q (.ref s1.heap.objs.size) { s1 with heap:=h2 })->wpAny (model prog w) A.in1 (do let e <- setEpoch a;let z <- newFields "set_iterator" [f,rawInt 0,Value.ref a,rawInt es.size,rawInt e];ret z) (fun fin s'=>∃ v,fin=Fin.done (Flow.ret v)/\∃ T' r,s'.TypeIs v T'/\typeLookup (Value.type T') (Str.ofString "__next__")=pure (some r)/\Q v s') E s1:=by intro f s1 e1 q1;refine zaa (wpAny_setEpoch_of e1 hd hf (zaa (m:=newFields _ _) (wpAny_newObj_type (zac ⟨_,rfl,"set_iterator",_,⟨_,zaf _ rfl,rfl⟩,slot_it_next.lookup,?_⟩))));exact q1 _ rfl
 cases hbt:bt w with
 | true =>
   rw [ybS,Bool.false_and,if_neg (by decide)];refine zaa (zac (mk _ s ho fun h2 e2=>q _ h2 s.drawn ⟨⟨_,_,_,_,_,ZhZ hbt hf hd (yaE la),⟨?_,?_⟩,?_,.head _,fun b hb=>?_,ZfV (el.perm (ZfQ _ es)),(ZfQ _ es).map _,fun b hb=>?_⟩,fun b u e=>?_⟩))
   . rw [e2];exact zaf _ rfl
   . rw [e2];exact zab _ ho
   . intro b hb
     rw [e2,ZT.size_push];rcases yaj.mp hb with z | z
     . rw [z];exact ybn _
     . rw [yaa.mp z];exact ybd la
   . rw [yaa.mp hb];exact fr
   . rcases yaj.mp hb with z | z
     . rw [z];exact .inr fr
     . exact .inl (yaa.mp z)
   . rw [e2];exact zab _ e
 | false =>
   have ld:t.led=true:=by rw [gd.led,hbt];rfl
   rw [yct,Bool.true_and];cases hp:(!t.plain&&decide (es.size > 1)) with
   | false =>
     rw [if_neg (by decide)];have hr:Ris t.place:=by
       cases pl:t.plain with
       | true=>exact gd.ris pl
       | false =>
         rw [pl] at hp;have sp:t.place.size=es.size:=by unfold SetTable.fits at hf;simp at hf;exact hf.1
         simp at hp;intro i j hj hij;omega
     refine zaa (zac (mk _ s ho fun h2 e2=>q _ h2 s.drawn ⟨⟨_,_,_,_,_,ZhD hbt ld hp hr hf hd (yaE la),⟨⟨0,?_,fun j _ z=>absurd z (ycp _),fun j _ _=>yax _⟩,?_⟩,?_,.head _,fun b hb=>?_,ZfV el,.refl _,fun b hb=>?_⟩,fun b u e=>?_⟩))
     . rw [e2];exact zaf _ rfl
     . rw [e2];exact zab _ ho
     . intro b hb
       rw [e2,ZT.size_push];rcases yaj.mp hb with z | z
       . rw [z];exact ybn _
       . rw [yaa.mp z];exact ybd la
     . rw [yaa.mp hb];exact fr
     . rcases yaj.mp hb with z | z
       . rw [z];exact .inr fr
       . exact .inl (yaa.mp z)
     . rw [e2];exact zab _ e
   | true =>
     rw [if_pos rfl];refine zaa (ZfC es.size (List.range es.size) s _ ybP fun ls d pl=>?_);have hls:∀ j∈ls,j<es.size:=fun j hj=>ybR.mp (pl.mem_iff.mp hj)
     refine zaa (m:=newTuple _) (wpAny_newObj_type ?_ ?_)
     . have e0:(s.heap.push { cls:=.type "tuple",data:=.seq (ls.map fun (i:Nat)=>rawInt i).toArray }).get? a=some o:=zab _ ho
       have sz1:(s.heap.push { cls:=.type "tuple",data:=.seq (ls.map fun (i:Nat)=>rawInt i).toArray }).objs.size=s.heap.objs.size+1:=zaI ..;have l1:a≠(s.heap.push { cls:=.type "tuple",data:=.seq (ls.map fun (i:Nat)=>rawInt i).toArray }).objs.size:=by rw [sz1];exact yaE (ybd la)
       have l2:s.heap.objs.size≠(s.heap.push { cls:=.type "tuple",data:=.seq (ls.map fun (i:Nat)=>rawInt i).toArray }).objs.size:=by rw [sz1];exact yaE (ybn _)
       refine mk _ _ e0 fun h2 e2=>q _ h2 d ⟨⟨_,_,_,_,_,Zg5 (a:=a) (T:=s.heap.objs.size) hls hf hd l1 l2,⟨?_,?_,?_⟩,?_,.head _,fun b hb=>?_,ZfT el hls,?_,fun b hb=>?_⟩,fun b u e=>?_⟩
       . rw [e2];exact zaf _ rfl
       . rw [e2]
         exact ⟨_,zab _ (zaf _ rfl),rfl,_,rfl⟩
       . rw [e2];exact zab _ e0
       . intro b hb
         rw [e2,ZT.size_push];show b<(s.heap.push _).objs.size+1;rw [sz1];simp only [yaj,yaX,zaP] at hb;rcases hb with z | z | z
         . rw [z];show (s.heap.push _).objs.size<_;rw [sz1];exact ybn _
         . rw [z];exact ybd (ybn _)
         . rw [z];exact ybd (ybd la)
       . rw [yaa.mp hb]
         show s.heap.get? (s.heap.push _).objs.size=none;rw [sz1];cases e:s.heap.get? (s.heap.objs.size+1) with
         | none=>rfl
         | some u=>exact absurd (zad e) (ycy.mpr (yca _))
       . have:=pl.map fun j=>iv (es.getD j (0,.none)).2
         rw [ZiB] at this;exact this
       . simp only [yaj,yaX,zaP] at hb
         rcases hb with z | z | z
         . rw [z]
           refine .inr ?_;show s.heap.get? (s.heap.push _).objs.size=none;rw [sz1];cases e:s.heap.get? (s.heap.objs.size+1) with
           | none=>rfl
           | some u=>exact absurd (zad e) (ycy.mpr (yca _))
         . rw [z];exact .inr fr
         . exact .inl z
       . rw [e2];exact zab _ (zab _ e)
     . show (ls.map fun (i:Nat)=>rawInt i).toArray.size<=sizeLine
       rw [yaB,yad,pl.length_eq,ybP];exact fits_of_scanBound hb
end
end SG
namespace SG
open PySem PySem.Spec PyProof.Rows
section
variable {a:Addr}
theorem Ziu {vs:List Value}{acc:Array Value}(h:ItemsOf (fun i v=>vs[i]?=some v) acc vs.length):acc.toList=vs:=by
 refine List.ext_getElem (by rw [yam,h.1]) fun i h1 h2=>?_
 have:=h.2 i acc[i] (by rw [yaH (by simpa using h1)]);have this:vs[i]?=some acc[i]:=this;rw [yae h2] at this;rw [Array.getElem_toList];exact (Option.some.inj this).symm
theorem hint_set {Q:Bool->Shared->Prop}(tS:s.TypeIs (.ref a) "set")(q:Q false s):wpAny (model prog w) A (Builtin.List.listLengthHint (.ref a)) Q E s:=by
 unfold Builtin.List.listLengthHint;refine zaa (wpAny_specialOf tS PySem.F.slot_set_len.lookup ?_);generalize hid:("set.__len__":String)=nm
 wp_delta
 rw [show splitId nm=some ("set","__len__") from by subst hid;decide +kernel];subst hid;refine zaa (wpAny_isInstance (T:="set") (b:=true) tS sub_set_self (wpAny_ite_split (fun z=>absurd z (by decide)) fun _=>wpAny_ite_split (fun _=>?_) fun z=>absurd (by decide +kernel) z));exact zaa (wpAny_typeOf tS (zac q))
theorem Zhs {ks:List Int} {Q:List Value->Shared->Prop} (hh:A.handled=none) (hS:ST prog w s.heap a ks) (hz:ks.length<=sizeLine)
   (q:∀ h' tk d vs ks',(∀ b o,s.heap.get? b=some o->h'.get? b=some o)->s.heap.objs.size<h'.objs.size->IntsAre vs ks'->ks'.Perm ks->Q vs { s with heap:=h',drawn:=d,toks:=tk }):wpAny (model prog w) A (collect (.ref a)) Q E s:=by
 have la:a<s.heap.objs.size:=by obtain ⟨o,_,_,_,e,_⟩:=hS;exact zad e
 have tS:s.TypeIs (.ref a) "set":=by obtain ⟨o,_,_,_,e,x,_⟩:=hS;exact ⟨o,e,x.1⟩
 unfold collect;refine zaa (wpAny_runValue (zaH PySem.F.entry_proto_collect ?_));rw [zax PySem.F.plain_proto_collect _];refine zaa (m:=newList []) (wpAny_newObj_type ?_);refine zac ⟨zaX PySem.F.plain_list_iadd _,zaH PySem.F.entry_list_iadd ?_⟩;rw [zax PySem.F.plain_list_iadd _];have e1:∀ b o,s.heap.get? b=some o->(s.heap.push { cls:=.type "list",data:=.seq ([]:List Value).toArray }).get? b=some o:=fun b o e=>zab _ e
 have n1:(s.heap.push { cls:=.type "list",data:=.seq ([]:List Value).toArray }).get? s.heap.objs.size=some { cls:=.type "list",data:=.seq #[] }:=zaf _ rfl;have S1:ST prog w (s.heap.push { cls:=.type "list",data:=.seq ([]:List Value).toArray }) a ks:=hS.but (d:=a) fun o e=>e1 _ _ e
 have z1:(s.heap.push { cls:=.type "list",data:=.seq ([]:List Value).toArray }).objs.size=s.heap.objs.size+1:=zaI ..;show wpAny _ A.in1 (Builtin.List.listExtendWith (.ref s.heap.objs.size) (.ref a) (.ref s.heap.objs.size)) _ _ _;generalize hG:(s.heap.push { cls:=.type "list",data:=.seq ([]:List Value).toArray })=g1 at e1 n1 S1 z1;have tS1:Shared.TypeIs { s with heap:=g1 } (.ref a) "set":=by obtain ⟨o,e,c⟩:=tS;exact ⟨o,e1 _ _ e,c⟩
 unfold Builtin.List.listExtendWith;refine zaa (wpAny_typeOf tS1 ?_);have h1:Builtin.List.listSameRef (.ref s.heap.objs.size) (.ref a)=false:=by show (s.heap.objs.size==a)=false;exact zas.mpr (ybY la)
 rw [if_neg (by rw [h1];decide)];refine zaa (iter_set (s:={ s with heap:=g1 }) S1 fun I g2 d W=>?_);have tS2:Shared.TypeIs { s with heap:=g2,drawn:=d } (.ref a) "set":=by obtain ⟨o,e,c⟩:=tS1;exact ⟨o,W.old _ _ e,c⟩
 refine zaa (zaw (hint_set tS2 ?_));obtain ⟨⟨fp,wr,vs,ks',St,Wf,st,lf,hI,hw,hi,pm,fn⟩,old⟩:=W;have Wa:=Wf A.in1 hh;have nS:s.heap.objs.size∉fp:=fun z=>by
   rcases fn _ z with y | y
   . exact ybY la y
   . rw [show (Shared.heap { s with heap:=g1 }).get? s.heap.objs.size=_ from n1] at y
     cases y
 have n2:=old _ _ n1;have lv:vs.length<=sizeLine:=by rw [IntsAre.length hi,pm.length_eq];exact hz
 have fin:∀ (g:Heap) (c:Nat) (R:Result->Shared->Prop),St 0 g->(∀ b o,b≠s.heap.objs.size->g2.get? b=some o->g.get? b=some o)->g.get? s.heap.objs.size=some { cls:=.type "list",data:=.seq #[] c }->(∀ s',wpAny (model prog w) A (load s.heap.objs.size >>= fun o=>match o.data with | .seq xs _=>pure xs.toList | _=>unsupported "internal:collect") Q E s'->R (.ok (.ret (.ref s.heap.objs.size))) s') ->
     codeAny (model prog w) A (Code.builtin "list.extend.loop" ⟨[.ref s.heap.objs.size,.ref I,.ref s.heap.objs.size],[]⟩) R { s with heap:=g,drawn:=d }:=by
   intro g c R st0 k0 g0 hR;refine codeAny_extend_loopS Wa.toS lv s.heap.objs.size nS (.ref s.heap.objs.size) vs.length 0 _ #[] c rfl (yax _) st0 g0 (ItemsOf.nil _) fun s' acc' c' hm hS' hacc=>?_
   have eh:∀ b o,s.heap.get? b=some o->s'.heap.get? b=some o:=fun b o e=>by
     refine hm.heap b o (fun z=>?_) (k0 b o (yaE (zad e)) (old _ _ (e1 _ _ e)));rcases yaj.mp z with z | z
     . exact yaE (zad e) z
     . have:=hw b z
       rw [show (Shared.heap { s with heap:=g1 }).get? b=some o from e1 _ _ e] at this;cases this
   obtain ⟨h',ge,dr,tk,os⟩:=s';have e1:ge=s.gens:=hm.gens;have e2:dr=d:=hm.drawn;have e3:os=s.os:=hm.os;subst e1 e2 e3;refine hR _ (zaa (wpAny_load hS' (zac ?_)));rw [Ziu hacc];exact q h' tk dr vs ks' eh (zad hS') hi pm
 refine wpAny_ite_split (fun _=>?_) (fun _=>zac ⟨zaX PySem.F.plain_extend_loop _,fin g2 _ _ st (fun b o _ e=>e) n2 fun s' z=>z⟩);refine zaa (zaR (zaa ?_));refine zaa (m:=updateSeq s.heap.objs.size (·.push .none)) (zaU n2 rfl ?_);have n3:=zav (Obj.mapSeq (·.push Value.none)) n2 rfl;refine zaU (hz:=by seq_fits) n3 rfl ?_;have n4:=zav (Obj.mapSeq (·.pop)) n3 rfl;have oth:∀ b o,b≠s.heap.objs.size->g2.get? b=some o->((g2.update s.heap.objs.size (Obj.mapSeq (·.push Value.none))).update s.heap.objs.size (Obj.mapSeq (·.pop))).get? b=some o:=fun b o ne e=>(zaq _ _ (Ne.symm ne)).trans ((zaq _ _ (Ne.symm ne)).trans e)
 exact zac ⟨zaX PySem.F.plain_extend_loop _,fin _ _ _ (Wa.frame 0 _ _ st fun b hb o e=>oth b o (fun z=>nS (z ▸ hb)) e) oth n4 fun s' z=>z⟩
end
end SG
namespace SG
open PySem PySem.Spec PyProof.Rows Srt
section
variable {Ar:Around}{a:Addr}
theorem sorted_set {ks:List Int}(hh:Ar.handled=none)(hS:ST prog w s.heap a ks)(hz:ks.length<=sizeLine)
   (q:∀ (h':Heap) (tk:Nat) (d:Drawn) (l:Addr) (out:Array Value) (ns:List Int) (e:Nat),(∀ b o,s.heap.get? b=some o->h'.get? b=some o)->s.heap.objs.size<=l->h'.get? l=some (seqObj "list" out e)->IntsAre out.toList ns->ns.Perm ks->ns.Pairwise (·<=·)->Q (.ref l) { s with heap:=h',drawn:=d,toks:=tk }) :
   wpAny (model prog w) Ar (call (.builtin "sorted") [.ref a]) Q E s:=by
 refine Calls.call_function_entry kind_sorted plain_sorted entry_sorted (args_sorted1 _) ?_;unfold Builtin.«sorted»;refine zaa (m:=checkCount "sorted" 1 1 _) (zac (zaa (Zhs (show Ar.in1.handled=none from hh) hS hz fun h1 tk d vs ks' old lt hi pm=>?_)));have lv:vs.length<=sizeLine:=by rw [IntsAre.length hi,pm.length_eq];exact hz
 refine zaa (wpAny_newList ?_ (by simpa using lv));have oL:(h1.push (seqObj "list" vs.toArray 0)).get? h1.objs.size=some (seqObj "list" vs.toArray 0):=zaf _ rfl;have la:s.heap.objs.size<=h1.objs.size:=ybF lt;show wpAny _ _ _ _ _ { s with heap:=h1.push (seqObj "list" vs.toArray 0),drawn:=d,toks:=tk };refine zaa (zaw (zaD slot_list_sort ⟨_,oL,rfl⟩ entry_list_sort (sort_ints oL hi lv fun out ns' g1 g2 g3=>⟨_,rfl,?_⟩) (args_list_sort _)));obtain ⟨e,he⟩:=sortedHeap_at (out:=out) oL;refine zac ⟨_,rfl,q _ tk d h1.objs.size out ns' e (fun b o e=>?_) la he g1 (g2.trans pm) g3⟩;have e2:=old b o e;have lb:b<h1.objs.size:=zad e2;rw [sortedHeap_old (yaE lb) (by rw [size_push'];exact ybd lb)];exact zab _ e2
end
end SG
namespace L2
open PySem PySem.Spec PyProof.Rows
theorem boot_set:bootBuiltins "set"=some (.type "set"):=by decide +kernel
def tSortSet (K:ZFr)(te:TE):TE:=fun σ H Q=>te σ H fun x H1=>∃ (l:Addr) (ns:List Int),x=.ref l/\SqL K H1 l (ns.map V.int)/\ns.length<=4000/\∀ (p:Addr) (ks:List Int),H1 p=none->ks.Pairwise (·<·)->(∀ y,y∈ks↔y∈ns)->Q (.ref p) (upd H1 p (.lst (ks.map V.int)))
theorem Inv.redrawn (I:Inv X pins σ H s)(d:Drawn):Inv X pins σ H { s with drawn:=d }:=by exact ⟨I.ok,I.os,I.bare,I.base,I.loc,I.cell,I.free,I.freeC,I.pin,I.hok,I.len⟩
section
variable {e:Expr}{p p' pos:Pos}
theorem ZfL (K:ZFr)(hc:X.calm=true)(hgl:Gl X "sorted")(hml:X.mg "sorted"=none)(hgr:Gl X "set")(hmr:X.mg "set"=none)(he:PE X e te)(hK:X.K=K:=by rfl)
   (hs1:starEach [.Call (.Name "set" p') [e] [] pos'] X.env=[(false,eval (.Call (.Name "set" p') [e] [] pos') X.env)]:=by rfl) (hs2:starEach [e] X.env=[(false,eval e X.env)]:=by rfl) :
   PE X (.Call (.Name "sorted" p) [.Call (.Name "set" p') [e] [] pos'] [] pos) (tSortSet K te):=by
 subst hK;intro pins s σ H Q I h;refine zal (Zca I hgl hml boot_sorted (PyProof.Rows.callWith_builtin1 ?_ hs1 rfl));rw [hs1];show wpAny _ _ (spliced ((false,eval (.Call (.Name "set" p') [e] [] pos') X.env)::backTo pos [])) _ _ s;refine zaj ?_;refine zal (Zca I hgr hmr boot_set (zam ?_ hs2 rfl));rw [hs2];show wpAny _ _ (spliced ((false,eval e X.env)::backTo pos' [])) _ _ s;refine zaj (thn (he pins s σ H _ I h) fun u s1 ⟨x,H1,I1,r1,l,ns,ex,hq,hn,q⟩=>?_);subst ex;cases r1;obtain ⟨its,rv,pl,hz⟩:=I1.list hq;have hi:=Zh8 rv;have li:its.length=ns.length:=by rw [<- rv.length,yad]
 refine zao (SG.call_set (its:=its.toArray) (ns:=ns) (I.ok.hd hc) pl.isList (by simpa using hi) (by rw [yaB,li];unfold scanBound;omega) fun h2 tk ks st mem old=>?_);have old':∀ b o,s1.heap.get? b=some o->h2.get? b=some o:=fun b o z=>old b o (zad z) z
 have I2:Inv X pins σ H1 { s1 with heap:=h2,toks:=tk }:=I1.kept old';have lk:ks.length<=sizeLine:=by obtain ⟨o,es,ep,t,_,_,_,_,hb,_,_,rfl,_⟩:=st;rw [yad,yam];exact fits_of_scanBound hb
 have nd:ks.Nodup:=by obtain ⟨_,_,_,_,_,_,_,_,_,_,_,_,z⟩:=st;exact z
 refine zao (SG.sorted_set (s:={ s1 with heap:=h2,toks:=tk }) (I.ok.hd hc) st lk fun h3 tk3 d l3 out ns3 e3 old3 le3 at3 hi3 pm3 so3=>?_);have lo:(ns3.map V.int).length<=sizeLine:=by rw [yad,pm3.length_eq];exact lk
 have I3:Inv X pins σ (upd H1 l3 (.lst (ns3.map V.int))) { s1 with heap:=h3,toks:=tk3 }:=I2.laid (t':=tk3) (o:=.lst (ns3.map V.int)) old3 le3 ⟨lo,out.toList,e3,ZcH hi3,by rw [Array.toArray_toList];exact at3⟩;refine ⟨.ref l3,_,I3.redrawn d,rfl,q l3 ns3 (I2.hok.fresh le3) ?_ fun y=>(pm3.mem_iff).trans (mem y)⟩;have nd3:ns3.Nodup:=pm3.nodup_iff.mpr nd;exact List.Pairwise.imp₂ (fun a b h1 h2=>by omega) so3 nd3
end
end L2
namespace L2
open PySem PySem.Spec PyProof.Rows
def cxLam (P:Program)(w:World)(K:ZFr)(mg:Str->Option Value)(base:Heap)(N:List Str)(qual:Str)(scope:Scope)(f:Addr)(cd:Value)(cl:List (Str × Addr))(A:Around)(outer:List Env)(s:Shared)(H:Hp):Cx where
 prog:=P
 w:=w
 K:=K
 mg:=mg
 base:=base
 A:=A.deeper (PySem.W.envX qual scope s.heap.objs.size f cd cl)
 N:=N
 s₀:=s
 H₀:=H
 env:=PySem.W.envX qual scope s.heap.objs.size f cd cl
 outer:=outer
 stack:=PySem.W.envX qual scope s.heap.objs.size f cd cl::outer
 ex:=[]
 calm:=true
 fn:=fun _=>false
 pn:=[]
 xe:=fun _ _=>False
structure LamScope (p:Str)(caps:List Str)(sc:Scope):Prop where
 kind:sc.kind=.function
 co:sc.isCoroutine=false
 gen:sc.isGenerator=false
 nd:(p::caps).Nodup
 par:sc.names.lookup p=some .local
 cap:∀ x∈caps,sc.names.lookup x=some .free
 has:∀ x,sc.names.lookup x=some .free->x∈caps
 nocell:∀ x∈sc.names,x.2≠.cell
theorem LamScope.nolook {p:Str}{caps:List Str}(S:LamScope p caps sc)(x:Str):sc.names.lookup x≠some .cell:=fun h=>S.nocell _ (zat h) rfl
structure LamCells (h:Heap)(caps:List Str)(cl:List (Str × Addr))(cvs:List V):Prop where
 at_:∀ (i:Nat) (x:Str),caps[i]?=some x->∃ (c:Addr) (u:Value) (v:V),cl.lookup x=some c/\h.IsCell c (some u)/\cvs[i]?=some v/\RelV v u
 inj:∀ x y c,cl.lookup x=some c->cl.lookup y=some c->x=y
 all:∀ x c,cl.lookup x=some c->∃ v,h.IsCell c v
 len:cvs.length=caps.length
abbrev Fz (o:Obj):HO:=.frz o (.own 0)
def CodeO (oc:Obj)(qual:Str):Prop:=∃ (vs:Array Value) (t:Tok),oc.data=.fields vs/\vs[1]?=some (.str qual t)
section
variable {k:Nat}{c':Addr}{oc:Obj}{name p:Str}{caps:List Str}{params:Arguments}{body:Expr}{cl:List (Str × Addr)}{pm ctv:Value}{cvs:List V}{tb:TE}
theorem fn_lam (hcd:CodeO oc qual) (S:LamScope p caps scope) (C:LamCells base caps cl cvs)
   (hbody:∀ (A:Around) (outer:List Env) (s:Shared) (H:Hp),Room k (A.deeper (PySem.W.envX qual scope s.heap.objs.size f (.ref c') cl))->PE (cxLam P w K mg base (p::caps) qual scope f (.ref c') cl A outer s H) body tb) :
   FnOk P w K mg base CX0 (k+1) f (PySem.W.kla_fn name qual params body scope cl pm (.ref c') ctv) [p] (fun vs H Q _=>∃ x,vs=[x]/\H f=some (Fz (PySem.W.kla_obj name qual params body scope cl pm c' ctv))/\H c'=some (Fz oc)/\tb (some x::cvs.map some) H Q):=by
 refine ⟨fun vs H Q E h=>by obtain ⟨x,rfl,_⟩:=h;rfl,fun A outer s H args us vs Q E hr e0 hb r hsp=>?_⟩;obtain ⟨x,rfl,hf,hc,ht⟩:=hsp;obtain ⟨u,rfl,ru⟩:=r.one;have lim:s.heap.NoLimit:=e0.mod.nolimit.keeps fun b o e=>(e0.bs b o e).1
 have hfo:s.heap.get? f=some (PySem.W.kla_obj name qual params body scope cl pm c' ctv):=(e0.hok f _ hf).1;have hcr:s.heap.CodeRec (.ref c') qual:=by obtain ⟨vs,t,e1,e2⟩:=hcd;exact ⟨c',oc,vs,t,rfl,(e0.hok c' _ hc).1,e1,e2⟩
 refine PySem.W.kla_callFunE hr.depth hfo rfl S.co S.gen rfl hcr (hb _ _ _ _ ?_);refine wpAny_newFunctionEnv S.nocell (fun y hy=>?_) (fun h1 hns hsb=>⟨lim.fresh _ hsb,?_⟩) S.kind
 . have:y=(p,u):=by simpa using hy
   rw [this];exact S.par
 have hk:∀ b o,s.heap.get? b=some o->h1.get? b=some o:=fun b o e=>hsb.extBut b o (yaE (zad e)) (zab _ e)
 have kc:∀ {c:Addr} {v:Option Value},base.IsCell c v->h1.IsCell c v/\H c=none:=fun {c v} z=>by
   obtain ⟨o,e,d⟩:=z;exact ⟨⟨o,hk _ _ (e0.bs _ _ e).1,d⟩,(e0.bs _ _ e).2⟩
 have I:Inv (cxLam P w K mg base (p::caps) qual scope f (.ref c') cl A outer s H) [] (some x::cvs.map some) H { s with heap:=h1,toks:=s.toks+1 }:=by
   refine ⟨⟨e0.mod,S.kind,rfl,rfl,yag _,C.inj,fun y hy=>?_,(fun y c h=>nomatch h),fun _=>hr.hd,Around.frames_deeper e0.frames,.inr ⟨rfl,rfl⟩,fun b z=>absurd (show b∈([]:List Addr) from z) (by simp),e0.bs,e0.bsz,fun b _ _ z=>absurd (show b∈([]:List Addr) from z) (by simp),fun b z=>absurd (show b∈([]:List Addr) from z) (by simp),e0.funs,e0.frf⟩,
     rfl,e0.bare,Un.kept hk,⟨_,hns,fun i y v h1 h2 h3=>?_⟩,fun y c h=>?_,e0.hok.fresh (yag _),fun y c h=>?_,fun q hq=>absurd (show q∈([]:List (Addr × Obj)) from hq) (by simp),e0.hok.kept hk,?_⟩
   . have hy:scope.names.lookup y=some .cell\/scope.names.lookup y=some .free:=hy
     rcases hy with hy | hy
     . exact absurd hy (S.nolook y)
     . obtain ⟨i,hi,e⟩:=yaV.mp (S.has y hy)
       obtain ⟨c,_,_,h,_⟩:=C.at_ i y (by rw [yae hi,e]);exact ⟨c,h⟩
   . cases i with
     | zero =>
       cases (show p=y from Option.some.inj h1);cases (show x=v from Option.some.inj (Option.some.inj h2));exact ⟨u,ru,.inl ⟨S.par,by simp⟩⟩
     | succ i =>
       have h1:caps[i]?=some y:=h1;obtain ⟨c,u2,v2,e1,e2,e3,e4⟩:=C.at_ i y h1;have h2:(cvs.map some)[i]?=some (some v):=h2;rw [yav,e3] at h2;cases (show v2=v from Option.some.inj (Option.some.inj h2));exact ⟨u2,e4,.inr ⟨.inr (S.cap y (yao h1)),c,e1,(kc e2).1⟩⟩
   . obtain ⟨v,e⟩:=C.all y c h
     exact ⟨v,(kc e).1⟩
   . obtain ⟨v,e⟩:=C.all y c h
     exact (kc e).2
   . show (some x::cvs.map some).length=(p::caps).length
     rw [yan,yan,yad,C.len]
 refine PySem.W.kla_codeExpr (zaB (hbody A outer s H (hr.deeper _) [] _ _ H Q I ht) (fun v s' hs=>?_) fun e s' hs=>hs.elim);obtain ⟨v,H',J,rv,q⟩:=hs;exact ⟨v,H',J.os,J.bare,J.base,J.hok,rv,q⟩
end
def LamAt (P:Program)(w:World)(K:ZFr)(mg:Str->Option Value)(base:Heap)(k:Nat)(f:Addr)(ps:List Str)(sp:Sp):Prop :=
 ∃ fd:FuncData,FnOk P w K mg base CX0 k f fd ps sp/\Binds K fd ps []
def tCallV (P:Program)(w:World)(K:ZFr)(mg:Str->Option Value)(base:Heap)(k:Nat)(i:Nat)(t:TA):TE:=fun σ H Q=>∃ (f:Addr) (o:Obj) (fd:FuncData) (ps:List Str) (sp:Sp),
 σ[i]?=some (some (.ref f))/\H f=some (Fz o)/\o.data=.func fd/\LamAt P w K mg base k f ps sp/\t σ H fun vs H1=>H1 f=some (Fz o)/\sp vs H1 Q E0
section
variable {x:Str}{k:Nat}{e:Expr}{t:TA}{p pos:Pos}
theorem pe_callV (i:Nat)(hr:Room k X.A)(ha:PA X (e::es) t)(hN:X.N[i]?=some x:=by rfl)(hv:Vis X.env.scope x:=by first | exact Or.inl rfl | exact Or.inr (Or.inl rfl) | exact Or.inr (Or.inr rfl))(hd:(x==("__debug__":Str))=false:=by decide)(hcd:(x==("__classdict__":Str))=false:=by decide)
   (he:starEach (e::es) X.env=(false,eval e X.env)::starEach es X.env:=by rfl) (hpl:(backTo pos (starEach es X.env)).any (·.1)=false:=by rfl):PE X (.Call (.Name x p) (e::es) [] pos) (tCallV X.prog X.w X.K X.mg X.base k i t):=by
 intro pins s σ H Q I h;obtain ⟨f,o,fd,ps,sp,hs,hf,ho,⟨fd2,F,B⟩,h⟩:=h;have pn:PE X (.Name x p) (tVar i):=pv i hN hv hd hcd;refine zal (thn (pn pins s σ H (fun v H1=>v=.ref f/\H1=H) I ?_) fun u s1 ⟨v,H1,I1,r1,e1,e2⟩=>?_)
 . exact ⟨.ref f,hs,rfl,rfl⟩
 subst e1 e2;cases r1;have fa:∀ {s2:Shared} {H2:Hp},Inv X pins σ H2 s2->H2 f=some (Fz o)->PySem.W.FnAt f s2.heap:=fun {s2 H2} J z=>by
   obtain ⟨oc,od,dat,sl⟩:=o;have ho:dat=.func fd:=ho;subst ho;exact ⟨oc,od,fd,sl,(J.hok f _ z).1⟩
 refine PySem.W.callWith_F (fa I1 hf) (thn (ha pos pins s1 σ H1 _ I1 h) fun us s2 ⟨vs,H2,I2,r,hf2,q⟩=>⟨fa I2 hf2,?_⟩) he hpl;have q':sp (vs++[]) H2 Q E0:=by rw [yaO];exact q
 exact Zfw F hr B .nil pass0 I2 r q'
end
end L2
namespace L2
open PySem PySem.Spec PyProof.Rows
theorem Inv.grown {Pt c:Addr} {ts more:Array Value} {oc fo:Obj} (I:Inv X pins σ H s) (hP:H Pt=some (.tbl ts)) (k:∀ b u,b≠Pt->s.heap.get? b=some u->h'.get? b=some u) (hP':h'.get? Pt=some { cls:=.none,data:=.fields (ts++more) })
   (hc:(s.heap.objs.size<=c\/H c=some (Fz oc))/\h'.get? c=some oc) (hf:s.heap.objs.size<=f) (hf':h'.get? f=some fo) (nc:c≠f) (ncP:c≠Pt):Inv X pins σ (upd (upd (upd H Pt (.tbl (ts++more))) c (Fz oc)) f (Fz fo)) { s with heap:=h',toks:=t' }:=by
 have lP:Pt<s.heap.objs.size:=zad (show s.heap.get? Pt=some _ from I.hok Pt _ hP);have nfP:f≠Pt:=ybY (yay lP hf);have neF:∀ b u,s.heap.get? b=some u->b≠f:=fun b u e z=>absurd (yay (zad e) (by rw [z];exact hf)) (ybs _)
 have nF:H f=none:=I.hok.fresh hf;have same:∀ b o,H b=some o->b≠Pt->b≠c->upd (upd (upd H Pt (.tbl (ts++more))) c (Fz oc)) f (Fz fo) b=some o:=fun b o e n1 n2=>by
   rw [Zai (Zaq e nF),Zai n2,Zai n1];exact e
 have keepAll:∀ b o,H b=some o->(∀ ps,o≠.tbl ps)->upd (upd (upd H Pt (.tbl (ts++more))) c (Fz oc)) f (Fz fo) b=some o:=fun b o e n=>by
   have n1:b≠Pt:=fun z=>by rw [z,hP] at e;cases e;exact n _ rfl
   by_cases n2:b=c
   . rcases hc.1 with z | z
     . have:=I.hok.fresh z
       rw [<- n2,e] at this;cases this
     . rw [<- n2,e] at z
       cases z;rw [Zai (Zaq e nF),n2,Zac]
   . exact same b o e n1 n2
 refine I.step (g':=s.gens) (d':=s.drawn) (ch:=[]) (fun _ z=>nomatch z) (fun b u _ _ _ e n=>k b u (fun z=>by rw [z,hP] at n;cases n) e) (fun b u _ _ _ e n=>⟨u.slots,k b u (fun z=>by rw [z,hP] at n;cases n) e⟩) (fun b u _ e n=>?_) (fun b u _ e=>?_) (fun b xs e=>keepAll b _ e fun ps z=>by cases z) (fun b u v e=>keepAll b _ e fun ps z=>by cases z) (fun b ps e=>?_) (fun m hm=>?_) (fun b u e=>?_) I.bare
 . rw [Zai (neF b u e),Zai,Zai]
   . exact n
   . exact fun z=>by rw [z,hP] at n;cases n
   . intro z
     rcases hc.1 with y | y
     . rw [z] at e
       exact absurd (yay (zad e) y) (ybs _)
     . rw [z,y] at n
       cases n
 . by_cases z:b=Pt
   . rw [z];exact ⟨_,hP'⟩
   . exact ⟨u,k b u z e⟩
 . by_cases z:b=Pt
   . rw [z,hP] at e
     cases e;exact ⟨more,by rw [z,Zai (Ne.symm nfP),Zai (Ne.symm ncP),Zac]⟩
   . refine ⟨#[],?_⟩
     have n2:b≠c:=fun y=>by
       rcases hc.1 with q | q
       . have:=I.hok.fresh q
         rw [<- y,e] at this;cases this
       . rw [<- y,e] at q;cases q
     rw [same b _ e z n2];simp
 . obtain ⟨u,es,ep,ho,r⟩:=hm
   exact ⟨u,es,ep,k _ u (fun z=>by have:=I.free;rw [z,hP] at this;cases this) ho,r⟩
 . by_cases q1:b=f
   . rw [q1,Zac] at e
     cases e;rw [q1];exact ⟨hf',⟨fo,hf'⟩⟩
   . rw [Zai q1] at e
     by_cases q2:b=c
     . rw [q2,Zac] at e
       cases e;rw [q2];exact ⟨hc.2,⟨oc,hc.2⟩⟩
     . rw [Zai q2] at e
       by_cases q3:b=Pt
       . rw [q3,Zac] at e
         cases e;rw [q3];exact hP'
       . rw [Zai q3] at e
         refine (I.hok b u e).stay (fun c' v hc' q=>k c' v ?_ q) (fun c' q=>keepAll c' _ q fun ps z=>by cases z) fun c' xs q=>keepAll c' _ q fun ps z=>by cases z
         rcases hc' with z | z
         . rw [z];exact q3
         . intro y;rw [y,hP] at z;cases z
def Tb (H:Hp)(Pt:Addr)(qual:Str)(lp:Pos):Prop:=H Pt=some (.tbl #[])\/∃ (c:Addr) (oc:Obj),H Pt=some (.tbl #[rawInt lp.line,rawInt lp.col,.ref c])/\H c=some (Fz oc)/\CodeO oc qual/\c≠Pt
theorem Tb.same {Pt:Addr}{lp:Pos}(h:Tb H Pt qual lp)(s:Same H H'):Tb H' Pt qual lp:=by
 rcases h with h | ⟨c,oc,h1,h2,h3⟩
 . exact .inl (s _ _ h)
 . exact .inr ⟨c,oc,s _ _ h1,s _ _ h2,h3⟩
def SameT (Pt:Addr)(H H':Hp):Prop:=∀ b o,b≠Pt->H b=some o->H' b=some o
structure LamIn (X:Cx)(pn:Str)(caps:List Str)(ixs:List Nat)(scope:Scope)(clos:List (Str × Addr))(c Pt:Addr):Prop where
 sc:LamScope pn caps scope
 code:X.env.code=.ref c
 hd:PySem.W.CodeHd X.base c Pt
 cl:closureFor scope X.env=pure clos
 sub:∀ y a,clos.lookup y=some a->X.env.cells.lookup y=some a
 ix:∀ (i:Nat) (y:Str),caps[i]?=some y->∃ (j:Nat) (a:Addr),ixs[i]?=some j/\X.N[j]?=some y/\X.env.scope.names.lookup y=some .cell/\clos.lookup y=some a
 len:ixs.length=caps.length
 fn:∀ x,X.fn x=true
 blt:X.base.BuiltinsAt X.mg Pt
 ng:mainGlobals≠Pt
def valAt (σ:St)(j:Nat):V:=((σ[j]?).getD none).getD .non
structure Ready (P:Program)(w:World)(K:ZFr)(mg:Str->Option Value)(base:Heap)(k:Nat)(pn:Str)(tb:TE)(cvs:List V)(H0 H:Hp)(f:Addr):Prop where
 ex:∃ (o:Obj) (fd:FuncData) (c:Addr) (oc:Obj),H f=some (Fz o)/\o.data=.func fd/\H c=some (Fz oc)/\H0 f=none /\
   LamAt P w K mg base k f [pn] (fun vs H Q _=>∃ x,vs=[x]/\H f=some (Fz o)/\H c=some (Fz oc)/\tb (some x::cvs.map some) H Q)
def tCallLam (P:Program)(w:World)(K:ZFr)(mg:Str->Option Value)(k:Nat)(pn:Str)(ixs:List Nat)(Pt:Addr)(qual:Str)(lp:Pos)(spg:Heap->Sp)(te tb:TE):TE:=fun σ H Q=>te σ H fun v H1 =>
 (∀ j∈ixs,∃ u,σ[j]?=some (some u))/\Tb H1 Pt qual lp/\∀ base' f H2,SameT Pt H1 H2->Tb H2 Pt qual lp->Ready P w K mg base' k pn tb (ixs.map (valAt σ)) H1 H2 f->spg base' [v,.ref f] H2 Q E0
section
open Classical in
noncomputable def withCells (h base:Heap) (clos:List (Str × Addr)):Heap:=hidT h (fun b=>if (∃ o,base.get? b=some o)\/∃ y,clos.lookup y=some b then none else some (.tbl #[]))
theorem Zcz {b:Addr}{o:Obj}(e:h.get? b=some o)(a:(∃ o,base.get? b=some o)\/∃ y,clos.lookup y=some b):(withCells h base clos).get? b=some o :=
 ZhP e (by rw [if_pos a])
theorem Zd2 {b:Addr}{o:Obj}(e:(withCells h base clos).get? b=some o):h.get? b=some o/\((∃ o,base.get? b=some o)\/∃ y,clos.lookup y=some b):=by obtain ⟨e1,e2⟩:=Zi8 e;refine ⟨e1,Classical.byContradiction fun n=>?_⟩;rw [if_neg n] at e2;cases e2
theorem Inv.env1 {pn:Str} {caps:List Str} {ixs:List Nat} {c Pt:Addr} (L:LamIn X pn caps ixs scope clos c Pt) (I:Inv X pins σ H s):Env0 X.prog X.w X.K X.mg (withCells s.heap X.base clos) X.A X.stack s H:=by
 have e0:=I.env0;have up:∀ b o,X.base.get? b=some o->(withCells s.heap X.base clos).get? b=some o:=fun b o e=>Zcz (e0.bs b o e).1 (.inl ⟨o,e⟩)
 refine ⟨e0.frames,?_,fun b o e=>?_,Nat.le_of_eq (ZfP _ _),?_,e0.frf,e0.hok,e0.bare⟩
 . obtain ⟨m1,m2,⟨mb,m3,m4⟩,m5⟩:=e0.mod
   exact ⟨m1.keeps up,m2.keeps up,⟨mb,m3.keeps up,m4⟩,m5.keeps up⟩
 . obtain ⟨e1,e2⟩:=Zd2 e
   rcases e2 with ⟨o',e2⟩ | ⟨y,e2⟩
   . obtain ⟨a1,a2⟩:=e0.bs b o' e2
     exact ⟨e1,a2⟩
   . exact ⟨e1,I.freeC y b (L.sub y b e2)⟩
 . have cab:∀ y b,clos.lookup y=some b->X.s₀.heap.objs.size<=b:=fun y b e=>I.ok.cab y b (L.fn y) (L.sub y b e)
   have key:∀ l:List Env,(∀ e∈l,∀ Lf,e.frame=some Lf->(X.base.get? Lf=none->(withCells s.heap X.base clos).get? Lf=none))->s.heap.FunFrames X.base l->s.heap.FunFrames (withCells s.heap X.base clos) l:=by
     intro l;induction l with
     | nil=>exact fun _ _=>trivial
     | cons env rest ih =>
       intro h1 h2;obtain ⟨a1,⟨Lf,o,a2,a3,a4,a5⟩,a6⟩:=h2;exact ⟨a1,⟨Lf,o,a2,h1 env (.head _) Lf a2 a3,a4,a5⟩,ih (fun e he=>h1 e (.tail _ he)) a6⟩
   refine key X.stack (fun e he Lf hL hb=>?_) e0.funs;cases q:(withCells s.heap X.base clos).get? Lf with
   | none=>rfl
   | some o =>
     exfalso
     obtain ⟨q1,q2⟩:=Zd2 q;rcases q2 with ⟨o',q2⟩ | ⟨y,q2⟩
     . rw [q2] at hb;cases hb
     . obtain ⟨v,oc,z1,z2⟩:=I.cell y Lf (L.sub y Lf q2)
       have out:e∈X.outer->False:=fun ho=>by
         have lt:∀ l:List Env,e∈l->X.s₀.heap.FunFrames X.base l->Lf<X.s₀.heap.objs.size:=by
           intro l;induction l with
           | nil=>intro z;cases z
           | cons env rest ih =>
             intro z h2;obtain ⟨_,⟨L2,o2,a2,_,a4,_⟩,a6⟩:=h2;rcases yaj.mp z with z | z
             . rw [<- z,hL] at a2
               cases a2;exact zad a4
             . exact ih z a6
         exact absurd (lt X.outer ho I.ok.funs) (ycy.mpr (cab y Lf q2))
       rcases I.ok.stk with z | ⟨z,zf⟩
       . exact out (by rw [<- z];exact he)
       . rw [z] at he
         rcases yaj.mp he with he | he
         . rw [he,zf] at hL
           cases hL;obtain ⟨m,⟨u,es,epn,hu,du,_⟩,_⟩:=I.loc;rw [hu] at z1;cases z1;rw [du] at z2;cases z2
         . exact out he
end
section
variable {pn g a1 a2:Str}{caps:List Str}{ixs:List Nat}{params:Arguments}{c Pt:Addr}{body e1:Expr}{lp p pos:Pos}{tb:TE}{k kg:Nat}{spg:Heap->Sp}
theorem cells_of (L:LamIn X pn caps ixs scope clos c Pt)(I:Inv X pins σ H s)(hv:∀ j∈ixs,∃ u,σ[j]?=some (some u)):LamCells (withCells s.heap X.base clos) caps clos (ixs.map (valAt σ)):=by
 refine ⟨fun i y hy=>?_,fun x y b h1 h2=>I.ok.inj x y b (L.sub _ _ h1) (L.sub _ _ h2),fun y b h=>?_,by rw [yad];exact L.len⟩
 . obtain ⟨j,a,h1,h2,h3,h4⟩:=L.ix i y hy
   obtain ⟨v,hv⟩:=hv j (yao h1);obtain ⟨m,hn,hl⟩:=I.loc;obtain ⟨u,ru,hlk⟩:=hl j y v h2 hv (.inr (.inl h3));rcases hlk with ⟨q,_⟩ | ⟨_,b,hb,hc⟩
   . rw [show X.env.kindOf y=_ from h3] at q
     cases q
   . have:b=a:=Option.some.inj (hb.symm.trans (L.sub y a h4))
     subst this;obtain ⟨o,ho,hd⟩:=hc;refine ⟨b,u,v,h4,⟨o,Zcz ho (.inr ⟨y,h4⟩),hd⟩,?_,ru⟩;rw [yav,h1];show some (valAt σ j)=some v;unfold valAt;rw [hv];rfl
 . obtain ⟨v,o,ho,hd⟩:=I.cell y b (L.sub _ _ h)
   exact ⟨v,o,Zcz ho (.inr ⟨y,h⟩),hd⟩
end
end L2
namespace L2
open PySem PySem.Spec PyProof.Rows
section
variable {pn g:Str}{ps:List Str}{caps:List Str}{ixs:List Nat}{params:Arguments}{c Pt:Addr}{body e1:Expr}{lp p pos:Pos}{tb:TE}{k kg:Nat}{spg:Heap->Sp}
theorem make_lam (L:LamIn X pn caps ixs scope clos c Pt)(hdef:defaultsOf params X.env=([],[]))(I:Inv X pins σ H s)(ht:Tb H Pt (X.env.qual++"<lambda>") lp)
   (q:∀ f c' oc pm ctv h' tk H2,H2 f=some (Fz (PySem.W.kla_obj "<lambda>" (X.env.qual++"<lambda>") params body scope clos pm c' ctv))->H2 c'=some (Fz oc)->CodeO oc (X.env.qual++"<lambda>")->H f=none->SameT Pt H H2->Tb H2 Pt (X.env.qual++"<lambda>") lp->Inv X pins σ H2 { s with heap:=h',toks:=tk }->Q (.ref f) { s with heap:=h',toks:=tk }) :
   wpAny (model X.prog X.w) X.A (eval (.Lambda params body scope lp) X.env) Q X.xe s:=by
 have hg:s.heap.Ns mainGlobals X.mg:=I.mod.glob.keeps I.bk;have C:PySem.W.CodeHd s.heap c Pt:=L.hd.keeps I.bk;have hB:s.heap.BuiltinsAt X.mg Pt:=by obtain ⟨bm,o,b1,b2,b3,b4,b5,r⟩:=L.blt;exact ⟨bm,o,b1,b2,b3,b4,I.bk _ _ b5,r⟩
 refine PySem.W.kla_eval hdef ?_;have lt:∀ {ts:Array Value},H Pt=some (.tbl ts)->Pt<s.heap.objs.size:=fun h=>zad (show s.heap.get? Pt=some _ from I.hok Pt _ h)
 rcases ht with h0 | ⟨c0,oc,h0,hc0,hco,ncP⟩
 . refine PySem.W.kla_makeFunction L.cl I.ok.glob hg L.code C (I.hok Pt _ h0) trivial rfl L.ng hB fun c' ctv h' tk hx hge hlt hrec htb=>?_
   obtain ⟨c2,oc,vs,t,e1,e2,e3,e4⟩:=hrec;cases e1;have ncP:c'≠Pt:=ybY (yay (lt h0) hge);have lf:s.heap.objs.size<=h'.objs.size:=ybF (ybL hge hlt);have nf:h'.objs.size≠Pt:=ybY (yay (lt h0) lf);have J:=I.grown (t':=tk) (more:=#[rawInt lp.line,rawInt lp.col,.ref c']) (h':=h'.push (PySem.W.kla_obj "<lambda>" (X.env.qual++"<lambda>") params body scope clos ((X.mg "__name__").getD .none) c' ctv)) h0 (fun b u ne e=>zab _ (hx b u ne e)) (zab _ htb) ⟨.inl hge,zab _ e2⟩ lf (zaf _ rfl) (yaE hlt) ncP;have hfn:H h'.objs.size=none:=I.hok.fresh lf;have hcn:H c'=none:=I.hok.fresh hge;refine q h'.objs.size c' oc _ ctv _ tk _ Zac (by rw [Zai (yaE hlt),Zac]) ⟨vs,t,e3,e4⟩ hfn (fun b o n e=>?_) (.inr ⟨c',oc,?_,?_,⟨vs,t,e3,e4⟩,ncP⟩) J
   . rw [Zai (Zaq e hfn),Zai (Zaq e hcn),Zai n]
     exact e
   . rw [Zai (Ne.symm nf),Zai (Ne.symm ncP),Zac]
     rfl
   . rw [Zai (yaE hlt),Zac]
 . refine PySem.W.kla_makeFunctionHit (cv:=.ref c0) L.cl I.ok.glob hg L.code C (I.hok Pt _ h0) trivial ?_ hB fun ctv h' tk hk hsz=>?_
   . show (if ((lp.line:Int)==(lp.line:Int)&&(lp.col:Int)==(lp.col:Int))=true then some (Value.ref c0) else _)=_
     rw [if_pos (by simp)]
   have nf:h'.objs.size≠Pt:=ybY (yay (lt h0) hsz);have lc:c0<s.heap.objs.size:=zad (I.hok c0 _ hc0).1;have ncf:c0≠h'.objs.size:=yaE (yay lc hsz);have J:=I.grown (t':=tk) (more:=#[]) (h':=h'.push (PySem.W.kla_obj "<lambda>" (X.env.qual++"<lambda>") params body scope clos ((X.mg "__name__").getD .none) c0 ctv)) h0 (fun b u _ e=>zab _ (hk b u e)) (by rw [Array.append_empty];exact zab _ (hk _ _ (I.hok Pt _ h0))) ⟨.inr hc0,zab _ (hk _ _ (I.hok c0 _ hc0).1)⟩ hsz (zaf _ rfl) ncf ncP;have hfn:H h'.objs.size=none:=I.hok.fresh hsz;refine q h'.objs.size c0 oc _ ctv _ tk _ Zac (by rw [Zai ncf,Zac]) hco hfn (fun b o n e=>?_) (.inr ⟨c0,oc,?_,?_,hco,ncP⟩) J
   . rw [Zai (Zaq e hfn)]
     by_cases z:b=c0
     . rw [z,Zac];rw [z,hc0] at e;exact e
     . rw [Zai z,Zai n];exact e
   . rw [Zai (Ne.symm nf),Zai (Ne.symm ncP),Zac,Array.append_empty]
   . rw [Zai ncf,Zac]
theorem Zfd (L:LamIn X pn caps ixs scope clos c Pt)(hdef:defaultsOf params X.env=([],[]))(hbnd:∀ (pm:Value) (c':Addr) (ctv u:Value),bindArgs (PySem.W.kla_fn "<lambda>" (X.env.qual++"<lambda>") params body scope clos pm (.ref c') ctv) ⟨[u],[]⟩=pure [(pn,u)])
   (hbody:∀ (base':Heap) (f c':Addr) (A:Around) (outer:List Env) (s:Shared) (H:Hp),Room k (A.deeper (PySem.W.envX (X.env.qual++"<lambda>") scope s.heap.objs.size f (.ref c') clos))->PE (cxLam X.prog X.w X.K X.mg base' (pn::caps) (X.env.qual++"<lambda>") scope f (.ref c') clos A outer s H) body tb)
   (Fg:∀ base',FnAt X.prog X.w X.K X.mg base' g ps kg (spg base')) (hr:Room kg X.A) (hg:Gl X g) (he1:PE X e1 te)
   (hs:starEach [e1,.Lambda params body scope lp] X.env=[(false,eval e1 X.env),(false,eval (.Lambda params body scope lp) X.env)]:=by rfl) (hs2:starEach [.Lambda params body scope lp] X.env=[(false,eval (.Lambda params body scope lp) X.env)]:=by rfl) (hdb:(g==("__debug__":Str))=false:=by decide) :
   PE X (.Call (.Name g p) [e1,.Lambda params body scope lp] [] pos) (tCallLam X.prog X.w X.K X.mg (k+1) pn ixs Pt (X.env.qual++"<lambda>") lp spg te tb):=by
 intro pins s σ H Q I h;obtain ⟨ff,fdf,_,mf,kp,_⟩:=Fg X.base;refine zal (ZdF I hg mf ?_ hdb);refine zaS (h₀:=X.base) I.ok.mod.kin kp ?_ (by rw [hs,hs2]) (by rw [hs2];rfl);rw [hs];show wpAny _ _ (spliced ((false,eval e1 X.env)::backTo pos [(false,eval (.Lambda params body scope lp) X.env)])) _ _ s;refine zaj (thn (he1 pins s σ H _ I h) fun u s1 ⟨v,H1,I1,r1,hv,htb,q⟩=>?_);show wpAny _ _ (spliced ((false,eval (.Lambda params body scope lp) X.env)::backTo pos [])) _ _ s1;refine zaj (make_lam L hdef I1 htb fun f c' oc pm ctv h' tk H2 e1 e2 e3 e4 e5 e6 J=>zao ⟨J.kIn,?_⟩);obtain ⟨f2,fd2,G,m2,_,b2⟩:=Fg (withCells h' X.base clos);have ef:f2=ff:=by have:=m2.symm.trans mf;cases this;rfl
 subst ef;have C:=cells_of L J hv;have FL:=fn_lam (P:=X.prog) (w:=X.w) (K:=X.K) (mg:=X.mg) (base:=withCells h' X.base clos) (k:=k) (f:=f) (c':=c') (oc:=oc) (name:="<lambda>") (params:=params) (body:=body) (pm:=pm) (ctv:=ctv) (tb:=tb) e3 L.sc C (hbody _ f c');have R:Ready X.prog X.w X.K X.mg (withCells h' X.base clos) (k+1) pn tb (ixs.map (valAt σ)) H1 H2 f:=⟨_,_,c',oc,e1,rfl,e2,e4,_,FL,Binds.all fun us hl=>by
   match us,hl with
   | [u],_=>exact hbnd pm c' ctv u⟩
 have hq:=q _ f H2 e5 e6 R;have e0:=J.env1 L;have hl:[u,Value.ref f].length=ps.length:=by have:=G.len _ _ _ _ hq;rw [<- this];rfl
 refine wpAny_call (zaY (G.run X.A X.stack _ H2 ⟨[u,.ref f],[]⟩ [u,.ref f] [v,.ref f] Q E0 hr e0 ?_ (.cons r1 (.cons rfl .nil)) hq) fun r s' hq=>?_)
 . have:=b2 { s1 with heap:=h',toks:=tk } [u,.ref f] J.kIn (by simpa using hl)
   simpa using this
 . cases r with
   | error e=>exact hq.elim
   | ok fl =>
     cases fl with
     | ret u=>exact J.after hq
     | next=>exact False.elim hq
     | brk=>exact False.elim hq
     | cont=>exact False.elim hq
end
end L2
namespace L2
open PySem PySem.Spec PyProof.Rows
def TabIn (base:Heap)(mg:Str->Option Value)(t:Addr × Addr):Prop:=PySem.W.CodeHd base t.1 t.2/\base.BuiltinsAt mg t.2/\mainGlobals≠t.2
theorem Zka {mb:Str->Option Value}{k:Nat}{fa a:Addr}{x:Str}{s₁:Shared}{vs:List Value}{ns:List Int}{tabs:List (Addr × Addr)}
   (KX:K.In s₁.heap) (hns:s₁.heap.Ns mainGlobals mg) (hb:s₁.heap.Ns builtinsNs mb) (hbb:∀ x:Str,x≠"__name__"->mb x=bootBuiltins x) (hlim:s₁.heap.NoLimit) (hg:s₁.gens=#[])
   (hbm:∃ bm ob,mg "__builtins__"=some (.ref bm)/\bm≠builtinsNs/\s₁.heap.get? bm=some ob/\ob.cls=.type "module"/\ob.dict=some builtinsNs/\ob.data=.plain)
   (hT:PySem.W.TabsAt tabs s₁.heap) (hKT:∀ t∈tabs,K.lookup t.2=none)
   (ha:s₁.heap.get? a=some { cls:=.type "list",data:=.seq vs.toArray }) (hi:IntsAre vs ns) (hl:ns.length<=sizeLine) (hr:Room k callerA)
   (F:∀ base:Heap,K.In base->base.Ns mainGlobals mg->(∀ t∈tabs,TabIn base mg t)->FnOk P w K mg base CX0 k fa fd [x] sp) (hbind:∀ (s:Shared) (u:Value),BindsTo s fd ⟨[u],[]⟩ [(x,u)])
   (hsp:∀ H:Hp,(∀ t∈tabs,H t.2=some (.tbl #[]))->SqL K H a (ns.map V.int)->sp [.ref a] H (fun v _=>v=.bl true) fun _ _ _=>False) :
   codeAny (model P w) callerA (.call (.ref fa) ⟨[.ref a],[]⟩) (fun r s'=>r=.ok (.ret (.bool true))/\OldK s₁.heap s'.heap/\s'.os=s₁.os/\AllBare s'.gens) s₁:=by
 have rv:=ZcH hi;have aT:a∉tabs.map (·.2):=fun z=>by
   obtain ⟨t,ht,e⟩:=yaJ.mp z;have:=(hT t ht).2;rw [e,ha] at this;cases this
 obtain ⟨H,hH⟩:∃ H:Hp,H=fun b=>if b∈tabs.map (·.2) then some (.tbl #[]) else if b=a/\K.lookup a=none then some (.frz { cls:=.type "list",data:=.seq vs.toArray } (.lst (ns.map V.int))) else none:=⟨_,rfl⟩
 have hTab:∀ t∈tabs,H t.2=some (.tbl #[]):=fun t ht=>by rw [hH];exact if_pos (yaJ.mpr ⟨t,ht,rfl⟩)
 have cases_:∀ b o,H b=some o->(b∈tabs.map (·.2)/\o=.tbl #[])\/(b=a/\K.lookup a=none/\o=.frz { cls:=.type "list",data:=.seq vs.toArray } (.lst (ns.map V.int))):=fun b o e=>by
   rw [hH] at e;dsimp only at e;by_cases z:b∈tabs.map (·.2)
   . rw [if_pos z] at e;cases e;exact .inl ⟨z,rfl⟩
   . rw [if_neg z] at e
     by_cases y:b=a/\K.lookup a=none
     . rw [if_pos y] at e;cases e;exact .inr ⟨y.1,y.2,rfl⟩
     . rw [if_neg y] at e;cases e
 have tabO:∀ b,b∈tabs.map (·.2)->s₁.heap.get? b=some (PySem.W.tabObj #[])/\K.lookup b=none:=fun b z=>by
   obtain ⟨t,ht,rfl⟩:=yaJ.mp z;exact ⟨(hT t ht).2,hKT t ht⟩
 have hok:HOk P w H s₁.heap:=fun b o e=>by
   rcases cases_ b o e with ⟨z,rfl⟩ | ⟨rfl,_,rfl⟩
   . exact (tabO b z).1
   . exact ⟨ha,by rw [yad];exact hl,vs,_,rv,ha⟩
 have base_of:∀ {b:Addr} {o:Obj},s₁.heap.get? b=some o->H b=none->(hidT s₁.heap H).get? b=some o:=fun e n=>ZhP e n
 have free_of:∀ {b:Addr} {o:Obj},s₁.heap.get? b=some o->o≠PySem.W.tabObj #[]->o≠{ cls:=.type "list",data:=.seq vs.toArray }->H b=none:=fun {b o} e n1 n2=>by
   cases q:H b with
   | none=>rfl
   | some u =>
     rcases cases_ b u q with ⟨z,_⟩ | ⟨z,_⟩
     . rw [(tabO b z).1] at e;cases e;exact absurd rfl n1
     . rw [z,ha] at e;cases e;exact absurd rfl n2
 have nsK:∀ {b:Addr} {m:Str->Option Value},s₁.heap.Ns b m->(hidT s₁.heap H).Ns b m:=fun {b m} ⟨o,es,ep,e,d,r⟩=>⟨o,es,ep,base_of e (free_of e (fun z=>by rw [z] at d;cases d) fun z=>by rw [z] at d;cases d),d,r⟩
 have hKb:K.In (hidT s₁.heap H):=fun b o e=>base_of (KX b o e) (by
   cases q:H b with
   | none=>rfl
   | some u =>
     rcases cases_ b u q with ⟨z,_⟩ | ⟨z,z2,_⟩
     . rw [(tabO b z).2] at e;cases e
     . rw [z,z2] at e;cases e)
 have hM:Mod K mg (hidT s₁.heap H):=⟨hKb,nsK hns,⟨mb,nsK hb,hbb⟩,let ⟨mc,h1,h2⟩:=hlim;⟨mc,nsK h1,h2⟩⟩
 have e0:Env0 P w K mg (hidT s₁.heap H) callerA [] s₁ H:=⟨rfl,hM,fun b o e=>Zi8 e,Nat.le_of_eq (ZfP _ _),trivial,fun b hb=>absurd (show b∈([]:List Addr) from hb) (by simp),hok,.of_eq hg⟩
 have hTI:∀ t∈tabs,TabIn (hidT s₁.heap H) mg t:=fun t ht=>by
   obtain ⟨o,vs0,file,tf,flags,tg,inF,text,tt,c1,c2,c3,rest⟩:=(hT t ht).1;obtain ⟨bm,ob,b1,b2,b3,b4,b5,b6⟩:=hbm;obtain ⟨og,es,ep,g1,g2,_⟩:=hns;refine ⟨⟨o,vs0,file,tf,flags,tg,inF,text,tt,base_of c1 (free_of c1 (fun z=>by rw [z] at c2;cases c2) fun z=>by rw [z] at c3;cases c3),c2,c3,rest⟩,⟨bm,ob,b1,b2,fun z=>?_,fun z=>?_,base_of b3 (free_of b3 (fun z=>by rw [z] at b4;cases b4) fun z=>by rw [z] at b6;cases b6),b4,b5,b6⟩,fun z=>?_⟩
   . rw [z,g1] at b3;cases b3;rw [g2] at b6;cases b6
   . have:=(hT t ht).2;rw [<- z,b3] at this;cases this;cases b4
   . have:=(hT t ht).2;rw [<- z,g1] at this;cases this;cases g2
 have hSq:SqL K H a (ns.map V.int):=by
   cases hk:K.lookup a with
   | some o =>
     have e:=KX a o hk;rw [ha] at e;cases e;exact .inr ⟨_,vs.toArray,_,hk,rfl,rfl,rfl,by rw [yaB,hi.length];exact hl,by simpa using rv⟩
   | none =>
     refine .inl (.inr ⟨{ cls:=.type "list",data:=.seq vs.toArray },?_⟩);rw [hH];exact (if_neg aT).trans (if_pos ⟨rfl,hk⟩)
 refine zaY ((F _ hKb (nsK hns) hTI).run callerA [] s₁ H ⟨[.ref a],[]⟩ [.ref a] [.ref a] _ _ hr e0 (hbind s₁ (.ref a)) (.cons rfl .nil) (hsp H hTab hSq)) fun r s' h=>?_
 cases r with
 | error e=>exact h.elim
 | ok fl =>
   cases fl with
   | next=>exact False.elim h
   | brk=>exact False.elim h
   | cont=>exact False.elim h
   | ret u =>
     obtain ⟨v,H',os,bare,un,hok',r',q⟩:=h;have q':v=.bl true:=q;subst q';obtain rfl:u=Value.bool true:=r';refine ⟨rfl,⟨fun b o e=>?_,fun b o e=>un.there b o e (by simp)⟩,os,bare⟩;cases q:H b with
     | none=>exact .inl (un.keep b o e q (by intro z;exact absurd (show b∈([]:List Addr) from z) (by simp)) (by simp))
     | some u =>
       rcases cases_ b u q with ⟨z,rfl⟩ | ⟨z,z2,rfl⟩
       . obtain ⟨t,ht,rfl⟩:=yaJ.mp z
         rw [(hT t ht).2] at e;cases e;obtain ⟨more,hm⟩:=un.tbls _ _ q;have hP:=hok' _ _ hm;exact .inr (.inl ⟨((hT t ht).1.tab (hT t ht).2).isCodeTable,rfl,#[],more,rfl,hP⟩)
       . have e2:=(hok' _ _ (un.frzs b _ _ q)).1
         rw [z,ha] at e;cases e;exact .inl e2
end L2
namespace Att
open PySem PySem.Spec PyProof.Rows PySem.W
theorem ZfN:∀ {ns:List Int} {z:Int},z∈ns->Builtin.Int.intBits z<=WData.weightAll (ns.map WData.int)
 | n::r,_,.head _=>by
   show _<=WData.weight (.int n)+1+WData.weightAll (r.map WData.int);have:WData.weight (.int n)=Builtin.Int.intBits n:=by simp only [WData.weight,Builtin.Int.intBits]
   omega
 | n::r,z,.tail _ h=>by
   show _<=WData.weight (.int n)+1+WData.weightAll (r.map WData.int);have:=ZfN h;omega
theorem attach_bits {l:OpenLaw}{n:Nat}{q:Program}{loose:List Str}{YP:World->Heap->Prop}{d:DefRec}(hn:l.most=some n)(hdf:d.params.defaults=[])
   (call:∀ (w:World) (s₀ s₁:Shared) (mg mb:Str->Option Value) (fa a:Addr) (vs:List Value) (ns:List Int),Ground q loose [] XP w s₀ mg mb s₁.heap->YP w s₁.heap->mg d.name=some (.ref fa) ->
     s₁.heap.get? a=some { cls:=.type "list",data:=.seq vs.toArray }->IntsAre vs ns->ns.length<=n->(∀ z∈ns,Builtin.Int.intBits z<=2^20)->s₁.gens=#[] ->
     codeAny (model l.prog w) callerA (.call (.ref fa) ⟨[.ref a],[]⟩) (fun r s'=>r=.ok (.ret (.bool true))/\OldK s₁.heap s'.heap/\s'.os=s₁.os/\AllBare s'.gens) s₁) :
   WalkO q loose XP YP l.row.toRowW d [] (fun f vs=>PySem.call f vs):=by
 intro w s₀ s₁ mg mb G Y fa o pm cd doc dV kV ho hd hcd hD hmg hg args vals as hpre hlay hrd hwl hlo;obtain ⟨a,vs,ns,rfl,rfl,hobj,hints,hlen⟩:=Zjs hn hpre hwl;have hbits:∀ z∈ns,Builtin.Int.intBits z<=2^20:=fun z hz=>by
   have h1:WData.layable (WData.list (ns.map WData.int))=true:=by have h2:([WData.list (ns.map WData.int)].all WData.layable)=true:=hlay;simpa using h2
   unfold WData.layable at h1;simp only [ybE,yaz] at h1;have h3:WData.weightAll (ns.map WData.int)<=2^20:=h1.2;exact yaN (ZfN hz) h3
 refine enter_call (zaY (call w s₀ s₁ mg mb fa a vs ns G Y hmg hobj hints hlen hbits hg) fun r s' ⟨e,h2,h3,h4⟩=>?_);subst e;exact ⟨.inl ⟨.bool true,.bool true,[],rfl,fun _=>rfl,.bool true,Zj4 l _,fun _=>⟨List.Pairwise.nil,fun _ hm=>(nomatch hm)⟩⟩,h2,h3,h4⟩
end Att
namespace L2
open PySem PySem.Spec PyProof.Rows
theorem walk_ofT {l:PySem.W.OpenLaw} {n k:Nat} {q:Program} {loose:List Str} {YP:World->Heap->Prop} {d:DefRec} {K:Params->ZFr} {tabs:World->List (Addr × Addr)} {sp:World->Sp} {x:Str}
   (hn:l.most=some n) (hn2:n<=sizeLine) (hdf:d.params.defaults=[]) (hr:Room k callerA)
   (hY:∀ (w:World) (h:Heap),YP w h->(K w.params).In h)
   (hT:∀ (w:World) (s₀:Shared) (mg mb:Str->Option Value) (h:Heap),PySem.W.Ground q loose [] XP w s₀ mg mb h->(K w.params).In h->PySem.W.TabsAt (tabs w) h) (hKT:∀ w,∀ t∈tabs w,(K w.params).lookup t.2=none)
   (F:∀ (w:World) (mg:Str->Option Value) (fa:Addr) (h:Heap),(K w.params).In h->h.Ns mainGlobals mg->mg d.name=some (.ref fa) ->
     ∃ fd:FuncData,(∀ (s:Shared) (u:Value),BindsTo s fd ⟨[u],[]⟩ [(x,u)]) /\
       ∀ base:Heap,(K w.params).In base->base.Ns mainGlobals mg->(∀ t∈tabs w,TabIn base mg t)->FnOk l.prog w (K w.params) mg base CX0 k fa fd [x] (sp w))
   (hsp:∀ (w:World) (H:Hp) (a:Addr) (ns:List Int),ns.length<=n->(∀ z∈ns,Builtin.Int.intBits z<=2^20)->(∀ t∈tabs w,H t.2=some (.tbl #[]))->SqL (K w.params) H a (ns.map V.int)->sp w [.ref a] H (fun v _=>v=.bl true) fun _ _ _=>False) :
   PySem.W.WalkO q loose XP YP l.row.toRowW d [] (fun f vs=>PySem.call f vs):=by
 refine Att.attach_bits hn hdf fun w s₀ s₁ mg mb fa a vs ns G Y hmg hobj hints hlen hbits hg=>?_
 have KX:=hY w _ Y;obtain ⟨fd,hb,hF⟩:=F w mg fa _ KX G.T.g hmg;exact Zka KX G.T.g G.T.b G.T.builtins G.T.nolimit hg G.T.bmain (hT w s₀ mg mb _ G KX) (hKT w) hobj hints (yaN hlen hn2) hr hF hb fun H h1 h2=>hsp w H a ns hlen hbits h1 h2
theorem op_mulG:OpR X (binaryOp .Mult) (rI IntMulOk fun i j=>.int (i*j)):=opI fun _ _ _ _ _ _ _ hc q=>mul_int q hc
theorem ZhT {i j:Int}(h1:Builtin.Int.intBits i<=2^20)(h2:Builtin.Int.intBits j<=2^20):IntMulOk i j:=by
 unfold IntMulOk Builtin.Int.intTooBig;have:¬ (((Builtin.Int.intBits i:Int)+(Builtin.Int.intBits j:Int)) > ((bitsLine:Nat):Int)):=by have hb:bitsLine=2^27:=rfl;rw [hb];omega
 simp [this]
end L2
namespace L2
open PySem PySem.Spec PyProof.Rows
def DefAtC (K:ZFr)(mg:Str->Option Value)(x:Str)(st:Stmt)(ps:List Str)(c:Addr):Prop:=∃ f fd,Fun K x x st f fd/\mg x=some (.ref f)/\Binds K fd ps []/\fd.code=.ref c
theorem FnAt.ofC {x:Str}{ps:List Str}{k:Nat}{c:Addr}(d:DefAtC K mg x st ps c)(S:FnScope N ps (defScope st))(len:∀ vs H Q E,sp vs H Q E->vs.length=ps.length)
   (hbody:∀ (f:Addr) (A:Around) (outer:List Env) (s:Shared) (H:Hp) (vs:List V) (Q:VK) (E:XK),Room k (A.deeper (envOfC x (defScope st) s.heap.objs.size f (.ref c)))->sp vs H Q E ->
     ∃ t,PSs (cxOf CX0 P w K mg base N x (defScope st) f (.ref c) A outer s H E).nox (defBody st) t/\t { nx:=fun _ H'=>Q .non H',rt:=Q } (start N vs) H):FnAt P w K mg base x ps (k+1) sp:=by
 obtain ⟨f,fd,F,m,b,hc⟩:=d;refine ⟨f,fd,?_,m,F.kp,b⟩;obtain ⟨oc,od,kV,doc,pm,an,cdv,ct,osl,rfl,lk,hcd⟩:=F.ex;have hc:cdv=.ref c:=hc;subst hc;refine fn_of lk hcd S len fun A outer s H vs Q E hr hsp=>?_
 obtain ⟨t,h,q⟩:=hbody f A outer s H vs Q E hr hsp;exact ⟨t,h.nox,q⟩
theorem ZeE {p:Str}{caps:List Str}(h1:sc.kind=.function)(h2:sc.isCoroutine=false)(h3:sc.isGenerator=false)(h4:(p::caps).Nodup)(h5:sc.names.lookup p=some .local)(h6:∀ x∈caps,sc.names.lookup x=some .free)(h7:∀ q∈sc.names,q.2=.free->q.1∈caps)(h8:∀ q∈sc.names,q.2≠.cell):LamScope p caps sc :=
 ⟨h1,h2,h3,h4,h5,h6,fun x hx=>h7 _ (zat hx) rfl,h8⟩
def AllIn (cells:List (Str × Addr)):List (Str × Addr)->Prop
 | []=>True
 | p::r=>cells.lookup p.1=some p.2/\AllIn cells r
theorem AllIn.mem {cells:List (Str × Addr)}:∀ {l:List (Str × Addr)},AllIn cells l->∀ p∈l,cells.lookup p.1=some p.2
 | _::_,h,_,.head _=>h.1
 | _::_,h,_,.tail _ hp=>h.2.mem _ hp
def IxOk (N:List Str)(sc:Scope)(clos:List (Str × Addr)):List Str->List Nat->Prop
 | [],[]=>True
 | y::cs,j::js=>(N[j]?=some y/\sc.names.lookup y=some .cell/\∃ a,clos.lookup y=some a)/\IxOk N sc clos cs js
 | _,_=>False
theorem IxOk.get:∀ {cs:List Str} {js:List Nat},IxOk N sc clos cs js->js.length=cs.length/\∀ (i:Nat) (y:Str),cs[i]?=some y->∃ (j:Nat) (a:Addr),js[i]?=some j/\N[j]?=some y/\sc.names.lookup y=some .cell/\clos.lookup y=some a
 | [],[],_=>⟨rfl,fun i y h=>by cases h⟩
 | [],_::_,h=>h.elim
 | _::_,[],h=>h.elim
 | y::cs,j::js,⟨⟨h1,h2,a,h3⟩,h4⟩=>by
   obtain ⟨l,g⟩:=IxOk.get h4;refine ⟨by rw [yan,yan,l],fun i z hz=>?_⟩;cases i with
   | zero=>cases (show y=z from Option.some.inj hz);exact ⟨j,a,rfl,h1,h2,h3⟩
   | succ i=>exact g i z hz
section
variable {x pn:Str}{c Pt:Addr}{outer:List Env}{E:XK}{caps:List Str}{ixs:List Nat}
theorem Zg0 (T:TabIn base mg (c,Pt))(S:LamScope pn caps scope)(cl:closureFor scope (envOfC x sc s.heap.objs.size f (.ref c))=pure clos)(al:AllIn (envOfC x sc s.heap.objs.size f (.ref c)).cells clos)(ix:IxOk N sc clos caps ixs) :
   LamIn (cxOf CX0 P w K mg base N x sc f (.ref c) A outer s H E).nox pn caps ixs scope clos c Pt :=
 ⟨S,rfl,T.1,cl,fun y a h=>al.mem _ (zat h),ix.get.2,ix.get.1,fun _=>rfl,T.2.1,T.2.2⟩
end
end L2
namespace L2
open PySem PySem.Spec PyProof.Rows
def tabAt (K:ZFr)(x:Str):Addr × Addr:=(PySem.W.tabIn K x).getD (0,0)
def tabsOk (K:ZFr)(xs:List Str):Bool:=xs.all (fun x=>(PySem.W.tabIn K x).isSome&&(K.lookup (tabAt K x).2).isNone)&&decide ((xs.map fun x=>(tabAt K x).2).Nodup)
def recsOk (q:Program)(xs:List Str):Bool:=xs.all fun x=>((recsOf q).find? fun e=>e.name==x).isSome
theorem Zen {xs:List Str}(h:tabsOk K xs=true){x:Str}(hx:x∈xs):PySem.W.tabIn K x=some (tabAt K x)/\K.lookup (tabAt K x).2=none:=by unfold tabsOk at h;rw [ybE] at h;have:=List.all_eq_true.mp h.1 x hx;rw [ybE] at this;refine ⟨?_,by simpa using this.2⟩;obtain ⟨t,ht⟩:=ybG.mp this.1;unfold tabAt;rw [ht];rfl
theorem Zgp {xs:List Str}(h:tabsOk K xs=true):(xs.map fun x=>(tabAt K x).2).Nodup:=by unfold tabsOk at h;rw [ybE] at h;exact ybo h.2
theorem DefAt.toC {x:Str}{ps:List Str}{t:Addr × Addr}(X:K.In h)(G:h.Ns mainGlobals mg)(d:DefAt K mg x st ps)(ht:PySem.W.tabIn K x=some t):DefAtC K mg x st ps t.1:=by obtain ⟨f,fd,F,m,b⟩:=d;refine ⟨f,fd,F,m,b,?_⟩;obtain ⟨oc,od,kV,doc,pm,an,cdv,ct,osl,rfl,lk,hcd⟩:=F.ex;exact PySem.W.law_code (c:=t.1) (P:=t.2) X G ht m (X _ _ lk) rfl
theorem walk_tabs {l:PySem.W.OpenLaw} {n k:Nat} {q:Program} {loose:List Str} {YP:World->Heap->Prop} {d:DefRec} {K:Params->ZFr} {sp:World->Sp} {x:Str} (xs:List Str)
   (hn:l.most=some n) (hn2:n<=sizeLine) (hdf:d.params.defaults=[]) (hr:Room k callerA)
   (hY:∀ (w:World) (h:Heap),YP w h->(K w.params).In h) (ok:∀ P,tabsOk (K P) xs=true) (rok:recsOk q xs=true)
   (F:∀ (w:World) (mg:Str->Option Value) (fa:Addr) (h:Heap),(K w.params).In h->h.Ns mainGlobals mg->mg d.name=some (.ref fa) ->
     ∃ fd:FuncData,(∀ (s:Shared) (u:Value),BindsTo s fd ⟨[u],[]⟩ [(x,u)]) /\
       ∀ base:Heap,(K w.params).In base->base.Ns mainGlobals mg->(∀ y∈xs,TabIn base mg (tabAt (K w.params) y))->FnOk l.prog w (K w.params) mg base CX0 k fa fd [x] (sp w))
   (hsp:∀ (w:World) (H:Hp) (a:Addr) (ns:List Int),ns.length<=n->(∀ z∈ns,Builtin.Int.intBits z<=2^20)->(∀ y∈xs,H (tabAt (K w.params) y).2=some (.tbl #[]))->(xs.map fun x=>(tabAt (K w.params) x).2).Nodup->SqL (K w.params) H a (ns.map V.int)->sp w [.ref a] H (fun v _=>v=.bl true) fun _ _ _=>False) :
   PySem.W.WalkO q loose XP YP l.row.toRowW d [] (fun f vs=>PySem.call f vs):=by
 refine walk_ofT (x:=x) (tabs:=fun w=>xs.map (tabAt (K w.params))) hn hn2 hdf hr hY (fun w s₀ mg mb h G KX=>?_) (fun w t ht=>?_) (fun w mg fa h KX G m=>?_) fun w H a ns h1 h2 h3 h4=>hsp w H a ns h1 h2 (fun y hy=>h3 _ (yaJ.mpr ⟨y,hy,rfl⟩)) (Zgp (ok _)) h4
 . intro t ht
   obtain ⟨y,hy,rfl⟩:=yaJ.mp ht;obtain ⟨r,hr⟩:=ybG.mp (List.all_eq_true.mp rok y hy);exact PySem.W.tab_of G.T KX hr (Zen (ok _) hy).1
 . obtain ⟨y,hy,rfl⟩:=yaJ.mp ht
   exact (Zen (ok _) hy).2
 . obtain ⟨fd,hb,hF⟩:=F w mg fa h KX G m
   exact ⟨fd,hb,fun base h1 h2 h3=>hF base h1 h2 fun y hy=>h3 _ (yaJ.mpr ⟨y,hy,rfl⟩)⟩
end L2
namespace L2
open PySem PySem.Spec PyProof.Rows
def noT (H:Hp):Hp:=fun b=>match H b with
 | some (.tbl _)=>none
 | o=>o
section
variable {H2:Hp}{b l Pt:Addr}{o o':HO}{q:Str}{lp:Pos}
theorem Zan (e:H b=some o)(n:∀ ts,o≠.tbl ts):noT H b=some o:=by unfold noT;rw [e];cases o<;>first | rfl | exact absurd rfl (n _)
theorem Zae (e:noT H b=some o):H b=some o/\∀ ts,o≠.tbl ts:=by
 unfold noT at e;split at e
 . cases e
 . rename_i h
   refine ⟨e,fun ts z=>?_⟩;rw [z] at e;exact h _ e
theorem ZaU (e:H b=none):noT H b=none:=by unfold noT;rw [e]
theorem noT_sub:Same (noT H) H:=fun _ _ e=>(Zae e).1
theorem Same.noT (s:Same H H'):Same (noT H) (noT H'):=fun b o e=>Zan (s _ _ (Zae e).1) (Zae e).2
theorem Zci (n:∀ ts,o≠.tbl ts)(hb:H b=none\/∃ o',noT H b=some o'):noT (upd H b o)=upd (noT H) b o:=by
 funext c;by_cases z:c=b
 . rw [z,Zac]
   exact Zan Zac n
 . rw [Zai z]
   unfold L2.noT;rw [Zai z]
theorem nl (xs:List V)(ts:Array Value):HO.lst xs≠.tbl ts:=fun z=>by cases z
theorem nt (xs:List V)(ts:Array Value):HO.tup xs≠.tbl ts:=fun z=>by cases z
theorem ni (C dx:Addr)(fs:List (Str × V))(ts:Array Value):HO.ins C dx fs≠.tbl ts:=fun z=>by cases z
theorem nd (kvs:List (Key × V))(ts:Array Value):HO.dK kvs≠.tbl ts:=fun z=>by cases z
theorem Tb.ne (h:Tb H Pt q lp)(e:H b=some o)(n:∀ ts,o≠.tbl ts):b≠Pt:=fun z=>by
 rcases h with h | ⟨_,_,h,_⟩<;>(rw [<- z,e] at h;exact n _ (Option.some.inj h))
theorem Tb.sameT {P1 P2:Addr}{q1 q2:Str}{l1 l2:Pos}(h:Tb H P2 q2 l2)(s:SameT P1 H H')(t:Tb H P1 q1 l1)(n:P2≠P1):Tb H' P2 q2 l2:=by
 rcases h with h | ⟨c,oc,h1,h2,h3⟩
 . exact .inl (s _ _ n h)
 . exact .inr ⟨c,oc,s _ _ n h1,s _ _ (Tb.ne t h2 fun _ z=>by cases z) h2,h3⟩
def Soft:HO->Prop
 | .tbl _=>False
 | .frz _ _=>False
 | _=>True
theorem Tb.put (h:Tb H Pt q lp)(e:H l=some o)(n:Soft o):Tb (upd H l o') Pt q lp:=by
 have ne:l≠Pt:=Tb.ne h e fun ts z=>by rw [z] at n;exact n
 rcases h with h | ⟨c,oc,h1,h2,h3⟩
 . exact .inl (by rw [Zai (Ne.symm ne)];exact h)
 . refine .inr ⟨c,oc,by rw [Zai (Ne.symm ne)];exact h1,?_,h3⟩
   have:c≠l:=fun z=>by rw [z,e] at h2;cases h2;exact n
   rw [Zai this];exact h2
end
abbrev Tabs:=List (Addr × Str × Pos)
def Tbs (ts:Tabs)(H:Hp):Prop:=∀ t∈ts,Tb H t.1 t.2.1 t.2.2
def TabsUq (ts:Tabs):Prop:=∀ t∈ts,∀ u∈ts,t.1=u.1->t=u
structure Nx (ts:Tabs)(H H':Hp):Prop where
 same:Same (noT H) (noT H')
 tb:Tbs ts H'
structure Nb (ts:Tabs)(m:Addr)(H H':Hp):Prop where
 same:∀ b o,b≠m->noT H b=some o->noT H' b=some o
 tb:Tbs ts H'
section
variable {ts:Tabs}{H2:Hp}{b l m:Addr}{o o':HO}
theorem Tbs.same (h:Tbs ts H)(s:Same H H'):Tbs ts H':=fun t ht=>Tb.same (h t ht) s
theorem Tbs.nx (h:Tbs ts H)(s:Same H H'):Nx ts H H':=⟨s.noT,h.same s⟩
theorem Tbs.put (h:Tbs ts H)(e:H l=some o)(n:Soft o):Tbs ts (upd H l o'):=fun t ht=>Tb.put (h t ht) e n
theorem Nx.refl (h:Tbs ts H):Nx ts H H:=⟨fun _ _ e=>e,h⟩
theorem Nx.trans (a:Nx ts H H')(b:Nx ts H' H2):Nx ts H H2:=⟨a.same.trans b.same,b.tb⟩
theorem Nx.at (a:Nx ts H H')(e:noT H b=some o):noT H' b=some o:=a.same _ _ e
theorem Nx.free (a:Nx ts H H')(e:noT H' b=none):noT H b=none:=a.same.free e
theorem Nx.nb (a:Nx ts H H'):Nb ts m H H':=⟨fun b o _ e=>a.same _ _ e,a.tb⟩
theorem Nb.trans (a:Nb ts m H H')(b:Nb ts m H' H2):Nb ts m H H2:=⟨fun c o n e=>b.same _ _ n (a.same _ _ n e),b.tb⟩
theorem Nx.new (h:Tbs ts H)(e:H l=none):Nx ts H (upd H l o'):=h.nx (Same.new e)
theorem Nx.put (a:Nx ts H H')(e:noT H l=none)(e':H' l=some o)(n:Soft o):Nx ts H (upd H' l o'):=by
 refine ⟨fun b x z=>?_,a.tb.put e' n⟩;have z2:=Zae (a.same _ _ z);have:b≠l:=fun y=>by rw [y,e] at z;cases z
 exact Zan (by rw [Zai this];exact z2.1) z2.2
theorem Nb.put (a:Nb ts m H H')(e':H' m=some o)(n:Soft o):Nb ts m H (upd H' m o'):=by refine ⟨fun b x y z=>?_,a.tb.put e' n⟩;have z2:=Zae (a.same _ _ y z);exact Zan (by rw [Zai y];exact z2.1) z2.2
theorem Nb.of_new (a:Nb ts m H H')(e:noT H m=none):Nx ts H H':=⟨fun b o z=>a.same _ _ (fun y=>by rw [y,e] at z;cases z) z,a.tb⟩
theorem Tbs.grow {P1:Addr}{q1:Str}{l1:Pos}(u:TabsUq ts)(h:Tbs ts H)(hm:(P1,q1,l1)∈ts)(s:SameT P1 H H')(t':Tb H' P1 q1 l1):Nx ts H H':=by
 have t:=h _ hm;refine ⟨fun b o e=>?_,fun x hx=>?_⟩
 . obtain ⟨e1,e2⟩:=Zae e
   exact Zan (s _ _ (Tb.ne t e1 e2) e1) e2
 . by_cases z:x.1=P1
   . have:=u x hx _ hm z
     rw [this];exact t'
   . exact Tb.sameT (h x hx) s t z
theorem SqL.noT {a:Addr}(h:SqL K (noT H) a xs):SqL K H a xs:=noT_sub.seq h
end
section
variable {x m:Str}{ps:List Str}{j k:Nat}{sp':Sp}
theorem FnAt.imp (F:FnAt P w K mg base x ps k sp)(h:∀ vs H Q E,sp' vs H Q E->sp vs H Q E):FnAt P w K mg base x ps k sp':=by obtain ⟨f,fd,a,b⟩:=F;exact ⟨f,fd,a.imp h,b⟩
end
end L2
namespace L2
open PySem PySem.Spec PyProof.Rows Srt SG
theorem hu1 {k:Nat}(hr:Room k A):A.units+1<cLine:=ybL (by omega) (hu64 hr)
section
variable {td ty tx tv:TE}{Q:VK}
end
theorem Zdk:∀ {vs:List Value} {ns:List Int},vs.length=ns.length->(∀ (j:Nat) (v:Value),vs[j]?=some v->∃ i t,ns[j]?=some i/\v=Value.int i t)->IntsAre vs ns
 | [],[],_,_=>.nil
 | [],_::_,h,_=>by cases h
 | _::_,[],h,_=>by cases h
 | v::vs,n::ns,h,g=>by
   obtain ⟨i,t,e,rfl⟩:=g 0 v rfl;cases (show n=i from Option.some.inj e);exact .cons n t (Zdk (Nat.succ.inj h) fun j v e=>g (j+1) v e)
section
variable {x:Str}{p pos:Pos}
theorem Zey {ps:List Str}{k:Nat}(F:MakeAt X.prog X.w X.K X.mg X.base x C ps k sp)(hr:Room (k+1) X.A)(hg:Gl X x)(hdb:(x==("__debug__":Str))=false:=by decide):PE X (.Call (.Name x p) [] [] pos) (tMake C sp [] E0 tNil):=by obtain ⟨hm,f,fd,M,F,b⟩:=F;exact pe_make0 M F hr hg hm b .nil pass0 hdb
end
def rSortD:List V->Hp->VK->Prop:=fun xs H Q=>∃ (a:Addr) (kvs:List (Key × V)) (ns:List Int),xs=[.ref a]/\H a=some (.dK kvs)/\kvs.map (·.1)=ns.map Sum.inl/\∀ (l:Addr) (ns':List Int),H l=none->ns'.Perm ns->ns'.Pairwise (·<=·)->Q (.ref l) (upd H l (.lst (ns'.map V.int)))
theorem Zc1 (hc:X.calm=true:=by rfl):CallR X (.builtin "sorted") rSortD:=by
 intro pins s σ H xs us Q I r h;obtain ⟨a,kvs,ns,rfl,ha,hk,q⟩:=h;obtain ⟨u,rfl,ru⟩:=r.one;cases (show u=Value.ref a from ru);obtain ⟨hz,lo,vs,kv,o,es,ep,g1,g2,g3,g4,g5,g6⟩:=Zga I.hok ha;have lk:kvs.length=vs.length:=kv.length;have ln:ns.length=kvs.length:=by have:=congrArg List.length hk;rw [yad,yad] at this;exact this.symm
 refine Calls.call_function_entry kind_sorted plain_sorted entry_sorted (args_sorted1 _) ?_;unfold Builtin.«sorted»;refine zaa (m:=checkCount "sorted" 1 1 _) (zac ?_);refine zaa (PySem.W.kdu_collect (A:=X.A.in1) (PySem.W.kdl_dict (knd:=mixKind X.prog X.w) (kvs:=vs) (ep:=ep) lo) (show X.A.in1.handled=none from I.ok.hd hc) ⟨o,es,g1,g2,g3,g4,g5,g6⟩ (by omega) fun h1 tk acc old hacc=>?_);have hi:IntsAre acc.toList ns:=by
   refine Zdk (by rw [yam,hacc.1];omega) fun j v hv=>?_
   obtain ⟨k,y,e1,e2⟩:=hacc.2 j v (by rw [<- yaD];exact hv);have ek:(vs.map (·.1))[j]?=some k:=by rw [yav,e1];rfl
   rw [<- kv.keys,hk,yav] at ek;cases en:ns[j]? with
   | none=>rw [en] at ek;cases ek
   | some i =>
     rw [en] at ek;cases (show Sum.inl i=k from Option.some.inj ek);rw [ZhS] at e2;rcases ZaH e2 with ⟨i',t,z1,z2⟩ | ⟨x,t,z1,z2⟩
     . cases z1
       exact ⟨i,t,rfl,z2⟩
     . cases z1
 have lv:acc.toList.length<=sizeLine:=by rw [IntsAre.length hi];omega
 refine zaa (wpAny_newList ?_ (by simpa using lv));have oL:(h1.push (seqObj "list" acc.toList.toArray 0)).get? h1.objs.size=some (seqObj "list" acc.toList.toArray 0):=zaf _ rfl;show wpAny _ _ _ _ _ { s with heap:=h1.push (seqObj "list" acc.toList.toArray 0),toks:=tk };refine zaa (zaw (zaD slot_list_sort ⟨_,oL,rfl⟩ entry_list_sort (Srt.sort_ints oL hi lv fun out ns' g1 g2 g3=>⟨_,rfl,?_⟩) (args_list_sort _)));obtain ⟨e,he⟩:=sortedHeap_at (out:=out) oL;have I1:Inv X pins σ H { s with heap:=h1,toks:=tk }:=I.kept old;have lo2:(ns'.map V.int).length<=sizeLine:=by rw [yad,g2.length_eq];omega
 refine zac ⟨_,rfl,.ref h1.objs.size,_,I1.laid (t':=tk) (o:=.lst (ns'.map V.int)) (fun b u e2=>?_) (yag _) ⟨lo2,out.toList,e,ZcH g1,by rw [Array.toArray_toList];exact he⟩,rfl,q _ ns' (I1.hok.fresh (yag _)) g2 g3⟩;have lb:b<h1.objs.size:=zad e2;rw [sortedHeap_old (yaE lb) (by rw [size_push'];exact ybd lb)];exact zab _ e2
end L2
namespace BM
structure Ent where
 key:Nat
 ps:List Nat
 loc:Nat
def kys (es:List Ent):List Nat:=es.map (·.key)
def tot:List Ent->Nat
 | []=>0
 | e::r=>e.ps.length+tot r
def ahs:Nat->List Ent->List Nat
 | _,[]=>[]
 | a,e::r=>a::ahs (a+e.ps.length) r
def flat:List Ent->List Nat
 | []=>[]
 | e::r=>e.ps.map (fun p=>256*e.key+p)++flat r
structure EsOk (es:List Ent):Prop where
 up:Up 0 (kys es)
 klt:∀ e∈es,e.key<256
 pup:∀ e∈es,Up 0 e.ps
 plt:∀ e∈es,∀ p∈e.ps,p<256
 ne:∀ e∈es,e.ps≠[]
def loE (k:Nat)(es:List Ent):List Ent:=es.filter fun e=>decide (e.key<k)
def miE (k:Nat)(es:List Ent):List Ent:=es.filter fun e=>decide (e.key=k)
def hiE (k:Nat)(es:List Ent):List Ent:=es.filter fun e=>decide (k<e.key)
def plcE (k:Nat)(es:List Ent):List Nat:=match miE k es with
 | []=>[]
 | e::_=>e.ps
def keepE (k:Nat)(ps:List Nat)(a:Nat)(es:List Ent):List Ent:=loE k es++(if ps=[] then [] else [⟨k,ps,a⟩])++hiE k es
theorem above {k:Nat}{es:List Ent}(h:∀ e∈es,k<e.key):loE k es=[]/\miE k es=[]/\hiE k es=es:=by
 refine ⟨ybi.mpr fun e he=>?_,ybi.mpr fun e he=>?_,ybU.mpr fun e he=>?_⟩
 . have:=h e he;simp;omega
 . have:=h e he;simp;omega
 . exact yak (h e he)
theorem Zjf {a:Nat}{es:List Ent}(h:Up a (kys es)):∀ e∈es,a<=e.key:=fun e he=>h.of_lt _ (yaJ.mpr ⟨e,he,rfl⟩)
theorem split:∀ {a:Nat} {es:List Ent} (k:Nat),Up a (kys es)->es=loE k es++miE k es++hiE k es
 | _,[],_,_=>rfl
 | a,e::r,k,h=>by
   obtain ⟨h1,h2⟩:a<=e.key/\Up (e.key+1) (kys r):=h;have ab:=Zjf h2;rcases Nat.lt_trichotomy e.key k with c | c | c
   . have ih:=split k h2
     have e1:loE k (e::r)=e::loE k r:=ycj (yak c);have e2:miE k (e::r)=miE k r:=ybA (by simp;omega);have e3:hiE k (e::r)=hiE k r:=ybA (by simp;omega);rw [e1,e2,e3,ybM,ybM,<- ih]
   . obtain ⟨a1,a2,a3⟩:=above (k:=k) (es:=r) fun x hx=>by have:=ab x hx;omega
     have e1:loE k (e::r)=loE k r:=ybA (by simp;omega);have e2:miE k (e::r)=e::miE k r:=ycj (yak c);have e3:hiE k (e::r)=hiE k r:=ybA (by simp;omega);rw [e1,e2,e3,a1,a2,a3];rfl
   . obtain ⟨a1,a2,a3⟩:=above (k:=k) (es:=r) fun x hx=>by have:=ab x hx;omega
     have e1:loE k (e::r)=loE k r:=ybA (by simp;omega);have e2:miE k (e::r)=miE k r:=ybA (by simp;omega);have e3:hiE k (e::r)=e::hiE k r:=ycj (yak c);rw [e1,e2,e3,a1,a2,a3];rfl
theorem Zbh:∀ {a:Nat} {es:List Ent} (k:Nat),Up a (kys es)->miE k es=[]\/∃ e,miE k es=[e]/\e.key=k/\e∈es
 | _,[],_,_=>.inl rfl
 | a,e::r,k,h=>by
   obtain ⟨h1,h2⟩:a<=e.key/\Up (e.key+1) (kys r):=h;by_cases c:e.key=k
   . obtain ⟨a1,a2,a3⟩:=above (k:=k) (es:=r) fun x hx=>by have:=Zjf h2 x hx;omega
     have e2:miE k (e::r)=e::miE k r:=ycj (yak c);exact .inr ⟨e,by rw [e2,a2],c,.head _⟩
   . have e2:miE k (e::r)=miE k r:=ybA (by simp;omega)
     rw [e2];rcases Zbh k h2 with z | ⟨x,z1,z2,z3⟩
     . exact .inl z
     . exact .inr ⟨x,z1,z2,.tail _ z3⟩
theorem Zet {k:Nat}{es:List Ent}{e:Ent}(h:e∈loE k es):e∈es/\e.key<k:=⟨(yau.mp h).1,ybo (yau.mp h).2⟩
theorem Zew {k:Nat}{es:List Ent}{e:Ent}(h:e∈hiE k es):e∈es/\k<e.key:=⟨(yau.mp h).1,ybo (yau.mp h).2⟩
theorem Up.append {b:Nat}:∀ {a:Nat} {xs ys:List Nat},Up a xs->(∀ x∈xs,x<b)->Up b ys->a<=b->Up a (xs++ys)
 | _,[],_,_,_,h,l=>h.mono l
 | a,x::xs,ys,h,hb,h2,_=>by
   obtain ⟨h1,h3⟩:a<=x/\Up (x+1) xs:=h;exact ⟨h1,h3.append (fun y hy=>hb y (.tail _ hy)) h2 (hb x (.head _))⟩
theorem Ze4 (p:Nat->Bool)(es:List Ent):kys (es.filter fun e=>p e.key)=(kys es).filter p:=by unfold kys;rw [ybw];rfl
theorem ZaK:∀ x y:List Ent,tot (x++y)=tot x+tot y
 | [],y=>by show tot y=0+tot y;omega
 | e::r,y=>by
   show e.ps.length+tot (r++y)=e.ps.length+tot r+tot y;rw [ZaK r y];omega
theorem Zb5:∀ (a:Nat) (x y:List Ent),ahs a (x++y)=ahs a x++ahs (a+tot x) y
 | _,[],_=>rfl
 | a,e::r,y=>by
   show a::ahs (a+e.ps.length) (r++y)=a::(ahs (a+e.ps.length) r++ahs (a+(e.ps.length+tot r)) y);rw [Zb5,ycx]
theorem ZbF:∀ (a:Nat) (es:List Ent),(ahs a es).length=es.length
 | _,[]=>rfl
 | a,e::r=>congrArg (·+1) (ZbF (a+e.ps.length) r)
theorem Ze2:∀ (a:Nat) (es:List Ent) (i:Nat),i<es.length->(ahs a es)[i]?=some (a+tot (es.take i))
 | _,[],_,h=>by cases h
 | a,e::r,0,_=>rfl
 | a,e::r,i+1,h=>by
   show (ahs (a+e.ps.length) r)[i]?=some (a+(e.ps.length+tot (r.take i)));rw [Ze2 (a+e.ps.length) r i (Nat.lt_of_succ_lt_succ h),ycx]
theorem ZfX (m:Int):∀ (a b:Nat) (es:List Ent),(b:Int)=a+m->(ahs a es).map (fun (x:Nat)=>(x:Int)+m)=(ahs b es).map (fun (x:Nat)=>(x:Int))
 | _,_,[],_=>rfl
 | a,b,e::r,h=>by
   show ((a:Int)+m)::(ahs (a+e.ps.length) r).map _=(b:Int)::(ahs (b+e.ps.length) r).map _;rw [ZfX m (a+e.ps.length) (b+e.ps.length) r (by omega),h]
theorem Zbk:∀ x y:List Ent,flat (x++y)=flat x++flat y
 | [],_=>rfl
 | e::r,y=>by
   show e.ps.map _++flat (r++y)=e.ps.map _++flat r++flat y;rw [Zbk r y,yah]
theorem ZaO:∀ es:List Ent,(flat es).length=tot es
 | []=>rfl
 | e::r=>by
   show (e.ps.map _++flat r).length=e.ps.length+tot r;rw [yac,yad,ZaO r]
theorem Zb0 {n:Nat}:∀ {es:List Ent},(∀ e∈es,∀ p∈e.ps,p<256)->(n∈flat es↔∃ e∈es,e.key=n/256/\n%256∈e.ps)
 | [],_=>by
   constructor
   . intro h;cases h
   . rintro ⟨_,h,_⟩;cases h
 | e :: r,h=>by
   show n∈e.ps.map _++flat r↔_;rw [yaf,Zb0 (fun x hx=>h x (.tail _ hx))];constructor
   . rintro (z | ⟨x,x1,x2⟩)
     . obtain ⟨p,hp,rfl⟩:=yaJ.mp z
       have:=h e (.head _) p hp;exact ⟨e,.head _,by omega,by rw [show (256*e.key+p)%256=p by omega];exact hp⟩
     . exact ⟨x,.tail _ x1,x2⟩
   . rintro ⟨x,x1,x2,x3⟩
     rcases yaj.mp x1 with rfl | x1
     . exact .inl (yaJ.mpr ⟨_,x3,by omega⟩)
     . exact .inr ⟨x,x1,x2,x3⟩
theorem ZaL {n:Nat}{es:List Ent}(h:EsOk es):n∈flat es↔n%256∈plcE (n/256) es:=by
 rw [Zb0 h.plt];rcases Zbh (n/256) h.up with z | ⟨e,z1,z2,z3⟩
 . have:plcE (n/256) es=[]:=by unfold plcE;rw [z]
   rw [this];constructor
   . rintro ⟨x,x1,x2,x3⟩
     have:x∈miE (n/256) es:=yau.mpr ⟨x1,yak x2⟩;rw [z] at this;cases this
   . intro x;cases x
 . have:plcE (n/256) es=e.ps:=by unfold plcE;rw [z1]
   rw [this];constructor
   . rintro ⟨x,x1,x2,x3⟩
     have:x∈miE (n/256) es:=yau.mpr ⟨x1,yak x2⟩;rw [z1] at this;cases yaa.mp this;exact x3
   . intro x
     exact ⟨e,z3,z2,x⟩
theorem ZfB {k:Nat}:∀ {a:Nat} {ps:List Nat},Up a ps->Up (256*k+a) (ps.map fun p=>256*k+p)
 | _,[],_=>trivial
 | a,p::r,h=>by
   obtain ⟨h1,h2⟩:a<=p/\Up (p+1) r:=h;exact ⟨by show 256*k+a<=256*k+p;omega,ZfB h2⟩
theorem ZiI:∀ {a:Nat} {es:List Ent},Up a (kys es)->(∀ e∈es,Up 0 e.ps)->(∀ e∈es,∀ p∈e.ps,p<256)->Up (256*a) (flat es)
 | _,[],_,_,_=>trivial
 | a,e::r,h,h2,h3=>by
   obtain ⟨g1,g2⟩:a<=e.key/\Up (e.key+1) (kys r):=h;have u1:=(ZfB (k:=e.key) (h2 e (.head _))).mono (a:=256*a) (by omega);refine u1.append (b:=256*(e.key+1)) (fun x hx=>?_) (ZiI g2 (fun x hx=>h2 x (.tail _ hx)) fun x hx=>h3 x (.tail _ hx)) (by omega);obtain ⟨p,hp,rfl⟩:=yaJ.mp hx;have:=h3 e (.head _) p hp;omega
theorem EsOk.flat_up {es:List Ent}(h:EsOk es):Up 0 (flat es):=ZiI h.up h.pup h.plt
theorem lo_up {k:Nat}{es:List Ent}(h:Up 0 (kys es)):Up 0 (kys (loE k es)):=by have:=Ze4 (fun x=>decide (x<k)) es;show Up 0 (kys (es.filter fun e=>decide (e.key<k)));rw [this];exact h.filter
theorem hi_up {k:Nat}{es:List Ent}(h:Up 0 (kys es)):Up (k+1) (kys (hiE k es)):=by have:=Ze4 (fun x=>decide (k<x)) es;show Up (k+1) (kys (es.filter fun e=>decide (k<e.key)));rw [this];exact up_from h.filter fun p hp=>ybo (yau.mp hp).2
theorem Zda {k:Nat} {a:Nat} {es:List Ent} {e:Ent} (h:e∈keepE k ps a es):(e∈es/\e.key≠k)\/(ps≠[]/\e=⟨k,ps,a⟩):=by
 unfold keepE at h;rcases yaf.mp h with h | h
 . rcases yaf.mp h with h | h
   . exact .inl ⟨(Zet h).1,yaE (Zet h).2⟩
   . split at h
     . cases h
     . rename_i n
       exact .inr ⟨n,yaa.mp h⟩
 . exact .inl ⟨(Zew h).1,ybY (Zew h).2⟩
theorem EsOk.keep {k:Nat}{a:Nat}{es:List Ent}(h:EsOk es)(hk:k<256)(hu:Up 0 ps)(hl:∀ p∈ps,p<256):EsOk (keepE k ps a es):=by
 refine ⟨?_,fun e he=>?_,fun e he=>?_,fun e he=>?_,fun e he=>?_⟩
 . unfold keepE kys
   rw [yaP,yaP,yah];refine Up.append (b:=k) (lo_up h.up) (fun x hx=>?_) ?_ (yax _)
   . obtain ⟨e,he,rfl⟩:=yaJ.mp hx
     exact (Zet he).2
   . have:=hi_up (k:=k) h.up
     split
     . exact this.mono (yca _)
     . exact ⟨yag _,this⟩
 . rcases Zda he with ⟨z,_⟩ | ⟨_,rfl⟩
   . exact h.klt e z
   . exact hk
 . rcases Zda he with ⟨z,_⟩ | ⟨_,rfl⟩
   . exact h.pup e z
   . exact hu
 . rcases Zda he with ⟨z,_⟩ | ⟨_,rfl⟩
   . exact h.plt e z
   . exact hl
 . rcases Zda he with ⟨z,_⟩ | ⟨z,rfl⟩
   . exact h.ne e z
   . exact z
theorem mi_keep {k j:Nat}{a:Nat}{es:List Ent}:miE j (keepE k ps a es)=if j=k then (if ps=[] then [] else [⟨k,ps,a⟩]) else miE j es:=by
 unfold keepE miE;rw [ybC,ybC];by_cases c:j=k
 . subst c
   rw [if_pos rfl];have l1:(loE j es).filter (fun e=>decide (e.key=j))=[]:=ybi.mpr fun e he=>by have:=(Zet he).2;simp;omega
   have l2:(hiE j es).filter (fun e=>decide (e.key=j))=[]:=ybi.mpr fun e he=>by have:=(Zew he).2;simp;omega
   rw [l1,l2];split<;>simp
 . rw [if_neg c]
   have l3:(if ps=[] then [] else [(⟨k,ps,a⟩:Ent)]).filter (fun e=>decide (e.key=j))=[]:=by
     split
     . rfl
     . simp;omega
   rw [l3,yaO];unfold loE hiE;rw [List.filter_filter,List.filter_filter];rcases Nat.lt_or_gt_of_ne c with d | d
   . rw [show (es.filter fun e=>decide (e.key=j)&&decide (k<e.key))=[] from ybi.mpr fun e he=>by simp;omega,yaO]
     exact yby fun e he=>by by_cases z:e.key=j<;>simp [z,d]
   . rw [show (es.filter fun e=>decide (e.key=j)&&decide (e.key<k))=[] from ybi.mpr fun e he=>by simp;omega,ybf]
     exact yby fun e he=>by by_cases z:e.key=j<;>simp [z];omega
theorem Zfp {k j:Nat}{a:Nat}{es:List Ent}:plcE j (keepE k ps a es)=if j=k then ps else plcE j es:=by
 unfold plcE;rw [mi_keep];by_cases c:j=k
 . rw [if_pos c,if_pos c]
   by_cases n:ps=[]
   . rw [if_pos n,n]
   . rw [if_neg n]
 . rw [if_neg c,if_neg c]
def belE (n:Nat)(es:List Ent):Nat:=tot (loE (n/256) es)+((plcE (n/256) es).filter fun p=>decide (p<n%256)).length
theorem bel_flat {n:Nat}{es:List Ent}(h:EsOk es):((flat es).filter fun x=>decide (x<n)).length=belE n es:=by
 have hs:=split (n/256) h.up;have f1:(flat (loE (n/256) es)).filter (fun x=>decide (x<n))=flat (loE (n/256) es):=ybU.mpr fun x hx=>by
   obtain ⟨e,e1,e2,e3⟩:=(Zb0 fun e he=>h.plt e (Zet he).1).mp hx;have:=(Zet e1).2;exact yak (by omega)
 have f3:(flat (hiE (n/256) es)).filter (fun x=>decide (x<n))=[]:=ybi.mpr fun x hx=>by
   obtain ⟨e,e1,e2,e3⟩:=(Zb0 fun e he=>h.plt e (Zew he).1).mp hx;have:=(Zew e1).2;simp;omega
 have f2:((flat (miE (n/256) es)).filter fun x=>decide (x<n)).length=((plcE (n/256) es).filter fun p=>decide (p<n%256)).length:=by
   rcases Zbh (n/256) h.up with z | ⟨e,z1,z2,z3⟩
   . unfold plcE;rw [z];rfl
   . unfold plcE
     rw [z1];show ((e.ps.map (fun p=>256*e.key+p)++[]).filter _).length=_;rw [yaO,ybw,yad];refine congrArg List.length (yby fun p hp=>?_);have:=h.plt e z3 p hp;show decide (256*e.key+p<n)=decide (p<n%256);exact yaS.mpr ⟨fun _=>by omega,fun _=>by omega⟩
 have:((flat (loE (n/256) es++miE (n/256) es++hiE (n/256) es)).filter fun x=>decide (x<n)).length=belE n es:=by rw [Zbk,Zbk,ybC,ybC,yac,yac,f1,f3,f2,ZaO];rfl
 rw [<- hs] at this;exact this
end BM
namespace BM
theorem ahs_ge:∀ (a:Nat) (es:List Ent) (x:Nat),x∈ahs a es->a<=x
 | _,[],_,h=>by cases h
 | a,e::r,x,h=>by
   rcases yaj.mp (show x∈a::ahs (a+e.ps.length) r from h) with z | z
   . omega
   . have:=ahs_ge _ r x z
     omega
theorem ahs_up:∀ (a:Nat) (es:List Ent),(∀ e∈es,e.ps≠[])->Up a (ahs a es)
 | _,[],_=>trivial
 | a,e::r,ne=>by
   have l0:0<e.ps.length:=List.length_pos_iff.mpr (ne e (.head _));exact ⟨yag _,(ahs_up (a+e.ps.length) r fun e he=>ne e (.tail _ he)).mono (by omega)⟩
theorem ZgV:∀ (a:Nat) (es:List Ent) (k:Nat),a<=k->k<a+tot es->∃ (n:Nat) (e:Ent) (x p:Nat),((ahs a es).filter fun y=>decide (y<=k)).length=n+1/\es[n]?=some e/\(ahs a es)[n]?=some x/\x<=k/\e.ps[k-x]?=some p/\(flat es)[k-a]?=some (256*e.key+p)
 | a,[],k,h1,h2=>by
   have:tot []=0:=rfl;omega
 | a,e :: r,k,h1,h2=>by
   have h2:k<a+(e.ps.length+tot r):=h2;have ea:ahs a (e::r)=a::ahs (a+e.ps.length) r:=rfl;have ef:flat (e::r)=e.ps.map (fun p=>256*e.key+p)++flat r:=rfl;rw [ea,ef];by_cases hk:k<a+e.ps.length
   . have hl:k-a<e.ps.length:=by omega
     refine ⟨0,e,a,e.ps[k-a],?_,rfl,rfl,h1,yae hl,?_⟩
     . rw [ybe,if_pos (yak h1)]
       rw [ybi.mpr fun y hy=>by
         have:=ahs_ge _ r y hy;simp only [yaz];omega]
       rfl
     . rw [yaT (by rw [yad];exact hl),yav,yae hl]
       rfl
   . obtain ⟨n,e',x,p,h3,h4,h5,h6,h7,h8⟩:=ZgV (a+e.ps.length) r k (by omega) (by omega)
     refine ⟨n+1,e',x,p,?_,h4,h5,h6,h7,?_⟩
     . rw [ybe,if_pos (yak h1),yan,h3]
     . rw [yai (by rw [yad];omega),yad,show k-a-e.ps.length=k-(a+e.ps.length) by omega]
       exact h8
theorem flat_key {es:List Ent}{j x:Nat}(h:∀ e∈es,∀ p∈e.ps,p<256)(hx:(flat es)[j]?=some x):∃ e∈es,x/256=e.key:=by obtain ⟨e,he,h1,_⟩:=(Zb0 h).mp (yao hx);exact ⟨e,he,h1.symm⟩
end BM
namespace L2
open PySem PySem.Spec PyProof.Rows
section
variable {td ty tx:TE}{Q:VK}
end
end L2
namespace L2
open PySem PySem.Spec PyProof.Rows
def tDSet (td ty tx:TE):TE:=fun σ H Q=>td σ H fun x H1=>∃ a,x=.ref a/\IsD H1 a/\ty σ H1 fun y H2=>tx σ H2 fun z H3=>∃ kvs k,H3 a=some (.dK kvs)/\y=kV k/\kvs.length<sizeLine /\
 (∀ v,valV kvs k=some v->Q v H3)/\(valV kvs k=none->Q z (upd H3 a (.dK (putK kvs k z))))
section
variable {o e f:Expr}{apos cpos:Pos}{td ty tx:TE}
theorem d_setDef {a:Addr}{k:Key}{u r:Value}{z:V}(I:Inv X pins σ H s)(e:H a=some (.dK kvs))(ry:RelV (kV k) u)(rz:RelV z r)(hl:kvs.length<sizeLine)
   (h1:∀ v w' s',valV kvs k=some v->Inv X pins σ H s'->RelV v w'->Q w' s') (h2:valV kvs k=none->∀ s',Inv X pins σ (upd H a (.dK (putK kvs k z))) s'->Q r s') :
   wpAny (model X.prog X.w) A (call (.builtin "dict.setdefault") [.ref a,u,r]) Q E s:=by
 obtain ⟨zz,hd,vs,rel,dd⟩:=Zga I.hok e;refine call_meetsIn PySem.F.slot_dict_setdefault dd.typeIs PySem.F.entry_dict_setdefault (PySem.F.args_dict_setdefault_3 _ _ _) (kt_meets_setdefault (mixKind X.prog X.w) a (Zez ry) hd r) ⟨vs,dd,by rw [<- rel.length];exact zz,fun v hv=>?_,fun hn h' dd' hs=>?_⟩
 . have:=rel.val k
   rw [hv] at this;cases l:valV kvs k with
   | none=>rw [l] at this;exact absurd this (by intro q;cases q)
   | some v' =>
     rw [l] at this;exact h1 v' v _ l (I.tok _) this
 . have l:valV kvs k=none:=by
     have:=rel.val k;rw [hn] at this;cases l:valV kvs k with
     | none=>rfl
     | some v'=>rw [l] at this;exact absurd this (by intro q;cases q)
   refine h2 l _ ?_;have he:∃ q,h'.get? a=some q:=let ⟨q,_,_,hq,_⟩:=dd';⟨q,hq⟩
   exact ZeM I (by rw [e];exact True.intro) hs he (Ziz (by have:=Zdd kvs k z;omega) hd (rel.put k rz) dd')
theorem ZiM (ho:PE X o td)(he:PE X e ty)(hf:PE X f tx)(m:M2 X o "setdefault" apos e f cpos):PE X (.Call (.Attribute o "setdefault" apos) [e,f] [] cpos) (tDSet td ty tx):=by
 intro pins s σ H Q I h;refine wpAny_Call_method m.base m.few m.line zaE PySem.F.slot_dict_setdefault PySem.F.type_dict_setdefault (thn (ho pins s σ H _ I h) fun u s1 ⟨x,H1,I1,rx,a,ex,d,q1⟩=>?_);subst ex;obtain rfl:u=Value.ref a:=rx;obtain ⟨t1,t2,_⟩:=Zff I1 d;refine ⟨t1,t2,?_⟩;rw [m.trees];refine zap rfl (zaJ (zaj (thn (he pins s1 σ H1 _ I1 q1) fun iv s2 ⟨y,H2,I2,ry,q2⟩ =>
   zaj (thn (hf pins s2 σ H2 _ I2 q2) fun fv s3 ⟨z,H3,I3,rz,kvs,k,ea,ey,hl,q3,q4⟩=>zao ?_))))
 subst ey;exact d_setDef I3 ea ry rz hl (fun v w' s4 l I4 rw'=>⟨v,H3,I4,rw',q3 v l⟩) fun l s4 I4=>⟨z,_,I4,rz,q4 l⟩
end
end L2
namespace ZL
open PySem
abbrev ZipH (h:Heap)(z TI TO T:Addr)(b:Bool):Prop :=
 h.get? z=some { cls:=.type "zip",dict:=none,data:=.fields #[rawInt T,.bool b,.bool false,.ref TI,.ref TO],slots:=#[] }
theorem alive {M:Model}{a:Addr}{Q:Option Obj->Shared->Prop}(h:Q (s.heap.get? a) s):wpAny M A (loadIfAlive a) Q E s:=fun _ _ _=>h
theorem notFree {z TI TO T:Addr}{b:Bool}{o:Obj}{Q:Bool->Shared->Prop}(hz:ZipH s.heap z TI TO T b)(hT:s.heap.get? T=some o)(q:∀ h',ZipH h' z TI TO T true->Heap.SameBut z s.heap h'->Q false { s with heap:=h' }) :
   wpAny (model prog w) A (Builtin.SmallTypes.ownedTupleIsFree (.ref z)) Q E s:=by
 unfold Builtin.SmallTypes.ownedTupleIsFree;refine zaa (wpAny_field hz rfl (x:=rawInt T) rfl ?_);show wpAny _ _ (loadIfAlive (T:Int).toNat >>= _) _ _ _;refine zaa (alive ?_);rw [yap,hT];show wpAny _ _ (field (.ref z) 1 >>= _) _ _ _;refine zaa (wpAny_field hz rfl (x:=.bool b) rfl ?_);cases b
 . refine zaa (zaC hz (by simp) fun h1 hz1 hs1=>zac (q h1 hz1 hs1))
 . exact zac (q s.heap hz (Heap.SameBut.refl ..))
theorem Zj0 {z TI TO i1 i2 l1 l2 T:Addr}{k1 k2:Nat}{xs ys:Array Value}{x y:Value}{b:Bool}{o:Obj}(D:ZipApart z TI TO i1 i2 l1 l2)
   (hz:ZipH s.heap z TI TO T b) (hT:s.heap.get? T=some o) (hTI:IsPair s.heap TI (.ref i1) (.ref i2))
   (h1:s.heap.IsListIter i1 l1 k1) (h2:s.heap.IsListIter i2 l2 k2) (hl1:s.heap.IsList l1 xs) (hl2:s.heap.IsList l2 ys) (hx:xs[k1]?=some x) (hy:ys[k2]?=some y)
   (hQ:∀ h',ZipH h' z TI TO T true->h'.IsListIter i1 l1 (k1+1)->h'.IsListIter i2 l2 (k2+1)->IsPair h' s.heap.objs.size x y ->
     (∀ c o,c≠z->c≠i1->c≠i2->s.heap.get? c=some o->h'.get? c=some o)->Q (.ref s.heap.objs.size) { s with heap:=h' }) :
   wpAny (model prog w) A (Builtin.«zip.__next__» ⟨[.ref z],[]⟩) (fun fin s'=>∃ v,fin=.done (.ret v)/\Q v s') E s:=by
 walk_at "xd";refine zaa (wpAny_nextOf_list_item (h1.extBut hs₁.extBut D.i1z) (hl1.extBut hs₁.extBut D.l1z) hx fun h₂ h1₂ hs₂=>zac (zac ?_));refine zaa (zaa (zaw ?_));show wpAny _ _ (Builtin.SmallTypes.nextOf (.ref i2) >>= _) _ _ _;refine zaa (wpAny_nextOf_list_item ((h2.extBut hs₁.extBut D.i2z).extBut hs₂.extBut D.i12.symm) ((hl2.extBut hs₁.extBut D.l2z).extBut hs₂.extBut D.l2i1) hy fun h₃ h2₃ hs₃=>zac (zac (zac ?_)));show wpAny _ _ (newTuple [x,y] >>= _) _ _ _;refine zaa (wpAny_newTuple (zac ⟨_,rfl,?_⟩));have hsz:h₃.objs.size=s.heap.objs.size:=by rw [hs₃.1,hs₂.1,hs₁.1]
 have up:∀ c o,h₃.get? c=some o->(h₃.push { cls:=.type "tuple",data:=.seq #[x,y] }).get? c=some o:=fun c o e=>zab _ e
 have hT₃:IsPair (h₃.push { cls:=.type "tuple",data:=.seq #[x,y] }) h₃.objs.size x y:=zaf _ rfl;show Q (.ref h₃.objs.size) _;rw [hsz] at hT₃ ⊢;exact hQ _ (up _ _ (hs₃.extBut _ _ D.i2z.symm (hs₂.extBut _ _ D.i1z.symm hz₁))) ((h1₂.extBut hs₃.extBut D.i12).at fun o e=>up _ o e) (h2₃.at fun o e=>up _ o e) hT₃ fun c o c1 c2 c3 e=>up c o (hs₃.extBut _ _ c3 (hs₂.extBut _ _ c2 (hs₁.extBut _ _ c1 e)))
theorem held_end {z TI TO i1 i2 l1 l2 T:Addr}{k1 k2:Nat}{xs ys:Array Value}{b:Bool}{o:Obj}{Q:Fin->Shared->Prop}(hh:A.handled=none)(D:ZipApart z TI TO i1 i2 l1 l2)
   (hz:ZipH s.heap z TI TO T b) (hT:s.heap.get? T=some o) (hTI:IsPair s.heap TI (.ref i1) (.ref i2))
   (h1:s.heap.IsListIter i1 l1 k1) (h2:s.heap.IsListIter i2 l2 k2) (hl1:s.heap.IsList l1 xs) (hl2:s.heap.IsList l2 ys) (hend:xs[k1]?=none\/ys[k2]?=none)
   (hE:∀ h' e,(∀ c o,c≠z->c≠i1->c≠i2->s.heap.get? c=some o->h'.get? c=some o)->(∃ o,h'.get? e=some o/\o.cls=.type "StopIteration")->E (.ref e) { s with heap:=h' }) :
   wpAny (model prog w) A (Builtin.«zip.__next__» ⟨[.ref z],[]⟩) Q E s:=by
 walk_at "xd";cases hx:xs[k1]? with
 | none =>
   refine zaa (wpAny_nextOf_list_end hh (h1.extBut hs₁.extBut D.i1z) (hl1.extBut hs₁.extBut D.l1z) hx fun h₂ e hs₂ he=>?_);exact hE h₂ e (fun c o c1 c2 c3 x=>hs₂ _ _ c2 (hs₁.extBut _ _ c1 x)) he
 | some x =>
   have hy:ys[k2]?=none:=by rcases hend with h | h;rw [hx] at h;cases h;exact h
   refine zaa (wpAny_nextOf_list_item (h1.extBut hs₁.extBut D.i1z) (hl1.extBut hs₁.extBut D.l1z) hx fun h₂ h1₂ hs₂=>zac (zac ?_));refine zaa (zaa (zaw ?_));show wpAny _ _ (Builtin.SmallTypes.nextOf (.ref i2) >>= _) _ _ _;refine zaa (wpAny_nextOf_list_end hh ((h2.extBut hs₁.extBut D.i2z).extBut hs₂.extBut D.i12.symm) ((hl2.extBut hs₁.extBut D.l2z).extBut hs₂.extBut D.l2i1) hy fun h₄ e hs₄ he=>?_);exact hE h₄ e (fun c o c1 c2 c3 x=>hs₄ _ _ c3 (hs₂.extBut _ _ c2 (hs₁.extBut _ _ c1 x))) he
theorem Zj3 {z TI TO i1 i2 l1 l2 T:Addr}{k1 k2:Nat}{xs ys:Array Value}{x y:Value}{b:Bool}{o:Obj}{Q:Option Value->Shared->Prop}(D:ZipApart z TI TO i1 i2 l1 l2)
   (hz:ZipH s.heap z TI TO T b) (hT:s.heap.get? T=some o) (hTI:IsPair s.heap TI (.ref i1) (.ref i2))
   (h1:s.heap.IsListIter i1 l1 k1) (h2:s.heap.IsListIter i2 l2 k2) (hl1:s.heap.IsList l1 xs) (hl2:s.heap.IsList l2 ys) (hx:xs[k1]?=some x) (hy:ys[k2]?=some y)
   (hQ:∀ h',ZipH h' z TI TO T true->h'.IsListIter i1 l1 (k1+1)->h'.IsListIter i2 l2 (k2+1)->IsPair h' s.heap.objs.size x y ->
     (∀ c o,c≠z->c≠i1->c≠i2->s.heap.get? c=some o->h'.get? c=some o)->Q (some (.ref s.heap.objs.size)) { s with heap:=h' }) :
   wpAny (model prog w) A (pyNext (.ref z)) Q E s:=by
 have hT':s.TypeIs (.ref z) "zip":=⟨_,hz,rfl⟩
 unfold pyNext;exact zaa (wpAny_attempt (wpAny_callSpecial?_slot (name:=Str.ofString "__next__") hT' F.slot_zip_next
   (zaD F.slot_zip_next hT' F.entry_zip_next
     (Zj0 D hz hT hTI h1 h2 hl1 hl2 hx hy fun h' a1 a2 a3 a4 a5=>zac (hQ h' a1 a2 a3 a4 a5)) (F.args_zip_next_1 _))))
theorem ZgE {z TI TO i1 i2 l1 l2 T:Addr}{k1 k2:Nat}{xs ys:Array Value}{b:Bool}{o:Obj}{Q:Option Value->Shared->Prop}(hh:A.handled=none)(D:ZipApart z TI TO i1 i2 l1 l2)
   (hz:ZipH s.heap z TI TO T b) (hT:s.heap.get? T=some o) (hTI:IsPair s.heap TI (.ref i1) (.ref i2))
   (h1:s.heap.IsListIter i1 l1 k1) (h2:s.heap.IsListIter i2 l2 k2) (hl1:s.heap.IsList l1 xs) (hl2:s.heap.IsList l2 ys) (hend:xs[k1]?=none\/ys[k2]?=none)
   (hQ:∀ h',(∀ c o,c≠z->c≠i1->c≠i2->s.heap.get? c=some o->h'.get? c=some o)->Q none { s with heap:=h' }):wpAny (model prog w) A (pyNext (.ref z)) Q E s:=by
 have hT':s.TypeIs (.ref z) "zip":=⟨_,hz,rfl⟩
 unfold pyNext;refine zaa (wpAny_attempt (wpAny_callSpecial?_slot (name:=Str.ofString "__next__") hT' F.slot_zip_next
   (zaD F.slot_zip_next hT' F.entry_zip_next (held_end hh D hz hT hTI h1 h2 hl1 hl2 hend fun h' e hk he=>?_) (F.args_zip_next_1 _))))
 obtain ⟨o,ho,hc⟩:=he;refine zaa (wpAny_isInstance (T:="StopIteration") (b:=true) ⟨o,ho,hc⟩ isSubtype_stop ?_);exact zac (hQ _ hk)
structure ZI (z TI TO i1 i2 l1 l2:Addr)(xs ys:Array Value)(m i:Nat)(Ts:List Addr)(h:Heap):Prop where
 zz:(i=0/\IsZip h z TI TO .none/\∃ a b,IsPair h TO a b)\/(∃ T0 b,Ts[0]?=some T0/\ZipH h z TI TO T0 b)
 ti:IsPair h TI (.ref i1) (.ref i2)
 it1:h.IsListIter i1 l1 i
 it2:h.IsListIter i2 l2 i
 li1:h.IsList l1 xs
 li2:h.IsList l2 ys
 len:Ts.length=i
 nd:Ts.Nodup
 new:∀ T∈Ts,m<=T
 tup:∀ (j:Nat) (T:Addr),Ts[j]?=some T->∃ x y,xs[j]?=some x/\ys[j]?=some y/\IsPair h T x y
theorem ZI.next {z TI TO i1 i2 l1 l2:Addr} {xs ys:Array Value} {m i:Nat} {Ts:List Addr} {Q:Option Value->Shared->Prop} (I:ZI z TI TO i1 i2 l1 l2 xs ys m i Ts s.heap) (D:ZipApart z TI TO i1 i2 l1 l2) (M:∀ c∈[z,TI,TO,i1,i2,l1,l2],c<m) (hm:m<=s.heap.objs.size) (hx:i<xs.size) (hy:i<ys.size)
   (hQ:∀ h',ZI z TI TO i1 i2 l1 l2 xs ys m (i+1) (Ts++[s.heap.objs.size]) h'->(∀ c o,c≠z->c≠TO->c≠i1->c≠i2->s.heap.get? c=some o->h'.get? c=some o)->Q (some (.ref s.heap.objs.size)) { s with heap:=h' }) :
   wpAny (model prog w) A (pyNext (.ref z)) Q E s:=by
 have ge:∀ T∈Ts,∀ c∈[z,TI,TO,i1,i2,l1,l2],T≠c:=fun T hT c hc e=>absurd (M c hc) (ycy.mpr (e ▸ I.new T hT))
 have fresh:s.heap.objs.size∉Ts:=fun h=>by
   obtain ⟨j,hj⟩:=List.getElem?_of_mem h;obtain ⟨x,y,_,_,hp⟩:=I.tup j _ hj;exact absurd (zad hp) (ybs _)
 have nd:(Ts++[s.heap.objs.size]).Nodup:=by rw [ycf];exact ⟨I.nd,(by simp),fun a ha b hb e=>fresh (by rw [yaa.mp hb] at e;exact e ▸ ha)⟩
 have new:∀ T∈Ts++[s.heap.objs.size],m<=T:=fun T hT=>(yaf.mp hT).elim (I.new T) fun h=>by rw [yaa.mp h];exact hm
 have tup:∀ h':Heap,IsPair h' s.heap.objs.size xs[i] ys[i]->(∀ c o,c≠z->c≠TO->c≠i1->c≠i2->s.heap.get? c=some o->h'.get? c=some o)->∀ (j:Nat) (T:Addr),(Ts++[s.heap.objs.size])[j]?=some T->∃ x y,xs[j]?=some x/\ys[j]?=some y/\IsPair h' T x y:=fun h' hp hk j T hj=>by
   by_cases hji:j<Ts.length
   . rw [yaT hji] at hj
     obtain ⟨x,y,e1,e2,hp'⟩:=I.tup j T hj;have hT:=yao hj;exact ⟨x,y,e1,e2,hk T _ (ge T hT z (by simp)) (ge T hT TO (by simp)) (ge T hT i1 (by simp)) (ge T hT i2 (by simp)) hp'⟩
   . rw [yai (ycy.mp hji)] at hj
     have hj0:j-Ts.length=0:=by
       rcases Nat.eq_zero_or_pos (j-Ts.length) with e | e
       . exact e
       . rw [List.getElem?_eq_none (by show 1<=j-Ts.length;exact e)] at hj
         cases hj
     rw [hj0] at hj;have eT:s.heap.objs.size=T:=by simpa using hj
     have ej:j=i:=by have:=I.len;omega
     subst eT;subst ej;exact ⟨_,_,yaH hx,yaH hy,hp⟩
 rcases I.zz with ⟨hi,hz,a,b,hTO⟩ | ⟨T0,b,hT0,hz⟩
 . refine wpAny_pyNext_zip_item D hz I.ti hTO I.it1 I.it2 I.li1 I.li2 (yaH hx) (yaH hy) fun h' a1 a2 a3 a4 a5 a6 hk=>hQ h' ⟨.inr ⟨s.heap.objs.size,false,?_,a1⟩,hk _ _ D.TIz D.TITO D.TIi1 D.TIi2 I.ti,a3,a4,I.li1.at fun o e=>hk _ o D.l1z D.l1TO D.l1i1 D.l1i2 e,I.li2.at fun o e=>hk _ o D.l2z D.l2TO D.l2i1 D.l2i2 e,by rw [yac,I.len];rfl,nd,new,tup h' a5 hk⟩ hk
   have:Ts=[]:=ybz.mp (I.len.trans hi);rw [this];rfl
 . obtain ⟨x0,y0,_,_,hp0⟩:=I.tup 0 T0 hT0
   refine Zj3 D hz hp0 I.ti I.it1 I.it2 I.li1 I.li2 (yaH hx) (yaH hy) fun h' a1 a3 a4 a5 hk=>hQ h' ⟨.inr ⟨T0,true,?_,a1⟩,hk _ _ D.TIz D.TIi1 D.TIi2 I.ti,a3,a4,I.li1.at fun o e=>hk _ o D.l1z D.l1i1 D.l1i2 e,I.li2.at fun o e=>hk _ o D.l2z D.l2i1 D.l2i2 e,by rw [yac,I.len];rfl,nd,new,tup h' a5 fun c o c1 _ c3 c4 e=>hk c o c1 c3 c4 e⟩ fun c o c1 _ c3 c4 e=>hk c o c1 c3 c4 e
   rw [yaT (yaQ.mp hT0).1];exact hT0
theorem ZI.stop {z TI TO i1 i2 l1 l2:Addr}{xs ys:Array Value}{m i:Nat}{Ts:List Addr}{Q:Option Value->Shared->Prop}(hh:A.handled=none)(I:ZI z TI TO i1 i2 l1 l2 xs ys m i Ts s.heap)(D:ZipApart z TI TO i1 i2 l1 l2)(hx:xs.size<=i)
   (hQ:∀ h',(∀ c o,c≠z->c≠TO->c≠i1->c≠i2->s.heap.get? c=some o->h'.get? c=some o)->Q none { s with heap:=h' }) :
   wpAny (model prog w) A (pyNext (.ref z)) Q E s:=by
 rcases I.zz with ⟨hi,hz,a,b,hTO⟩ | ⟨T0,b,hT0,hz⟩
 . exact wpAny_pyNext_zip_end hh D hz I.ti hTO I.it1 I.it2 I.li1 I.li2 (.inl (Array.getElem?_eq_none hx)) hQ
 . obtain ⟨x0,y0,_,_,hp0⟩:=I.tup 0 T0 hT0
   exact ZgE hh D hz hp0 I.ti I.it1 I.it2 I.li1 I.li2 (.inl (Array.getElem?_eq_none hx)) fun h' hk=>hQ h' fun c o c1 _ c3 c4 e=>hk c o c1 c3 c4 e
theorem ZI.but {z TI TO i1 i2 l1 l2 S:Addr}{xs ys:Array Value}{m i:Nat}{Ts:List Addr}(I:ZI z TI TO i1 i2 l1 l2 xs ys m i Ts h)(hS:S∉[z,TI,TO,i1,i2,l1,l2])(hT:S<m)(k:∀ c o,c≠S->h.get? c=some o->h'.get? c=some o):ZI z TI TO i1 i2 l1 l2 xs ys m i Ts h':=by
 have ne:∀ c∈[z,TI,TO,i1,i2,l1,l2],c≠S:=fun c hc e=>hS (e ▸ hc)
 refine ⟨?_,k _ _ (ne TI (by simp)) I.ti,I.it1.at fun o e=>k _ o (ne i1 (by simp)) e,I.it2.at fun o e=>k _ o (ne i2 (by simp)) e,I.li1.at fun o e=>k _ o (ne l1 (by simp)) e,I.li2.at fun o e=>k _ o (ne l2 (by simp)) e,I.len,I.nd,I.new,fun j T hj=>?_⟩
 . rcases I.zz with ⟨hi,hz,a,b,hTO⟩ | ⟨T0,b,hT0,hz⟩
   . exact .inl ⟨hi,k _ _ (ne z (by simp)) hz,a,b,k _ _ (ne TO (by simp)) hTO⟩
   . exact .inr ⟨T0,b,hT0,k _ _ (ne z (by simp)) hz⟩
 . obtain ⟨x,y,e1,e2,hp⟩:=I.tup j T hj
   exact ⟨x,y,e1,e2,k _ _ (fun e=>absurd hT (ycy.mpr (e ▸ I.new T (yao hj)))) hp⟩
theorem ext_zip {R:Result->Shared->Prop}{z TI TO i1 i2 l1 l2 S:Addr}{xs ys:Array Value}{m:Nat}(hh:A.in1.handled=none)(D:ZipApart z TI TO i1 i2 l1 l2)(M:∀ c∈[z,TI,TO,i1,i2,l1,l2],c<m)(hS:S∉[z,TI,TO,i1,i2,l1,l2])(hSm:S<m)(hxy:xs.size=ys.size)(hn:xs.size<=sizeLine)(res:Value) :
   ∀ (k i:Nat) (s:Shared) (acc:Array Value) (c:Nat) (Ts:List Addr),xs.size-i=k->i<=xs.size->ZI z TI TO i1 i2 l1 l2 xs ys m i Ts s.heap->m<=s.heap.objs.size->s.heap.get? S=some { cls:=.type "list",dict:=none,data:=.seq acc c,slots:=#[] }->acc.toList=Ts.map Value.ref ->
   (∀ (h':Heap) (acc':Array Value) (c':Nat) (Ts':List Addr),(∀ b o,b∉[S,z,TO,i1,i2]->s.heap.get? b=some o->h'.get? b=some o)->h'.get? S=some { cls:=.type "list",dict:=none,data:=.seq acc' c',slots:=#[] }->acc'.toList=Ts'.map Value.ref->Ts'.length=xs.size->Ts'.Nodup->(∀ T∈Ts',m<=T)->(∀ (j:Nat) (T:Addr),Ts'[j]?=some T->∃ x y,xs[j]?=some x/\ys[j]?=some y/\IsPair h' T x y)->R (.ok (.ret res)) { s with heap:=h' }) ->
   codeAny (model prog w) A (.builtin "list.extend.loop" ⟨[.ref S,.ref z,res],[]⟩) R s:=by
 have nS:∀ c∈[z,TI,TO,i1,i2,l1,l2],c≠S:=fun c hc e=>hS (e ▸ hc)
 intro k;induction k with
 | zero =>
   intro i s acc c Ts hk hi st hm hA ha hR;have hin:i=xs.size:=by omega
   subst hin;refine zaH F.entry_extend_loop ?_;rw [zax F.plain_extend_loop _];show wpAny _ A.in1 (pyNext (.ref z) >>= _) _ _ s;refine zaa (st.stop hh D (yag _) fun h' hk=>?_);have ge:∀ T∈Ts,∀ c∈[z,TI,TO,i1,i2,l1,l2],T≠c:=fun T hT c hc e=>absurd (M c hc) (ycy.mpr (e ▸ st.new T hT))
   refine zac (hR h' acc c Ts (fun b o hb e=>?_) (hk S _ (nS z (by simp)).symm (nS TO (by simp)).symm (nS i1 (by simp)).symm (nS i2 (by simp)).symm hA) ha st.len st.nd st.new fun j T hj=>?_)
   . simp only [yaj,yaX,zaP,not_or] at hb
     exact hk b o hb.2.1 hb.2.2.1 hb.2.2.2.1 hb.2.2.2.2 e
   . obtain ⟨x,y,e1,e2,hp⟩:=st.tup j T hj
     have hT:=yao hj;exact ⟨x,y,e1,e2,hk T _ (ge T hT z (by simp)) (ge T hT TO (by simp)) (ge T hT i1 (by simp)) (ge T hT i2 (by simp)) hp⟩
 | succ k ih =>
   intro i s acc c Ts hk hi st hm hA ha hR;have hlt:i<xs.size:=by omega
   refine zaH F.entry_extend_loop ?_;rw [zax F.plain_extend_loop _];show wpAny _ A.in1 (pyNext (.ref z) >>= _) _ _ s;refine zaa (st.next D M hm hlt (hxy ▸ hlt) fun h1 st1 hk1=>?_);have hA1:=hk1 S _ (nS z (by simp)).symm (nS TO (by simp)).symm (nS i1 (by simp)).symm (nS i2 (by simp)).symm hA;have sz:acc.size=i:=by rw [<- yam,ha,yad,st.len]
   show wpAny _ A.in1 (updateSeq S (·.push (.ref s.heap.objs.size)) >>= _) _ _ _;refine zaa ?_;have oth:∀ b o,b≠S->h1.get? b=some o->(h1.update S (Obj.mapSeq (·.push (Value.ref s.heap.objs.size)))).get? b=some o:=fun b o hb e=>(zaq _ _ (Ne.symm hb)).trans e
   have hm1:m<=(h1.update S (Obj.mapSeq (·.push (Value.ref s.heap.objs.size)))).objs.size:=by have:=(zaG h1 S (Obj.mapSeq (·.push (Value.ref s.heap.objs.size)))).1;rw [this];obtain ⟨x,y,_,_,hp⟩:=st1.tup i s.heap.objs.size (by rw [yai (by rw [st.len];exact yag _),st.len,ych];rfl);exact yaN hm (ybF (zad hp))
   refine zaU hA1 rfl (zac ⟨zaX F.plain_extend_loop _,ih (i+1) { s with heap:=h1.update S (Obj.mapSeq (·.push (Value.ref s.heap.objs.size))) } (acc.push (.ref s.heap.objs.size)) _ (Ts++[s.heap.objs.size]) (by omega) hlt (st1.but hS hSm oth) hm1 (zav _ hA1 rfl) (by rw [ycd,ha,yaP];rfl) fun h' acc' c' Ts' hk' b1 b2 b3 b4 b5 b6=>?_⟩)
     (by rw [sz];omega) (by show (acc.push _).size<=sizeLine+1;rw [Array.size_push,sz];omega)
   refine hR h' acc' c' Ts' (fun b o hb e=>hk' b o hb (oth b o (fun z=>hb (by rw [z];exact yaK)) (hk1 b o ?_ ?_ ?_ ?_ e))) b1 b2 b3 b4 b5 b6
   all_goals (simp only [yaj,yaX,zaP,not_or] at hb)
   . exact hb.2.1
   . exact hb.2.2.1
   . exact hb.2.2.2.1
   . exact hb.2.2.2.2
theorem ZjF:typeLookup (.type "zip") "__len__"=pure none:=by rw [typeLookup_type,builtinLookup_eq_fast];kernel_rfl
theorem Zie:typeLookup (.type "zip") "__length_hint__"=pure none:=by rw [typeLookup_type,builtinLookup_eq_fast];kernel_rfl
theorem call_list_zip {z TI TO i1 i2 l1 l2:Addr}{xs ys:Array Value}{a b:Value}(hh:A.handled=none)(D:ZipApart z TI TO i1 i2 l1 l2)(hxy:xs.size=ys.size)(hn:xs.size<=sizeLine)
   (hz:IsZip s.heap z TI TO .none) (hTI:IsPair s.heap TI (.ref i1) (.ref i2)) (hTO:IsPair s.heap TO a b) (h1:s.heap.IsListIter i1 l1 0) (h2:s.heap.IsListIter i2 l2 0) (hl1:s.heap.IsList l1 xs) (hl2:s.heap.IsList l2 ys)
   (hQ:∀ (h':Heap) (acc':Array Value) (c':Nat) (Ts:List Addr),(∀ b o,b∉[z,TO,i1,i2]->s.heap.get? b=some o->h'.get? b=some o)->h'.get? s.heap.objs.size=some { cls:=.type "list",dict:=none,data:=.seq acc' c',slots:=#[] }->acc'.toList=Ts.map Value.ref->Ts.length=xs.size->Ts.Nodup->(∀ T∈Ts,s.heap.objs.size<T)->(∀ (j:Nat) (T:Addr),Ts[j]?=some T->∃ x y,xs[j]?=some x/\ys[j]?=some y/\IsPair h' T x y)->Q (.ref s.heap.objs.size) { s with heap:=h' }) :
   wpAny (model prog w) A (call (.type "list") [.ref z]) Q E s:=by
 have lt:∀ {c o},s.heap.get? c=some o->c<s.heap.objs.size:=fun e=>zad e
 have M:∀ c∈[z,TI,TO,i1,i2,l1,l2],c<s.heap.objs.size:=by
   intro c hc;simp only [yaj,yaX,zaP] at hc;rcases hc with rfl | rfl | rfl | rfl | rfl | rfl | rfl
   . exact lt hz
   . exact lt hTI
   . exact lt hTO
   . obtain ⟨_,e,_⟩:=h1;exact lt e
   . obtain ⟨_,e,_⟩:=h2;exact lt e
   . obtain ⟨_,e,_⟩:=hl1;exact lt e
   . obtain ⟨_,e,_⟩:=hl2;exact lt e
 refine callType_codes (Q₁:=fun obj s₁=>obj=.ref s.heap.objs.size/\s₁={ s with heap:=s.heap.push { cls:=.type "list",data:=.seq #[] } }) PySem.F.called_list (PySem.F.typeCall_list_1 _) PySem.F.entry_list_init
   (code_list_new _ ⟨rfl,rfl⟩) fun obj s₁ h₁=>?_
 obtain ⟨rfl,rfl⟩:=h₁;have hS:(s.heap.push { cls:=.type "list",data:=.seq #[] }).get? s.heap.objs.size=some { cls:=.type "list",data:=.seq #[] }:=zaf _ rfl;refine ⟨⟨_,hS,rfl⟩,PySem.F.args_list_init_2 _ _,?_⟩;have pk:∀ b o,s.heap.get? b=some o->(s.heap.push { cls:=.type "list",data:=.seq #[] }).get? b=some o:=fun b o e=>zab _ e
 have I0:ZI z TI TO i1 i2 l1 l2 xs ys (s.heap.objs.size+1) 0 [] (s.heap.push { cls:=.type "list",data:=.seq #[] }):=⟨.inl ⟨rfl,pk _ _ hz,a,b,pk _ _ hTO⟩,pk _ _ hTI,h1.at fun o e=>pk _ o e,h2.at fun o e=>pk _ o e,hl1.at fun o e=>pk _ o e,hl2.at fun o e=>pk _ o e,rfl,List.nodup_nil,(fun T h=>nomatch h),fun j T h=>by simp at h⟩
 have hszp:(s.heap.push { cls:=.type "list",data:=.seq #[] }).objs.size=s.heap.objs.size+1:=zaI ..;have hSf:s.heap.objs.size∉[z,TI,TO,i1,i2,l1,l2]:=fun hc=>ybs _ (M _ hc)
 have M1:∀ c∈[z,TI,TO,i1,i2,l1,l2],c<s.heap.objs.size+1:=fun c hc=>ybd (M c hc)
 have hQ':∀ (h':Heap) (acc':Array Value) (c':Nat) (Ts:List Addr),(∀ b o,b∉[s.heap.objs.size,z,TO,i1,i2]->(s.heap.push { cls:=.type "list",data:=.seq #[] }).get? b=some o->h'.get? b=some o)->h'.get? s.heap.objs.size=some { cls:=.type "list",dict:=none,data:=.seq acc' c',slots:=#[] }->acc'.toList=Ts.map Value.ref->Ts.length=xs.size->Ts.Nodup->(∀ T∈Ts,s.heap.objs.size+1<=T)->(∀ (j:Nat) (T:Addr),Ts[j]?=some T->∃ x y,xs[j]?=some x/\ys[j]?=some y/\IsPair h' T x y)->Q (.ref s.heap.objs.size) { s with heap:=h' }:=fun h' acc' c' Ts k b1 b2 b3 b4 b5 b6=>hQ h' acc' c' Ts (fun c o hc e=>k c o (fun hm=>(yaj.mp hm).elim (fun z=>absurd (lt e) (by rw [z];exact ybs _)) hc) (pk c o e)) b1 b2 b3 b4 (fun T hT=>b5 T hT) b6
 clear hQ;generalize hSe:s.heap.objs.size=S at *;generalize s.heap.push { cls:=.type "list",data:=.seq #[] }=h0 at *;have nS:∀ c∈[z,TI,TO,i1,i2,l1,l2],c≠S:=fun c hc e=>hSf (e ▸ hc)
 have hzz:IsZip h0 z TI TO .none:=by
   rcases I0.zz with ⟨_,h,_⟩ | ⟨T0,_,h,_⟩
   . exact h
   . simp at h
 show wpAny _ _ (do let old <- Builtin.List.listItems (.ref S);Builtin.List.listUpdate (.ref S) (fun _=>#[]);letGo old.toList.reverse;Builtin.List.listExtendWith (.ref S) (.ref z) .none) _ _ _;refine zaa ?_;unfold Builtin.List.listItems;refine zaa (wpAny_seqItems hS rfl (zac ?_));show wpAny _ _ (updateSeq S (fun _=>#[]) >>= fun _=>letGo (#[]:Array Value).toList.reverse >>= fun _=>Builtin.List.listExtendWith (.ref S) (.ref z) .none) _ _ _;refine zaa (zaU hS rfl ?_);have hS₂:=zav (Obj.mapSeq (fun _=>(#[]:Array Value))) hS rfl;have oth:∀ b o,b≠S->h0.get? b=some o->(h0.update S (Obj.mapSeq (fun _=>(#[]:Array Value)))).get? b=some o:=fun b o hb e=>(zaq _ _ (Ne.symm hb)).trans e
 have sz1:=(zaG h0 S (Obj.mapSeq (fun _=>(#[]:Array Value)))).1;generalize h0.update S (Obj.mapSeq (fun _=>(#[]:Array Value)))=g1 at hS₂ oth sz1 ⊢;refine zaa (wpAny_letGo ?_);unfold Builtin.List.listExtendWith;have hTz:Shared.TypeIs { s with heap:=g1 } (.ref z) "zip":=⟨_,oth _ _ (nS z (by simp)) hzz,rfl⟩
 refine zaa (wpAny_typeOf (T:="zip") hTz ?_);have e1:Builtin.List.listSameRef (.ref S) (.ref z)=false:=by simp [Builtin.List.listSameRef,(nS z (by simp)).symm]
 rw [if_neg (by rw [e1];decide)];refine zaa (wpAny_pyIter_zip (oth _ _ (nS z (by simp)) hzz) ?_);refine zaa (zaw ?_);unfold Builtin.List.listLengthHint;refine zaa (wpAny_specialOf hTz ZjF ?_);show wpAny _ _ (specialOf (Value.ref z) (Str.ofString "__length_hint__") >>= _) _ _ _;refine zaa (wpAny_specialOf hTz Zie ?_);refine zac ?_;show wpAny _ _ (rule "list.extend.makes-room" >>= fun _=>Builtin.List.listTouch (.ref S) >>= fun _=>again (.builtin "list.extend.loop" ⟨[.ref S,.ref z,.none],[]⟩)) _ _ _;refine zaa (zaR (zaa ?_));show wpAny _ _ (updateSeq S (·.push .none) >>= fun _=>updateSeq S (·.pop)) _ _ _;refine zaa (zaU hS₂ rfl ?_);have hS₃:=zav (Obj.mapSeq (·.push Value.none)) hS₂ rfl;refine zaU (hz:=by seq_fits) hS₃ rfl ?_;have hS₄:=zav (Obj.mapSeq (·.pop)) hS₃ rfl;have oth2:∀ b o,b≠S->h0.get? b=some o->((g1.update S (Obj.mapSeq (·.push Value.none))).update S (Obj.mapSeq (·.pop))).get? b=some o :=
   fun b o hb e=>(zaq _ _ (Ne.symm hb)).trans ((zaq _ _ (Ne.symm hb)).trans (oth b o hb e))
 have sz2:((g1.update S (Obj.mapSeq (·.push Value.none))).update S (Obj.mapSeq (·.pop))).objs.size=S+1:=by rw [(zaG _ S (Obj.mapSeq (·.pop))).1,(zaG g1 S (Obj.mapSeq (·.push Value.none))).1,sz1,hszp]
 refine zac ⟨zaX F.plain_extend_loop _,ext_zip (by exact hh) D M1 hSf (ybn _) hxy hn .none xs.size 0 { s with heap:=(g1.update S (Obj.mapSeq (·.push Value.none))).update S (Obj.mapSeq (·.pop)) } #[] _ [] rfl (yax _) (I0.but hSf (ybn _) oth2) (Nat.le_of_eq sz2.symm) hS₄ rfl fun h' acc' c' Ts k b1 b2 b3 b4 b5 b6=>⟨rfl,hQ' h' acc' c' Ts (fun b o hb e=>k b o hb (oth2 b o (fun z=>hb (by rw [z];exact yaK)) e)) b1 b2 b3 b4 b5 b6⟩⟩
end ZL
namespace L2
open PySem PySem.Spec PyProof.Rows
theorem Inv.grownZ (I:Inv X pins σ H s)(k:∀ b u,s.heap.get? b=some u->h'.get? b=some u)(hH:∀ b,b<s.heap.objs.size->H' b=H b)(ok:HOk X.prog X.w H' h'):Inv X pins σ H' { s with heap:=h',toks:=t' } :=
 I.un ⟨fun b o e _ _ _=>k b o e,fun b o e _ _ _=>⟨o.slots,k b o e⟩,fun b o e n _=>by rw [hH b (zad e)];exact n,fun b o e _=>⟨o,k b o e⟩,fun b xs e=>by rw [hH b (I.hok.lt e)];exact e,fun b o u e=>by rw [hH b (I.hok.lt e)];exact e,fun b ps e=>⟨#[],by rw [hH b (I.hok.lt e),e];simp⟩⟩ ok
def PrOf (H:Hp)(us:List V)(ps:List (V × V)):Prop:=Paired (fun v p=>∃ t:Addr,v=.ref t/\H t=some (.tup [p.1,p.2])) us ps
def lay (L:List (Addr × HO))(H:Hp):Hp:=fun b=>match L.lookup b with
 | some o=>some o
 | none=>H b
theorem lk_mem {b:Addr}{o:HO}(h:L.lookup b=some o):(b,o)∈L:=by
 induction L with
 | nil=>cases h
 | cons p L ih =>
   obtain ⟨a,u⟩:=p;rw [yba] at h;by_cases e:b=a
   . subst e
     rw [BEq.rfl] at h;cases h;exact .head _
   . rw [beq_false_of_ne e] at h
     exact .tail _ (ih h)
theorem lay_old {b:Addr}(h:∀ p∈L,p.1≠b):lay L H b=H b:=by
 unfold lay;have:L.lookup b=none:=by
   cases e:L.lookup b with
   | none=>rfl
   | some o=>exact absurd (show ((b,o):Addr × HO).1=b from rfl) (h (b,o) (lk_mem e))
 rw [this]
theorem ZhG {b:Addr}{o:HO}:lay ((b,o)::L) H b=some o:=by unfold lay;rw [yba,BEq.rfl]
theorem Zhl {a b:Addr}{o:HO}(h:b≠a):lay ((a,o)::L) H b=lay L H b:=by unfold lay;rw [yba,beq_false_of_ne h]
theorem Zjp {b:Addr}{o:HO}(h:lay L H b=some o):(b,o)∈L\/((∀ p∈L,p.1≠b)/\H b=some o):=by
 unfold lay at h;cases e:L.lookup b with
 | none =>
   rw [e] at h;refine .inr ⟨fun p hp z=>?_,h⟩;have:=List.lookup_eq_none_iff.mp e p hp;rw [z] at this;simp at this
 | some u =>
   rw [e] at h;obtain rfl:u=o:=Option.some.inj h;exact .inl (lk_mem e)
theorem ZiL {H:Hp}:∀ {ts:List Addr} {os:List HO},ts.Nodup->ts.length=os.length->∀ (j:Nat) (t:Addr) (o:HO),ts[j]?=some t->os[j]?=some o->lay (ts.zip os) H t=some o
 | [],_,_,_,j,t,o,h,_=>by simp at h
 | _::_,[],_,hl,_,_,_,_,_=>by simp at hl
 | t0::ts,o0::os,nd,hl,0,t,o,h1,h2=>by
   simp only [List.getElem?_cons_zero,zaV] at h1 h2;subst h1 h2;exact ZhG
 | t0::ts,o0::os,nd,hl,j+1,t,o,h1,h2=>by
   rw [List.getElem?_cons_succ] at h1 h2;have n:=ybD.mp nd;show lay ((t0,o0)::ts.zip os) H t=_;rw [Zhl fun z:t=t0=>n.1 (by rw [<- z];exact yao h1)];exact ZiL n.2 (Nat.succ.inj hl) j t o h1 h2
def tLZip (K:ZFr)(ta:TA):TE:=fun σ H Q=>ta σ H fun vs H1=>∃ a b xs ys,vs=[.ref a,.ref b]/\SqL K H1 a xs/\SqL K H1 b ys/\xs.length=ys.length/\∀ (p:Addr) (us:List V) (H2:Hp),Same H1 H2->H1 p=none->H2 p=some (.lst us)->PrOf H2 us (xs.zip ys)->(∀ t,V.ref t∈us->H1 t=none)->Q (.ref p) H2
theorem ZfS {α β:Type}{F:α->β->Prop}:∀ {us:List α} {ps:List β},us.length=ps.length->(∀ (j:Nat) u p,us[j]?=some u->ps[j]?=some p->F u p)->Paired F us ps
 | [],[],_,_=>.nil
 | [],_::_,h,_=>by simp at h
 | _::_,[],h,_=>by simp at h
 | u::us,p::ps,h,f=>.cons (f 0 u p rfl rfl) (ZfS (Nat.succ.inj h) fun j u' p' h1 h2=>f (j+1) u' p' (by simpa using h1) (by simpa using h2))
theorem Zge:∀ ts:List Addr,Vals (ts.map V.ref) (ts.map Value.ref)
 | []=>.nil
 | _::ts=>.cons rfl (Zge ts)
section
variable {a b:Expr}{ta:TA}{p p' pos:Pos}
theorem ZhH (K:ZFr) (hc:X.calm=true) (hgl:Gl X "list") (hml:X.mg "list"=none) (hgz:Gl X "zip") (hmz:X.mg "zip"=none) (ha:PA X [a,b] ta) (hK:X.K=K:=by rfl)
   (hs1:starEach [.Call (.Name "zip" p') [a,b] [] pos'] X.env=[(false,eval (.Call (.Name "zip" p') [a,b] [] pos') X.env)]:=by rfl) (hs:starEach [a,b] X.env=[(false,eval a X.env),(false,eval b X.env)]:=by rfl) (hs2:starEach [b] X.env=[(false,eval b X.env)]:=by rfl) :
   PE X (.Call (.Name "list" p) [.Call (.Name "zip" p') [a,b] [] pos'] [] pos) (tLZip K ta):=by
 subst hK;intro pins s σ H Q I h;refine zal (Zca I hgl hml boot_list (zam ?_ hs1 rfl));rw [hs1];show wpAny _ _ (spliced ((false,eval (.Call (.Name "zip" p') [a,b] [] pos') X.env)::backTo pos [])) _ _ s;refine zaj ?_;refine zal (Zca I hgz hmz ZgY (zam (thn (ha pos' pins s σ H _ I h) fun us s1 ⟨vs,H1,I1,r1,q1⟩=>?_) (by rw [hs,hs2]) (by rw [hs2];rfl)));obtain ⟨l1,l2,xs,ys,rfl,hx,hy,hxy,q⟩:=q1;cases r1 with
 | cons r rr =>
   cases rr with
   | cons r' rr =>
     cases rr;cases r;cases r';obtain ⟨its,rv,pl1,zx⟩:=I1.list hx;obtain ⟨jts,rw_,pl2,_⟩:=I1.list hy;refine call_zip_2 pl1.isList pl2.isList fun g k1 k2 k3 k4 k5 k6 k7=>?_
     have lt1:l1<s1.heap.objs.size:=by obtain ⟨o,e,_⟩:=pl1.isList;exact zad e
     have lt2:l2<s1.heap.objs.size:=by obtain ⟨o,e,_⟩:=pl2.isList;exact zad e
     have D:ZipApart (s1.heap.objs.size+4) (s1.heap.objs.size+2) (s1.heap.objs.size+3) s1.heap.objs.size (s1.heap.objs.size+1) l1 l2:=by constructor<;>(intro q;simp only [Addr] at *;omega)
     have e1:its.toArray.size=xs.length:=by rw [yaB,<- rv.length]
     have e2:jts.toArray.size=ys.length:=by rw [yaB,<- rw_.length]
     refine zao (ZL.call_list_zip (s:={ s1 with heap:=g }) (I.ok.hd hc) D (by rw [e1,e2,hxy]) (by rw [e1];exact zx) k1 k2 k3 k4 k5 (pl1.isList.at fun o e=>k7 _ o e) (pl2.isList.at fun o e=>k7 _ o e) fun h' acc' c' Ts hk hS' hacc hlen nd new tup=>?_);have gs:g.objs.size=s1.heap.objs.size+5:=k6;have keep0:∀ c u,s1.heap.get? c=some u->h'.get? c=some u:=fun c u e=>hk c u (fun hm=>by
       have hlt:c<s1.heap.objs.size:=zad e;simp only [yaj,yaX,zaP] at hm;simp only [Addr] at *;rcases hm with q | q | q | q<;>omega) (k7 c u e)
     have lz:(xs.zip ys).length=xs.length:=by rw [List.length_zip,<- hxy,Nat.min_self]
     have lT:Ts.length=xs.length:=hlen.trans e1;have pos5:∀ q∈(g.objs.size,HO.lst (Ts.map V.ref))::Ts.zip ((xs.zip ys).map fun p=>HO.tup [p.1,p.2]),s1.heap.objs.size<=q.1:=fun q hq=>by
       rcases yaj.mp hq with e | e
       . subst e
         show s1.heap.objs.size<=g.objs.size;omega
       . obtain ⟨a1,_⟩:=List.of_mem_zip (a:=q.1) (b:=q.2) e
         have h1:g.objs.size<q.1:=new _ a1;exact yaN (by rw [gs];exact Nat.le_add_right _ _) (ybF h1)
     have old:∀ c,c<s1.heap.objs.size->lay ((g.objs.size,HO.lst (Ts.map V.ref))::Ts.zip ((xs.zip ys).map fun p=>HO.tup [p.1,p.2])) H1 c=H1 c:=fun c hc=>lay_old fun q hq e=>by
       have:=pos5 q hq;rw [e] at this;exact absurd hc (ycy.mpr this)
     have hok:HOk X.prog X.w (lay ((g.objs.size,HO.lst (Ts.map V.ref))::Ts.zip ((xs.zip ys).map fun p=>HO.tup [p.1,p.2])) H1) h':=fun c o e=>by
       rcases Zjp e with m | ⟨_,e⟩
       . rcases yaj.mp m with e | m
         . cases e
           refine ⟨by rw [yad,lT];exact zx,acc'.toList,c',by rw [hacc];exact Zge Ts,hS'⟩
         . obtain ⟨j,hj⟩:=List.getElem?_of_mem m
           obtain ⟨hj1,hj2⟩:=List.getElem?_zip_eq_some.mp hj;obtain ⟨x,y,ex,ey,hp⟩:=tup j c hj1;rw [yav,Option.map_eq_some_iff] at hj2;obtain ⟨⟨x',y'⟩,hz,rfl⟩:=hj2;obtain ⟨hx',hy'⟩:=List.getElem?_zip_eq_some.mp hz;obtain ⟨u,hu,ru⟩:=rv.get hx';obtain ⟨v,hv,rv'⟩:=rw_.get hy';have eu:u=x:=by
             have:its[j]?=some x:=by simpa using ex
             rw [hu] at this;cases this;rfl
           have ev:v=y:=by
             have:jts[j]?=some y:=by simpa using ey
             rw [hv] at this;cases this;rfl
           subst eu ev;exact ⟨by show 2<=sizeLine;decide,[u,v],.cons ru (.cons rv' .nil),_,hp,rfl,_,rfl⟩
       . refine (I1.hok c o e).stay (fun d v _ q=>keep0 d v q) (fun d q=>?_) fun d xs q=>?_
         . rw [old d (I1.hok.lt q)];exact q
         . rw [old d (I1.hok.lt q)];exact q
     have I2:=I1.grownZ (t':=s1.toks) keep0 old hok;refine ⟨.ref g.objs.size,_,I2,rfl,q g.objs.size (Ts.map V.ref) _ (fun d u e=>by rw [old d (I1.hok.lt e)];exact e) (I1.hok.fresh (by show s1.heap.objs.size<=g.objs.size;omega)) ZhG (ZfS (by rw [yad,lT,lz]) fun j u pr h1 h2=>?_) fun t ht=>?_⟩
     . rw [yav,Option.map_eq_some_iff] at h1
       obtain ⟨T,hT,rfl⟩:=h1;refine ⟨T,rfl,?_⟩;have:=new T (yao hT);rw [Zhl fun z=>by rw [z] at this;exact ybs _ this];exact ZiL nd (by rw [yad,lz,lT]) j T _ hT (by rw [yav,h2];rfl)
     . obtain ⟨T,hT,e⟩:=yaJ.mp ht
       cases e;have:g.objs.size<t:=new t hT;exact I1.hok.fresh (yaN (by rw [gs];exact Nat.le_add_right _ _) (ybF this))
end
end L2
namespace L2
open PySem PySem.Spec PyProof.Rows
theorem ZjP:bootBuiltins "sum"=some (.builtin "sum"):=by decide +kernel
def rSum (K:ZFr):List V->Hp->VK->Prop:=fun xs H Q=>∃ (p:Addr) (ns:List Int),xs=[.ref p]/\SqL K H p (ns.map V.int)/\Q (.int ns.sum) H
theorem ZgW (ns:List Int):∀ j,j<=ns.length->preSum (fun i=>ns.getD i 0) j=(ns.take j).sum
 | 0,_=>rfl
 | j+1,h=>by
   have hj:j<ns.length:=by omega
   show preSum _ j+ns.getD j 0=_;rw [ZgW ns j (by omega),ybk,yae hj,List.sum_append,yat,yae hj];simp
theorem Zj6 (K:ZFr)(hK:X.K=K:=by rfl)(hc:X.calm=true:=by rfl):CallR X (.builtin "sum") (rSum K):=by
 subst hK;intro pins s σ H xs us Q I r h;obtain ⟨p,ns,rfl,hS,q⟩:=h;obtain ⟨u,rfl,ru⟩:=r.one;cases (show u=Value.ref p from ru);obtain ⟨its,vi,pl,hz⟩:=I.list hS;have ne:p≠s.heap.objs.size:=by obtain ⟨o,e,_⟩:=pl.isList;exact yaE (zad e)
 have hl:its.length=ns.length:=by have:=vi.length;rw [yad] at this;exact this.symm
 have hb:∀ (i:Nat) (v:Value),its.toArray[i]?=some v->∃ t,v=.int (ns.getD i 0) t:=fun i v e=>by
   have e2:its[i]?=some v:=by simpa using e
   have hi:i<ns.length:=by have:=(yaQ.mp e2).1;omega
   obtain ⟨u,hu,ru⟩:=vi.get (i:=i) (x:=.int (ns.getD i 0)) (by rw [yav,yae hi,yat,yae hi];rfl);rw [hu] at e2;cases e2;exact ru
 refine call_sum_walkG (wpAny_pyIter_list pl.isList ?_);refine ⟨s.heap.objs.size,_,_,_,_,_,fun i=>ns.getD i 0,rfl,Walks.list (A:=X.A.in1) (show X.A.in1.handled=none from I.ok.hd hc) s.heap.objs.size p ne its.toArray,⟨⟨_,zaf _ rfl,rfl,rfl⟩,pl.isList.push _⟩,fun b hb=>?_,hb,fun h' tk t' hk=>?_⟩
 . obtain ⟨o,e,_⟩:=pl.isList
   have lp:=zad e;have:b=s.heap.objs.size\/b=p:=by simpa using hb
   show b<(s.heap.push _).objs.size;rw [size_push'];rcases this with rfl | rfl
   . exact ybn _
   . exact ybd lp
 . have e:preSum (fun i=>ns.getD i 0) its.toArray.size=ns.sum:=by
     rw [yaB,hl,ZgW ns _ (yag _),ycu]
   rw [e];refine ⟨.int ns.sum,H,?_,⟨t',rfl⟩,q⟩;exact I.kept (t':=tk) fun b o q2=>hk b o (by
     intro z;have:b=s.heap.objs.size:=by simpa using z
     exact absurd (zad q2) (by rw [this];exact ybs _)) (zab _ q2)
theorem ZjO {n:Nat}:gOwn 2 (gTup K n (gCons (gName 0) (gCons (gName 1) gNil))):=by intro v σ H Q h;simp only [gTup,gCons,gName,gNil] at h ⊢;obtain ⟨a,xs,e1,e2,e3,u,r,e4,u1,r1,e5,e6,q⟩:=h;exact ⟨a,xs,e1,e2,e3,u,r,e4,u1,r1,e5,e6,⟨by simp,by rcases σ with _ | ⟨_,_ | ⟨_,_⟩⟩<;>simp⟩,q⟩
end L2
namespace L2
open PySem PySem.Spec PyProof.Rows
def tSortVal (td:TE):TE:=fun σ H Q=>td σ H fun x H1=>∃ (a:Addr) (kvs:List (Key × V)) (ns:List Int),x=.ref a/\H1 a=some (.dK kvs)/\kvs.map (·.2)=ns.map V.int/\∀ (l:Addr) (ns':List Int),H1 l=none->ns'.Perm ns->ns'.Pairwise (·<=·)->Q (.ref l) (upd H1 l (.lst (ns'.map V.int)))
theorem Zjc {κ:Type}:∀ {kvs:List (κ × V)} {vs:List (κ × Value)} {i:Nat} {k:κ} {v:Value},KV kvs vs->vs[i]?=some (k,v)->∃ u,kvs[i]?=some (k,u)/\RelV u v
 | _,_,_,_,_,.nil,e=>by cases e
 | _,_,0,_,_,.cons h _,e=>by
   cases Option.some.inj e;refine ⟨_,?_,h.2⟩;rw [show ∀ (a:κ × V) (l:List (κ × V)),(a::l)[0]?=some (a.1,a.2) from fun _ _=>rfl];exact congrArg (fun z=>some (z,_)) h.1
 | _,_,i+1,_,_,.cons _ t,e=>Zjc (i:=i) t e
section
variable {o:Expr}{td:TE}{p apos cpos pos:Pos}
theorem ZfE (hc:X.calm=true)(hgl:Gl X "sorted")(hml:X.mg "sorted"=none)(ho:PE X o td)(hbase:attributeBase o "values" X.env (eval o X.env)=eval o X.env:=by rfl)(hline:(apos.endLine==cpos.line)=true:=by rfl)
   (hs1:starEach [.Call (.Attribute o "values" apos) [] [] cpos] X.env=[(false,eval (.Call (.Attribute o "values" apos) [] [] cpos) X.env)]:=by rfl) :
   PE X (.Call (.Name "sorted" p) [.Call (.Attribute o "values" apos) [] [] cpos] [] pos) (tSortVal td):=by
 intro pins s σ H Q I h;refine zal (Zca I hgl hml boot_sorted (PyProof.Rows.callWith_builtin1 ?_ hs1 rfl));rw [hs1];show wpAny _ _ (spliced ((false,eval (.Call (.Attribute o "values" apos) [] [] cpos) X.env)::backTo pos [])) _ _ s;refine zaj ?_;refine wpAny_Call_method0_late hbase hline (thn (ho pins s σ H _ I h) fun u s1 ⟨x,H1,I1,rx,a,kvs,ns,ex,ha,hk,q⟩=>?_);subst ex;obtain rfl:u=Value.ref a:=rx;obtain ⟨t1,t2,_⟩:=Zff I1 (.inl ⟨kvs,.inl ha⟩);refine ⟨_,_,zaE,PySem.F.slot_dict_values,PySem.F.type_dict_values,t1,t2,zap rfl (PySem.evalArgs_none ?_)⟩;obtain ⟨hz,lo,vs,kv,dd⟩:=Zga I1.hok ha;refine call_meetsIn PySem.F.slot_dict_values dd.typeIs PySem.F.entry_dict_values (PySem.F.args_dict_values_1 _) (meets_dict_values (mixKind X.prog X.w) a lo) ⟨⟨vs,dd⟩,?_⟩;refine zao ?_;obtain ⟨ep,hat⟩:=dd.dictAt;have hv:(s1.heap.push { cls:=.type "dict_values",data:=.fields #[.ref a] }).get? s1.heap.objs.size=some { cls:=.type "dict_values",data:=.fields #[.ref a] }:=zaf _ rfl;have hat2:=hat.push { cls:=.type "dict_values",data:=.fields #[.ref a] };have I2:Inv X pins σ H1 { s1 with heap:=s1.heap.push { cls:=.type "dict_values",data:=.fields #[.ref a] } }:=I1.kept fun b o z=>zab _ z
 generalize s1.heap.objs.size=r at hv ⊢;generalize s1.heap.push { cls:=.type "dict_values",data:=.fields #[.ref a] }=h0 at hv hat2 I2 ⊢;have lk:kvs.length=vs.length:=kv.length;have ln:ns.length=kvs.length:=by have:=congrArg List.length hk;rw [yad,yad] at this;exact this.symm
 refine Calls.call_function_entry kind_sorted plain_sorted entry_sorted (args_sorted1 _) ?_;unfold Builtin.«sorted»;refine zaa (m:=checkCount "sorted" 1 1 _) (zac ?_);refine zaa (PySem.W.kdu_collect (A:=X.A.in1) (PySem.W.kdl_values (knd:=mixKind X.prog X.w) (r:=r) (d:=a) (kvs:=vs) (ep:=ep)) (show X.A.in1.handled=none from I.ok.hd hc) ⟨⟨_,hv,rfl,rfl⟩,hat2⟩ (by omega) fun h1 tk acc old hacc=>?_);have hi:IntsAre acc.toList ns:=by
   refine Zdk (by rw [yam,hacc.1];omega) fun j v hv=>?_
   obtain ⟨k,e1⟩:=hacc.2 j v (by rw [<- yaD];exact hv);obtain ⟨u,e2,e3⟩:=Zjc kv e1;have e4:(kvs.map (·.2))[j]?=some u:=by rw [yav,e2];rfl
   rw [hk,yav] at e4;cases en:ns[j]? with
   | none=>rw [en] at e4;cases e4
   | some i =>
     rw [en] at e4;cases (show V.int i=u from Option.some.inj e4);obtain ⟨tt,e5⟩:=e3;exact ⟨i,tt,rfl,e5⟩
 have lv:acc.toList.length<=sizeLine:=by rw [IntsAre.length hi];omega
 refine zaa (wpAny_newList ?_ (by simpa using lv));have oL:(h1.push (seqObj "list" acc.toList.toArray 0)).get? h1.objs.size=some (seqObj "list" acc.toList.toArray 0):=zaf _ rfl;show wpAny _ _ _ _ _ { s1 with heap:=h1.push (seqObj "list" acc.toList.toArray 0),toks:=tk };refine zaa (zaw (zaD slot_list_sort ⟨_,oL,rfl⟩ entry_list_sort (Srt.sort_ints oL hi lv fun out ns' g1 g2 g3=>⟨_,rfl,?_⟩) (args_list_sort _)));obtain ⟨e,he⟩:=sortedHeap_at (out:=out) oL;have I3:Inv X pins σ H1 { s1 with heap:=h1,toks:=tk }:=I2.kept old;have lo2:(ns'.map V.int).length<=sizeLine:=by rw [yad,g2.length_eq];omega
 refine zac ⟨_,rfl,.ref h1.objs.size,_,I3.laid (t':=tk) (o:=.lst (ns'.map V.int)) (fun b u e2=>?_) (yag _) ⟨lo2,out.toList,e,ZcH g1,by rw [Array.toArray_toList];exact he⟩,rfl,q _ ns' (I3.hok.fresh (yag _)) g2 g3⟩;have lb:b<h1.objs.size:=zad e2;rw [sortedHeap_old (yaE lb) (by rw [size_push'];exact ybd lb)];exact zab _ e2
end
end L2
namespace L2
open PySem PySem.Spec PyProof.Rows
structure ByCls (K:ZFr)(mg:Str->Option Value)(x m:Str)(M f:Addr):Prop where
 g:mg x=some (.ref M)
 sp:PySem.W.specialIn K (.ref M) "__getattribute__"=some (some (.builtin "type.__getattribute__"))
 rd:PySem.W.readsIn K M (.type "type")=true
 fc:PySem.W.findCls K (.ref M) (.type "type") m=some (.val (.ref f))
 kp:PySem.W.keepIn K (.ref f)=true
def BaseAt (P:Program)(w:World)(K:ZFr)(mg:Str->Option Value)(base:Heap)(x m:Str)(ps:List Str)(k:Nat)(sp:Sp):Prop :=
 ∃ M f fd,ByCls K mg x m M f/\FnOk P w K mg base CX0 k f fd ps sp/\Binds K fd ps []
section
variable {k:Nat}{ps:List Str}{x m:Str}{p pos apos:Pos}{e:Expr}{t:TA}{pl:Sem Bool}
theorem ZiT (F:BaseAt X.prog X.w X.K X.mg X.base x m ps k sp)(hr:Room k X.A)(hg:Gl X x)(ha:PA X (e::es) t)
   (hdb:(x==("__debug__":Str))=false:=by decide) (he:starEach (e::es) X.env=(false,eval e X.env)::starEach es X.env:=by rfl) (hpl:(backTo pos (starEach es X.env)).any (·.1)=false:=by rfl)
   (ht:eval (.Call (.Attribute (.Name x p) m apos) (e::es) [] pos) X.env=(do
     let ov <- eval (.Name x p) X.env
     standAt apos.atName
     let (f,first) <- holding [ov] (getMethod ov m pl)
     callWith pos f first (backTo pos (starEach (e::es) X.env)) (backToKw pos (keywordEach [] X.env))):=by rfl) :
   PE X (.Call (.Attribute (.Name x p) m apos) (e::es) [] pos) (tCall sp [] E0 t):=by
 obtain ⟨M,f,fd,c,F,b⟩:=F;intro pins s σ H Q I h;refine PySem.W.methodCall_KW (pl:=pl) (ZdF I hg c.g ?_ hdb) ht;refine PySem.W.method_cls I.kIn c.sp (PySem.W.cls_value I.kIn c.rd c.fc rfl ?_);refine zaS (first:=[]) (h₀:=X.base) I.ok.mod.kin c.kp (thn (ha pos pins _ σ H _ (I.tok _) h) fun us s1 ⟨vs,H1,I1,r,q⟩=>⟨I1.kIn,?_⟩) he hpl;exact Zfw (us:=us) (vs:=vs) (dvs:=[]) F hr b .nil pass0 I1 r q
end
section
variable {cd:Value}{outer:List Env}{s0:Shared}{H0:Hp}{E:XK}
end
section
variable {k:Nat}{ps:List Str}
end
end L2
local macro_rules | `(tactic| walk_at "r")=>`(tactic| exact L2.Room.mono (by assumption) (by decide))
namespace L2
open PySem PySem.Spec PyProof.Rows
section
variable {a b:Expr}{ta tb:TE}{pos:Pos}
theorem pe_c {op:CmpOp}{r:R2}(ho:OpR X (compareOp op) r)(ha:PE X a ta)(hb:PE X b tb)(hm:behindInMarks op b=false:=by exact nomark _):PE X (.Compare a [op] [b] pos) (tOp r ta tb):=pe_cmpR ho ha hb hm
theorem Za0 {op:CmpOp}{r:R2}(ho:OpR X (compareOp op) r)(ha:PE X a ta)(hb:PE X b tb)(hm:behindInMarks op b=false:=by exact nomark _):PT X (.Compare a [op] [b] pos) (tTest (tOp r ta tb)):=pt_cmpR ho ha hb hm
theorem Zc0 {r:R2}(hr:IxR X r)(ha:PE X a ta)(hb:PE X b tb)(hs:PlainIx b:=by exact fun _ _=>rfl):PE X (.Subscript a b pos) (tOp r ta tb):=pe_ix hr ha hb hs
theorem ZaJ {x:Str}{i:Int}{tk:Tok}(hm:X.mg x=some (.int i tk))(hg:Gl X x:=by rfl)(hd:(x==("__debug__":Str))=false:=by decide):PE X (.Name x pos) (tC (.int i)):=Zi2 hg hm ⟨_,rfl⟩ hd
theorem Zaz {i:Nat}{x:Str}{e:Expr}(he:PE X e te)(hN:X.N.Nodup:=by assumption)(hi:X.N[i]?=some x:=by rfl)(hx:Loc X.env.scope x:=by walk_at "l")(hs:swapsWith e (some (.Name x pos')) pos.line X.env=pure false:=by rfl)(hf:X.fn x=true\/X.env.scope.names.lookup x=some .local:=by first | exact .inl rfl | exact .inr rfl | assumption):PS X (.Assign [.Name x pos'] e pos) (tAsg te (gName i)):=ps_set hN hi hx he hs hf
theorem ZbM {i:Nat}{x:Str}(hN:X.N.Nodup:=by assumption)(hi:X.N[i]?=some x:=by rfl)(hx:Loc X.env.scope x:=by walk_at "l")(hf:X.fn x=true\/X.env.scope.names.lookup x=some .local:=by first | exact .inl rfl | exact .inr rfl | assumption):PG X (.Name x pos) (gName i):=Za2 hN hi hx hf
end
end L2
namespace L2
open PySem
theorem oT{H:Hp}{b:Addr}{o:HO}(e:noT H b=some o):H b=some o:=(Zae e).1
theorem sL{K:ZFr}{H:Hp}{b:Addr}{xs:List V}(e:noT H b=some (.lst xs)):SqL K H b xs:=SqL.of (Zae e).1
theorem nU{H:Hp}{b:Addr}{xs:List V}:noT (upd H b (.lst xs)) b=some (.lst xs):=Zan Zac (nl _)
end L2
namespace My
open PySem L2 BM PyProof.Rows
def top (i:Nat):Stmt:=PySem.Challenge.pw_runmarks_k53_rows_within.main.body.getD i (.Pass ⟨0,0,0,0⟩)
abbrev ZbY:Stmt:=top 7
theorem j8:FnScope ["thing"] ["thing"] (defScope ZbY):=by walk_at "s"
abbrev Zd0:Stmt:=top 8
theorem jbZ:FnScope ["word","place"] ["word","place"] (defScope Zd0):=by walk_at "s"
abbrev Zco:Stmt:=top 9
theorem jbf:FnScope ["place"] ["place"] (defScope Zco):=by walk_at "s"
abbrev Zbd:Stmt:=top 10
theorem jaj:FnScope ["word"] ["word"] (defScope Zbd):=by walk_at "s"
abbrev Zdx:Stmt:=top 11
theorem jbK:FnScope ["word","by_two","by_four","by_eight","by_sixteen"] ["word"] (defScope Zdx):=by walk_at "s"
abbrev ZbS:Stmt:=top 12
theorem jaU:FnScope ["word","place"] ["word","place"] (defScope ZbS):=by walk_at "s"
abbrev Zeg:Stmt:=top 13
theorem jb0:FnScope ["word","k","passed"] ["word","k"] (defScope Zeg):=by walk_at "s"
abbrev Zcq:Stmt:=top 14
theorem jbg:FnScope ["word"] ["word"] (defScope Zcq):=by walk_at "s"
abbrev ZcX:Stmt:=top 15
theorem jbA:FnScope ["word"] ["word"] (defScope ZcX):=by walk_at "s"
abbrev Zcg:Stmt:=top 16
theorem jbh:FnScope ["first","last"] ["first","last"] (defScope Zcg):=by walk_at "s"
abbrev Zdy:Stmt:=top 17
theorem jbL:FnScope ["places","word","place"] ["places"] (defScope Zdy):=by walk_at "s"
abbrev Zcd:Stmt:=top 18
theorem jbi:FnScope ["word","places"] ["word"] (defScope Zcd):=by walk_at "s"
abbrev Zdt:Stmt:=top 19
theorem jbM:FnScope ["word","runs","first","behind"] ["word"] (defScope Zdt):=by walk_at "s"
abbrev Zbp:Stmt:=top 20
theorem jaz:FnScope ["runs","word","first","last"] ["runs"] (defScope Zbp):=by walk_at "s"
abbrev ZeO:Stmt:=top 32
theorem jcg:FnScope ["word","begins"] ["word"] (defScope ZeO):=by walk_at "s"
abbrev Zgu:Stmt:=top 33
theorem jcn:FnScope ["word","as_list","as_bits","as_runs"] ["word"] (defScope Zgu):=by walk_at "s"
abbrev ZeL:Stmt:=top 34
theorem jch:FnScope ["stretch","place"] ["stretch","place"] (defScope ZeL):=by walk_at "s"
abbrev Zdw:Stmt:=top 35
theorem jbN:FnScope ["stretch","place"] ["stretch","place"] (defScope Zdw):=by walk_at "s"
abbrev Zfg:Stmt:=top 37
theorem jb1:FnScope ["many","goes_on","low","high","looks","at"] ["many","goes_on"] (defScope Zfg):=by walk_at "s"
abbrev ZbH:Stmt:=top 38
theorem Ze9:FnScope ["keys","key"] ["keys","key"] (defScope ZbH):=by walk_at "s"
abbrev Zbg:Stmt:=top 39
theorem jak:FnScope ["aheads","k","behind","looks"] ["aheads","k"] (defScope Zbg):=by walk_at "s"
abbrev Zbv:Stmt:=top 42
theorem jaA:FnScope ["thing"] ["thing"] (defScope Zbv):=by walk_at "s"
abbrev ZcU:Stmt:=top 44
theorem jbB:FnScope ["numbers","words","n"] ["numbers"] (defScope ZcU):=by walk_at "s"
abbrev Zc5:Stmt:=top 45
theorem jbC:FnScope ["words"] ["words"] (defScope Zc5):=by walk_at "s"
abbrev Zc4:Stmt:=top 46
theorem jbD:FnScope ["pairs","made","key","stretch"] ["pairs"] (defScope Zc4):=by walk_at "s"
abbrev Zch:Stmt:=top 54
theorem jbj:FnScope ["_law_script","_law_k"] ["_law_script","_law_k"] (defScope Zch):=by walk_at "s"
abbrev ZdD:Stmt:=top 55
theorem jbO:FnScope ["_law_cell","_law_k","_law_number"] ["_law_cell","_law_k"] (defScope ZdD):=by walk_at "s"
abbrev ZdE:Stmt:=top 56
theorem jbP:FnScope ["_law_cell","_law_top","_law_number","_law_far"] ["_law_cell","_law_top"] (defScope ZdE):=by walk_at "s"
abbrev ZeW:Stmt:=top 57
theorem jci:FnScope ["_law_script","_law_cell","_law_number","_law_head","_law_key"] ["_law_script","_law_cell"] (defScope ZeW):=by walk_at "s"
abbrev ZcO:Stmt:=top 58
theorem jbE:FnScope ["_law_cell","_law_number","_law_top","_law_width"] ["_law_cell"] (defScope ZcO):=by walk_at "s"
abbrev ZcS:Stmt:=top 59
theorem jbF:FnScope ["_law_column_here","_law_script","_law_top","_law_plain","_law_number","_law_k","_law_row_here","_law_cell"] ["_law_column_here","_law_script","_law_top"] (defScope ZcS):=by walk_at "s"
abbrev ZdC:Stmt:=top 60
theorem jbQ:FnScope ["_law_cell","_law_k","_law_top","_law_plain","_law_number","_law_some"] ["_law_cell","_law_k","_law_top","_law_plain"] (defScope ZdC):=by walk_at "s"
abbrev ZcV:Stmt:=top 61
theorem jbG:FnScope ["_law_found","_law_due"] ["_law_found","_law_due"] (defScope ZcV):=by walk_at "s"
abbrev Zcf:Stmt:=top 62
theorem jar:FnScope ["_law_found","_law_due","_law_number","_law_book","_law_key","_law_under"] ["_law_found","_law_due","_law_number"] (defScope Zcf):=by walk_at "s"
abbrev ZdA:Stmt:=top 63
theorem ja2:FnScope ["_law_column_here","_law_plain","_law_script","_law_top","_law_k","_law_cell","_law_low","_law_high","_law_due","_law_found"] ["_law_column_here","_law_plain","_law_script","_law_top"] (defScope ZdA):=by walk_at "s"
abbrev ZeC:Stmt:=top 64
theorem jcq:FnScope ["_law_script","_law_column_here","_law_top","_law_plain","_law_row_here"] ["_law_script"] (defScope ZeC):=by walk_at "s"
abbrev Zb6:Stmt:=inClass (top 27) 0
abbrev Za3:Stmt:=inClass (top 27) 1
theorem jaB:FnScope ["self"] ["self"] (defScope Za3):=by walk_at "s"
abbrev Zbb:Stmt:=inClass (top 27) 2
theorem jaF:FnScope ["self","place"] ["self","place"] (defScope Zbb):=by walk_at "s"
abbrev ZaV:Stmt:=inClass (top 27) 3
theorem jal:FnScope ["self","place"] ["self","place"] (defScope ZaV):=by walk_at "s"
abbrev ZaQ:Stmt:=inClass (top 27) 4
theorem j9:FnScope ["self","k"] ["self","k"] (defScope ZaQ):=by walk_at "s"
abbrev Zbn:Stmt:=inClass (top 28) 0
theorem ju:FnScope ["self","places"] ["self","places"] (defScope Zbn):=by walk_at "s"
abbrev Zcb:Stmt:=inClass (top 28) 1
theorem jI:FnScope ["self"] ["self"] (defScope Zcb):=by walk_at "s"
abbrev Zb3:Stmt:=inClass (top 28) 2
theorem jJ:FnScope ["self"] ["self"] (defScope Zb3):=by walk_at "s"
abbrev ZbV:Stmt:=inClass (top 28) 3
theorem jK:FnScope ["self"] ["self"] (defScope ZbV):=by walk_at "s"
abbrev Zbw:Stmt:=inClass (top 29) 0
theorem jw:FnScope ["self","word"] ["self","word"] (defScope Zbw):=by walk_at "s"
abbrev Zcs:Stmt:=inClass (top 29) 1
theorem jT:FnScope ["self"] ["self"] (defScope Zcs):=by walk_at "s"
abbrev Zcp:Stmt:=inClass (top 29) 2
theorem jU:FnScope ["self"] ["self"] (defScope Zcp):=by walk_at "s"
abbrev Zcm:Stmt:=inClass (top 29) 3
theorem jV:FnScope ["self"] ["self"] (defScope Zcm):=by walk_at "s"
abbrev Zbx:Stmt:=inClass (top 30) 0
theorem jx:FnScope ["self","runs"] ["self","runs"] (defScope Zbx):=by walk_at "s"
abbrev Zce:Stmt:=inClass (top 30) 1
theorem jW:FnScope ["self"] ["self"] (defScope Zce):=by walk_at "s"
abbrev Zck:Stmt:=inClass (top 30) 2
theorem jX:FnScope ["self"] ["self"] (defScope Zck):=by walk_at "s"
abbrev Zct:Stmt:=inClass (top 30) 3
theorem jY:FnScope ["self"] ["self"] (defScope Zct):=by walk_at "s"
abbrev ZcG:Stmt:=inClass (top 43) 0
theorem jm:FnScope ["self"] ["self"] (defScope ZcG):=by walk_at "s"
abbrev ZeH:Stmt:=inClass (top 43) 1
theorem jbk:FnScope ["self","n","stretch","place"] ["self","n"] (defScope ZeH):=by walk_at "s"
abbrev ZdV:Stmt:=inClass (top 43) 2
theorem jaV:FnScope ["self","n"] ["self","n"] (defScope ZdV):=by walk_at "s"
abbrev ZeD:Stmt:=inClass (top 43) 5
theorem jbl:FnScope ["self","n","stretch"] ["self","n"] (defScope ZeD):=by walk_at "s"
abbrev Zed:Stmt:=inClass (top 43) 6
theorem jaW:FnScope ["self"] ["self"] (defScope Zed):=by walk_at "s"
abbrev ZdI:Stmt:=inClass (top 43) 7
theorem jaG:FnScope ["self","n","at"] ["self","n"] (defScope ZdI):=by walk_at "s"
abbrev Zds:Stmt:=inClass (top 43) 10
theorem jaC:FnScope ["self","k","at"] ["self","k"] (defScope Zds):=by walk_at "s"
abbrev Zc7:Stmt:=inClass (top 43) 11
theorem jam:FnScope ["self","numbers","key","stretch"] ["self"] (defScope Zc7):=by walk_at "s"
abbrev Zd6:Stmt:=inClass (top 43) 12
theorem jaX:FnScope ["self"] ["self"] (defScope Zd6):=by walk_at "s"
abbrev Zei:Stmt:=inClass (top 43) 14
theorem jaY:FnScope ["self"] ["self"] (defScope Zei):=by walk_at "s"
abbrev ZcB:Stmt:=inClass (top 43) 17
theorem jaa:FnScope ["self"] ["self"] (defScope ZcB):=by walk_at "s"
abbrev ZbU:Stmt:=inClass (top 43) 18
theorem jL:FnScope ["self","key","at"] ["self","key"] (defScope ZbU):=by walk_at "s"
abbrev ZcC:Stmt:=inClass (top 43) 19
theorem jab:FnScope ["self","key","at"] ["self","key"] (defScope ZcC):=by walk_at "s"
abbrev Zc8:Stmt:=inClass (top 43) 20
theorem jan:FnScope ["self","key","stretch"] ["self","key"] (defScope Zc8):=by walk_at "s"
abbrev ZbN:Stmt:=inClass (top 43) 22
theorem jD:FnScope ["self","k"] ["self","k"] (defScope ZbN):=by walk_at "s"
abbrev ZdH:Stmt:=inClass (top 43) 23
theorem jaH:FnScope ["self","key"] ["self","key"] (defScope ZdH):=by walk_at "s"
abbrev Zdr:Stmt:=inClass (top 43) 24
theorem jaD:FnScope ["self","at","key"] ["self","at","key"] (defScope Zdr):=by walk_at "s"
abbrev ZcJ:Stmt:=inClass (top 43) 25
theorem jac:FnScope ["self","at"] ["self","at"] (defScope ZcJ):=by walk_at "s"
abbrev Zd4:Stmt:=inClass (top 43) 26
theorem jaZ:FnScope ["self","key","stretch","at","behind","ahead","more","mine"] ["self","key","stretch"] (defScope Zd4):=by walk_at "s"
abbrev Zat:Stmt:=inClass (top 48) 0
theorem ZdP:FnScope ["self"] ["self"] (defScope Zat):=by walk_at "s"
abbrev Za1:Stmt:=inClass (top 48) 1
theorem jZ:FnScope ["self","value"] ["self","value"] (defScope Za1):=by walk_at "s"
abbrev ZbP:Stmt:=inClass (top 48) 2
theorem ja0:FnScope ["self","row","value","number"] ["self","row","value"] (defScope ZbP):=by walk_at "s"
abbrev ZbE:Stmt:=inClass (top 48) 3
theorem jaI:FnScope ["self","row","value","number","rows"] ["self","row"] (defScope ZbE):=by walk_at "s"
abbrev Zbc:Stmt:=inClass (top 48) 6
theorem Zex:FnScope ["self","low","high"] ["self","low","high"] (defScope Zbc):=by walk_at "s"
abbrev ZaM:Stmt:=inClass (top 48) 8
theorem jE:FnScope ["self","key"] ["self","key"] (defScope ZaM):=by walk_at "s"
abbrev Zcn:Stmt:=inClass (top 50) 0
theorem j1:FnScope ["self","width"] ["self","width"] (defScope Zcn):=by walk_at "s"
abbrev ZcP:Stmt:=inClass (top 50) 1
theorem ja1:FnScope ["self"] ["self"] (defScope ZcP):=by walk_at "s"
abbrev Za8:Stmt:=inClass (top 50) 3
theorem jF:FnScope ["self","value"] ["self","value"] (defScope Za8):=by walk_at "s"
abbrev ZbX:Stmt:=inClass (top 50) 4
theorem jaE:FnScope ["self","row"] ["self","row"] (defScope ZbX):=by walk_at "s"
abbrev ZbC:Stmt:=inClass (top 50) 10
theorem Zd9:FnScope ["self","key","low","high"] ["self","key","low","high"] (defScope ZbC):=by walk_at "s"
abbrev Zba:Stmt:=inClass (top 50) 11
theorem jG:FnScope ["self","key","limit","alike","below","bit","ones"] ["self","key","limit"] (defScope Zba):=by walk_at "s"
abbrev Zb2:Stmt:=inClass (top 52) 0
theorem jM:FnScope ["self","top"] ["self","top"] (defScope Zb2):=by walk_at "s"
abbrev Zcv:Stmt:=inClass (top 52) 1
theorem jaJ:FnScope ["self"] ["self"] (defScope Zcv):=by walk_at "s"
abbrev Za7:Stmt:=inClass (top 52) 3
theorem jz:FnScope ["self","value"] ["self","value"] (defScope Za7):=by walk_at "s"
abbrev ZbL:Stmt:=inClass (top 52) 4
theorem jao:FnScope ["self","row","number"] ["self","row"] (defScope ZbL):=by walk_at "s"
abbrev Za5:Stmt:=inClass (top 52) 9
theorem Zc9:FnScope ["self","key","low","high"] ["self","key","low","high"] (defScope Za5):=by walk_at "s"
abbrev Zbm:Stmt:=inClass (top 52) 10
theorem j2:FnScope ["self","key","low","high","word","number"] ["self","key","low","high"] (defScope Zbm):=by walk_at "s"
structure Blt (mg:Str->Option Value):Prop where
 len:mg "len"=none
 range:mg "range"=none
 isi:mg "isinstance"=none
 int:mg "int"=none
 bool:mg "bool"=none
 lst:mg "list"=none
 min:mg "min"=none
 sorted:mg "sorted"=none
 st:mg "set"=none
 sum:mg "sum"=none
 dct:mg "dict"=none
 zip:mg "zip"=none
 ValueError:mg "ValueError"=none
structure CD_ListStretch (K:ZFr)(mg:Str->Option Value)(C:Addr):Prop where
 at_:mg "ListStretch"=some (.ref C)
 c:Cls K C
 init:MakerAt K C "ListStretch.__init__" Zbn ["self","places"]
 m_kind:MDefAt K C "kind" "ListStretch.kind" Zcb ["self"]
 m_body:MDefAt K C "body" "ListStretch.body" Zb3 ["self"]
 m_word:MDefAt K C "word" "ListStretch.word" ZbV ["self"]
 m_told:MDefAt K C "told" "Stretch.told" Zb6 ["self"]
 m_many:MDefAt K C "many" "Stretch.many" Za3 ["self"]
 m_has:MDefAt K C "has" "Stretch.has" Zbb ["self","place"]
 m_below:MDefAt K C "below" "Stretch.below" ZaV ["self","place"]
 m_chosen:MDefAt K C "chosen" "Stretch.chosen" ZaQ ["self","k"]
 n_places:NoAttr K C "places"
structure CD_BitStretch (K:ZFr)(mg:Str->Option Value)(C:Addr):Prop where
 at_:mg "BitStretch"=some (.ref C)
 c:Cls K C
 init:MakerAt K C "BitStretch.__init__" Zbw ["self","word"]
 m_kind:MDefAt K C "kind" "BitStretch.kind" Zcs ["self"]
 m_body:MDefAt K C "body" "BitStretch.body" Zcp ["self"]
 m_word:MDefAt K C "word" "BitStretch.word" Zcm ["self"]
 m_told:MDefAt K C "told" "Stretch.told" Zb6 ["self"]
 m_many:MDefAt K C "many" "Stretch.many" Za3 ["self"]
 m_has:MDefAt K C "has" "Stretch.has" Zbb ["self","place"]
 m_below:MDefAt K C "below" "Stretch.below" ZaV ["self","place"]
 m_chosen:MDefAt K C "chosen" "Stretch.chosen" ZaQ ["self","k"]
 n_ones:NoAttr K C "ones"
structure CD_RunStretch (K:ZFr)(mg:Str->Option Value)(C:Addr):Prop where
 at_:mg "RunStretch"=some (.ref C)
 c:Cls K C
 init:MakerAt K C "RunStretch.__init__" Zbx ["self","runs"]
 m_kind:MDefAt K C "kind" "RunStretch.kind" Zce ["self"]
 m_body:MDefAt K C "body" "RunStretch.body" Zck ["self"]
 m_word:MDefAt K C "word" "RunStretch.word" Zct ["self"]
 m_told:MDefAt K C "told" "Stretch.told" Zb6 ["self"]
 m_many:MDefAt K C "many" "Stretch.many" Za3 ["self"]
 m_has:MDefAt K C "has" "Stretch.has" Zbb ["self","place"]
 m_below:MDefAt K C "below" "Stretch.below" ZaV ["self","place"]
 m_chosen:MDefAt K C "chosen" "Stretch.chosen" ZaQ ["self","k"]
 n_runs:NoAttr K C "runs"
structure CD_Marks (K:ZFr)(mg:Str->Option Value)(C:Addr):Prop where
 at_:mg "Marks"=some (.ref C)
 c:Cls K C
 init:MakerAt K C "Marks.__init__" ZcG ["self"]
 m_put:MDefAt K C "put" "Marks.put" ZeH ["self","n"]
 m_take:MDefAt K C "take" "Marks.take" ZdV ["self","n"]
 m_has:MDefAt K C "has" "Marks.has" ZeD ["self","n"]
 m_many:MDefAt K C "many" "Marks.many" Zed ["self"]
 m_below:MDefAt K C "below" "Marks.below" ZdI ["self","n"]
 m_chosen:MDefAt K C "chosen" "Marks.chosen" Zds ["self","k"]
 m_numbers:MDefAt K C "numbers" "Marks.numbers" Zc7 ["self"]
 m_told:MDefAt K C "told" "Marks.told" Zd6 ["self"]
 m_book:MDefAt K C "book" "Marks.book" Zei ["self"]
 m_key_list:MDefAt K C "key_list" "Marks.key_list" ZcB ["self"]
 m_stretch_at:MDefAt K C "stretch_at" "Marks.stretch_at" ZbU ["self","key"]
 m_count_at:MDefAt K C "count_at" "Marks.count_at" ZcC ["self","key"]
 m_word_at:MDefAt K C "word_at" "Marks.word_at" Zc8 ["self","key"]
 m_check_place:MDefAt K C "check_place" "Marks.check_place" ZbN ["self","k"]
 m_found:MDefAt K C "found" "Marks.found" ZdH ["self","key"]
 m_stands:MDefAt K C "stands" "Marks.stands" Zdr ["self","at","key"]
 m_ahead_of:MDefAt K C "ahead_of" "Marks.ahead_of" ZcJ ["self","at"]
 m_keep:MDefAt K C "keep" "Marks.keep" Zd4 ["self","key","stretch"]
 ty:TyIns K C
 i_Marks:IsiTo K mg C "Marks" true
 n_keyed:NoAttr K C "keyed"
 n_aheads:NoAttr K C "aheads"
 n_stretches:NoAttr K C "stretches"
 n_held:NoAttr K C "held"
structure CD_ByBits (K:ZFr)(mg:Str->Option Value)(C:Addr):Prop where
 at_:mg "ByBits"=some (.ref C)
 c:Cls K C
 init:MakerAt K C "ByBits.__init__" Zcn ["self","width"]
 m_top:MDefAt K C "top" "ByBits.top" ZcP ["self"]
 m_numbers_of:MDefAt K C "numbers_of" "ByBits.numbers_of" Za8 ["self","value"]
 m_value:MDefAt K C "value" "ByBits.value" ZbX ["self","row"]
 m_word_at:MDefAt K C "word_at" "ByBits.word_at" ZbC ["self","key","low","high"]
 m_word_up_to:MDefAt K C "word_up_to" "ByBits.word_up_to" Zba ["self","key","limit"]
 m_can_have:MDefAt K C "can_have" "Column.can_have" Za1 ["self","value"]
 m_put:MDefAt K C "put" "Column.put" ZbP ["self","row","value"]
 m_take:MDefAt K C "take" "Column.take" ZbE ["self","row"]
 m_within:MDefAt K C "within" "Column.within" Zbc ["self","low","high"]
 m_numbers_at:MDefAt K C "numbers_at" "Column.numbers_at" ZaM ["self","key"]
 ty:TyIns K C
 i_Column:IsiTo K mg C "Column" true
 i_ByValue:IsiTo K mg C "ByValue" false
 i_ByBits:IsiTo K mg C "ByBits" true
 n_valued:NoAttr K C "valued"
 n_by_number:NoAttr K C "by_number"
 n_by_key:NoAttr K C "by_key"
 n_width:NoAttr K C "width"
structure CD_ByValue (K:ZFr)(mg:Str->Option Value)(C:Addr):Prop where
 at_:mg "ByValue"=some (.ref C)
 c:Cls K C
 init:MakerAt K C "ByValue.__init__" Zb2 ["self","top"]
 m_top:MDefAt K C "top" "ByValue.top" Zcv ["self"]
 m_numbers_of:MDefAt K C "numbers_of" "ByValue.numbers_of" Za7 ["self","value"]
 m_value:MDefAt K C "value" "ByValue.value" ZbL ["self","row"]
 m_touched_at:MDefAt K C "touched_at" "ByValue.touched_at" Za5 ["self","key","low","high"]
 m_word_at:MDefAt K C "word_at" "ByValue.word_at" Zbm ["self","key","low","high"]
 m_can_have:MDefAt K C "can_have" "Column.can_have" Za1 ["self","value"]
 m_put:MDefAt K C "put" "Column.put" ZbP ["self","row","value"]
 m_take:MDefAt K C "take" "Column.take" ZbE ["self","row"]
 m_within:MDefAt K C "within" "Column.within" Zbc ["self","low","high"]
 m_numbers_at:MDefAt K C "numbers_at" "Column.numbers_at" ZaM ["self","key"]
 ty:TyIns K C
 i_Column:IsiTo K mg C "Column" true
 i_ByValue:IsiTo K mg C "ByValue" true
 i_ByBits:IsiTo K mg C "ByBits" false
 n_valued:NoAttr K C "valued"
 n_by_number:NoAttr K C "by_number"
 n_by_key:NoAttr K C "by_key"
 n_greatest:NoAttr K C "greatest"
local macro_rules | `(tactic| walk_at "vc")=>do
 let f:=fun (s:String)=>(s.splitOn ",").toArray.map fun x=>Lean.mkIdent x.toName
 let a:=f "tLZip,tSortVal,rSum,tDSet,tDIn,tDPop2,tSeq,tNext,tAsg,gName,tVar,tC,tOp,tUn,rI,rI0,rU,rEq,rNe,tRet,tDrop,tIfS,tTest,tB,tAnd,tOr,tNot,tAndV,tOrV,tNotV,tIf,tCall,tNil,tCons,tTup,tLst,tCB,tBM,tBM0,rIxL,rIxT,rAppend,rBitLen,rCat,rRep,iRng1,iList,iZip,tSortSet,tCallV,tCallLam,tNever,rSortD,tDGet,tDGet2,sDPut,tChain,tNoTest,ZiX,Zhx,rLen,rListOf,tDNewK,tMeD,rExtend,tMake,tFld,sFld,gTup,gCons,gNil,tSl,tNoPart,tPart,rSlL,iRng3,L2.start,capSt"
 let b:=a++f "tDGet1,tDPop1,scal_ii,scal_bb,scal_ss,tyV_int,tyV_list,rIsi_int,Zjh,rIsi_blb,rIsi_bli,tyV_str,CDiv,CMul,CPow,CShl,List.map_cons,List.map_nil,List.length_cons,List.length_nil,List.append_nil,List.nil_append,List.cons_append,List.getElem?_cons_zero,List.getElem?_cons_succ,List.set_cons_zero,List.set_cons_succ,List.getD_cons_zero,List.getD_cons_succ,Nat.reduceAdd,Nat.reduceSub,Int.reduceLT,Int.reduceLE,Int.reducePow,Int.reduceNeg,Int.reduceMul,Int.reduceAdd,Int.reduceSub,Int.reduceToNat,Int.reduceEq,reduceIte,Option.some.injEq,V.int.injEq,V.bl.injEq,V.ref.injEq,V.str.injEq,V.ty.injEq,List.cons.injEq,exists_and_left,exists_eq_left,exists_eq_left',exists_eq_right,exists_eq',exists_eq,and_true,true_and,Int.zero_add,decide_eq_true_eq,Bool.not_eq_true',decide_eq_false_iff_not,if_true,if_false,Bool.false_eq_true,Bool.true_eq_false,ite_not,not_true_eq_false,not_false_eq_true,Bool.not_true,Bool.not_false,decide_true,decide_false,or_true,true_or,reduceCtorEq,false_and,and_false,exists_false,false_or,or_false,List.reduceReplicate"
 `(tactic| ((try dsimp only [$[$a:ident],*]);try simp only [$[$b:ident],*]))
def mixI (c k:Int):Int:=((c*48271+k*7919+104729)%2147483647)*((c*48271+k*7919+104729)%2147483647)%2147483629
def spMixed:Sp:=fun vs H Q _=>∃ c k:Int,vs=[.int c,.int k]/\Q (.int (mixI c k)) H
theorem ok_mixed (d:DefAt K mg "_law_mixed" ZdD ["_law_cell","_law_k"]):FnAt P w K mg base "_law_mixed" ["_law_cell","_law_k"] 1 spMixed:=by
 refine FnAt.of d jbO ?_ ?_;walk_at "F";have nd:=jbO.nd;obtain ⟨c,k,rfl,q⟩:=h;refine ⟨_,(Zad (Zaz (i:=2) (Zah Zar (Zah Zav (Zah Zav (Zah Zbt (pv 0) Zaf) (Zah Zbt (pv 1) Zaf)) Zaf) Zaf))
     (Zag (Zak (Zah Zar (Zah Zbt (pv 2) (pv 2)) Zaf)))),?_⟩
 walk_at "vc";have h1:=Int.emod_nonneg (c*48271+k*7919+104729) (b:=2147483647) (by decide);have h2:=ycm (c*48271+k*7919+104729) (b:=2147483647) (by decide);exact ⟨.inl ⟨by omega,by omega⟩,q⟩
def spCell (K:ZFr):Sp:=fun vs H Q _=>∃ (a:Addr) (ns:List Int) (k:Nat),vs=[.ref a,.int k]/\SqL K H a (ns.map V.int)/\Q (.int (ns.getD k 0)) H
theorem Zid (B:Blt mg)(d:DefAt K mg "_law_cell_at" Zch ["_law_script","_law_k"]):FnAt P w K mg base "_law_cell_at" ["_law_script","_law_k"] 1 (spCell K):=by
 refine FnAt.of d jbj ?_ ?_;walk_at "F";have nd:=jbj.nd;obtain ⟨a,ns,k,rfl,hS,q⟩:=h;refine ⟨_,(Zad (ZaD (Za0 ZdZ (pv 1) (ZaB (ZaX K) rfl B.len zaz (Zaa (pv 0) Zab))) (Zag (Zak (Zc0 (ZaE K) (pv 0) (pv 1)))) Zau)
     (Zag (Zak Zaf))),?_⟩
 walk_at "vc";refine ⟨_,.inl hS,?_⟩;rw [yad];by_cases hk:k<ns.length
 . rw [if_pos (by omega)]
   refine ⟨_,hS,.int (ns.getD k 0),Zc3 ?_,q⟩;rw [yav,yae hk,yat,yae hk];rfl
 . rw [if_neg (by omega)]
   have e:ns.getD k 0=0:=by rw [yat,List.getElem?_eq_none (by omega)];rfl
   rw [e] at q;exact q
def halvF:Nat->Nat->Nat->Nat->List Nat
 | 0,_,_,_=>[]
 | n+1,lo,hi,m=>if lo<hi then (lo+hi)/2::(if (lo+hi)/2<m then halvF n ((lo+hi)/2+1) hi m else halvF n lo ((lo+hi)/2) m) else []
def halv (lo hi m:Nat):List Nat:=halvF (hi-lo) lo hi m
theorem Zdc (m:Nat):∀ (n k lo hi:Nat),hi-lo<=n->hi-lo<=k->halvF n lo hi m=halvF k lo hi m
 | 0,0,_,_,_,_=>rfl
 | 0,k+1,lo,hi,h,_=>by rw [halvF,halvF,if_neg (by omega)]
 | n+1,0,lo,hi,_,h=>by rw [halvF,halvF,if_neg (by omega)]
 | n+1,k+1,lo,hi,h,h'=>by
   rw [halvF,halvF];by_cases c:lo<hi
   . rw [Zdc m n k _ hi (by omega) (by omega),Zdc m n k lo _ (by omega) (by omega)]
   . rw [if_neg c,if_neg c]
theorem halv_pos {lo hi m:Nat}(h:lo<hi):halv lo hi m=(lo+hi)/2::(if (lo+hi)/2<m then halv ((lo+hi)/2+1) hi m else halv lo ((lo+hi)/2) m):=by unfold halv;rw [Zdc m (hi-lo) (hi-lo-1+1) lo hi (by omega) (by omega),halvF,if_pos h,Zdc m (hi-lo-1) (hi-((lo+hi)/2+1)) _ hi (by omega) (by omega),Zdc m (hi-lo-1) ((lo+hi)/2-lo) lo _ (by omega) (by omega)]
theorem halv_neg {lo hi m:Nat}(h:¬ lo<hi):halv lo hi m=[]:=by unfold halv;rw [show hi-lo=0 by omega,halvF]
def spHalved (P:Program)(w:World)(K:ZFr)(mg:Str->Option Value)(base:Heap):Sp:=fun vs H Q _=>∃ (n m:Nat) (f:Addr) (pn:Str) (tb:TE) (cvs:List V) (H0:Hp),vs=[.int n,.ref f]/\m<=n/\n<=1000/\Ready P w K mg base 1 pn tb cvs H0 H f /\
 (∀ (H':Hp) (i:Nat) (R:VK),Same H H'->i<n->R (.bl (decide (i<m))) H'->tb (some (.int i)::cvs.map some) H' R)/\∀ t l H',Same H H'->H t=none->H l=none->H' t=some (.tup [.int m,.ref l])->H' l=some (.lst (pint (halv 0 n m)))->Q (.ref t) H'
structure HalvI (n m:Nat)(f l:Addr)(H:Hp)(σ:L2.St)(H':Hp):Prop where
 ex:∃ (lo hi:Nat) (pr:List Nat) (v5:Option V),σ=[some (.int n),some (.ref f),some (.int lo),some (.int hi),some (.ref l),v5]/\lo<=m/\m<=hi/\hi<=n/\pr.length+(hi-lo)<=n/\pr++halv lo hi m=halv 0 n m/\H' l=some (.lst (pint pr))
 same:Same H H'
def gapN:L2.St->Nat
 | _::_::some (.int lo)::some (.int hi)::_=>(hi-lo).toNat
 | _=>0
theorem ZjB (d:DefAt K mg "halved" Zfg ["many","goes_on"]):FnAt P w K mg base "halved" ["many","goes_on"] 2 (spHalved P w K mg base):=by
 refine FnAt.of d jb1 ?_ ?_;walk_at "F";have nd:=jb1.nd;obtain ⟨n,m,fl,pn,tb,cvs,H0,rfl,mn,n1000,⟨o,fd,c',oc,hf,hfd,hc,nf,LA⟩,htb,q⟩:=h;refine ⟨_,(Zad (Zaz (i:=2) Zaf)
     (Zad (Zaz (i:=3) (pv 0))
     (Zad (Zaz (i:=4) (ZaS Zab))
     (Zad (Zfr zai (Za0 ZdZ (pv 2) (pv 3)) (Zad (Zaz (i:=5) (Zah Zas (Zah Zav (pv 2) (pv 3)) Zaf))
     (Zad (Zax (Zfq K zaF zaN zaO ZcL (pv 4) (Zaa (pv 5) Zab)))
     (Zag (ZaD (Za9 (pe_callV (k:=1) 1 (hr.mono (by decide)) (Zaa (pv 5) Zab))) (Zag (Zaz (i:=2) (Zah Zav (pv 5) Zaf))) (Zag (Zaz (i:=3) (pv 5))))))))
     (Zag (Zak (Zcx (Zaa (pv 2) (Zaa (pv 4) Zab))))))))),?_⟩
 walk_at "vc";refine ⟨yax _,fun l nl=>?_⟩;refine Zfv (HalvI n m fl l H) (fun σ _=>gapN σ) ⟨⟨0,n,[],_,rfl,yax _,mn,yag _,by show 0+(n-0)<=n;omega,rfl,Zac⟩,Same.new nl⟩ ?_ (fun σ H R R' h ⟨v,e,v2,e',i,j,e1,e2,k,e3,q⟩=>⟨v,e,v2,e',i,j,e1,e2,k,e3,h _ _ q⟩);rintro σ H1 ⟨⟨lo,hi,pr,v5,rfl,h1,h2,h3,h4,h5,h6⟩,sm⟩;walk_at "vc";have nlf:fl≠l:=fun z=>by rw [z,nl] at hf;cases hf
 have nlc:c'≠l:=fun z=>by rw [z,nl] at hc;cases hc
 by_cases lt:lo<hi
 . rw [if_pos (by omega)]
   have em:((lo:Int)+(hi:Int))/2=(((lo+hi)/2:Nat):Int):=by omega
   rw [em];have hv:halv lo hi m=(lo+hi)/2::(if (lo+hi)/2<m then halv ((lo+hi)/2+1) hi m else halv lo ((lo+hi)/2) m):=by exact halv_pos lt
   rw [hv] at h5;have l1:lo<=(lo+hi)/2:=by omega
   have l2:(lo+hi)/2<hi:=by omega
   generalize (lo+hi)/2=mid at h5 hv l1 l2 ⊢;have s2:Same H (upd H1 l (.lst (pint pr++[V.int mid]))):=sm.put nl;have hl2:upd H1 l (.lst (pint pr++[V.int mid])) l=some (.lst (pint (pr++[mid]))):=by rw [Zac];unfold pint;rw [yaP];rfl
   refine ⟨⟨_,SqL.of h6⟩,_,h6,small1000 (by rw [Zal];omega),?_⟩;generalize upd H1 l (.lst (pint pr++[V.int mid]))=H2 at s2 hl2 ⊢;refine ⟨o,s2 _ _ hf,fd,hfd,_,_,LA,s2 _ _ hf,_,rfl,s2 _ _ hf,s2 _ _ hc,htb H2 mid _ s2 (by omega) ⟨_,rfl,?_⟩⟩;by_cases c:mid<m
   . rw [if_pos c] at h5
     rw [yak c,if_pos rfl];refine ⟨⟨⟨mid+1,hi,pr++[mid],_,rfl,by omega,h2,h3,by rw [yac];show pr.length+1+_<=_;omega,by rw [yah];exact h5,hl2⟩,s2⟩,?_⟩;show (((hi:Int)-((mid:Int)+1)).toNat)<((hi:Int)-(lo:Int)).toNat
     omega
   . rw [if_neg c] at h5
     rw [yaw c,if_neg (by decide)];refine ⟨⟨⟨lo,mid,pr++[mid],_,rfl,h1,by omega,by omega,by rw [yac];show pr.length+1+_<=_;omega,by rw [yah];exact h5,hl2⟩,s2⟩,?_⟩;show (((mid:Int)-(lo:Int)).toNat)<((hi:Int)-(lo:Int)).toNat
     omega
 . rw [if_neg (by omega)]
   refine ⟨by decide,fun t nt=>?_⟩;have e1:lo=m:=by omega
   have hv:halv lo hi m=[]:=halv_neg lt;rw [hv,yaO] at h5;have sT:=Same.new (o:=.tup [V.int lo,V.ref l]) nt;refine q t l _ (sm.trans sT) (sm.free nt) nl (by rw [Zac,e1]) ?_;rw [<- h5];exact sT _ _ h6
def cnt (p:Int->Bool)(ks:List Int):Nat:=(ks.filter p).length
def Pre (p:Int->Bool)(ks:List Int):Prop:=∀ (i:Nat) (k:Int),ks[i]?=some k->p k=decide (i<cnt p ks)
def spHK (pr:Int->Int->Bool)(df:Int)(c P1:Addr)(qual:Str)(lp:Pos):Sp:=fun vs H Q _=>∃ (a:Addr) (ks:List Int) (y:Int),vs=[.ref a,.int y]/\H a=some (.lst (ks.map V.int))/\ks.length<=1000/\Pre (pr y) ks/\Tb H P1 qual lp /\
 ∀ t l H',SameT P1 H H'->Tb H' P1 qual lp->H t=none->H l=none->H' t=some (.tup [.int ((cnt (pr y) ks:Int)-df),.ref l])->H' l=some (.lst (pint (halv 0 ks.length (cnt (pr y) ks))))->Q (.ref t) H'
theorem cnt_le (p:Int->Bool)(ks:List Int):cnt p ks<=ks.length:=ybp _ _
theorem freeT {H2:Hp}{Pt b:Addr}{q:Str}{lp:Pos}(s:SameT Pt H H2)(t:Tb H2 Pt q lp)(f:H2 b=none):H b=none:=by
 cases e:H b with
 | none=>rfl
 | some o =>
   by_cases z:b=Pt
   . rw [z] at f
     rcases t with h | ⟨_,_,h,_⟩<;>(rw [f] at h;cases h)
   . rw [s _ _ z e] at f
     cases f
def lpK:Pos:=match defBody ZbH with | [.Return (some (.Call _ [_,.Lambda _ _ _ p] _ _)) _]=>p | _=>⟨0,0,0,0⟩
def lpC:Pos:=match defBody Zbg with | .Assign _ (.Call _ [_,.Lambda _ _ _ p] _ _) _::_=>p | _=>⟨0,0,0,0⟩
def qK:Str:=(Str.ofString "halved_keys"++Str.ofString ".<locals>.")++Str.ofString "<lambda>"
def qC:Str:=(Str.ofString "halved_counts"++Str.ofString ".<locals>.")++Str.ofString "<lambda>"
theorem Zja {ks:List Int}{i:Nat}(h:i<ks.length):atI (ks.map V.int) (i:Int)=some (.int (ks.getD i 0)):=Zc3 (by rw [yav,yat,yae h];rfl)
section
variable {c1 P1 c2 P2:Addr}
theorem ok_hkeys (B:Blt mg)(T_halved_keys:TabIn base mg (c1,P1))(jap:∀ base,FnAt P w K mg base "halved" ["many","goes_on"] 2 (spHalved P w K mg base))(d:DefAtC K mg "halved_keys" ZbH ["keys","key"] c1):FnAt P w K mg base "halved_keys" ["keys","key"] 3 (spHK (fun y k=>decide (k<y)) 0 c1 P1 qK lpK):=by
 refine FnAt.ofC d Ze9 (fun vs H Q E h=>?_) (fun f A outer s H vs Q E hr h=>?_)
 . obtain ⟨a,ks,y,rfl,_⟩:=h
   rfl
 obtain ⟨a,ks,y,rfl,ha,hl,hp,hT,q⟩:=h;refine ⟨_,(Zag (Zak (Zfd (k:=0) (caps:=["key","keys"]) (ixs:=[1,0]) (Zg0 T_halved_keys (ZeE rfl rfl rfl (by decide +kernel) rfl (by decide +kernel) (by decide +kernel) (by decide +kernel)) rfl ⟨rfl,⟨rfl,trivial⟩⟩ ⟨⟨rfl,rfl,_,rfl⟩,⟨⟨rfl,rfl,_,rfl⟩,trivial⟩⟩) rfl (fun _ _ _ _=>rfl) (fun _ _ _ _ _ _ _ _=>(pe_c ZdZ (Zc0 (ZaE K) (pv 2) (pv 0)) (pv 1))) jap (hr.mono (by decide)) rfl (ZaB (ZaX K) rfl B.len zaz (Zaa (pv 0) Zab))))),?_⟩;walk_at "vc";refine ⟨_,.inl (SqL.of ha),fun j hj=>?_,hT,fun base' fl H2 sT hT2 R=>?_⟩
 . simp only [yaj,yaX,zaP] at hj
   rcases hj with rfl | rfl
   . exact ⟨_,rfl⟩
   . exact ⟨_,rfl⟩
 rw [yad];have naP:a≠P1:=fun z=>by
   rcases hT with h | ⟨_,_,h,_⟩<;>(rw [<- z,ha] at h;cases h)
 have ha2:=sT a _ naP ha;refine ⟨ks.length,cnt (fun k=>decide (k<y)) ks,fl,_,_,_,H,rfl,cnt_le _ _,hl,R,fun H' i R' s' hi hR=>?_,fun t l H' s' f1 f2 h1 h2=>?_⟩
 . walk_at "vc"
   refine ⟨a,rfl,_,SqL.of (s' _ _ ha2),.int (ks.getD i 0),Zja hi,_,rfl,y,rfl,?_⟩;have e:decide (ks.getD i 0<y)=decide (i<cnt (fun k=>decide (k<y)) ks):=hp i _ (by rw [yat,yae hi];rfl);rw [e];exact hR
 . refine q t l H' (fun b o n e=>s' _ _ (sT b o n e)) (hT2.same s') (freeT sT hT2 f1) (freeT sT hT2 f2) ?_ h2
   rw [Int.sub_zero];exact h1
theorem Zic (B:Blt mg)(T_halved_counts:TabIn base mg (c2,P2))(jap:∀ base,FnAt P w K mg base "halved" ["many","goes_on"] 2 (spHalved P w K mg base))(d:DefAtC K mg "halved_counts" Zbg ["aheads","k"] c2):FnAt P w K mg base "halved_counts" ["aheads","k"] 3 (spHK (fun y k=>decide (k<=y)) 1 c2 P2 qC lpC):=by
 refine FnAt.ofC d jak (fun vs H Q E h=>?_) (fun f A outer s H vs Q E hr h=>?_)
 . obtain ⟨a,ks,y,rfl,_⟩:=h
   rfl
 obtain ⟨a,ks,y,rfl,ha,hl,hp,hT,q⟩:=h;have nd:=jak.nd;refine ⟨_,(Zad (ZhY (Zfd (k:=0) (caps:=["k","aheads"]) (ixs:=[1,0]) (Zg0 T_halved_counts (ZeE rfl rfl rfl (by decide +kernel) rfl (by decide +kernel) (by decide +kernel) (by decide +kernel)) rfl ⟨rfl,⟨rfl,trivial⟩⟩ ⟨⟨rfl,rfl,_,rfl⟩,⟨⟨rfl,rfl,_,rfl⟩,trivial⟩⟩) rfl (fun _ _ _ _=>rfl) (fun _ _ _ _ _ _ _ _=>(pe_c ZcF (Zc0 (ZaE K) (pv 2) (pv 0)) (pv 1))) jap (hr.mono (by decide)) rfl (ZaB (ZaX K) rfl B.len zaz (Zaa (pv 0) Zab))) (ZcY K rfl (ZaI (ZbM (i:=2)) (ZaI (ZbM (i:=3)) ZcT))))
     (Zag (Zak (Zcx (Zaa (Zah ZaP (pv 2) Zaf) (Zaa (pv 3) Zab)))))),?_⟩
 walk_at "vc";refine ⟨_,.inl (SqL.of ha),fun j hj=>?_,hT,fun base' fl H2 sT hT2 R=>?_⟩
 . simp only [yaj,yaX,zaP] at hj
   rcases hj with rfl | rfl
   . exact ⟨_,rfl⟩
   . exact ⟨_,rfl⟩
 rw [yad];have naP:a≠P2:=fun z=>by
   rcases hT with h | ⟨_,_,h,_⟩<;>(rw [<- z,ha] at h;cases h)
 have ha2:=sT a _ naP ha;refine ⟨ks.length,cnt (fun k=>decide (k<=y)) ks,fl,_,_,_,H,rfl,cnt_le _ _,hl,R,fun H' i R' s' hi hR=>?_,fun t l H' s' f1 f2 h1 h2=>?_⟩
 . walk_at "vc"
   refine ⟨a,rfl,_,SqL.of (s' _ _ ha2),.int (ks.getD i 0),Zja hi,_,rfl,y,rfl,?_⟩;have e:decide (ks.getD i 0<=y)=decide (i<cnt (fun k=>decide (k<=y)) ks):=hp i _ (by rw [yat,yae hi];rfl);rw [e];exact hR
 . refine ⟨t,rfl,_,SqT.of h1,rfl,_,_,rfl,_,_,rfl,rfl,_,rfl,by decide,fun p np=>?_⟩
   have sP:=Same.new (o:=.tup [V.int ((cnt (fun k=>decide (k<=y)) ks:Int)-1),V.ref l]) np;exact q p l _ (fun b o n e=>sP _ _ (s' _ _ (sT b o n e))) ((hT2.same s').same sP) (freeT sT hT2 (s'.free np)) (freeT sT hT2 f2) Zac (sP _ _ h2)
end
def Tups (H:Hp):List V->List (Nat × Nat)->Prop:=Paired fun v r=>∃ t,v=.ref t/\H t=some (.tup [.int (r.1:Nat),.int (r.2:Nat)])
def RunsL (H:Hp)(p:Addr)(rs:List (Nat × Nat)):Prop:=∃ vs,H p=some (.lst vs)/\Tups H vs rs
theorem Tups.same {vs:List V}(h:Tups H vs rs)(s:Same H H'):Tups H' vs rs:=Paired.mapP h fun _ _ ⟨t,e,ht⟩=>⟨t,e,s _ _ ht⟩
theorem RunsL.same {p:Addr}(h:RunsL H p rs)(s:Same H H'):RunsL H' p rs:=let ⟨vs,e,t⟩:=h;⟨vs,s _ _ e,t.same s⟩
theorem Tups.length {vs:List V}(h:Tups H vs rs):vs.length=rs.length:=Paired.length h
theorem Tups.snoc:∀ {vs:List V} {rs:List (Nat × Nat)} {t:Addr} {r:Nat × Nat},Tups H vs rs->H t=some (.tup [.int (r.1:Nat),.int (r.2:Nat)])->Tups H (vs++[.ref t]) (rs++[r])
 | _,_,_,_,.nil,h=>.cons ⟨_,rfl,h⟩ .nil
 | _,_,_,_,.cons r q,h=>.cons r (Tups.snoc q h)
def pairD (r:Nat × Nat):PyData:=.tuple [.int (r.1:Nat),.int (r.2:Nat)]
theorem Zek {K:ZFr}{H:Hp}:∀ {vs:List V} {rs:List (Nat × Nat)},Tups H vs rs->RdDs K H vs (rs.map pairD)
 | _,_,.nil=>.nil
 | _,_,.cons ⟨t,e,h⟩ r=>by
   subst e;exact .cons (.tup (SqT.of h) (.cons (.int _) (.cons (.int _) .nil))) (Zek r)
theorem ZcZ:∀ rs:List (Nat × Nat),PyData.canLayAll0 (rs.map pairD)=true
 | []=>rfl
 | r::rs=>by
   rw [yaC];simp only [PyData.canLayAll0,pairD,PyData.canLay0,ZcZ rs,Bool.and_self]
theorem Zdn:∀ rs:List (Nat × Nat),PyData.depthAll (rs.map pairD)<=1
 | []=>by decide
 | r::rs=>by
   have:=Zdn rs;rw [yaC];simp only [PyData.depthAll,pairD,PyData.depth];omega
theorem Zd1 (rs:List (Nat × Nat)):SeqAt.shaped (.list (rs.map pairD))=true:=by
 have h1:=Zdn rs;have h2:PyData.depth (.list (rs.map pairD))<=64:=by simp only [PyData.depth];omega
 show (PyData.canLay0 (.list (rs.map pairD))&&decide (PyData.depth (.list (rs.map pairD))<=64))=true;rw [ybE];exact ⟨by simp only [PyData.canLay0];exact ZcZ rs,yak h2⟩
theorem ZgT (rs qs:List (Nat × Nat)):SeqAt.noMix (.list (rs.map pairD)) (.list (qs.map pairD))=true :=
 zaK (.list (.tuple [.int,.int])) rfl _ _ (list_map_has fun _=>rfl) (list_map_has fun _=>rfl)
theorem Zfb:∀ rs qs:List (Nat × Nat),PySem.Spec.sameAll (rs.map pairD) (qs.map pairD)=decide (rs=qs)
 | [],[]=>by simp [PySem.Spec.sameAll]
 | [],_::_=>by simp [PySem.Spec.sameAll]
 | _::_,[]=>by simp [PySem.Spec.sameAll]
 | (a,b)::r,(c,d)::q=>by
   simp only [yaC,PySem.Spec.sameAll,PySem.Spec.same,pairD,Zfb r q,ycs];rw [ybJ];simp;omega
section
variable {Q:VK}{a b:Addr}
theorem ZhW {qs:List (Nat × Nat)}(h1:RunsL H a rs)(h2:RunsL H b qs)(q:Q (.bl (!decide (rs=qs))) H):rNeD K (.ref a) (.ref b) H Q:=by obtain ⟨vs,e1,t1⟩:=h1;obtain ⟨us,e2,t2⟩:=h2;exact ⟨_,_,.lst (SqL.of e1) (Zek t1),.lst (SqL.of e2) (Zek t2),Zd1 rs,Zd1 qs,ZgT rs qs,by simp only [PySem.Spec.same];rw [Zfb];exact q⟩
end
theorem Tups.upd {H:Hp}{r:Addr}{xs ys:List V}{vs:List V}{rs:List (Nat × Nat)}(h:Tups H vs rs)(e:H r=some (.lst xs)):Tups (upd H r (.lst ys)) vs rs :=
 Paired.mapP h fun _ _ ⟨t,z,ht⟩=>⟨t,z,by rw [Zai (ne_of ht e (by intro q;cases q))];exact ht⟩
theorem Up.lt256 (h:Up 0 ps)(hk:∀ p∈ps,p<256):ps.length<=256:=by
 have:∀ (qs:List Nat) (a:Nat),Up a qs->(∀ p∈qs,p<256)->a<=256->qs.length+a<=256:=by
   intro qs;induction qs with
   | nil=>intro a _ _ h;show 0+a<=256;omega
   | cons p r ih =>
     intro a u w _;have h1:=w p yaK;have h2:=u.1;have:=ih (p+1) u.2 (fun q hq=>w q (yaM _ hq)) h1;rw [yan];omega
 exact this ps 0 h hk (by omega)
def spBelow:Sp:=fun vs H Q _=>∃ p:Nat,vs=[.int p]/\p<=1000/\Q (.int ((2^p-1:Nat):Int)) H
theorem ZdS (d:DefAt K mg "all_below" Zco ["place"]):FnAt P w K mg base "all_below" ["place"] 1 spBelow:=by
 refine FnAt.of d jbf ?_ ?_;walk_at "F";have nd:=jbf.nd;obtain ⟨p,rfl,hp,q⟩:=h;refine ⟨_,(Zag (Zak (Zah ZaP (Zah Zbe Zaf (pv 0)) Zaf))),?_⟩;walk_at "vc";refine ⟨⟨by omega,by omega,by decide⟩,?_⟩;have e:(1:Int)*2^(p:Int).toNat-1=((2^p-1:Nat):Int):=by have:0<2^p:=ybt (by decide);rw [yap,ycv,Int.ofNat_sub this];simp
 rw [e];exact q
def spSpan:Sp:=fun vs H Q _=>∃ a b:Nat,vs=[.int a,.int b]/\a<=b+1/\b<1000/\Q (.int (wd (List.range' a (b+1-a)):Nat)) H
theorem ZgD (jad:FnAt P w K mg base "all_below" ["place"] 1 spBelow)(d:DefAt K mg "span_word" Zcg ["first","last"]):FnAt P w K mg base "span_word" ["first","last"] 2 spSpan:=by
 refine FnAt.of d jbh ?_ ?_;walk_at "F";have nd:=jbh.nd;obtain ⟨x,y,rfl,h1,h2,q⟩:=h;refine ⟨_,(Zag (Zak (Zah ZaP (Zaj jad (Zaa (Zah Zav (pv 1) Zaf) Zab)) (Zaj jad (Zaa (pv 0) Zab))))),?_⟩;walk_at "vc";refine ⟨y+1,by rw [yco];rfl,by omega,x,rfl,by omega,?_⟩;walk_at "vc";have e:=ZeQ (y+1-x) x;rw [show x+(y+1-x)=y+1 by omega] at e;have p1:0<2^x:=ybt (by decide);have p2:0<2^(y+1):=ybt (by decide);have e2:((2^(y+1)-1:Nat):Int)-((2^x-1:Nat):Int)=((wd (List.range' x (y+1-x)):Nat):Int):=by omega
 rw [e2];exact q
def spDrop:Sp:=fun vs H Q _=>∃ w:Nat,vs=[.int w]/\Q (.int ((w &&& (w-1):Nat):Int)) H
theorem ZcE (d:DefAt K mg "without_first" Zbd ["word"]):FnAt P w K mg base "without_first" ["word"] 1 spDrop:=by
 refine FnAt.of d jaj ?_ ?_;walk_at "F";have nd:=jaj.nd;obtain ⟨n,rfl,q⟩:=h;refine ⟨_,(Zag (Zak (Zah ZaZ (pv 0) (Zah ZaP (pv 0) Zaf)))),?_⟩;walk_at "vc";have e:Builtin.bitAnd (n:Int) ((n:Int)-1)=((n &&& (n-1):Nat):Int):=by
   cases n with
   | zero=>decide
   | succ m =>
     rw [bitAnd_pp (by omega) (by omega)];have e1:((m+1:Nat):Int).toNat=m+1:=yap _;have e2:(((m+1:Nat):Int)-1).toNat=m+1-1:=by omega
     rw [e1,e2]
 rw [e];exact q
def spCount:Sp:=fun vs H Q _=>∃ ps:List Nat,vs=[.int (wd ps:Nat)]/\Up 0 ps/\(∀ p∈ps,p<256)/\Q (.int ps.length) H
structure LowC (mg:Str->Option Value):Prop where
 a:∃ t,mg "LOWER_1"=some (.int 38597363079105398474523661669562635951089994888546854679819194669304376546645 t)
 b:∃ t,mg "LOWER_2"=some (.int 23158417847463239084714197001737581570653996933128112807891516801582625927987 t)
 c:∃ t,mg "LOWER_4"=some (.int 6811299366900952671974763824040465167839410862684739061144563765171360567055 t)
 d:∃ t,mg "LOWER_8"=some (.int 450552876409790643671482431940419874915447411150352389258589821042463539455 t)
theorem Zh3 (L:LowC mg)(d:DefAt K mg "counted" Zdx ["word"]):FnAt P w K mg base "counted" ["word"] 2 spCount:=by
 obtain ⟨⟨t1,jO⟩,⟨t2,jP⟩,⟨t4,jQ⟩,⟨t8,jR⟩⟩:=L;refine FnAt.of d jbK ?_ ?_;walk_at "F";have nd:=jbK.nd;obtain ⟨ps,rfl,up,h256,q⟩:=h;refine ⟨_,(Zad (Zaz (i:=1) (Zah Zav (Zah ZaZ (pv 0) (ZaJ jO)) (Zah ZaZ (Zah ZfA (pv 0) Zaf) (ZaJ jO))))
     (Zad (Zaz (i:=2) (Zah Zav (Zah ZaZ (pv 1) (ZaJ jP)) (Zah ZaZ (Zah ZfA (pv 1) Zaf) (ZaJ jP))))
     (Zad (Zaz (i:=3) (Zah Zav (Zah ZaZ (pv 2) (ZaJ jQ)) (Zah ZaZ (Zah ZfA (pv 2) Zaf) (ZaJ jQ))))
     (Zad (Zaz (i:=4) (Zah Zav (Zah ZaZ (pv 3) (ZaJ jR)) (Zah ZaZ (Zah ZfA (pv 3) Zaf) (ZaJ jR))))
     (Zag (Zak (Zah Zar (pv 4) Zaf))))))),?_⟩
 walk_at "vc";rw [swarI (k:=1) (n:=128) (d:=2) (w:=wd ps) (by rw [msk1];rfl) rfl];rw [swarI (k:=2) (n:=64) (d:=4) (by rw [msk2];rfl) rfl];rw [swarI (k:=4) (n:=32) (d:=16) (by rw [msk4];rfl) rfl];rw [swarI (k:=8) (n:=16) (d:=256) (by rw [msk8];rfl) rfl];rw [countI up h256];exact q
def spOnes:Sp:=fun vs H Q _=>∃ (ps:List Nat) (k:Nat),vs=[.int (wd ps:Nat),.int k]/\Up 0 ps/\(∀ p∈ps,p<256)/\k<=1000/\Q (.int (ps.filter fun p=>decide (p<k)).length) H
theorem ZfK (jad:FnAt P w K mg base "all_below" ["place"] 1 spBelow)(jl:FnAt P w K mg base "counted" ["word"] 2 spCount)(d:DefAt K mg "ones_below" ZbS ["word","place"]):FnAt P w K mg base "ones_below" ["word","place"] 3 spOnes:=by refine FnAt.of d jaU ?_ ?_;walk_at "F";have nd:=jaU.nd;obtain ⟨ps,k,rfl,up,h256,hk,q⟩:=h;refine ⟨_,(Zag (Zak (Zaj jl (Zaa (Zah ZaZ (pv 0) (Zaj jad (Zaa (pv 1) Zab))) Zab)))),?_⟩;walk_at "vc";refine ⟨k,rfl,hk,?_⟩;walk_at "vc";refine ⟨ps.filter fun p=>decide (p<k),?_,up.filter,fun p hp=>h256 p (yau.mp hp).1,q⟩;rw [bitAnd_pp (yaU _) (yaU _),yap,yap,wd_mask k up]
def spLast:Sp:=fun vs H Q _=>∃ ps:List Nat,vs=[.int (wd ps:Nat)]/\Up 0 ps/\Q (match ps.getLast? with | none=>.non | some p=>.int (p:Nat)) H
def spFirst:Sp:=fun vs H Q _=>∃ ps:List Nat,vs=[.int (wd ps:Nat)]/\Up 0 ps/\Q (match ps with | []=>.non | p::_=>.int (p:Nat)) H
theorem ZgO (d:DefAt K mg "last_one" ZcX ["word"]):FnAt P w K mg base "last_one" ["word"] 1 spLast:=by
 refine FnAt.of d jbA ?_ ?_;walk_at "F";have nd:=jbA.nd;obtain ⟨ps,rfl,up,q⟩:=h;refine ⟨_,(Zad (ZaD (Za0 Zbr (pv 0) Zaf) (Zag (Zak ZbA)) Zau)
     (Zag (Zak (Zah ZaP (pe_bm0K K PySem.F.plainAttrs_int PySem.F.slot_int_bit_length PySem.F.type_int_bit_length Zju (pv 0)) Zaf)))),?_⟩
 walk_at "vc";rcases ybu ps with rfl | ⟨qs,p,rfl⟩
 . rw [if_pos (show ((wd []:Nat):Int)=0 from rfl)]
   exact q
 . rw [ybv] at up q ⊢
   have h0:0<wd (qs++[p]):=by
     rw [ZbB];have:0<2^p:=ybt (by decide);show 0<wd qs+(2^p+0)
     omega
   rw [if_neg (by omega),Zgz up];have e:((p+1:Nat):Int)-1=(p:Nat):=by omega
   rw [e];rw [List.getLast?_concat] at q;exact q
theorem Zgr (jck:FnAt P w K mg base "last_one" ["word"] 1 spLast)(d:DefAt K mg "first_one" Zcq ["word"]):FnAt P w K mg base "first_one" ["word"] 2 spFirst:=by
 refine FnAt.of d jbg ?_ ?_;walk_at "F";have nd:=jbg.nd;obtain ⟨ps,rfl,up,q⟩:=h;refine ⟨_,(Zag (Zak (Zaj jck (Zaa (Zah ZaZ (pv 0) (Zd7 Zgo (pv 0))) Zab)))),?_⟩;walk_at "vc";cases ps with
 | nil=>exact ⟨[],rfl,trivial,q⟩
 | cons p r =>
   refine ⟨[p],?_,⟨yax _,trivial⟩,q⟩;rw [Zh4 up.2];rfl
def fstN:L2.St->Nat
 | some (.int w)::_=>w.toNat
 | _=>0
def spBit:Sp:=fun vs H Q _=>∃ (w k:Nat),vs=[.int w,.int k]/\Q (.int ((w.testBit k).toNat:Nat)) H
theorem ZjH (d:DefAt K mg "bit_at" Zd0 ["word","place"]):FnAt P w K mg base "bit_at" ["word","place"] 1 spBit:=by
 refine FnAt.of d jbZ ?_ ?_;walk_at "F";have nd:=jbZ.nd;obtain ⟨v,k,rfl,q⟩:=h;refine ⟨_,(Zag (Zak (Zah ZaZ (Zah ZfA (pv 0) (pv 1)) Zaf))),?_⟩;walk_at "vc";refine ⟨by omega,?_⟩;have e:Builtin.bitAnd ((v:Int)/2^((k:Nat):Int).toNat) 1=((v.testBit k).toNat:Nat):=by
   rw [bitAnd_m1,yap];have e1:(v:Int)/2^k%2=((v/2^k%2:Nat):Int):=by rw [Int.natCast_emod,Int.natCast_ediv,ycq];rfl
   rw [e1,Nat.testBit_eq_decide_div_mod_eq];by_cases h1:v/2^k%2=1
   . rw [yak h1,h1]
     rfl
   . rw [yaw h1]
     have:v/2^k%2=0:=by omega
     rw [this];rfl
 rw [e];exact q
def spOneAt:Sp:=fun vs H Q _=>∃ (ps:List Nat) (k:Nat),vs=[.int (wd ps:Nat),.int k]/\Up 0 ps/\k<ps.length/\k<=1000/\Q (.int (ps.getD k 0:Nat)) H
structure OneI (ps:List Nat)(k:Nat)(H:Hp)(i:Nat)(σ:L2.St)(H':Hp):Prop where
 ex:∃ v,σ=[some (.int (wd (ps.drop i):Nat)),some (.int k),v]
 hp:H'=H
theorem Zj5 (B:Blt mg)(jH:FnAt P w K mg base "without_first" ["word"] 1 spDrop)(jh:FnAt P w K mg base "first_one" ["word"] 2 spFirst)(d:DefAt K mg "one_at" Zeg ["word","k"]):FnAt P w K mg base "one_at" ["word","k"] 3 spOneAt:=by
 refine FnAt.of d jb0 ?_ ?_;walk_at "F";have nd:=jb0.nd;obtain ⟨ps,k,rfl,up,hk,h1000,q⟩:=h;refine ⟨_,(Zad (Zbj zai rfl (Zep rfl B.range (Zaa (pv 1) Zab)) (ZbM (i:=2)) (Zag (Zaz (i:=0) (Zaj jH (Zaa (pv 0) Zab)))))
     (Zag (Zak (Zaj jh (Zaa (pv 0) Zab))))),?_⟩
 walk_at "vc";refine ⟨by omega,by omega,loopR (OneI ps k H) ⟨⟨none,rfl⟩,rfl⟩ ?_ ?_⟩
 . rintro i σ H' hi ⟨⟨v,rfl⟩,rfl⟩
   have hi2:i<ps.length:=by omega
   have ud:Up 0 (ps.drop i):=up.drop i;have e:ps.drop i=ps[i]::ps.drop (i+1):=ybr hi2;walk_at "vc";refine ⟨_,rfl,⟨some (.int (i:Int)),?_⟩,rfl⟩;rw [e] at ud ⊢;rw [ZeY ud.2]
 . rintro σ H' ⟨⟨v,rfl⟩,rfl⟩
   rw [yap];walk_at "vc";refine ⟨ps.drop k,rfl,up.drop k,?_⟩;rw [ybr hk];rw [yat,yae hk] at q;exact q
def spRunsOf:Sp:=fun vs H Q _=>∃ ps:List Nat,vs=[.int (wd ps:Nat)]/\Up 0 ps/\(∀ p∈ps,p<256)/\∀ (r:Addr) (H':Hp),Same H H'->H r=none->RunsL H' r (runsOf ps)->Q (.ref r) H'
structure RoI (ps:List Nat)(r:Addr)(H:Hp)(σ:L2.St)(H':Hp):Prop where
 ex:∃ (qs:List Nat) (rs:List (Nat × Nat)) (v2 v3:Option V),σ=[some (.int (wd qs:Nat)),some (.ref r),v2,v3]/\Up 0 qs/\(∀ p∈qs,p<256)/\runsOf ps=rs++runsOf qs/\RunsL H' r rs/\rs.length+qs.length<=ps.length
 same:Same H H'
theorem Zh0 (jh:FnAt P w K mg base "first_one" ["word"] 2 spFirst)(jv:FnAt P w K mg base "span_word" ["first","last"] 2 spSpan)(d:DefAt K mg "runs_of" Zdt ["word"]):FnAt P w K mg base "runs_of" ["word"] 3 spRunsOf:=by
 refine FnAt.of d jbM ?_ ?_;walk_at "F";have nd:=jbM.nd;obtain ⟨ps,rfl,up,h256,q⟩:=h;have hlen:=Up.lt256 up h256;refine ⟨_,(Zad (Zaz (i:=1) (ZaS Zab))
     (Zad (Zfr zai (Za0 op_gt (pv 0) Zaf) (Zad (Zaz (i:=2) (Zaj jh (Zaa (pv 0) Zab)))
     (Zad (Zaz (i:=3) (Zaj jh (Zaa (Zah Zav (pv 0) (Zah Zbe Zaf (pv 2))) Zab)))
     (Zad (Zax (Zfq K zaF zaN zaO ZcL (pv 1) (Zaa (Zcx (Zaa (pv 2) (Zaa (Zah ZaP (pv 3) Zaf) Zab))) Zab)))
     (Zag (Zaz (i:=0) (Zah ZaP (pv 0) (Zaj jv (Zaa (pv 2) (Zaa (Zah ZaP (pv 3) Zaf) Zab))))))))))
     (Zag (Zak (pv 1))))),?_⟩
 walk_at "vc";refine ⟨yax _,fun r nr=>?_⟩;refine Zfv (RoI ps r H) (fun σ _=>fstN σ) ⟨⟨ps,[],none,none,rfl,up,h256,rfl,⟨[],Zac,.nil⟩,by simp⟩,Same.new nr⟩ ?_ (fun σ H R R' h ⟨v,e,i,j,e1,e2,k,e3,q⟩=>⟨v,e,i,j,e1,e2,k,e3,h _ _ q⟩);rintro σ H1 ⟨⟨qs,rs,v2,v3,rfl,upq,q256,er,⟨vs,hv,ht⟩,hl⟩,sm⟩;walk_at "vc";cases qs with
 | nil =>
   rw [if_neg (by show ¬ (0:Int)<((0:Nat):Int);decide)];walk_at "vc";refine q r H1 sm nr ⟨vs,hv,?_⟩;rw [er];simpa [runsOf] using ht
 | cons p rr =>
   have hw:0<wd (p::rr):=ZgH;rw [if_pos (by omega)];obtain ⟨n,rest,e1,u1,l1⟩:=Zeu rr p upq.2;obtain ⟨f1,f2⟩:=Zji u1;have p256:p<256:=q256 p yaK;have pn:p+n<256:=q256 (p+n) (by rw [e1];exact yaf.mpr (.inl (List.mem_range'_1.mpr (by omega))));have rest256:∀ z∈rest,z<256:=fun z hz=>q256 z (by rw [e1];exact yaf.mpr (.inr hz))
   have upr:Up 0 rest:=u1.mono (yax _);refine ⟨p::rr,rfl,upq,?_⟩;walk_at "vc";refine ⟨⟨by omega,by omega,by decide⟩,(p+n+1)::rest,?_,⟨yax _,by rw [show p+n+1+1=p+n+2 by omega];exact u1⟩,?_⟩
   . rw [ycv,yap,e1,<- f1,yco,ycq]
     rfl
   walk_at "vc";refine ⟨⟨_,SqL.of hv⟩,by decide,fun t nt=>?_⟩;have eb:(((p+n+1:Nat):Int)-1)=((p+n:Nat):Int):=by omega
   rw [eb];have smT:Same H1 (upd H1 t (.tup [.int (p:Nat),.int ((p+n:Nat):Int)])):=Same.new nt;have hv2:=smT _ _ hv;have lv:=ht.length;rw [yan] at hl;refine ⟨vs,hv2,small1000 (by omega),p,p+n,rfl,by omega,by omega,?_⟩;walk_at "vc";have e2:((wd (p::rr):Nat):Int)-((wd (List.range' p (p+n+1-p)):Nat):Int)=((wd rest:Nat):Int):=by rw [show p+n+1-p=n+1 by omega,e1];have:=ZbB (List.range' p (n+1)) rest;omega
   rw [e2];refine ⟨⟨⟨rest,rs++[(p,p+n)],_,_,rfl,upr,rest256,?_,⟨_,Zac,((ht.same smT).snoc (r:=(p,p+n)) Zac).upd hv2⟩,?_⟩,fun b o z=>?_⟩,?_⟩
   . rw [er,e1,Zia u1,yah]
     rfl
   . rw [yac]
     show rs.length+1+_<=_;omega
   . rw [Zai (Zaq z nr)]
     exact smT _ _ (sm b o z)
   . show (((wd rest:Nat):Int)).toNat<(((wd (p::rr):Nat):Int)).toNat
     rw [e1,ZbB];have:=ZeQ (n+1) p;have k1:2^p<2^(p+(n+1)):=Nat.pow_lt_pow_right (by decide) (by omega);omega
def spPlacesOf:Sp:=fun vs H Q _=>∃ ps:List Nat,vs=[.int (wd ps:Nat)]/\Up 0 ps/\(∀ p∈ps,p<256)/\∀ (r:Addr) (H':Hp),Same H H'->H r=none->H' r=some (.lst (pint ps))->Q (.ref r) H'
structure PoI (ps:List Nat)(r:Addr)(H:Hp)(σ:L2.St)(H':Hp):Prop where
 ex:∃ qs rs:List Nat,σ=[some (.int (wd qs:Nat)),some (.ref r)]/\Up 0 qs/\ps=rs++qs/\H' r=some (.lst (pint rs))
 same:Same H H'
theorem ZgA (jh:FnAt P w K mg base "first_one" ["word"] 2 spFirst)(jH:FnAt P w K mg base "without_first" ["word"] 1 spDrop)(d:DefAt K mg "places_of" Zcd ["word"]):FnAt P w K mg base "places_of" ["word"] 3 spPlacesOf:=by
 refine FnAt.of d jbi ?_ ?_;walk_at "F";have nd:=jbi.nd;obtain ⟨ps,rfl,up,h256,q⟩:=h;have hlen:=Up.lt256 up h256;refine ⟨_,(Zad (Zaz (i:=1) (ZaS Zab))
     (Zad (Zfr zai (Za0 op_gt (pv 0) Zaf) (Zad (Zax (Zfq K zaF zaN zaO ZcL (pv 1) (Zaa (Zaj jh (Zaa (pv 0) Zab)) Zab)))
     (Zag (Zaz (i:=0) (Zaj jH (Zaa (pv 0) Zab))))))
     (Zag (Zak (pv 1))))),?_⟩
 walk_at "vc";refine ⟨yax _,fun r nr=>?_⟩;refine Zfv (PoI ps r H) (fun σ _=>fstN σ) ⟨⟨ps,[],rfl,up,rfl,Zac⟩,Same.new nr⟩ ?_ (fun σ H R R' h ⟨v,e,i,j,e1,e2,k,e3,q⟩=>⟨v,e,i,j,e1,e2,k,e3,h _ _ q⟩);rintro σ H1 ⟨⟨qs,rs,rfl,upq,er,hv⟩,sm⟩;walk_at "vc";cases qs with
 | nil =>
   rw [if_neg (by show ¬ (0:Int)<((0:Nat):Int);decide)];walk_at "vc";refine q r H1 sm nr ?_;rw [er,yaO];exact hv
 | cons p rr =>
   have hw:0<wd (p::rr):=ZgH;rw [if_pos (by omega)];have hl:rs.length<ps.length:=by rw [er,yac,yan];omega
   refine ⟨⟨_,SqL.of hv⟩,p::rr,rfl,upq,?_⟩;walk_at "vc";refine ⟨_,hv,small1000 (by rw [Zal];omega),_,rfl,?_⟩;walk_at "vc";refine ⟨⟨⟨rr,rs++[p],?_,upq.2.mono (yax _),?_,?_⟩,fun b o z=>?_⟩,?_⟩
   . rw [ZeY upq.2]
   . rw [er,yah]
     rfl
   . rw [Zac]
     unfold pint;rw [yaP];rfl
   . rw [Zai (Zaq z nr)]
     exact sm b o z
   . show ((((wd (p::rr) &&& (wd (p::rr)-1):Nat):Int)).toNat)<((wd (p::rr):Nat):Int).toNat
     rw [ZeY upq.2,yap,yap];have:0<2^p:=ybt (by decide);show wd rr<2^p+wd rr;omega
def spWordOf (K:ZFr):Sp:=fun vs H Q _=>∃ (a:Addr) (ps:List Nat),vs=[.ref a]/\SqL K H a (pint ps)/\(∀ p∈ps,p<1000)/\Q (.int (orW ps:Nat)) H
structure WordOfI (a:Addr)(ps:List Nat)(H:Hp)(i:Nat)(σ:L2.St)(H':Hp):Prop where
 ex:∃ v,σ=[some (.ref a),some (.int (orW (ps.take i):Nat)),v]
 hp:H'=H
theorem Zii (d:DefAt K mg "word_of" Zdy ["places"]):FnAt P w K mg base "word_of" ["places"] 1 (spWordOf K):=by
 refine FnAt.of d jbL ?_ ?_;walk_at "F";have nd:=jbL.nd;obtain ⟨a,ps,rfl,hS,h1000,q⟩:=h;refine ⟨_,(Zad (Zaz (i:=1) Zaf)
     (Zad (Zbj zai rfl (ZaC K (pv 0)) (ZbM (i:=2)) (Zag (Zaz (i:=1) (Zah Zfj (pv 1) (Zah Zbe Zaf (pv 2))))))
     (Zag (Zak (pv 1))))),?_⟩
 walk_at "vc";refine ⟨⟨_,hS⟩,loopL (xs:=pint ps) (WordOfI a ps H) ⟨⟨_,rfl⟩,rfl⟩ ?_ ?_ ?_⟩
 . rintro i σ H' hi ⟨_,rfl⟩
   exact hS
 . rintro i x σ H' hi ⟨⟨v,rfl⟩,rfl⟩
   obtain ⟨p,hp,rfl⟩:=ZaR hi;have hmem:p<1000:=h1000 p (yao hp);have tk:ps.take (i+1)=ps.take i++[p]:=by rw [ybk,hp];rfl
   walk_at "vc";refine ⟨⟨by omega,by omega,by decide⟩,⟨some (.int p),?_⟩,rfl⟩;rw [tk,orW_snoc,Zfc (yaU _) (by rw [ycv];exact Zfn _)];rw [yap,yap,ycv];congr
 . rintro σ H' ⟨⟨v,rfl⟩,rfl⟩
   walk_at "vc";rw [yas (by rw [Zal];exact yag _)];exact q
def spWordOfRuns:Sp:=fun vs H Q _=>∃ (a:Addr) (rs:List (Nat × Nat)),vs=[.ref a]/\RunsL H a rs/\(∀ r∈rs,r.1<=r.2/\r.2<999)/\Q (.int (orR rs:Nat)) H
structure WordRI (a:Addr)(rs:List (Nat × Nat))(H:Hp)(i:Nat)(σ:L2.St)(H':Hp):Prop where
 ex:∃ v v',σ=[some (.ref a),some (.int (orR (rs.take i):Nat)),v,v']
 hp:H'=H
theorem Tups.get:∀ {vs:List V} {rs:List (Nat × Nat)} {i:Nat} {x:V},Tups H vs rs->vs[i]?=some x->∃ t r,x=.ref t/\rs[i]?=some r/\H t=some (.tup [.int (r.1:Nat),.int (r.2:Nat)])
 | _,_,_,_,.nil,e=>by simp at e
 | _,_,0,_,.cons ⟨t,z,h⟩ _,e=>by
   simp at e;subst e;exact ⟨t,_,z,rfl,h⟩
 | _,_,i+1,x,.cons _ q,e=>by
   obtain ⟨t,r,h1,h2,h3⟩:=Tups.get (i:=i) (x:=x) q (by simpa using e);exact ⟨t,r,h1,by simpa using h2,h3⟩
theorem ZeJ (jv:FnAt P w K mg base "span_word" ["first","last"] 2 spSpan)(d:DefAt K mg "word_of_runs" Zbp ["runs"]):FnAt P w K mg base "word_of_runs" ["runs"] 3 spWordOfRuns:=by
 refine FnAt.of d jaz ?_ ?_;walk_at "F";have nd:=jaz.nd;obtain ⟨a,rs,rfl,⟨vs,hv,ht⟩,hb,q⟩:=h;refine ⟨_,(Zad (Zaz (i:=1) Zaf)
     (Zad (Zbj zai rfl (ZaC K (pv 0)) (ZcY K rfl (ZaI (ZbM (i:=2)) (ZaI (ZbM (i:=3)) ZcT))) (Zag (Zaz (i:=1) (Zah Zfj (pv 1) (Zaj jv (Zaa (pv 2) (Zaa (pv 3) Zab)))))))
     (Zag (Zak (pv 1))))),?_⟩
 walk_at "vc";refine ⟨⟨_,SqL.of hv⟩,loopL (xs:=vs) (WordRI a rs H) ⟨⟨_,_,rfl⟩,rfl⟩ ?_ ?_ ?_⟩
 . rintro i σ H' hi ⟨_,rfl⟩
   exact SqL.of hv
 . rintro i x σ H' hi ⟨⟨v,v',rfl⟩,rfl⟩
   obtain ⟨t,r,rfl,hr1,htt⟩:=ht.get hi;obtain ⟨b1,b2⟩:=hb r (yao hr1);have tk:rs.take (i+1)=rs.take i++[r]:=by rw [ybk,hr1];rfl
   walk_at "vc";refine ⟨_,SqT.of htt,rfl,?_⟩;walk_at "vc";refine ⟨_,_,⟨rfl,rfl⟩,?_⟩;walk_at "vc";refine ⟨_,_,⟨rfl,rfl⟩,?_⟩;walk_at "vc";refine ⟨r.1,r.2,rfl,by omega,by omega,?_⟩;walk_at "vc";refine ⟨⟨some (.int (r.1:Nat)),some (.int (r.2:Nat)),?_⟩,rfl⟩;rw [tk,orR_snoc,Zfc (yaU _) (yaU _),yap,yap]
 . rintro σ H' ⟨⟨v,v',rfl⟩,rfl⟩
   walk_at "vc";rw [yas (by rw [ht.length];exact yag _)];exact q
inductive Kd where
 | l | b | r
def kS:Kd->Str
 | .l=>"list"
 | .b=>"bits"
 | .r=>"runs"
def BodyIs (H:Hp):Kd->List Nat->V->Prop
 | .l,ps,v=>∃ l,v=.ref l/\H l=some (.lst (pint ps))
 | .b,ps,v=>v=.int (wd ps:Nat)
 | .r,ps,v=>∃ l,v=.ref l/\RunsL H l (runsOf ps)
theorem BodyIs.same {k:Kd}{v:V}(h:BodyIs H k ps v)(s:Same H H'):BodyIs H' k ps v:=by
 cases k with
 | l=>obtain ⟨l,e,h⟩:=h;exact ⟨l,e,s _ _ h⟩
 | b=>exact h
 | r=>obtain ⟨l,e,h⟩:=h;exact ⟨l,e,h.same s⟩
def StAt (c:Kd->Addr)(k:Kd)(H:Hp)(a:Addr)(ps:List Nat):Prop:=match k with
 | .l=>∃ dx l,H a=some (.ins (c .l) dx [("places",.ref l)])/\H l=some (.lst (pint ps))
 | .b=>∃ dx,H a=some (.ins (c .b) dx [("ones",.int (wd ps:Nat))])
 | .r=>∃ dx l,H a=some (.ins (c .r) dx [("runs",.ref l)])/\RunsL H l (runsOf ps)
theorem StAt.same {c:Kd->Addr}{k:Kd}{a:Addr}(h:StAt c k H a ps)(s:Same H H'):StAt c k H' a ps:=by
 cases k with
 | l=>obtain ⟨dx,l,e,h⟩:=h;exact ⟨dx,l,s _ _ e,s _ _ h⟩
 | b=>obtain ⟨dx,e⟩:=h;exact ⟨dx,s _ _ e⟩
 | r=>obtain ⟨dx,l,e,h⟩:=h;exact ⟨dx,l,s _ _ e,h.same s⟩
def noF (fs:List (Str × V)):Prop:=fs.lookup (Str.ofString "kind")=none/\fs.lookup (Str.ofString "body")=none/\fs.lookup (Str.ofString "word")=none/\fs.lookup (Str.ofString "size")=none/\fs.lookup (Str.ofString "told")=none/\fs.lookup (Str.ofString "many")=none/\fs.lookup (Str.ofString "has")=none/\fs.lookup (Str.ofString "below")=none/\fs.lookup (Str.ofString "chosen")=none/\fs.lookup (Str.ofString "onward")=none/\fs.lookup (Str.ofString "backward")=none
theorem Zif (v:V):noF [("places",v)]:=⟨rfl,rfl,rfl,rfl,rfl,rfl,rfl,rfl,rfl,rfl,rfl⟩
theorem noF_ones (v:V):noF [("ones",v)]:=⟨rfl,rfl,rfl,rfl,rfl,rfl,rfl,rfl,rfl,rfl,rfl⟩
theorem noF_runs (v:V):noF [("runs",v)]:=⟨rfl,rfl,rfl,rfl,rfl,rfl,rfl,rfl,rfl,rfl,rfl⟩
theorem StAt.obj {c:Kd->Addr}{k:Kd}{a:Addr}(h:StAt c k H a ps):∃ dx fs,H a=some (.ins (c k) dx fs)/\noF fs:=by
 cases k with
 | l=>obtain ⟨dx,l,e,_⟩:=h;exact ⟨dx,_,e,Zif _⟩
 | b=>obtain ⟨dx,e⟩:=h;exact ⟨dx,_,e,noF_ones _⟩
 | r=>obtain ⟨dx,l,e,_⟩:=h;exact ⟨dx,_,e,noF_runs _⟩
def spKindS (k:Kd):Sp:=fun vs H Q _=>∃ a:Addr,vs=[.ref a]/\Q (.str (kS k)) H
def spWordM (c:Kd->Addr)(k:Kd):Sp:=fun vs H Q _=>∃ (a:Addr) (ps:List Nat),vs=[.ref a]/\StAt c k H a ps/\Up 0 ps/\(∀ p∈ps,p<256)/\Q (.int (wd ps:Nat)) H
def spManyM (c:Kd->Addr)(k:Kd):Sp:=fun vs H Q _=>∃ (a:Addr) (ps:List Nat),vs=[.ref a]/\StAt c k H a ps/\Up 0 ps/\(∀ p∈ps,p<256)/\Q (.int ps.length) H
def spInitS (K:ZFr)(c:Kd->Addr):Kd->Sp
 | .l=>fun vs H Q _=>∃ (x dx p:Addr) (ps:List Nat),vs=[.ref x,.ref p]/\H x=some (.ins (c .l) dx [])/\SqL K H p (pint ps)/\∀ l,H l=none->Q .non (upd (upd H l (.lst (pint ps))) x (.ins (c .l) dx [("places",.ref l)]))
 | .b=>fun vs H Q _=>∃ (x dx:Addr) (v:V),vs=[.ref x,v]/\H x=some (.ins (c .b) dx [])/\Q .non (upd H x (.ins (c .b) dx [("ones",v)]))
 | .r=>fun vs H Q _=>∃ (x dx p:Addr) (us:List V),vs=[.ref x,.ref p]/\H x=some (.ins (c .r) dx [])/\H p=some (.lst us)/\∀ l,H l=none->Q .non (upd (upd H l (.lst us)) x (.ins (c .r) dx [("runs",.ref l)]))
section
variable {c:Kd->Addr}
theorem Zjo (B:Blt mg)(cd:CD_ListStretch K mg (c .l)):MakeAt P w K mg base "ListStretch" (c .l) ["self","places"] 1 (spInitS K c .l):=by
 refine MakeAt.of cd.at_ cd.init ju ?_ ?_;walk_at "F";have nd:=ju.nd;obtain ⟨x,dx,p,ps,rfl,hx,hp,q⟩:=h;refine ⟨_,(Zag (ZaF K (pv 0) (ZcI (Zb9 K) rfl B.lst boot_list (Zaa (pv 1) Zab)))),?_⟩;walk_at "vc";refine ⟨_,.inl hp,fun l hl=>?_⟩;have hx2:upd H l (.lst (pint ps)) x=some (.ins (c .l) dx []):=by rw [Zai (Zaq hx hl)];exact hx
 exact ⟨_,_,_,hx2,cd.c,cd.n_places,by decide,q l hl⟩
theorem ZjD (cd:CD_BitStretch K mg (c .b)):MakeAt P w K mg base "BitStretch" (c .b) ["self","word"] 1 (spInitS K c .b):=by refine MakeAt.of cd.at_ cd.init jw ?_ ?_;walk_at "F";have nd:=jw.nd;obtain ⟨x,dx,v,rfl,hx,q⟩:=h;refine ⟨_,(Zag (ZaF K (pv 0) (pv 1))),?_⟩;walk_at "vc";exact ⟨_,_,_,hx,cd.c,cd.n_ones,by decide,q⟩
theorem ZjI (B:Blt mg)(cd:CD_RunStretch K mg (c .r)):MakeAt P w K mg base "RunStretch" (c .r) ["self","runs"] 1 (spInitS K c .r):=by
 refine MakeAt.of cd.at_ cd.init jx ?_ ?_;walk_at "F";have nd:=jx.nd;obtain ⟨x,dx,p,us,rfl,hx,hp,q⟩:=h;refine ⟨_,(Zag (ZaF K (pv 0) (ZcI (Zb9 K) rfl B.lst boot_list (Zaa (pv 1) Zab)))),?_⟩;walk_at "vc";refine ⟨_,.inl (SqL.of hp),fun l hl=>?_⟩;have hx2:upd H l (.lst us) x=some (.ins (c .r) dx []):=by rw [Zai (Zaq hx hl)];exact hx
 exact ⟨_,_,_,hx2,cd.c,cd.n_runs,by decide,q l hl⟩
end
section
variable {c:Kd->Addr}
theorem ZjT (jbn:FnAt P w K mg base "word_of" ["places"] 1 (spWordOf K))(cd:CD_ListStretch K mg (c .l)):MethAt P w K mg base (c .l) "word" ["self"] 4 (spWordM c .l):=by refine MethAt.of cd.c cd.m_word jK ?_ ?_;walk_at "F";have nd:=jK.nd;obtain ⟨a,ps,rfl,⟨dx,l,ha,hl⟩,up,h256,q⟩:=h;refine ⟨_,(Zag (Zak (Zaj jbn (Zaa (Zam K (pv 0)) Zab)))),?_⟩;walk_at "vc";refine ⟨_,_,_,ha,cd.c,cd.n_places,.ref l,rfl,l,ps,rfl,SqL.of hl,fun p hp=>Nat.lt_trans (h256 p hp) (by decide),?_⟩;rw [orW_up up];exact q
theorem ZjW (cd:CD_BitStretch K mg (c .b)):MethAt P w K mg base (c .b) "word" ["self"] 4 (spWordM c .b):=by refine MethAt.of cd.c cd.m_word jV ?_ ?_;walk_at "F";have nd:=jV.nd;obtain ⟨a,ps,rfl,⟨dx,ha⟩,up,h256,q⟩:=h;refine ⟨_,(Zag (Zak (Zam K (pv 0)))),?_⟩;walk_at "vc";exact ⟨_,_,_,ha,cd.c,cd.n_ones,_,rfl,q⟩
theorem Zjz (j3:FnAt P w K mg base "word_of_runs" ["runs"] 3 spWordOfRuns)(cd:CD_RunStretch K mg (c .r)):MethAt P w K mg base (c .r) "word" ["self"] 4 (spWordM c .r):=by refine MethAt.of cd.c cd.m_word jY ?_ ?_;walk_at "F";have nd:=jY.nd;obtain ⟨a,ps,rfl,⟨dx,l,ha,hl⟩,up,h256,q⟩:=h;refine ⟨_,(Zag (Zak (Zaj j3 (Zaa (Zam K (pv 0)) Zab)))),?_⟩;walk_at "vc";refine ⟨_,_,_,ha,cd.c,cd.n_runs,.ref l,rfl,l,_,rfl,hl,fun r hr=>⟨Zeq ps r hr,Nat.lt_trans (Zjw h256 r hr) (by decide)⟩,?_⟩;rw [Ziy up];exact q
end
section
variable {c:Kd->Addr}
theorem ok_many (hw:∀ k,MethAt P w K mg base (c k) "word" ["self"] 4 (spWordM c k))(jl:FnAt P w K mg base "counted" ["word"] 2 spCount)(k:Kd)(cc:Cls K (c k))(d:MDefAt K (c k) "many" "Stretch.many" Za3 ["self"]):MethAt P w K mg base (c k) "many" ["self"] 5 (spManyM c k):=by refine MethAt.of cc d jaB ?_ ?_;walk_at "F";have nd:=jaB.nd;obtain ⟨a,ps,rfl,hst,up,h256,q⟩:=h;obtain ⟨dx,fs,ha,nf⟩:=hst.obj;refine ⟨_,(Zag (Zak (Zaj jl (Zaa (ZaG P w K mg base 4 (pv 0)) Zab)))),?_⟩;walk_at "vc";exact ⟨_,_,_,ha,nf.2.2.1,_,_,hw k,a,ps,rfl,hst,up,h256,ps,rfl,up,h256,q⟩
end
def ofO:Option Nat->V
 | none=>.non
 | some n=>.int (n:Nat)
def spHasM (c:Kd->Addr)(k:Kd):Sp:=fun vs H Q _=>∃ (a:Addr) (ps:List Nat) (p:Nat),vs=[.ref a,.int p]/\StAt c k H a ps/\Up 0 ps/\(∀ p∈ps,p<256)/\Q (.bl (decide (p∈ps))) H
def spBelowM (c:Kd->Addr)(k:Kd):Sp:=fun vs H Q _=>∃ (a:Addr) (ps:List Nat) (p:Nat),vs=[.ref a,.int p]/\StAt c k H a ps/\Up 0 ps/\(∀ p∈ps,p<256)/\p<=256/\Q (.int (ps.filter fun q=>decide (q<p)).length) H
section
variable {c:Kd->Addr}
theorem ok_has (hw:∀ k,MethAt P w K mg base (c k) "word" ["self"] 4 (spWordM c k))(jaq:FnAt P w K mg base "bit_at" ["word","place"] 1 spBit)(k:Kd)(cc:Cls K (c k))(d:MDefAt K (c k) "has" "Stretch.has" Zbb ["self","place"]):MethAt P w K mg base (c k) "has" ["self","place"] 5 (spHasM c k):=by
 refine MethAt.of cc d jaF ?_ ?_;walk_at "F";have nd:=jaF.nd;obtain ⟨a,ps,p,rfl,hst,up,h256,q⟩:=h;obtain ⟨dx,fs,ha,nf⟩:=hst.obj;refine ⟨_,(Zag (Zak (pe_c Zbr (Zaj jaq (Zaa (ZaG P w K mg base 4 (pv 0)) (Zaa (pv 1) Zab))) Zaf))),?_⟩;walk_at "vc";refine ⟨_,_,_,ha,nf.2.2.1,_,_,hw k,a,ps,rfl,hst,up,h256,?_⟩;walk_at "vc";refine ⟨wd ps,p,rfl,?_⟩;rw [ZaT up];walk_at "vc";have e:decide ((((decide (p∈ps)).toNat:Nat):Int)=1)=decide (p∈ps):=by by_cases h:p∈ps<;>simp [h]
 rw [e];exact q
theorem ok_below (hw:∀ k,MethAt P w K mg base (c k) "word" ["self"] 4 (spWordM c k))(jas:FnAt P w K mg base "ones_below" ["word","place"] 3 spOnes)(k:Kd)(cc:Cls K (c k))(d:MDefAt K (c k) "below" "Stretch.below" ZaV ["self","place"]):MethAt P w K mg base (c k) "below" ["self","place"] 5 (spBelowM c k):=by refine MethAt.of cc d jal ?_ ?_;walk_at "F";have nd:=jal.nd;obtain ⟨a,ps,p,rfl,hst,up,h256,hp,q⟩:=h;obtain ⟨dx,fs,ha,nf⟩:=hst.obj;refine ⟨_,(Zag (Zak (Zaj jas (Zaa (ZaG P w K mg base 4 (pv 0)) (Zaa (pv 1) Zab))))),?_⟩;walk_at "vc";exact ⟨_,_,_,ha,nf.2.2.1,_,_,hw k,a,ps,rfl,hst,up,h256,ps,p,rfl,up,h256,by omega,q⟩
end
def spChosenM (c:Kd->Addr)(k:Kd):Sp:=fun vs H Q _=>∃ (a:Addr) (ps:List Nat) (i:Nat),vs=[.ref a,.int i]/\StAt c k H a ps/\Up 0 ps/\(∀ p∈ps,p<256)/\i<ps.length/\Q (.int (ps.getD i 0:Nat)) H
section
variable {c:Kd->Addr}
theorem Zjj (hw:∀ k,MethAt P w K mg base (c k) "word" ["self"] 4 (spWordM c k))(jbR:FnAt P w K mg base "one_at" ["word","k"] 3 spOneAt)(k:Kd)(cc:Cls K (c k))(d:MDefAt K (c k) "chosen" "Stretch.chosen" ZaQ ["self","k"]):MethAt P w K mg base (c k) "chosen" ["self","k"] 5 (spChosenM c k):=by refine MethAt.of cc d j9 ?_ ?_;walk_at "F";have nd:=j9.nd;obtain ⟨a,ps,p,rfl,hst,up,h256,hp,q⟩:=h;obtain ⟨dx,fs,ha,nf⟩:=hst.obj;have hl:=Up.lt256 up h256;refine ⟨_,(Zag (Zak (Zaj jbR (Zaa (ZaG P w K mg base 4 (pv 0)) (Zaa (pv 1) Zab))))),?_⟩;walk_at "vc";exact ⟨_,_,_,ha,nf.2.2.1,_,_,hw k,a,ps,rfl,hst,up,h256,ps,p,rfl,up,hp,by omega,q⟩
end
section
variable {c:Kd->Addr}
theorem Zj9 (cd:CD_ListStretch K mg (c .l)):MethAt P w K mg base (c .l) "kind" ["self"] 1 (spKindS .l):=by refine MethAt.of cd.c cd.m_kind jI ?_ ?_;walk_at "F";have nd:=jI.nd;obtain ⟨a,rfl,q⟩:=h;refine ⟨_,(Zag (Zak Zik)),?_⟩;walk_at "vc";exact q
theorem Zjq (cd:CD_BitStretch K mg (c .b)):MethAt P w K mg base (c .b) "kind" ["self"] 1 (spKindS .b):=by refine MethAt.of cd.c cd.m_kind jT ?_ ?_;walk_at "F";have nd:=jT.nd;obtain ⟨a,rfl,q⟩:=h;refine ⟨_,(Zag (Zak Zik)),?_⟩;walk_at "vc";exact q
theorem ZjK (cd:CD_RunStretch K mg (c .r)):MethAt P w K mg base (c .r) "kind" ["self"] 1 (spKindS .r):=by refine MethAt.of cd.c cd.m_kind jW ?_ ?_;walk_at "F";have nd:=jW.nd;obtain ⟨a,rfl,q⟩:=h;refine ⟨_,(Zag (Zak Zik)),?_⟩;walk_at "vc";exact q
end
def spBodyN (c:Kd->Addr)(k:Kd):Sp:=fun vs H Q _=>∃ (a:Addr) (ps:List Nat),vs=[.ref a]/\StAt c k H a ps/\∀ v H',Same H H'->BodyIs H' k ps v->(∀ l,v=.ref l->H l=none)->Q v H'
section
variable {c:Kd->Addr}
theorem Zip (B:Blt mg)(cd:CD_ListStretch K mg (c .l)):MethAt P w K mg base (c .l) "body" ["self"] 1 (spBodyN c .l):=by refine MethAt.of cd.c cd.m_body jJ ?_ ?_;walk_at "F";have nd:=jJ.nd;obtain ⟨a,ps,rfl,⟨dx,l,ha,hl⟩,q⟩:=h;refine ⟨_,(Zag (Zak (ZcI (Zb9 K) rfl B.lst boot_list (Zaa (Zam K (pv 0)) Zab)))),?_⟩;walk_at "vc";refine ⟨_,_,_,ha,cd.c,cd.n_places,.ref l,rfl,l,rfl,_,.inl (SqL.of hl),fun p hp=>?_⟩;exact q _ _ (Same.new hp) ⟨p,rfl,Zac⟩ fun l' e=>by cases e;exact hp
theorem Zin (cd:CD_BitStretch K mg (c .b)):MethAt P w K mg base (c .b) "body" ["self"] 1 (spBodyN c .b):=by refine MethAt.of cd.c cd.m_body jU ?_ ?_;walk_at "F";have nd:=jU.nd;obtain ⟨a,ps,rfl,⟨dx,ha⟩,q⟩:=h;refine ⟨_,(Zag (Zak (Zam K (pv 0)))),?_⟩;walk_at "vc";exact ⟨_,_,_,ha,cd.c,cd.n_ones,_,rfl,q _ _ (Same.refl _) rfl (fun l e=>by cases e)⟩
theorem Zh9 (B:Blt mg)(cd:CD_RunStretch K mg (c .r)):MethAt P w K mg base (c .r) "body" ["self"] 1 (spBodyN c .r):=by refine MethAt.of cd.c cd.m_body jX ?_ ?_;walk_at "F";have nd:=jX.nd;obtain ⟨a,ps,rfl,⟨dx,l,ha,us,hl,ht⟩,q⟩:=h;refine ⟨_,(Zag (Zak (ZcI (Zb9 K) rfl B.lst boot_list (Zaa (Zam K (pv 0)) Zab)))),?_⟩;walk_at "vc";refine ⟨_,_,_,ha,cd.c,cd.n_runs,.ref l,rfl,l,rfl,_,.inl (SqL.of hl),fun p hp=>?_⟩;have sm:Same H (upd H p (.lst us)):=Same.new hp;exact q _ _ sm ⟨p,rfl,us,Zac,ht.same sm⟩ fun l' e=>by cases e;exact hp
end
def kdOf (ps:List Nat):Kd:=if ps.length<=32/\ps.length<=2*(runsOf ps).length then .l else if 32<=2*(runsOf ps).length then .b else .r
def spSizes:Sp:=fun vs H Q _=>∃ ps:List Nat,vs=[.int (wd ps:Nat)]/\Up 0 ps/\(∀ p∈ps,p<256)/\∀ t,H t=none->Q (.ref t) (upd H t (.tup [.int ps.length,.int 32,.int ((2*(runsOf ps).length:Nat):Int)]))
def KeptIs (c:Kd->Addr)(H:Hp)(ps:List Nat)(v:V):Prop:=(ps=[]->v=.non)/\(ps≠[]->∃ x,v=.ref x/\StAt c (kdOf ps) H x ps)
theorem KeptIs.same {c:Kd->Addr}{v:V}(h:KeptIs c H ps v)(s:Same H H'):KeptIs c H' ps v:=⟨h.1,fun e=>let ⟨x,a,b⟩:=h.2 e;⟨x,a,b.same s⟩⟩
def spKept (c:Kd->Addr):Sp:=fun vs H Q _=>∃ ps:List Nat,vs=[.int (wd ps:Nat)]/\Up 0 ps/\(∀ p∈ps,p<256)/\∀ v H',Same H H'->KeptIs c H' ps v->Q v H'
theorem wd_eq0:((wd ps:Nat):Int)=0↔ps=[]:=by
 cases ps with
 | nil=>exact ⟨fun _=>rfl,fun _=>rfl⟩
 | cons p r =>
   have:0<wd (p::r):=ZgH;exact ⟨fun h=>by omega,fun h=>by cases h⟩
section
variable {c:Kd->Addr}{Q:VK}{E:XK}
theorem mkS_l {l1:Addr}(hl:SqL K H l1 (pint ps))(q:∀ a H',Same H H'->H a=none->StAt c .l H' a ps->Q (.ref a) H') :
   ∀ x dx,H x=none->H dx=none->dx≠x->spInitS K c .l [.ref x,.ref l1] (upd (upd H dx (.own x)) x (.ins (c .l) dx [])) (fun v H'=>v=.non/\Q (.ref x) H') E:=by
 intro x dx nx ndx dne;have m2:Same H (upd (upd H dx (.own x)) x (.ins (c .l) dx [])):=(Same.new ndx).put nx;refine ⟨x,dx,l1,ps,rfl,Zac,m2.seq hl,fun l nl=>⟨rfl,?_⟩⟩;have m4:=(m2.put (o:=.lst (pint ps)) (m2.free nl)).put (o:=.ins (c .l) dx [("places",.ref l)]) nx;refine q x _ m4 nx ⟨dx,l,Zac,?_⟩;have:l≠x:=fun z=>by rw [z,Zac] at nl;cases nl
 rw [Zai this,Zac]
theorem mkS_b (q:∀ a H',Same H H'->H a=none->StAt c .b H' a ps->Q (.ref a) H') :
   ∀ x dx,H x=none->H dx=none->dx≠x->spInitS K c .b [.ref x,.int (wd ps:Nat)] (upd (upd H dx (.own x)) x (.ins (c .b) dx [])) (fun v H'=>v=.non/\Q (.ref x) H') E:=by
 intro x dx nx ndx dne;have m2:Same H (upd (upd H dx (.own x)) x (.ins (c .b) dx [])):=(Same.new ndx).put nx;exact ⟨x,dx,_,rfl,Zac,rfl,q x _ (m2.put nx) nx ⟨dx,Zac⟩⟩
theorem mkS_r {l1:Addr}(hl:RunsL H l1 (runsOf ps))(q:∀ a H',Same H H'->H a=none->StAt c .r H' a ps->Q (.ref a) H') :
   ∀ x dx,H x=none->H dx=none->dx≠x->spInitS K c .r [.ref x,.ref l1] (upd (upd H dx (.own x)) x (.ins (c .r) dx [])) (fun v H'=>v=.non/\Q (.ref x) H') E:=by
 intro x dx nx ndx dne;obtain ⟨us,hu,ht⟩:=hl;have m2:Same H (upd (upd H dx (.own x)) x (.ins (c .r) dx [])):=(Same.new ndx).put nx;refine ⟨x,dx,l1,us,rfl,Zac,m2 _ _ hu,fun l nl=>⟨rfl,?_⟩⟩;have m4:=(m2.put (o:=.lst us) (m2.free nl)).put (o:=.ins (c .r) dx [("runs",.ref l)]) nx;refine q x _ m4 nx ⟨dx,l,Zac,us,?_,ht.same m4⟩;have:l≠x:=fun z=>by rw [z,Zac] at nl;cases nl
 rw [Zai this,Zac]
end
section
variable {c:Kd->Addr}
theorem ok_sizes (cP:∃ t,mg "PLACES"=some (.int 256 t))(jl:FnAt P w K mg base "counted" ["word"] 2 spCount)(d:DefAt K mg "sizes" ZeO ["word"]):FnAt P w K mg base "sizes" ["word"] 3 spSizes:=by
 obtain ⟨tP,ja⟩:=cP;refine FnAt.of d jcg ?_ ?_;walk_at "F";have nd:=jcg.nd;obtain ⟨ps,rfl,up,h256,q⟩:=h;refine ⟨_,(Zad (Zaz (i:=1) (Zah ZaZ (pv 0) (Zd7 Zfl (Zah Zbe (pv 0) Zaf))))
     (Zag (Zak (Zcx (Zaa (Zaj jl (Zaa (pv 0) Zab)) (Zaa (Zah Zas (ZaJ ja) Zaf) (Zaa (Zah Zbt Zaf (Zaj jl (Zaa (pv 1) Zab))) Zab))))))),?_⟩
 walk_at "vc";refine ⟨wd_abs up h256,ps,rfl,up,h256,bgs ps,by rw [bgs_wdI2 up],up.filter,bgs_lt h256,_,rfl,by decide,fun t nt=>?_⟩;have e:=q t nt;rw [runs_bgs up,Int.natCast_mul] at e;exact e
theorem ok_kept (jb3:FnAt P w K mg base "sizes" ["word"] 3 spSizes)(ji:FnAt P w K mg base "places_of" ["word"] 3 spPlacesOf)(jbo:FnAt P w K mg base "runs_of" ["word"] 3 spRunsOf)
   (jbV:MakeAt P w K mg base "ListStretch" (c .l) ["self","places"] 1 (spInitS K c .l)) (jb4:MakeAt P w K mg base "BitStretch" (c .b) ["self","word"] 1 (spInitS K c .b)) (jb5:MakeAt P w K mg base "RunStretch" (c .r) ["self","runs"] 1 (spInitS K c .r))
   (d:DefAt K mg "kept" Zgu ["word"]):FnAt P w K mg base "kept" ["word"] 4 (spKept c):=by
 refine FnAt.of d jcn ?_ ?_;walk_at "F";have nd:=jcn.nd;obtain ⟨ps,rfl,up,h256,q⟩:=h;refine ⟨_,(Zad (ZaD (Za0 Zbr (pv 0) Zaf) (Zag (Zak ZbA)) Zau)
     (Zad (ZhY (Zaj jb3 (Zaa (pv 0) Zab)) (ZcY K rfl (ZaI (ZbM (i:=1)) (ZaI (ZbM (i:=2)) (ZaI (ZbM (i:=3)) ZcT)))))
     (Zad (ZaD (PW.pt (pw_and (Za0 ZcF (pv 1) (pv 2)) (pw_and1 (Za0 ZcF (pv 1) (pv 3))))) (Zag (Zak (Zdp jbV (hr.mono (by decide)) rfl (Zaa (Zaj ji (Zaa (pv 0) Zab)) Zab)))) Zau)
     (Zad (ZaD (Za0 ZcF (pv 2) (pv 3)) (Zag (Zak (Zdp jb4 (hr.mono (by decide)) rfl (Zaa (pv 0) Zab)))) Zau)
     (Zag (Zak (Zdp jb5 (hr.mono (by decide)) rfl (Zaa (Zaj jbo (Zaa (pv 0) Zab)) Zab)))))))),?_⟩
 walk_at "vc";by_cases e0:ps=[]
 . rw [if_pos (wd_eq0.mpr e0)]
   exact q _ _ (Same.refl _) ⟨fun _=>rfl,fun z=>absurd e0 z⟩
 rw [if_neg (fun z=>e0 (wd_eq0.mp z))];have q:∀ x H',Same H H'->StAt c (kdOf ps) H' x ps->Q (.ref x) H':=fun x H' s st=>q _ _ s ⟨fun z=>absurd z e0,fun _=>⟨x,rfl,st⟩⟩
 refine ⟨ps,rfl,up,h256,fun t nt=>?_⟩;have smT:Same H (upd H t (.tup [.int ps.length,.int 32,.int ((2*(runsOf ps).length:Nat):Int)])):=Same.new nt;refine ⟨t,rfl,_,SqT.of Zac,rfl,_,_,rfl,_,_,rfl,_,_,rfl,rfl,_,rfl,_,rfl,?_⟩;generalize upd H t (.tup [.int ps.length,.int 32,.int ((2*(runsOf ps).length:Nat):Int)])=H1 at smT ⊢;have rest:¬ (ps.length<=32/\ps.length<=2*(runsOf ps).length)->∃ i,V.int 32=V.int i/\∃ x,V.int ((2*(runsOf ps).length:Nat):Int)=V.int x /\
     if i<=x then ∀ (x dx:Addr),H1 x=none->H1 dx=none->dx≠x->spInitS K c Kd.b [V.ref x,V.int ((wd ps:Nat):Int)] (upd (upd H1 dx (HO.own x)) x (HO.ins (c Kd.b) dx [])) (fun v H2=>v=V.non/\Q (V.ref x) H2) E0
     else spRunsOf [V.int ((wd ps:Nat):Int)] H1 (fun x H1=>∀ (x_1 dx:Addr),H1 x_1=none->H1 dx=none->dx≠x_1->spInitS K c Kd.r [V.ref x_1,x] (upd (upd H1 dx (HO.own x_1)) x_1 (HO.ins (c Kd.r) dx [])) (fun v H2=>v=V.non/\Q (V.ref x_1) H2) E0) E0:=fun n1=>by
   refine ⟨_,rfl,_,rfl,?_⟩;by_cases c3:32<=2*(runsOf ps).length
   . rw [if_pos (by omega)]
     have e:kdOf ps=.b:=by unfold kdOf;rw [if_neg n1,if_pos c3]
     rw [e] at q;exact mkS_b fun x H' sm nx st=>q x H' (smT.trans sm) st
   . rw [if_neg (by omega)]
     have e:kdOf ps=.r:=by unfold kdOf;rw [if_neg n1,if_neg c3]
     rw [e] at q;refine ⟨ps,rfl,up,h256,fun r H2 s2 nr hr2=>?_⟩;exact mkS_r hr2 fun x H' sm nx st=>q x H' (smT.trans (s2.trans sm)) st
 by_cases c1:ps.length<=32
 . rw [if_pos (by omega)]
   refine ⟨_,rfl,_,rfl,?_⟩;by_cases c2:ps.length<=2*(runsOf ps).length
   . rw [if_pos (by omega)]
     have e:kdOf ps=.l:=by unfold kdOf;rw [if_pos ⟨c1,c2⟩]
     rw [e] at q;refine ⟨ps,rfl,up,h256,fun r H2 s2 nr hr2=>?_⟩;exact mkS_l (SqL.of hr2) fun x H' sm nx st=>q x H' (smT.trans (s2.trans sm)) st
   . rw [if_neg (by omega)]
     exact rest fun z=>c2 z.2
 . rw [if_neg (by omega)]
   exact rest fun z=>c1 z.1
end
def gJoin (ps qs:List Nat):List Nat:=(List.range 256).filter fun p=>decide (p∈ps)||decide (p∈qs)
def gLess (ps qs:List Nat):List Nat:=ps.filter fun p=>!decide (p∈qs)
theorem Zh1 {f:Nat->Bool}:∀ p∈(List.range 256).filter f,p<256:=fun p hp=>ybR.mp (yau.mp hp).1
theorem flt_lt {f:Nat->Bool}(h:∀ p∈ps,p<256):∀ p∈ps.filter f,p<256:=fun p hp=>h p (yau.mp hp).1
def gAdd (ps:List Nat)(p:Nat):List Nat:=gJoin ps [p]
def gRem (ps:List Nat)(p:Nat):List Nat:=gLess ps [p]
def spPut (c:Kd->Addr)(g:List Nat->Nat->List Nat):Sp:=fun vs H Q _=>∃ (a:Addr) (k:Kd) (ps:List Nat) (p:Nat),vs=[.ref a,.int p]/\StAt c k H a ps/\Up 0 ps/\(∀ p∈ps,p<256)/\p<256/\∀ v H',Same H H'->KeptIs c H' (g ps p) v->Q v H'
theorem Zer (p:Nat):Up 0 [p]:=⟨yax _,trivial⟩
theorem ZgL {p:Nat}(h:p<256):∀ q∈[p],q<256:=fun q hq=>by
 have:q=p:=by simpa using hq
 omega
theorem ZeS (p:Nat):(1:Int)*2^((p:Nat):Int).toNat=((wd [p]:Nat):Int):=by
 rw [yap,ycv];show (2:Int)^p=((2^p+0:Nat):Int)
 rw [ycg,ycq];rfl
section
variable {c:Kd->Addr}
theorem ok_added (hw:∀ k,MethAt P w K mg base (c k) "word" ["self"] 4 (spWordM c k))(jo:FnAt P w K mg base "kept" ["word"] 4 (spKept c))(d:DefAt K mg "added" ZeL ["stretch","place"]):FnAt P w K mg base "added" ["stretch","place"] 5 (spPut c gAdd):=by refine FnAt.of d jch ?_ ?_;walk_at "F";have nd:=jch.nd;obtain ⟨a,k,ps,p,rfl,st,up,l,hp,q⟩:=h;obtain ⟨dx,fs,hx,nf⟩:=st.obj;refine ⟨_,(Zag (Zak (Zaj jo (Zaa (Zah Zfj (ZaG P w K mg base 4 (pv 0)) (Zah Zbe Zaf (pv 1))) Zab)))),?_⟩;walk_at "vc";refine ⟨_,_,_,hx,nf.2.2.1,_,_,hw k,a,ps,rfl,st,up,l,?_⟩;walk_at "vc";refine ⟨⟨by omega,by omega,by decide⟩,gAdd ps p,?_,ZbZ _ _,Zh1 (f:=fun x=>decide (x∈ps)||decide (x∈[p])),q⟩;rw [ZeS,ZiH up (Zer p) l (ZgL hp)];rfl
theorem Ziq (hw:∀ k,MethAt P w K mg base (c k) "word" ["self"] 4 (spWordM c k))(jo:FnAt P w K mg base "kept" ["word"] 4 (spKept c))(d:DefAt K mg "removed" Zdw ["stretch","place"]):FnAt P w K mg base "removed" ["stretch","place"] 5 (spPut c gRem):=by refine FnAt.of d jbN ?_ ?_;walk_at "F";have nd:=jbN.nd;obtain ⟨a,k,ps,p,rfl,st,up,l,hp,q⟩:=h;obtain ⟨dx,fs,hx,nf⟩:=st.obj;refine ⟨_,(Zag (Zak (Zaj jo (Zaa (Zah ZaZ (ZaG P w K mg base 4 (pv 0)) (Zd7 Zfl (Zah Zbe Zaf (pv 1)))) Zab)))),?_⟩;walk_at "vc";refine ⟨_,_,_,hx,nf.2.2.1,_,_,hw k,a,ps,rfl,st,up,l,?_⟩;walk_at "vc";refine ⟨⟨by omega,by omega,by decide⟩,gRem ps p,?_,up.filter,flt_lt (f:=fun x=>!decide (x∈[p])) l,q⟩;rw [ZeS,ZgP up (Zer p)];rfl
end
def spIsWhole:Sp:=fun vs H Q _=>∃ i:Int,vs=[.int i]/\Q (.bl true) H
def spChk:Sp:=fun vs H Q _=>∃ n:Nat,vs=[.int n]/\n<=65535/\Q .non H
theorem ZhE (B:Blt mg)(d:DefAt K mg "is_whole" ZbY ["thing"]):FnAt P w K mg base "is_whole" ["thing"] 1 spIsWhole:=by refine FnAt.of d j8 ?_ ?_;walk_at "F";have nd:=j8.nd;obtain ⟨k,rfl,q⟩:=h;refine ⟨_,(Zag (Zak (ZdM (ZaB (ZcK K) rfl B.isi Zdf (Zaa (pv 0) (Zaa (ZeN (v:=.ty "int") rfl B.int boot_int rfl) Zab))) (ZdL (pe_not (ZaB (ZcK K) rfl B.isi Zdf (Zaa (pv 0) (Zaa (ZeN (v:=.ty "bool") rfl B.bool boot_bool rfl) Zab)))))))),?_⟩;walk_at "vc";exact q
theorem ok_check (cG:∃ t,mg "GREATEST"=some (.int 65535 t))(jn:FnAt P w K mg base "is_whole" ["thing"] 1 spIsWhole)(d:DefAt K mg "check_number" Zbv ["thing"]):FnAt P w K mg base "check_number" ["thing"] 2 spChk:=by obtain ⟨tG,j4⟩:=cG;refine FnAt.of d jaA ?_ ?_;walk_at "F";have nd:=jaA.nd;obtain ⟨n,rfl,hn,q⟩:=h;refine ⟨_,(Zag (ZaD (PW.pt (pw_or (Zcy (Za9 (Zaj jn (Zaa (pv 0) Zab)))) (ZgJ (Zcy (Zec ZcF ZcF Zaf (pv 0) (ZaJ j4)))))) (Zag (Zfx)) Zau)),?_⟩;walk_at "vc";refine ⟨_,rfl,_,rfl,?_⟩;rw [if_neg (by decide),if_pos (by omega),if_pos (by omega)];exact q
theorem cut_take (xs:List V)(k:Nat):cutV xs none (some (k:Int))=xs.take k:=by
 unfold cutV;rw [HT.sIx_none,HT.sIx_nat,ycb,Nat.sub_zero];rcases Nat.le_total k xs.length with h | h
 . rw [Nat.min_eq_left h]
 . rw [Nat.min_eq_right h,ycu,yas h]
theorem ZhM (xs:List V)(k:Nat):cutV xs (some (k:Int)) none=xs.drop k:=by
 unfold cutV;rw [HT.sIx_none,HT.sIx_nat];rcases Nat.le_total k xs.length with h | h
 . rw [Nat.min_eq_left h,yas (by rw [yaW];omega)]
 . rw [Nat.min_eq_right h,ybh h,List.drop_length,List.take_nil]
def spHKt (ts:Tabs)(pr:Int->Int->Bool)(df:Int):Sp:=fun vs H Q _=>∃ (a:Addr) (ks:List Int) (y:Int),vs=[.ref a,.int y]/\noT H a=some (.lst (ks.map V.int))/\ks.length<=1000/\Pre (pr y) ks/\Tbs ts H /\
 ∀ t l H',Nx ts H H'->noT H t=none->noT H l=none->noT H' t=some (.tup [.int ((cnt (pr y) ks:Int)-df),.ref l])->noT H' l=some (.lst (pint (halv 0 ks.length (cnt (pr y) ks))))->Q (.ref t) H'
theorem hkT {ts:Tabs}{pr:Int->Int->Bool}{df:Int}{c P1:Addr}{lp:Pos}(u:TabsUq ts)(hm:(P1,qual,lp)∈ts):∀ vs H Q E,spHKt ts pr df vs H Q E->spHK pr df c P1 qual lp vs H Q E:=by rintro vs H Q E ⟨a,ks,y,rfl,ha,hl,hp,hT,q⟩;exact ⟨a,ks,y,rfl,(oT ha),hl,hp,hT _ hm,fun t l H' s t' f1 f2 h1 h2=>q t l H' (Tbs.grow u hT hm s t') (ZaU f1) (ZaU f2) (Zan h1 (nt _)) (Zan h2 (nl _))⟩
theorem Zim {p:Int->Bool} (hd:∀ a b:Int,a<b->p b=true->p a=true):∀ {ks:List Int},ks.Pairwise (·<·)->Pre p ks
 | [],_=>fun i k h=>by cases h
 | x :: r,h=>by
   obtain ⟨h1,h2⟩:=ybZ.mp h;cases hp:p x with
   | false =>
     have no:∀ k∈x::r,p k=false:=fun k hk=>by
       rcases yaj.mp hk with rfl | hk
       . exact hp
       . cases q:p k with
         | false=>rfl
         | true=>rw [hd x k (h1 k hk) q] at hp;cases hp
     have c0:cnt p (x::r)=0:=by unfold cnt;rw [ybz,ybi];intro k hk;rw [no k hk];decide
     intro i k hk;rw [c0,no k (yao hk)];simp
   | true =>
     have c1:cnt p (x::r)=cnt p r+1:=by unfold cnt;rw [ybe,if_pos hp];rfl
     intro i k hk;rw [c1];cases i with
     | zero=>cases (show x=k from Option.some.inj hk);rw [hp];simp
     | succ i =>
       rw [Zim hd h2 i k hk];simp
theorem ZcD (ps:List Nat):pint ps=(ps.map fun (p:Nat)=>(p:Int)).map V.int:=by unfold pint;rw [ybl];rfl
theorem Ze1:∀ {a:Nat} {ps:List Nat},Up a ps->(ps.map fun (p:Nat)=>(p:Int)).Pairwise (·<·)
 | _,[],_=>.nil
 | a,p::r,h=>by
   refine ybZ.mpr ⟨fun y hy=>?_,Ze1 h.2⟩;obtain ⟨x,hx,rfl⟩:=yaJ.mp hy;have:=Up.of_lt h.2 x hx;show (p:Int)<(x:Int);omega
theorem cnt_lo (k:Nat)(es:List Ent):cnt (fun x=>decide (x<(k:Int))) ((kys es).map fun (p:Nat)=>(p:Int))=(loE k es).length:=by unfold cnt kys loE;rw [ybl,ybw,yad];refine congrArg List.length (yby fun e _=>?_);show decide ((e.key:Int)<(k:Int))=decide (e.key<k);rw [yaS];omega
theorem Zdh {es:List Ent}(h:EsOk es):es.length<=256:=by
 have:=Up.lt256 h.up fun p hp=>by obtain ⟨e,he,rfl⟩:=yaJ.mp hp;exact h.klt e he
 unfold kys at this;rw [yad] at this;exact this
theorem Zgs {es:List Ent}(k:Nat)(h:EsOk es):es[(loE k es).length]?=(miE k es++hiE k es).head?:=by
 have hs:es=loE k es++(miE k es++hiE k es):=by rw [<- yah];exact split k h.up
 have:(loE k es++(miE k es++hiE k es))[(loE k es).length]?=(miE k es++hiE k es).head?:=by rw [yai (yag _),ych,List.head?_eq_getElem?]
 rw [<- hs] at this;exact this
theorem ZeV {es:List Ent}(k:Nat)(h:EsOk es):es.take (loE k es).length=loE k es:=by
 have hs:es=loE k es++(miE k es++hiE k es):=by rw [<- yah];exact split k h.up
 have:(loE k es++(miE k es++hiE k es)).take (loE k es).length=loE k es:=List.take_left;rw [<- hs] at this;exact this
theorem drop_lo {es:List Ent}(k:Nat)(h:EsOk es):es.drop (loE k es).length=miE k es++hiE k es:=by
 have hs:es=loE k es++(miE k es++hiE k es):=by rw [<- yah];exact split k h.up
 have:(loE k es++(miE k es++hiE k es)).drop (loE k es).length=miE k es++hiE k es:=List.drop_left;rw [<- hs] at this;exact this
theorem len_lo {es:List Ent}(k:Nat):(loE k es).length<=es.length:=ybp _ _
theorem ZcW {i x:Nat}(h:ks[i]?=some x):atI (pint ks) (i:Int)=some (.int (x:Nat)):=Zc3 (by unfold pint;rw [yav,h];rfl)
theorem ZeP {es:List Ent}{i:Nat}{e:Ent}(h:es[i]?=some e):(kys es)[i]?=some e.key:=by unfold kys;rw [yav,h];rfl
structure MkAt (c:Kd->Addr)(CM:Addr)(H:Hp)(m:Addr)(es:List Ent):Prop where
 ex:∃ dx kd ah sr:Addr,H m=some (.ins CM dx [("keyed",.ref kd),("aheads",.ref ah),("stretches",.ref sr),("held",.int (tot es:Nat))])/\H kd=some (.lst (pint (kys es)))/\H ah=some (.lst (pint (ahs 0 es)))/\H sr=some (.lst (es.map fun e=>V.ref e.loc))
 st:∀ e∈es,StAt c (kdOf e.ps) H e.loc e.ps
theorem MkAt.same {c:Kd->Addr}{m:Addr}{es:List Ent}(h:MkAt c CM H m es)(s:Same H H'):MkAt c CM H' m es:=by obtain ⟨⟨dx,kd,ah,sr,h1,h2,h3,h4⟩,st⟩:=h;exact ⟨⟨dx,kd,ah,sr,s _ _ h1,s _ _ h2,s _ _ h3,s _ _ h4⟩,fun e he=>(st e he).same s⟩
def noM (fs:List (Str × V)):Prop:=fs.lookup (Str.ofString "found")=none/\fs.lookup (Str.ofString "stands")=none/\fs.lookup (Str.ofString "ahead_of")=none/\fs.lookup (Str.ofString "stretch_at")=none/\fs.lookup (Str.ofString "keep")=none/\fs.lookup (Str.ofString "has")=none/\fs.lookup (Str.ofString "put")=none/\fs.lookup (Str.ofString "take")=none/\fs.lookup (Str.ofString "below")=none/\fs.lookup (Str.ofString "below_looks")=none/\fs.lookup (Str.ofString "numbers")=none/\fs.lookup (Str.ofString "many")=none/\fs.lookup (Str.ofString "chosen")=none/\fs.lookup (Str.ofString "onward")=none/\fs.lookup (Str.ofString "backward")=none/\fs.lookup (Str.ofString "word_at")=none
theorem noM_of (a b d e:V):noM [("keyed",a),("aheads",b),("stretches",d),("held",e)]:=⟨rfl,rfl,rfl,rfl,rfl,rfl,rfl,rfl,rfl,rfl,rfl,rfl,rfl,rfl,rfl,rfl⟩
theorem MkAt.obj {c:Kd->Addr}{m:Addr}{es:List Ent}(h:MkAt c CM H m es):∃ dx fs,H m=some (.ins CM dx fs)/\noM fs:=by obtain ⟨dx,kd,ah,sr,h1,_⟩:=h.ex;exact ⟨dx,_,h1,noM_of _ _ _ _⟩
def stV (k:Nat)(es:List Ent):V:=match miE k es with
 | []=>.non
 | e::_=>.ref e.loc
def spFound (c:Kd->Addr)(CM:Addr)(ts:Tabs):Sp:=fun vs H Q _=>∃ (m:Addr) (k:Nat) (es:List Ent),vs=[.ref m,.int k]/\MkAt c CM (noT H) m es/\EsOk es/\Tbs ts H/\∀ H',Nx ts H H'->Q (.int (loE k es).length) H'
def spStands (c:Kd->Addr)(CM:Addr):Sp:=fun vs H Q _=>∃ (m:Addr) (k:Nat) (es:List Ent),vs=[.ref m,.int (loE k es).length,.int k]/\MkAt c CM (noT H) m es/\EsOk es/\Q (.bl (decide (miE k es≠[]))) H
def spAhead (c:Kd->Addr)(CM:Addr):Sp:=fun vs H Q _=>∃ (m:Addr) (i:Nat) (es:List Ent),vs=[.ref m,.int i]/\MkAt c CM (noT H) m es/\i<=es.length/\Q (.int (tot (es.take i):Nat)) H
def spStAt (c:Kd->Addr)(CM:Addr)(ts:Tabs):Sp:=fun vs H Q _=>∃ (m:Addr) (k:Nat) (es:List Ent),vs=[.ref m,.int k]/\MkAt c CM (noT H) m es/\EsOk es/\Tbs ts H/\∀ H',Nx ts H H'->Q (stV k es) H'
section
variable {c:Kd->Addr}{ts:Tabs}
theorem ok_found (jbW:FnAt P w K mg base "halved_keys" ["keys","key"] 3 (spHKt ts (fun y k=>decide (k<y)) 0))(cd:CD_Marks K mg CM):MethAt P w K mg base CM "found" ["self","key"] 4 (spFound c CM ts):=by
 refine MethAt.of cd.c cd.m_found jaH ?_ ?_;walk_at "F";have nd:=jaH.nd;obtain ⟨m,k,es,rfl,hm,ok,ht,q⟩:=h;obtain ⟨dx,kd,ah,sr,h1,h2,h3,h4⟩:=hm.ex;refine ⟨_,(Zag (Zak (Zc0 (ZiR K) (Zaj jbW (Zaa (Zam K (pv 0)) (Zaa (pv 1) Zab))) Zaf))),?_⟩;walk_at "vc";refine ⟨_,_,_,(oT h1),cd.c,cd.n_keyed,.ref kd,rfl,kd,_,k,rfl,by rw [h2,ZcD],?_,Zim (fun a b h p=>yak (Int.lt_trans h (ybo p))) (Ze1 ok.up),ht,fun t l H' nx f1 f2 g1 g2=>?_⟩
 . have:=Zdh ok
   rw [yad];unfold kys;rw [yad];omega
 . refine ⟨t,rfl,_,SqT.of (oT g1),_,rfl,?_⟩
   rw [cnt_lo,Int.sub_zero];exact q H' nx
theorem ZjA (B:Blt mg) (cd:CD_Marks K mg CM):MethAt P w K mg base CM "stands" ["self","at","key"] 1 (spStands c CM):=by
 refine MethAt.of cd.c cd.m_stands jaD ?_ ?_;walk_at "F";have nd:=jaD.nd;obtain ⟨m,k,es,rfl,hm,ok,q⟩:=h;obtain ⟨dx,kd,ah,sr,h1,h2,h3,h4⟩:=hm.ex;refine ⟨_,(Zag (Zak (ZdM (pe_c ZdZ (pv 1) (ZaB (ZaX K) rfl B.len zaz (Zaa (Zam K (pv 0)) Zab))) (ZdL (pe_c Zbr (Zc0 (ZaE K) (Zam K (pv 0)) (pv 1)) (pv 2)))))),?_⟩;walk_at "vc";have hkd:=(oT h2)
 have hm1:=(oT h1)
 refine ⟨_,_,_,hm1,cd.c,cd.n_keyed,.ref kd,rfl,kd,rfl,_,.inl (SqL.of hkd),?_⟩;have lk:(pint (kys es)).length=es.length:=by rw [Zal];unfold kys;rw [yad]
 rw [lk];have g:=Zgs k ok;by_cases lt:(loE k es).length<es.length
 . rw [if_pos (by omega)]
   rw [yae lt] at g;have ge:es[(loE k es).length]?=some es[(loE k es).length]:=yae lt;refine ⟨_,_,_,hm1,cd.c,cd.n_keyed,.ref kd,rfl,kd,rfl,_,SqL.of hkd,_,ZcW (ZeP ge),rfl,?_⟩;have e:decide (V.int ((es[(loE k es).length].key:Nat):Int)=V.int (k:Int))=decide (miE k es≠[]):=by
     rcases Zbh k ok.up with z | ⟨e,z1,z2,z3⟩
     . rw [z,ybf] at g
       have hh:es[(loE k es).length]∈hiE k es:=List.mem_of_head? g.symm;have:=(Zew hh).2;rw [yaw (by simp;omega),yaw (by simp [z])]
     . rw [z1] at g
       have:es[(loE k es).length]=e:=Option.some.inj g;rw [this,z2,z1];simp
   rw [e];exact q
 . rw [if_neg (by omega)]
   have z:miE k es=[]:=by rw [List.getElem?_eq_none (by omega)] at g;have:=List.head?_eq_none_iff.mp g.symm;exact (List.append_eq_nil_iff.mp this).1
   rw [yaw (by simp [z])] at q;exact q
theorem ok_ahead (B:Blt mg)(cd:CD_Marks K mg CM):MethAt P w K mg base CM "ahead_of" ["self","at"] 1 (spAhead c CM):=by
 refine MethAt.of cd.c cd.m_ahead_of jac ?_ ?_;walk_at "F";have nd:=jac.nd;obtain ⟨m,i,es,rfl,hm,hi,q⟩:=h;obtain ⟨dx,kd,ah,sr,h1,h2,h3,h4⟩:=hm.ex;refine ⟨_,(Zag (Zak (Zbo (Za0 ZdZ (pv 1) (ZaB (ZaX K) rfl B.len zaz (Zaa (Zam K (pv 0)) Zab))) (Zc0 (ZaE K) (Zam K (pv 0)) (pv 1)) (Zam K (pv 0))))),?_⟩;walk_at "vc";have hah:=(oT h3)
 have hm1:=(oT h1)
 refine ⟨_,_,_,hm1,cd.c,cd.n_aheads,.ref ah,rfl,ah,rfl,_,.inl (SqL.of hah),?_⟩;rw [Zal,ZbF];by_cases lt:i<es.length
 . rw [if_pos (by omega)]
   have g:=Ze2 0 es i lt;rw [ybH] at g;exact ⟨_,_,_,hm1,cd.c,cd.n_aheads,.ref ah,rfl,ah,rfl,_,SqL.of hah,_,ZcW g,q⟩
 . rw [if_neg (by omega)]
   rw [yas (by omega)] at q;exact ⟨_,_,_,hm1,cd.c,cd.n_held,_,rfl,q⟩
theorem ZfF (jq:MethAt P w K mg base CM "found" ["self","key"] 4 (spFound c CM ts))(jk:MethAt P w K mg base CM "stands" ["self","at","key"] 1 (spStands c CM))(cd:CD_Marks K mg CM):MethAt P w K mg base CM "stretch_at" ["self","key"] 5 (spStAt c CM ts):=by
 refine MethAt.of cd.c cd.m_stretch_at jL ?_ ?_;walk_at "F";have nd:=jL.nd;obtain ⟨m,k,es,rfl,hm,ok,ht,q⟩:=h;obtain ⟨dx,fs,ho,nf⟩:=hm.obj;refine ⟨_,(Zad (Zaz (i:=2) (Zap P w K mg base 4 (pv 0) (Zaa (pv 1) Zab)))
     (Zag (Zak (Zbo (Za9 (Zap P w K mg base 1 (pv 0) (Zaa (pv 2) (Zaa (pv 1) Zab)))) (Zc0 (ZaE K) (Zam K (pv 0)) (pv 2)) ZbA)))),?_⟩
 walk_at "vc";refine ⟨_,_,_,(oT ho),nf.1,_,_,jq,m,k,es,rfl,hm,ok,ht,fun H' nx=>?_⟩;have hm2:=hm.same nx.same;refine ⟨_,_,_,(oT (nx.at ho)),nf.2.1,_,_,jk,m,k,es,rfl,hm2,ok,_,rfl,?_⟩;have q:=q H' nx;unfold stV at q;have g:=Zgs k ok;rcases Zbh k ok.up with z | ⟨e,z1,z2,z3⟩
 . rw [z] at q
   rw [yaw (by simp [z]),if_neg (by decide)];exact q
 . rw [z1] at q g
   obtain ⟨dx2,kd,ah,sr,h1,h2,h3,h4⟩:=hm2.ex;rw [yak (by simp [z1]),if_pos rfl];walk_at "vc";refine ⟨_,_,_,(oT h1),cd.c,cd.n_stretches,.ref sr,rfl,sr,rfl,_,sL h4,.ref e.loc,Zc3 (by rw [yav,g];rfl),q⟩
end
def KeptA (c:Kd->Addr)(H:Hp)(ps:List Nat)(v:V)(a:Addr):Prop:=(ps=[]->v=.non)/\(ps≠[]->v=.ref a/\StAt c (kdOf ps) H a ps)
theorem KeptIs.at {c:Kd->Addr}{v:V}(h:KeptIs c H ps v):∃ a,KeptA c H ps v a:=by
 by_cases e:ps=[]
 . exact ⟨0,fun _=>h.1 e,fun n=>absurd e n⟩
 . obtain ⟨x,rfl,st⟩:=h.2 e
   exact ⟨x,fun z=>absurd z e,fun _=>⟨rfl,st⟩⟩
theorem KeptA.same {c:Kd->Addr}{v:V}{a:Addr}(h:KeptA c H ps v a)(s:Same H H'):KeptA c H' ps v a:=⟨h.1,fun e=>⟨(h.2 e).1,(h.2 e).2.same s⟩⟩
theorem tups_noT {vs:List V}(h:Tups H vs rs):Tups (noT H) vs rs:=Paired.mapP h fun _ _ ⟨t,e,ht⟩=>⟨t,e,Zan ht (nt _)⟩
theorem StAt.noT {c:Kd->Addr}{k:Kd}{H:Hp}{a:Addr}{ps:List Nat}(h:StAt c k H a ps):StAt c k (noT H) a ps:=by
 cases k with
 | l=>obtain ⟨dx,l,e,h⟩:=h;exact ⟨dx,l,Zan e (ni _ _ _),Zan h (nl _)⟩
 | b=>obtain ⟨dx,e⟩:=h;exact ⟨dx,Zan e (ni _ _ _)⟩
 | r =>
   obtain ⟨dx,l,e,us,h,t⟩:=h;refine ⟨dx,l,Zan e (ni _ _ _),us,Zan h (nl _),?_⟩;exact tups_noT t
theorem KeptIs.noT {c:Kd->Addr}{H:Hp}{ps:List Nat}{v:V}(h:KeptIs c H ps v):KeptIs c (noT H) ps v:=⟨h.1,fun e=>let ⟨x,a,b⟩:=h.2 e;⟨x,a,b.noT⟩⟩
theorem rep_one (ps:List Nat)(y:V):(List.replicate (if ps=[] then 0 else 1:Int).toNat [y]).flatten=if ps=[] then [] else [y]:=by
 by_cases e:ps=[]
 . rw [if_pos e,if_pos e];rfl
 . rw [if_neg e,if_neg e];rfl
theorem drop_hi {es:List Ent}(k:Nat)(h:EsOk es):es.drop ((loE k es).length+(miE k es).length)=hiE k es:=by rw [<- ycl,drop_lo k h,List.drop_left]
theorem ZhF {es:List Ent}{k:Nat}{a:Nat}(f:Ent->V){y:V}(h:EsOk es)(hy:ps≠[]->y=f ⟨k,ps,a⟩) :
   (es.map f).take (loE k es).length++(if ps=[] then [] else [y])++(es.map f).drop ((loE k es).length+(miE k es).length)=(keepE k ps a es).map f:=by
 rw [<- List.map_take,<- List.map_drop,ZeV k h,drop_hi k h];unfold keepE;rw [yaP,yaP];by_cases e:ps=[]
 . rw [if_pos e,if_pos e];rfl
 . rw [if_neg e,if_neg e,hy e];rfl
theorem ZgQ (es:List Ent):pint (kys es)=es.map fun e=>V.int (e.key:Nat):=by unfold pint kys;rw [ybl];rfl
theorem tot_mi {es:List Ent}(k:Nat)(h:EsOk es):tot es=tot (loE k es)+tot (miE k es)+tot (hiE k es):=by have:=congrArg tot (split k h.up);rw [ZaK,ZaK] at this;exact this
theorem ahs_take {es:List Ent}(k:Nat)(h:EsOk es):(pint (ahs 0 es)).take (loE k es).length=pint (ahs 0 (loE k es)):=by
 have hs:es=loE k es++(miE k es++hiE k es):=by rw [<- yah];exact split k h.up
 have:(pint (ahs 0 (loE k es++(miE k es++hiE k es)))).take (loE k es).length=pint (ahs 0 (loE k es)):=by rw [Zb5];unfold pint;rw [yaP,List.take_left' (by rw [yad,ZbF])]
 rw [<- hs] at this;exact this
theorem ahs_drop {es:List Ent}(k:Nat)(h:EsOk es):(pint (ahs 0 es)).drop ((loE k es).length+(miE k es).length)=pint (ahs (tot (loE k es)+tot (miE k es)) (hiE k es)):=by
 have hs:es=(loE k es++miE k es)++hiE k es:=split k h.up;have:(pint (ahs 0 ((loE k es++miE k es)++hiE k es))).drop ((loE k es).length+(miE k es).length)=pint (ahs (tot (loE k es)+tot (miE k es)) (hiE k es)):=by rw [Zb5];unfold pint;rw [yaP,List.drop_left' (by rw [yad,ZbF,yac]),ZaK,ybH]
 rw [<- hs] at this;exact this
theorem ahs_keep {es:List Ent}{k:Nat}{a:Nat}:ahs 0 (keepE k ps a es)=ahs 0 (loE k es)++(if ps=[] then [] else [tot (loE k es)])++ahs (tot (loE k es)+ps.length) (hiE k es):=by
 unfold keepE;rw [Zb5,Zb5,ZaK];by_cases e:ps=[]
 . rw [if_pos e,if_pos e,e]
   show ahs 0 (loE k es)++[]++ahs (0+(tot (loE k es)+0)) (hiE k es)=_;rw [ybH];rfl
 . rw [if_neg e,if_neg e]
   show ahs 0 (loE k es)++[0+tot (loE k es)]++ahs (0+(tot (loE k es)+(ps.length+0))) (hiE k es)=_;rw [ybH,ybH,ycg]
theorem tot_keep {es:List Ent}{k:Nat}{a:Nat}:tot (keepE k ps a es)=tot (loE k es)+ps.length+tot (hiE k es):=by
 unfold keepE;rw [ZaK,ZaK];by_cases e:ps=[]
 . rw [if_pos e,e];rfl
 . rw [if_neg e];rfl
theorem Zhp {es:List Ent}(k:Nat)(h:EsOk es):tot (es.take ((loE k es).length+(miE k es).length))=tot (loE k es)+tot (miE k es):=by have hs:es=(loE k es++miE k es)++hiE k es:=split k h.up;have:((loE k es++miE k es)++hiE k es).take ((loE k es).length+(miE k es).length)=loE k es++miE k es:=List.take_left' (by rw [yac]);rw [<- hs] at this;rw [this,ZaK]
section
variable {m dx l:Addr}{fs:List (Str × V)}{f:Str}{n:Nat}{v1 v2 v3 v4 v5 v6 v7:Option V}{Q:VK}
theorem cat_a {i:Nat}{y:V}(hc:Cls K C)(hna:NoAttr K C f)(ho:H m=some (.ins C dx fs))(hf:fs.lookup f=some (.ref l))(hl:H l=some (.lst xs))(lx:xs.length<=900)(hi:[some (.ref m),v1,v2,some (.int (n:Nat)),v4,v5,v6,some (.int (if ps=[] then 0 else 1))][i]?=some (some y))
   (q:∀ p H',Same H H'->H p=none->H' p=some (.lst (xs.take n++(if ps=[] then [] else [y])))->Q (.ref p) H') :
   tOp rCat (tSl (rSlL K) (tFld K (tVar 0) f) tNoPart (tPart (tVar 3))) (tOp rRep (tLst (tCons (tVar i) tNil)) (tVar 7)) [some (.ref m),v1,v2,some (.int (n:Nat)),v4,v5,v6,some (.int (if ps=[] then 0 else 1))] H Q:=by
 simp only [tOp,tSl,tFld,tVar,tNoPart,tPart,rSlL,tLst,tCons,tNil,rRep,rCat];refine ⟨_,rfl,_,_,_,_,_,rfl,ho,hc,hna,hf,_,rfl,_,rfl,_,_,rfl,SqL.of hl,fun p1 n1=>⟨y,hi,by show 1<=sizeLine;decide,fun p2 n2=>⟨_,rfl,?_⟩⟩⟩;rw [cut_take] at n2 ⊢;have s1:=Same.new (o:=.lst (xs.take n)) n1;have g1:upd H p1 (.lst (xs.take n)) p1=some (.lst (xs.take n)):=Zac;generalize upd H p1 (.lst (xs.take n))=H1 at n2 s1 g1 ⊢;have s2:=Same.new (o:=.lst [y]) n2;have g2:upd H1 p2 (.lst [y]) p2=some (.lst [y]):=Zac;have g1:=s2 _ _ g1;generalize upd H1 p2 (.lst [y])=H2 at s2 g1 g2 ⊢;refine ⟨_,_,_,rfl,rfl,g2,?_,?_,?_,fun p3 n3=>?_⟩
 . split<;>decide
 . split<;>decide
 . show 1*_<=sizeLine
   split<;>decide
 rw [rep_one];have s3:=Same.new (o:=.lst (if ps=[] then [] else [y])) n3;have g3:upd H2 p3 (.lst (if ps=[] then [] else [y])) p3=some (.lst (if ps=[] then [] else [y])):=Zac;have g1:=s3 _ _ g1;generalize upd H2 p3 (.lst (if ps=[] then [] else [y]))=H3 at s3 g1 g3 ⊢;refine ⟨_,_,_,_,rfl,rfl,g1,g3,?_,fun p4 n4=>?_⟩
 . have:(if ps=[] then [] else [y]).length<=1:=by split<;>simp
   rw [yaG];exact ybF (small1000 (by omega))
 . have S:=s1.trans (s2.trans s3)
   exact q p4 _ (S.trans (Same.new n4)) (S.free n4) Zac
theorem cat_b (hc:Cls K C)(hna:NoAttr K C f)(ho:H m=some (.ins C dx fs))(hf:fs.lookup f=some (.ref l))(hl:H l=some (.lst xs))(q:∀ p H',Same H H'->H p=none->H' p=some (.lst (xs.drop n))->Q (.ref p) H') :
   tSl (rSlL K) (tFld K (tVar 0) f) (tPart (tVar 4)) tNoPart [some (.ref m),v1,v2,v3,some (.int (n:Nat)),v5,v6,v7] H Q:=by
 simp only [tSl,tFld,tVar,tNoPart,tPart,rSlL];refine ⟨_,rfl,_,_,_,_,_,rfl,ho,hc,hna,hf,_,rfl,_,rfl,_,_,rfl,SqL.of hl,fun p1 n1=>?_⟩;rw [ZhM];exact q _ _ (Same.new n1) n1 Zac
theorem Zjb {i j:Nat}{y:V}(hc:Cls K C)(hna:NoAttr K C f)(ho:H m=some (.ins C dx fs))(hf:fs.lookup f=some (.ref l))(hl:H l=some (.lst xs))(lx:xs.length<=400)(lf:fs.length<1000)(hi:[some (.ref m),v1,v2,some (.int (n:Nat)),some (.int (j:Nat)),v5,v6,some (.int (if ps=[] then 0 else 1))][i]?=some (some y))
   (q:∀ p H',Same H H'->H p=none->H' p=some (.lst (xs.take n++(if ps=[] then [] else [y])++xs.drop j))->D.nx [some (.ref m),v1,v2,some (.int (n:Nat)),some (.int (j:Nat)),v5,v6,some (.int (if ps=[] then 0 else 1))] (upd H' m (.ins C dx (putF f (.ref p) fs)))) :
   sFld K (tVar 0) (tOp rCat (tOp rCat (tSl (rSlL K) (tFld K (tVar 0) f) tNoPart (tPart (tVar 3))) (tOp rRep (tLst (tCons (tVar i) tNil)) (tVar 7))) (tSl (rSlL K) (tFld K (tVar 0) f) (tPart (tVar 4)) tNoPart)) f D [some (.ref m),v1,v2,some (.int (n:Nat)),some (.int (j:Nat)),v5,v6,some (.int (if ps=[] then 0 else 1))] H:=by
 rw [sFld,tOp];refine cat_a hc hna ho hf hl (by omega) hi fun p1 H1 s1 n1 g1=>cat_b hc hna (s1 _ _ ho) hf (s1 _ _ hl) fun p2 H2 s2 n2 g2=>?_
 rw [rCat];refine ⟨_,_,_,_,rfl,rfl,s2 _ _ g1,g2,?_,fun p3 n3=>?_⟩
 . have:(if ps=[] then [] else [y]).length<=1:=by split<;>simp
   rw [yac,yaG,yaW];exact ybF (small1000 (by omega))
 . have S:=s1.trans s2
   have S3:=S.trans (Same.new (o:=.lst (xs.take n++(if ps=[] then [] else [y])++xs.drop j)) n3);simp only [tVar];exact ⟨_,rfl,_,_,_,_,rfl,S3 _ _ ho,hc,hna,lf,q p3 _ S3 (S.free n3) Zac⟩
end
def Four (o:HO):Prop:=∃ C dx a b d e,o=.ins C dx [("keyed",a),("aheads",b),("stretches",d),("held",e)]
theorem StAt.nb {c:Kd->Addr}{k:Kd}{m x:Addr}{o:HO}(h:StAt c k H x ps)(hm:H m=some o)(f:Four o)(s:∀ b o,b≠m->H b=some o->H' b=some o):StAt c k H' x ps:=by
 obtain ⟨C,dx0,f1,f2,f3,f4,rfl⟩:=f;cases k with
 | l =>
   obtain ⟨dx,l,e,h⟩:=h;refine ⟨dx,l,s _ _ (fun z=>?_) e,s _ _ (fun z=>?_) h⟩
   . rw [z,hm] at e;cases e
   . rw [z,hm] at h;cases h
 | b =>
   obtain ⟨dx,e⟩:=h;refine ⟨dx,s _ _ (fun z=>?_) e⟩;rw [z,hm] at e;cases e
 | r =>
   obtain ⟨dx,l,e,us,h,t⟩:=h;refine ⟨dx,l,s _ _ (fun z=>?_) e,us,s _ _ (fun z=>?_) h,Paired.mapP t fun _ _ ⟨t,e,ht⟩=>⟨t,e,s _ _ (fun z=>?_) ht⟩⟩
   . rw [z,hm] at e;cases e
   . rw [z,hm] at h;cases h
   . rw [z,hm] at ht;cases ht
theorem MkAt.four {c:Kd->Addr}{m:Addr}{es:List Ent}(h:MkAt c CM H m es):∃ o,H m=some o/\Four o:=by obtain ⟨dx,kd,ah,sr,h1,_⟩:=h.ex;exact ⟨_,h1,_,_,_,_,_,_,rfl⟩
def fAdd (m:Int):V->V
 | .int c=>.int (c+m)
 | v=>v
theorem Zjm (m:Int)(zs:List Nat):(pint zs).map (fAdd m)=zs.map fun (x:Nat)=>V.int ((x:Int)+m):=by unfold pint;rw [ybl];rfl
def spKeep (c:Kd->Addr)(CM:Addr)(ts:Tabs):Sp:=fun vs H Q _=>∃ (m:Addr) (k:Nat) (es:List Ent) (ps:List Nat) (v:V) (a:Addr),vs=[.ref m,.int k,v]/\MkAt c CM (noT H) m es/\EsOk es/\KeptA c (noT H) ps v a/\Up 0 ps/\(∀ p∈ps,p<256)/\Tbs ts H/\∀ H',Nb ts m H H'->MkAt c CM (noT H') m (keepE k ps a es)->Q .non H'
section
variable {c:Kd->Addr}{ts:Tabs}
theorem ok_keep (jq:MethAt P w K mg base CM "found" ["self","key"] 4 (spFound c CM ts))(jk:MethAt P w K mg base CM "stands" ["self","at","key"] 1 (spStands c CM))(jy:MethAt P w K mg base CM "ahead_of" ["self","at"] 1 (spAhead c CM))(hn:∀ k,MethAt P w K mg base (c k) "many" ["self"] 5 (spManyM c k))(cd:CD_Marks K mg CM):MethAt P w K mg base CM "keep" ["self","key","stretch"] 6 (spKeep c CM ts):=by
 refine MethAt.of cd.c cd.m_keep jaZ ?_ ?_;walk_at "F";have nd:=jaZ.nd;obtain ⟨m,k,es,ps,v,a,rfl,hm,ok,hv,up,lt,ht,q⟩:=h;obtain ⟨dx,fs,ho,nf⟩:=hm.obj;refine ⟨_,(Zad (Zaz (i:=3) (Zap P w K mg base 4 (pv 0) (Zaa (pv 1) Zab)))
     (Zdz (Zaz (i:=4) (Zbo (Za9 (Zap P w K mg base 1 (pv 0) (Zaa (pv 3) (Zaa (pv 1) Zab)))) (Zah Zav (pv 3) Zaf) (pv 3)))
     (Zad (Zaz (i:=5) (Zap P w K mg base 1 (pv 0) (Zaa (pv 3) Zab)))
     (Zdz (Zaz (i:=6) (Zah ZaP (Zbo (Za0 Zfe (pv 2) ZbA) Zaf (ZaG P w K mg base 5 (pv 2))) (Zah ZaP (Zap P w K mg base 1 (pv 0) (Zaa (pv 4) Zab)) (pv 5))))
     (Zdz (Zaz (i:=7) (Zbo (Za0 Zfe (pv 2) ZbA) Zaf Zaf))
     (Zdz (ZaF K (pv 0) (Zah Zev (Zah Zev (Zcc (Zb8 K) (Zam K (pv 0)) Zdu (Zcj (pv 3))) (Zah Zh6 (ZaS (Zaa (pv 1) Zab)) (pv 7))) (Zcc (Zb8 K) (Zam K (pv 0)) (Zcj (pv 4)) Zdu)))
     (Zdz (ZaF K (pv 0) (Zah Zev (Zah Zev (Zcc (Zb8 K) (Zam K (pv 0)) Zdu (Zcj (pv 3))) (Zah Zh6 (ZaS (Zaa (pv 5) Zab)) (pv 7))) (ZbQ ["each"] [6] rfl (ZaC K (Zcc (Zb8 K) (Zam K (pv 0)) (Zcj (pv 4)) Zdu)) (fun _ _ _ _ _=>Za2 (i:=0) (by show List.Nodup (["each","more"]:List Str);decide +kernel) rfl (Or.inl rfl)) (fun _ _ _ _ _=>ZdG) (fun _ _ _ _ _=>(Zah Zav (pv 0) (pv 1))) ⟨⟨_,rfl,rfl,.inl rfl⟩,trivial⟩ ZaY)))
     (Zdz (ZaF K (pv 0) (Zah Zev (Zah Zev (Zcc (Zb8 K) (Zam K (pv 0)) Zdu (Zcj (pv 3))) (Zah Zh6 (ZaS (Zaa (pv 2) Zab)) (pv 7))) (Zcc (Zb8 K) (Zam K (pv 0)) (Zcj (pv 4)) Zdu)))
     (Zag (ZaF K (pv 0) (Zah Zav (Zam K (pv 0)) (pv 6)))))))))))),?_⟩
 have ll:=len_lo (es:=es) k;have lm:(loE k es).length+(miE k es).length<=es.length:=by have:=congrArg List.length (split k ok.up);rw [yac,yac] at this;omega
 walk_at "vc";refine ⟨_,_,_,(oT ho),nf.1,_,_,jq,m,k,es,rfl,hm,ok,ht,fun H1 nx=>?_⟩;refine ⟨fun σ H2=>σ=[some (.ref m),some (.int k),some v,some (.int (loE k es).length),some (.int (((loE k es).length+(miE k es).length:Nat):Int)),none,none,none]/\H2=H1,?_,?_⟩
 . have hm2:=hm.same nx.same
   have ho:=nx.at ho;walk_at "vc";refine ⟨_,_,_,(oT ho),nf.2.1,_,_,jk,m,k,es,rfl,hm2,ok,_,rfl,?_⟩;rcases Zbh k ok.up with z | ⟨e,z1,z2,z3⟩
   . rw [yaw (by simp [z]),if_neg (by decide),z]
     exact ⟨rfl,rfl⟩
   . rw [yak (by simp [z1]),if_pos rfl,z1]
     walk_at "vc";show ((loE k es).length:Int)+1=(((loE k es).length+1:Nat):Int)
     omega
 rintro σ Ha ⟨rfl,rfl⟩;have hm:=hm.same nx.same;have hv:=hv.same nx.same;have ho:=nx.at ho;walk_at "vc";refine ⟨_,_,_,(oT ho),nf.2.2.1,_,_,jy,m,_,es,rfl,hm,ll,?_⟩;rw [ZeV k ok];refine ⟨fun σ H2=>σ=[some (.ref m),some (.int k),some v,some (.int (loE k es).length),some (.int (((loE k es).length+(miE k es).length:Nat):Int)),some (.int (tot (loE k es):Nat)),some (.int ((ps.length:Int)-(tot (miE k es):Nat))),none]/\H2=Ha,?_,?_⟩
 . walk_at "vc"
   by_cases e0:ps=[]
   . rw [if_pos (hv.1 e0)]
     refine ⟨_,_,_,(oT ho),nf.2.2.1,_,_,jy,m,_,es,rfl,hm,lm,_,rfl,?_,rfl⟩;rw [Zhp k ok,e0];show 0-(((tot (loE k es)+tot (miE k es):Nat):Int)-_)=((0:Nat):Int)-_;omega
   . obtain ⟨rfl,st⟩:=hv.2 e0
     obtain ⟨dx2,fs2,ho2,nf2⟩:=(st.same noT_sub).obj;rw [if_neg (by intro z;cases z)];refine ⟨_,rfl,_,_,_,ho2,nf2.2.2.2.2.2.1,_,_,hn _,a,ps,rfl,st.same noT_sub,up,lt,?_⟩;refine ⟨_,_,_,(oT ho),nf.2.2.1,_,_,jy,m,_,es,rfl,hm,lm,_,rfl,_,rfl,?_,rfl⟩;rw [Zhp k ok];omega
 rintro σ Hb ⟨rfl,rfl⟩;refine ⟨fun σ H2=>σ=[some (.ref m),some (.int k),some v,some (.int (loE k es).length),some (.int (((loE k es).length+(miE k es).length:Nat):Int)),some (.int (tot (loE k es):Nat)),some (.int ((ps.length:Int)-(tot (miE k es):Nat))),some (.int (if ps=[] then 0 else 1))]/\H2=Hb,?_,?_⟩
 . walk_at "vc"
   by_cases e0:ps=[]
   . rw [if_pos (hv.1 e0),if_pos e0]
   . rw [if_neg (by rw [(hv.2 e0).1];intro z;cases z),if_neg e0]
 rintro σ Hc ⟨rfl,rfl⟩;obtain ⟨dx2,kd,ah,sr,h1,h2,h3,h4⟩:=hm.ex;have les:=Zdh ok;have ln:=ZhF (es:=es) (k:=k) (ps:=ps) (a:=a) (fun e=>V.ref e.loc) (y:=v) ok fun e=>(hv.2 e).1
 have lk:=ZhF (es:=es) (k:=k) (ps:=ps) (a:=a) (fun e=>V.int (e.key:Nat)) (y:=V.int k) ok fun _=>rfl
 refine ⟨fun σ H2=>σ=[some (.ref m),some (.int k),some v,some (.int (loE k es).length),some (.int (((loE k es).length+(miE k es).length:Nat):Int)),some (.int (tot (loE k es):Nat)),some (.int ((ps.length:Int)-(tot (miE k es):Nat))),some (.int (if ps=[] then 0 else 1))]/\Nb ts m Hc H2 /\
   ∃ kd',H2 m=some (.ins CM dx2 [("keyed",.ref kd'),("aheads",.ref ah),("stretches",.ref sr),("held",.int (tot es:Nat))])/\noT H2 kd'=some (.lst (pint (kys (keepE k ps a es)))),?_,?_⟩
 . refine Zjb cd.c cd.n_keyed (oT h1) rfl (oT h2) (by rw [Zal];unfold kys;rw [yad];omega) (by show 4<1000;decide) rfl fun p H' sm np hp=>⟨rfl,((nx.tb.nx sm).nb (m:=m)).put (sm _ _ (oT h1)) trivial,p,Zac,?_⟩
   have:p≠m:=fun z=>by rw [z,(oT h1)] at np;cases np
   refine Zan ?_ (nl _);rw [Zai this,hp,ZgQ,ZgQ,lk]
 rintro σ H5 ⟨rfl,nb5,kd5,h51,h52⟩;have kdm:kd5≠m:=fun z=>by have:=(oT h52);rw [z,h51] at this;cases this
 have ahm:ah≠m:=fun z=>by rw [z,h1] at h3;cases h3
 have srm:sr≠m:=fun z=>by rw [z,h1] at h4;cases h4
 have h53:=nb5.same _ _ ahm h3;have h54:=nb5.same _ _ srm h4;refine ⟨fun σ H2=>σ=[some (.ref m),some (.int k),some v,some (.int (loE k es).length),some (.int (((loE k es).length+(miE k es).length:Nat):Int)),some (.int (tot (loE k es):Nat)),some (.int ((ps.length:Int)-(tot (miE k es):Nat))),some (.int (if ps=[] then 0 else 1))]/\Nb ts m H5 H2 /\
   ∃ ah',H2 m=some (.ins CM dx2 [("keyed",.ref kd5),("aheads",.ref ah'),("stretches",.ref sr),("held",.int (tot es:Nat))])/\noT H2 ah'=some (.lst (pint (ahs 0 (keepE k ps a es)))),?_,?_⟩
 . rw [sFld,tOp]
   refine cat_a cd.c cd.n_aheads h51 rfl (oT h53) (by rw [Zal,ZbF];omega) rfl fun p1 H6 s1 n1 g1=>?_
   walk_at "vc";refine ⟨_,_,_,s1 _ _ h51,cd.c,cd.n_aheads,.ref ah,rfl,ah,rfl,_,SqL.of (s1 _ _ (oT h53)),fun p2 n2=>?_⟩;rw [ZhM,ahs_drop k ok];have s2:=Same.new (o:=.lst (pint (ahs (tot (loE k es)+tot (miE k es)) (hiE k es)))) n2;have g2:upd H6 p2 (.lst (pint (ahs (tot (loE k es)+tot (miE k es)) (hiE k es)))) p2=some (.lst (pint (ahs (tot (loE k es)+tot (miE k es)) (hiE k es)))):=Zac;generalize upd H6 p2 (.lst (pint (ahs (tot (loE k es)+tot (miE k es)) (hiE k es))))=H7 at s2 g2 ⊢;have lh:(hiE k es).length<=es.length:=ybp _ _;refine ⟨⟨_,SqL.of g2⟩,compL (fun _=>true) (fAdd ((ps.length:Int)-(tot (miE k es):Nat))) (SqL.of g2) (by rw [Zal,ZbF];omega) (fun x H R hx s h=>?_) (fun x H R hx _ s h=>?_) (fun b1 n3=>?_)⟩
   . walk_at "vc"
     exact h
   . obtain ⟨z,hz,rfl⟩:=Zbl hx
     walk_at "vc";exact h
   rw [ybU.mpr (fun _ _=>rfl),Zjm];have s3:=Same.new (o:=.lst ((ahs (tot (loE k es)+tot (miE k es)) (hiE k es)).map fun (x:Nat)=>V.int ((x:Int)+((ps.length:Int)-(tot (miE k es):Nat))))) n3;have g3:upd H7 b1 (.lst ((ahs (tot (loE k es)+tot (miE k es)) (hiE k es)).map fun (x:Nat)=>V.int ((x:Int)+((ps.length:Int)-(tot (miE k es):Nat))))) b1=some (.lst (pint (ahs (tot (loE k es)+ps.length) (hiE k es)))):=by have e:=congrArg (List.map V.int) (ZfX ((ps.length:Int)-(tot (miE k es):Nat)) (tot (loE k es)+tot (miE k es)) (tot (loE k es)+ps.length) (hiE k es) (by omega));rw [ybl,ybl] at e;rw [Zac];exact congrArg (fun z=>some (HO.lst z)) e
   generalize upd H7 b1 (.lst ((ahs (tot (loE k es)+tot (miE k es)) (hiE k es)).map fun (x:Nat)=>V.int ((x:Int)+((ps.length:Int)-(tot (miE k es):Nat)))))=H8 at s3 g3 ⊢;have g1:=s3 _ _ (s2 _ _ g1);refine ⟨b1,rfl,_,g1,_,g3,?_,fun p4 n4=>?_⟩
   . have:(if ps=[] then [] else [V.int (tot (loE k es):Nat)]).length<=1:=by split<;>simp
     rw [yac,yaG,Zal,Zal,ZbF,ZbF];exact ybF (small1000 (by omega))
   have el:(pint (ahs 0 es)).take (loE k es).length++(if ps=[] then [] else [V.int (tot (loE k es):Nat)])++pint (ahs (tot (loE k es)+ps.length) (hiE k es))=pint (ahs 0 (keepE k ps a es)):=by
     rw [ahs_take k ok,ahs_keep];unfold pint;rw [yaP,yaP];by_cases e:ps=[]
     . rw [if_pos e,if_pos e];rfl
     . rw [if_neg e,if_neg e];rfl
   rw [el];have S:=s1.trans (s2.trans s3);have S4:=S.trans (Same.new (o:=.lst (pint (ahs 0 (keepE k ps a es)))) n4);refine ⟨_,_,_,S4 _ _ h51,cd.c,cd.n_aheads,by show 4<1000;decide,((nb5.tb.nx S4).nb (m:=m)).put (S4 _ _ h51) trivial,p4,Zac,?_⟩;have pm:p4≠m:=fun z=>by rw [z,S _ _ h51] at n4;cases n4
   refine Zan ?_ (nl _);rw [Zai pm,Zac]
 rintro σ H6 ⟨rfl,nb6,ah6,h61,h62⟩;have h64:=nb6.same _ _ srm h54;have h63:=nb6.same _ _ kdm h52;refine ⟨fun σ H2=>σ=[some (.ref m),some (.int k),some v,some (.int (loE k es).length),some (.int (((loE k es).length+(miE k es).length:Nat):Int)),some (.int (tot (loE k es):Nat)),some (.int ((ps.length:Int)-(tot (miE k es):Nat))),some (.int (if ps=[] then 0 else 1))]/\Nb ts m H6 H2 /\
   ∃ sr',H2 m=some (.ins CM dx2 [("keyed",.ref kd5),("aheads",.ref ah6),("stretches",.ref sr'),("held",.int (tot es:Nat))])/\noT H2 sr'=some (.lst ((keepE k ps a es).map fun e=>V.ref e.loc)),?_,?_⟩
 . refine Zjb cd.c cd.n_stretches h61 rfl (oT h64) (by rw [yad];omega) (by show 4<1000;decide) rfl fun p H' sm np hp=>⟨rfl,((nb6.tb.nx sm).nb (m:=m)).put (sm _ _ h61) trivial,p,Zac,?_⟩
   have:p≠m:=fun z=>by rw [z,h61] at np;cases np
   refine Zan ?_ (nl _);rw [Zai this,hp,ln]
 rintro σ H7 ⟨rfl,nb7,sr7,h71,h72⟩;have ahm6:ah6≠m:=fun z=>by have:=(oT h62);rw [z,h61] at this;cases this
 have h73:=nb7.same _ _ kdm h63;have h74:=nb7.same _ _ ahm6 h62;walk_at "vc";refine ⟨_,_,_,h71,cd.c,cd.n_held,_,rfl,_,rfl,_,_,_,h71,cd.c,cd.n_held,by show 4<1000;decide,?_⟩;have nbA:Nb ts m Hc H7:=(nb5.trans nb6).trans nb7;have sr7m:sr7≠m:=fun z=>by have:=(oT h72);rw [z,h71] at this;cases this
 refine q _ ((nx.nb.trans nbA).put h71 trivial) ⟨⟨dx2,kd5,ah6,sr7,Zan ?_ (ni _ _ _),Zan ?_ (nl _),Zan ?_ (nl _),Zan ?_ (nl _)⟩,fun e he=>?_⟩
 . rw [Zac]
   have:((tot es:Nat):Int)+((ps.length:Int)-(tot (miE k es):Nat))=(tot (keepE k ps a es):Nat):=by rw [tot_keep];have:=tot_mi k ok;omega
   rw [this];rfl
 . rw [Zai kdm];exact (oT h73)
 . rw [Zai ahm6];exact (oT h74)
 . rw [Zai sr7m];exact (oT h72)
 . have fr:=(nbA.put (o':=.ins CM dx2 (putF (Str.ofString "held") (V.int (((tot es:Nat):Int)+((ps.length:Int)-(tot (miE k es):Nat)))) [("keyed",.ref kd5),("aheads",.ref ah6),("stretches",.ref sr7),("held",.int (tot es:Nat))])) h71 trivial).same
   rcases Zda he with ⟨z,_⟩ | ⟨z,rfl⟩
   . exact (hm.st e z).nb h1 ⟨_,_,_,_,_,_,rfl⟩ fr
   . exact (hv.2 z).2.nb h1 ⟨_,_,_,_,_,_,rfl⟩ fr
end
theorem ZbD {es:List Ent}{k:Nat}(z:miE k es=[]):stV k es=.non/\plcE k es=[]:=by unfold stV plcE;rw [z];exact ⟨rfl,rfl⟩
theorem Zbf {es:List Ent}{k:Nat}{e:Ent}(z:miE k es=[e]):stV k es=.ref e.loc/\plcE k es=e.ps:=by unfold stV plcE;rw [z];exact ⟨rfl,rfl⟩
theorem Zg1 {p y:Nat}(hl:∀ q∈ps,q<256)(hp:p<256):y∈gAdd ps p↔y∈ps\/y=p:=by
 unfold gAdd gJoin;rw [yau,ybR];simp only [Bool.or_eq_true,yaz,yaa];constructor
 . exact fun h=>h.2
 . intro h
   refine ⟨?_,h⟩;rcases h with h | h
   . exact hl y h
   . omega
theorem mem_gRem {p y:Nat}:y∈gRem ps p↔y∈ps/\y≠p:=by unfold gRem gLess;rw [yau];simp
theorem put_mem {n a:Nat}{es:List Ent}(ok:EsOk es)(ok2:EsOk (keepE (n/256) ps a es))(h:∀ y,y∈ps↔y∈plcE (n/256) es\/y=n%256)(x:Nat):x∈flat (keepE (n/256) ps a es)↔x∈flat es\/x=n:=by
 rw [ZaL ok2,ZaL ok,Zfp];by_cases c:x/256=n/256
 . rw [if_pos c,h,c]
   constructor
   . rintro (z | z)
     . exact .inl z
     . exact .inr (by omega)
   . rintro (z | z)
     . exact .inl z
     . exact .inr (by omega)
 . rw [if_neg c]
   constructor
   . exact .inl
   . rintro (z | z)
     . exact z
     . exact absurd (by rw [z]) c
theorem take_mem {n a:Nat}{es:List Ent}(ok:EsOk es)(ok2:EsOk (keepE (n/256) ps a es))(h:∀ y,y∈ps↔y∈plcE (n/256) es/\y≠n%256)(x:Nat):x∈flat (keepE (n/256) ps a es)↔x∈flat es/\x≠n:=by
 rw [ZaL ok2,ZaL ok,Zfp];by_cases c:x/256=n/256
 . rw [if_pos c,h,c]
   exact ⟨fun z=>⟨z.1,by omega⟩,fun z=>⟨z.1,by omega⟩⟩
 . rw [if_neg c]
   exact ⟨fun z=>⟨z,fun y=>c (by rw [y])⟩,fun z=>z.1⟩
def spInitM (c:Kd->Addr)(CM:Addr)(ts:Tabs):Sp:=fun vs H Q _=>∃ x dx:Addr,vs=[.ref x]/\H x=some (.ins CM dx [])/\Tbs ts H/\∀ H',Nb ts x H H'->MkAt c CM (noT H') x []->Q .non H'
def spHas (c:Kd->Addr)(CM:Addr)(ts:Tabs):Sp:=fun vs H Q _=>∃ (m:Addr) (n:Nat) (es:List Ent),vs=[.ref m,.int n]/\n<=65535/\MkAt c CM (noT H) m es/\EsOk es/\Tbs ts H/\∀ H',Nx ts H H'->Q (.bl (decide (n∈flat es))) H'
def spPutM (c:Kd->Addr)(CM:Addr)(ts:Tabs):Sp:=fun vs H Q _=>∃ (m:Addr) (n:Nat) (es:List Ent),vs=[.ref m,.int n]/\n<=65535/\MkAt c CM (noT H) m es/\EsOk es/\Tbs ts H/\∀ H' es',Nb ts m H H'->MkAt c CM (noT H') m es'->EsOk es'->(∀ x,x∈flat es'↔x∈flat es\/x=n)->Q (.bl (!decide (n∈flat es))) H'
def spTakeM (c:Kd->Addr)(CM:Addr)(ts:Tabs):Sp:=fun vs H Q _=>∃ (m:Addr) (n:Nat) (es:List Ent),vs=[.ref m,.int n]/\n<=65535/\MkAt c CM (noT H) m es/\EsOk es/\Tbs ts H/\∀ H' es',Nb ts m H H'->MkAt c CM (noT H') m es'->EsOk es'->(∀ x,x∈flat es'↔x∈flat es/\x≠n)->Q (.bl (decide (n∈flat es))) H'
def spBel (c:Kd->Addr)(CM:Addr)(ts:Tabs):Sp:=fun vs H Q _=>∃ (m:Addr) (n:Nat) (es:List Ent),vs=[.ref m,.int n]/\n<=65535/\MkAt c CM (noT H) m es/\EsOk es/\Tbs ts H/\∀ H',Nx ts H H'->Q (.int (belE n es:Nat)) H'
section
variable {c:Kd->Addr}{ts:Tabs}
theorem ok_initM (cd:CD_Marks K mg CM):MakeAt P w K mg base "Marks" CM ["self"] 1 (spInitM c CM ts):=by
 refine MakeAt.of cd.at_ cd.init jm ?_ ?_;walk_at "F";have nd:=jm.nd;obtain ⟨x,dx,rfl,hx,ht,q⟩:=h;refine ⟨_,(Zad (ZaF K (pv 0) (ZaS Zab))
     (Zad (ZaF K (pv 0) (ZaS Zab))
     (Zad (ZaF K (pv 0) (ZaS Zab))
     (Zag (ZaF K (pv 0) Zaf))))),?_⟩
 walk_at "vc";refine ⟨yax _,fun p1 n1=>?_⟩;have s1:Same H (upd H p1 (.lst [])):=Same.new n1;have g1:upd H p1 (.lst []) p1=some (.lst []):=Zac;generalize upd H p1 (.lst [])=H1 at s1 g1 ⊢;have hx:=s1 _ _ hx;have px1:p1≠x:=fun z=>by rw [z,hx] at g1;cases g1
 refine ⟨_,_,_,hx,cd.c,cd.n_keyed,by show 0<1000;decide,yax _,?_⟩;have b1:Nb ts x H (upd H1 x (.ins CM dx [("keyed",.ref p1)])):=((ht.nx s1).nb).put hx trivial;rw [show putF (Str.ofString "keyed") (V.ref p1) []=[(Str.ofString "keyed",V.ref p1)] from rfl];have hx:upd H1 x (.ins CM dx [("keyed",.ref p1)]) x=some (.ins CM dx [("keyed",.ref p1)]):=Zac;have g1:upd H1 x (.ins CM dx [("keyed",.ref p1)]) p1=some (.lst []):=by rw [Zai px1];exact g1
 intro p2 n2;generalize upd H1 x (.ins CM dx [("keyed",.ref p1)])=H2 at b1 hx g1 n2 ⊢;have s2:Same H2 (upd H2 p2 (.lst [])):=Same.new n2;have g2:upd H2 p2 (.lst []) p2=some (.lst []):=Zac;generalize upd H2 p2 (.lst [])=H3 at s2 g2 ⊢;have hx:=s2 _ _ hx;have g1:=s2 _ _ g1;have px2:p2≠x:=fun z=>by rw [z,hx] at g2;cases g2
 refine ⟨_,_,_,hx,cd.c,cd.n_aheads,by show 1<1000;decide,yax _,?_⟩;have b2:Nb ts x H (upd H3 x (.ins CM dx [("keyed",.ref p1),("aheads",.ref p2)])):=(b1.trans (b1.tb.nx s2).nb).put hx trivial;rw [show putF (Str.ofString "aheads") (V.ref p2) [(Str.ofString "keyed",V.ref p1)]=[(Str.ofString "keyed",V.ref p1),(Str.ofString "aheads",V.ref p2)] from rfl];have hx:upd H3 x (.ins CM dx [("keyed",.ref p1),("aheads",.ref p2)]) x=some (.ins CM dx [("keyed",.ref p1),("aheads",.ref p2)]):=Zac;have g1:upd H3 x (.ins CM dx [("keyed",.ref p1),("aheads",.ref p2)]) p1=some (.lst []):=by rw [Zai px1];exact g1
 have g2:upd H3 x (.ins CM dx [("keyed",.ref p1),("aheads",.ref p2)]) p2=some (.lst []):=by rw [Zai px2];exact g2
 intro p3 n3;generalize upd H3 x (.ins CM dx [("keyed",.ref p1),("aheads",.ref p2)])=H4 at b2 hx g1 g2 n3 ⊢;have s3:Same H4 (upd H4 p3 (.lst [])):=Same.new n3;have g3:upd H4 p3 (.lst []) p3=some (.lst []):=Zac;generalize upd H4 p3 (.lst [])=H5 at s3 g3 ⊢;have hx:=s3 _ _ hx;have g1:=s3 _ _ g1;have g2:=s3 _ _ g2;have px3:p3≠x:=fun z=>by rw [z,hx] at g3;cases g3
 refine ⟨_,_,_,hx,cd.c,cd.n_stretches,by show 2<1000;decide,_,_,_,Zac,cd.c,cd.n_held,by show 3<1000;decide,?_⟩;have b3:=(b2.trans (b2.tb.nx s3).nb).put (o':=.ins CM dx [("keyed",.ref p1),("aheads",.ref p2),("stretches",.ref p3)]) hx trivial;refine q _ (b3.put Zac trivial) ⟨⟨dx,p1,p2,p3,Zan Zac (ni _ _ _),Zan ?_ (nl _),Zan ?_ (nl _),Zan ?_ (nl _)⟩,fun e he=>nomatch he⟩
 . rw [Zai px1,Zai px1];exact g1
 . rw [Zai px2,Zai px2];exact g2
 . rw [Zai px3,Zai px3];exact g3
theorem ok_hasM (cP:∃ t,mg "PLACES"=some (.int 256 t))(jg:FnAt P w K mg base "check_number" ["thing"] 2 spChk)(jj:MethAt P w K mg base CM "stretch_at" ["self","key"] 5 (spStAt c CM ts))(hh:∀ k,MethAt P w K mg base (c k) "has" ["self","place"] 5 (spHasM c k))(cd:CD_Marks K mg CM):MethAt P w K mg base CM "has" ["self","n"] 6 (spHas c CM ts):=by
 obtain ⟨tP,ja⟩:=cP;refine MethAt.of cd.c cd.m_has jbl ?_ ?_;walk_at "F";have nd:=jbl.nd;obtain ⟨m,n,es,rfl,hn,hm,ok,ht,q⟩:=h;obtain ⟨dx,fs,ho,nf⟩:=hm.obj;refine ⟨_,(Zad (Zax (Zaj jg (Zaa (pv 1) Zab)))
     (Zad (Zaz (i:=2) (Zap P w K mg base 5 (pv 0) (Zaa (Zah Zas (pv 1) (ZaJ ja)) Zab)))
     (Zag (Zak (ZdM (pe_c ZiZ (pv 2) ZbA) (ZdL (Zap P w K mg base 5 (pv 2) (Zaa (Zah Zar (pv 1) (ZaJ ja)) Zab)))))))),?_⟩
 have e1:(n:Int)/256=((n/256:Nat):Int):=by omega
 have e2:(n:Int)%256=((n%256:Nat):Int):=by omega
 walk_at "vc";rw [e1,e2];refine ⟨n,rfl,hn,_,_,_,(oT ho),nf.2.2.2.1,_,_,jj,m,n/256,es,rfl,hm,ok,ht,fun H' nx=>?_⟩;have q:=q H' nx;have hm:=hm.same nx.same;rcases Zbh (n/256) ok.up with z | ⟨e,z1,z2,z3⟩
 . rw [(ZbD z).1]
   rw [yaw (by rw [ZaL ok,(ZbD z).2];intro y;cases y)] at q;show if V.non=V.non then _ else _
   rw [if_pos rfl];exact q
 . rw [(Zbf z1).1]
   have st:=(hm.st e z3).same noT_sub;obtain ⟨dx2,fs2,ho2,nf2⟩:=st.obj;show if V.ref e.loc=V.non then _ else _
   rw [if_neg (by intro y;cases y)];refine ⟨_,rfl,_,_,_,ho2,nf2.2.2.2.2.2.2.1,_,_,hh _,e.loc,e.ps,n%256,rfl,st,ok.pup e z3,ok.plt e z3,?_⟩;rw [yaS.mpr (show n%256∈e.ps↔n∈flat es by rw [ZaL ok,(Zbf z1).2])];exact q
theorem ok_putM (cP:∃ t,mg "PLACES"=some (.int 256 t))(jA:MethAt P w K mg base CM "has" ["self","n"] 6 (spHas c CM ts))(jj:MethAt P w K mg base CM "stretch_at" ["self","key"] 5 (spStAt c CM ts))(jat:MethAt P w K mg base CM "keep" ["self","key","stretch"] 6 (spKeep c CM ts))(jo:FnAt P w K mg base "kept" ["word"] 4 (spKept c))(jb6:FnAt P w K mg base "added" ["stretch","place"] 5 (spPut c gAdd))(cd:CD_Marks K mg CM):MethAt P w K mg base CM "put" ["self","n"] 7 (spPutM c CM ts):=by
 obtain ⟨tP,ja⟩:=cP;refine MethAt.of cd.c cd.m_put jbk ?_ ?_;walk_at "F";have nd:=jbk.nd;obtain ⟨m,n,es,rfl,hn,hm,ok,ht,q⟩:=h;obtain ⟨dx,fs,ho,nf⟩:=hm.obj;refine ⟨_,(Zad (ZaD (Za9 (Zap P w K mg base 6 (pv 0) (Zaa (pv 1) Zab))) (Zag (Zak Zdq)) Zau)
     (Zad (Zaz (i:=2) (Zap P w K mg base 5 (pv 0) (Zaa (Zah Zas (pv 1) (ZaJ ja)) Zab)))
     (Zad (Zaz (i:=3) (Zah Zar (pv 1) (ZaJ ja)))
     (Zad (Zax (Zap P w K mg base 6 (pv 0) (Zaa (Zah Zas (pv 1) (ZaJ ja)) (Zaa (Zbo (Za0 Zfe (pv 2) ZbA) (Zaj jo (Zaa (Zah Zbe Zaf (pv 3)) Zab)) (Zaj jb6 (Zaa (pv 2) (Zaa (pv 3) Zab)))) Zab))))
     (Zag (Zak Zdq)))))),?_⟩
 have e1:(n:Int)/256=((n/256:Nat):Int):=by omega
 have e2:(n:Int)%256=((n%256:Nat):Int):=by omega
 walk_at "vc";rw [e1,e2];refine ⟨_,_,_,(oT ho),nf.2.2.2.2.2.1,_,_,jA,m,n,es,rfl,hn,hm,ok,ht,fun H1 nx=>⟨_,rfl,?_⟩⟩;have hm1:=hm.same nx.same;have p0:n%256<256:=ycc _ (by decide);have k0:n/256<256:=by omega
 by_cases hin:n∈flat es
 . rw [if_pos (yak hin)]
   have q:=q H1 es nx.nb hm1 ok fun x=>⟨.inl,fun z=>z.elim id fun z=>by rw [z];exact hin⟩
   rw [yak hin] at q;exact q
 rw [if_neg (by rw [yaz];exact hin)];rw [yaw hin] at q;have ho:=nx.at ho;refine ⟨_,_,_,(oT ho),nf.2.2.2.1,_,_,jj,m,n/256,es,rfl,hm1,ok,nx.tb,fun H2 nx2=>?_⟩;have hm2:=hm1.same nx2.same;have ho:=nx2.at ho;refine ⟨_,_,_,(oT ho),nf.2.2.2.2.1,_,_,jat,?_⟩;have fin:∀ (ps:List Nat) (v:V) (H3:Hp),Up 0 ps->(∀ p∈ps,p<256)->(∀ y,y∈ps↔y∈plcE (n/256) es\/y=n%256)->Same H2 H3->KeptIs c H3 ps v->spKeep c CM ts [.ref m,.int ((n/256:Nat):Int),v] H3 (fun x H1=>Q (V.bl true) H1) E0:=by
   intro ps v H3 up lt me s3 kp;obtain ⟨a,ka⟩:=kp.noT.at
   have nx3:=nx2.tb.nx s3;have ok2:EsOk (keepE (n/256) ps a es):=ok.keep k0 up lt;exact ⟨m,n/256,es,ps,v,a,rfl,hm2.same nx3.same,ok,ka,up,lt,nx3.tb,fun H4 nb hm4=>q H4 _ (((nx.trans nx2).trans nx3).nb.trans nb) hm4 ok2 (put_mem ok ok2 me)⟩
 rcases Zbh (n/256) ok.up with z | ⟨e,z1,z2,z3⟩
 . rw [(ZbD z).1,if_pos rfl]
   refine ⟨⟨by omega,by omega,by decide⟩,[n%256],by rw [ZeS],Zer _,ZgL p0,fun v H3 s3 kp=>fin _ v H3 (Zer _) (ZgL p0) (fun y=>?_) s3 kp⟩;rw [(ZbD z).2];simp
 . rw [(Zbf z1).1,if_neg (by intro y;cases y)]
   refine ⟨e.loc,kdOf e.ps,e.ps,n%256,rfl,(hm2.st e z3).same noT_sub,ok.pup e z3,ok.plt e z3,p0,fun v H3 s3 kp=>fin _ v H3 (ZbZ _ _) (Zh1 (f:=fun x=>decide (x∈e.ps)||decide (x∈[n%256]))) (fun y=>?_) s3 kp⟩;rw [(Zbf z1).2];exact Zg1 (ok.plt e z3) p0
theorem ok_takeM (cP:∃ t,mg "PLACES"=some (.int 256 t))(jA:MethAt P w K mg base CM "has" ["self","n"] 6 (spHas c CM ts))(jj:MethAt P w K mg base CM "stretch_at" ["self","key"] 5 (spStAt c CM ts))(jat:MethAt P w K mg base CM "keep" ["self","key","stretch"] 6 (spKeep c CM ts))(jbp:FnAt P w K mg base "removed" ["stretch","place"] 5 (spPut c gRem))(cd:CD_Marks K mg CM):MethAt P w K mg base CM "take" ["self","n"] 7 (spTakeM c CM ts):=by
 obtain ⟨tP,ja⟩:=cP;refine MethAt.of cd.c cd.m_take jaV ?_ ?_;walk_at "F";have nd:=jaV.nd;obtain ⟨m,n,es,rfl,hn,hm,ok,ht,q⟩:=h;obtain ⟨dx,fs,ho,nf⟩:=hm.obj;refine ⟨_,(Zad (ZaD (Zcy (Za9 (Zap P w K mg base 6 (pv 0) (Zaa (pv 1) Zab)))) (Zag (Zak Zdq)) Zau)
     (Zad (Zax (Zap P w K mg base 6 (pv 0) (Zaa (Zah Zas (pv 1) (ZaJ ja)) (Zaa (Zaj jbp (Zaa (Zap P w K mg base 5 (pv 0) (Zaa (Zah Zas (pv 1) (ZaJ ja)) Zab)) (Zaa (Zah Zar (pv 1) (ZaJ ja)) Zab))) Zab))))
     (Zag (Zak Zdq)))),?_⟩
 have e1:(n:Int)/256=((n/256:Nat):Int):=by omega
 have e2:(n:Int)%256=((n%256:Nat):Int):=by omega
 walk_at "vc";rw [e1,e2];refine ⟨_,_,_,(oT ho),nf.2.2.2.2.2.1,_,_,jA,m,n,es,rfl,hn,hm,ok,ht,fun H1 nx=>⟨_,rfl,?_⟩⟩;have hm1:=hm.same nx.same;have p0:n%256<256:=ycc _ (by decide);have k0:n/256<256:=by omega
 by_cases hin:n∈flat es
 . rw [if_neg (by rw [yak hin];decide)]
   rw [yak hin] at q;have ho:=nx.at ho;refine ⟨_,_,_,(oT ho),nf.2.2.2.2.1,_,_,jat,_,_,_,(oT ho),nf.2.2.2.1,_,_,jj,m,n/256,es,rfl,hm1,ok,nx.tb,fun H2 nx2=>?_⟩;have hm2:=hm1.same nx2.same;rcases Zbh (n/256) ok.up with z | ⟨e,z1,z2,z3⟩
   . rw [ZaL ok,(ZbD z).2] at hin
     cases hin
   . rw [(Zbf z1).1]
     refine ⟨e.loc,kdOf e.ps,e.ps,n%256,rfl,(hm2.st e z3).same noT_sub,ok.pup e z3,ok.plt e z3,p0,fun v H3 s3 kp=>?_⟩;obtain ⟨a,ka⟩:=kp.noT.at
     have nx3:=nx2.tb.nx s3;have up:Up 0 (gRem e.ps (n%256)):=(ok.pup e z3).filter;have lt:∀ p∈gRem e.ps (n%256),p<256:=fun p hp=>ok.plt e z3 p (mem_gRem.mp hp).1
     have ok2:EsOk (keepE (n/256) (gRem e.ps (n%256)) a es):=ok.keep k0 up lt;exact ⟨m,n/256,es,_,v,a,rfl,hm2.same nx3.same,ok,ka,up,lt,nx3.tb,fun H4 nb hm4=>q H4 _ (((nx.trans nx2).trans nx3).nb.trans nb) hm4 ok2 (take_mem ok ok2 fun y=>by rw [(Zbf z1).2];exact mem_gRem)⟩
 . rw [if_pos (yaw hin)]
   have q:=q H1 es nx.nb hm1 ok fun x=>⟨fun z=>⟨z,fun y=>hin (by rw [<- y];exact z)⟩,fun z=>z.1⟩
   rw [yaw hin] at q;exact q
theorem ZjJ (cP:∃ t,mg "PLACES"=some (.int 256 t))(jg:FnAt P w K mg base "check_number" ["thing"] 2 spChk)(jq:MethAt P w K mg base CM "found" ["self","key"] 4 (spFound c CM ts))(jk:MethAt P w K mg base CM "stands" ["self","at","key"] 1 (spStands c CM))(jy:MethAt P w K mg base CM "ahead_of" ["self","at"] 1 (spAhead c CM))(hb:∀ k,MethAt P w K mg base (c k) "below" ["self","place"] 5 (spBelowM c k))(cd:CD_Marks K mg CM):MethAt P w K mg base CM "below" ["self","n"] 6 (spBel c CM ts):=by
 obtain ⟨tP,ja⟩:=cP;refine MethAt.of cd.c cd.m_below jaG ?_ ?_;walk_at "F";have nd:=jaG.nd;obtain ⟨m,n,es,rfl,hn,hm,ok,ht,q⟩:=h;obtain ⟨dx,fs,ho,nf⟩:=hm.obj;refine ⟨_,(Zad (Zax (Zaj jg (Zaa (pv 1) Zab)))
     (Zad (Zaz (i:=2) (Zap P w K mg base 4 (pv 0) (Zaa (Zah Zas (pv 1) (ZaJ ja)) Zab)))
     (Zad (ZaD (Za9 (Zap P w K mg base 1 (pv 0) (Zaa (pv 2) (Zaa (Zah Zas (pv 1) (ZaJ ja)) Zab)))) (Zag (Zak (Zah Zav (Zc0 (ZaE K) (Zam K (pv 0)) (pv 2)) (Zap P w K mg base 5 (Zc0 (ZaE K) (Zam K (pv 0)) (pv 2)) (Zaa (Zah Zar (pv 1) (ZaJ ja)) Zab))))) Zau)
     (Zag (Zak (Zap P w K mg base 1 (pv 0) (Zaa (pv 2) Zab))))))),?_⟩
 have e1:(n:Int)/256=((n/256:Nat):Int):=by omega
 have e2:(n:Int)%256=((n%256:Nat):Int):=by omega
 walk_at "vc";rw [e1,e2];refine ⟨n,rfl,hn,_,_,_,(oT ho),nf.1,_,_,jq,m,n/256,es,rfl,hm,ok,ht,fun H1 nx=>?_⟩;have hm:=hm.same nx.same;have ho:=nx.at ho;have q:=q H1 nx;refine ⟨_,_,_,(oT ho),nf.2.1,_,_,jk,m,n/256,es,rfl,hm,ok,_,rfl,?_⟩;rcases Zbh (n/256) ok.up with z | ⟨e,z1,z2,z3⟩
 . rw [yaw (by simp [z]),if_neg (by decide)]
   refine ⟨_,_,_,(oT ho),nf.2.2.1,_,_,jy,m,_,es,rfl,hm,len_lo _,?_⟩;unfold belE at q;rw [(ZbD z).2] at q;rw [ZeV _ ok];exact q
 . rw [yak (by simp [z1]),if_pos rfl]
   have g:=Zgs (n/256) ok;rw [z1] at g;have lt:(loE (n/256) es).length<es.length:=(yaQ.mp g).1;have ga:=Ze2 0 es _ lt;rw [ZeV _ ok,ybH] at ga;obtain ⟨dx2,kd,ah,sr,h1,h2,h3,h4⟩:=hm.ex;have st:=(hm.st e z3).same noT_sub;obtain ⟨dx3,fs3,ho3,nf3⟩:=st.obj;walk_at "vc";refine ⟨_,_,_,(oT h1),cd.c,cd.n_aheads,.ref ah,rfl,ah,rfl,_,sL h3,_,ZcW ga,?_⟩;refine ⟨_,_,_,(oT h1),cd.c,cd.n_stretches,.ref sr,rfl,sr,rfl,_,sL h4,.ref e.loc,Zc3 (by rw [yav,g];rfl),?_⟩;exact ⟨_,rfl,_,_,_,ho3,nf3.2.2.2.2.2.2.2.1,_,_,hb _,e.loc,e.ps,n%256,rfl,st,ok.pup e z3,ok.plt e z3,by omega,_,rfl,_,rfl,by
     unfold belE at q;rw [(Zbf z1).2,yco] at q;exact q⟩
end
def Scal:V->Prop
 | .int _=>True
 | .bl _=>True
 | .non=>True
 | .str _=>True
 | _=>False
def isI:V->Bool
 | .int _=>true
 | _=>false
def spIsV:Sp:=fun vs H Q _=>∃ v,vs=[v]/\Scal v/\Q (.bl (isI v)) H
section
variable {c:Kd->Addr}{ts:Tabs}
theorem ZgK (B:Blt mg)(d:DefAt K mg "is_whole" ZbY ["thing"]):FnAt P w K mg base "is_whole" ["thing"] 1 spIsV:=by
 refine FnAt.of d j8 ?_ ?_;walk_at "F";have nd:=j8.nd;obtain ⟨v,rfl,sv,q⟩:=h;refine ⟨_,(Zag (Zak (ZdM (ZaB (ZcK K) rfl B.isi Zdf (Zaa (pv 0) (Zaa (ZeN (v:=.ty "int") rfl B.int boot_int rfl) Zab))) (ZdL (pe_not (ZaB (ZcK K) rfl B.isi Zdf (Zaa (pv 0) (Zaa (ZeN (v:=.ty "bool") rfl B.bool boot_bool rfl) Zab)))))))),?_⟩;cases v with
 | int z=>walk_at "vc";exact q
 | bl b=>walk_at "vc";exact q
 | non =>
   walk_at "vc";exact ⟨_,_,_,_,false,rfl,rfl,.non,rfl,_,rfl,q⟩
 | str z =>
   walk_at "vc";exact ⟨_,_,_,_,false,rfl,rfl,.str z,rfl,_,rfl,q⟩
 | _=>exact sv.elim
end
section
variable {c:Kd->Addr}{ts:Tabs}
theorem Zd8:EsOk []:=⟨trivial,(fun _ h=>nomatch h),(fun _ h=>nomatch h),(fun _ h=>nomatch h),(fun _ h=>nomatch h)⟩
theorem mkM {R:Addr->Hp->Prop}{E:XK}(ht:Tbs ts H)(q:∀ x H',Nx ts H H'->noT H x=none->MkAt c CM (noT H') x []->R x H'):∀ x dx,H x=none->H dx=none->dx≠x->spInitM c CM ts [.ref x] (upd (upd H dx (.own x)) x (.ins CM dx [])) (fun v H'=>v=.non/\R x H') E:=by intro x dx nx ndx dne;have m2:Same H (upd (upd H dx (.own x)) x (.ins CM dx [])):=(Same.new ndx).put nx;exact ⟨x,dx,rfl,Zac,ht.same m2,fun H' nb hm=>⟨rfl,q x H' (((ht.nx m2).nb.trans nb).of_new (ZaU nx)) (ZaU nx) hm⟩⟩
end
def KPair (c:Kd->Addr)(H:Hp)(g:Nat->List Nat)(v:V)(k:Nat):Prop:=∃ (t:Addr) (u:V),v=.ref t/\H t=some (.tup [.int (k:Nat),u])/\KeptIs c H (g k) u/\Up 0 (g k)
def Gp (c:Kd->Addr)(H:Hp)(g:Nat->List Nat):List V->List Nat->Prop:=Paired (KPair c H g)
theorem Gp.same {c:Kd->Addr}{g:Nat->List Nat}{us:List V}(h:Gp c H g us ks)(s:Same H H'):Gp c H' g us ks:=Paired.mapP h fun _ _ ⟨t,u,e,h1,h2,h3⟩=>⟨t,u,e,s _ _ h1,h2.same s,h3⟩
theorem Gp.noT {c:Kd->Addr}{H:Hp}{g:Nat->List Nat}{us:List V}{ks:List Nat}(h:Gp c H g us ks):Gp c (noT H) g us ks:=Paired.mapP h fun _ _ ⟨t,u,e,h1,h2,h3⟩=>⟨t,u,e,Zan h1 (nt _),h2.noT,h3⟩
theorem Gp.get {c:Kd->Addr}{g:Nat->List Nat}{us:List V}(h:Gp c H g us ks){i:Nat}{v:V}(hi:us[i]?=some v):∃ k,ks[i]?=some k/\KPair c H g v k:=by
 induction h generalizing i with
 | nil=>cases hi
 | cons r q ih =>
   cases i with
   | zero=>cases (show _=v from Option.some.inj hi);exact ⟨_,rfl,r⟩
   | succ i=>exact ih hi
def spGath (c:Kd->Addr)(CM:Addr)(ts:Tabs):Sp:=fun vs H Q _=>∃ (l:Addr) (us:List V) (ks:List Nat) (g:Nat->List Nat),vs=[.ref l]/\noT H l=some (.lst us)/\Gp c (noT H) g us ks/\ks.Nodup/\(∀ k∈ks,k<256/\Up 0 (g k)/\∀ p∈g k,p<256)/\us.length<=1000/\Tbs ts H /\
 ∀ m H' es,Nx ts H H'->noT H m=none->MkAt c CM (noT H') m es->EsOk es->(∀ k,plcE k es=if k∈ks then g k else [])->Q (.ref m) H'
structure GathI (c:Kd->Addr)(CM:Addr)(ts:Tabs)(l m:Addr)(ks:List Nat)(g:Nat->List Nat)(H:Hp)(i:Nat)(σ:L2.St)(H':Hp):Prop where
 ex:∃ (es:List Ent) (v2 v3:Option V),σ=[some (.ref l),some (.ref m),v2,v3]/\MkAt c CM (noT H') m es/\EsOk es/\∀ k,plcE k es=if k∈ks.take i then g k else []
 nx:Nx ts H H'
section
variable {c:Kd->Addr}{ts:Tabs}
theorem ZhB (jN:MakeAt P w K mg base "Marks" CM ["self"] 1 (spInitM c CM ts)) (jat:MethAt P w K mg base CM "keep" ["self","key","stretch"] 6 (spKeep c CM ts)) (d:DefAt K mg "gathered" Zc4 ["pairs"]):FnAt P w K mg base "gathered" ["pairs"] 7 (spGath c CM ts):=by
 refine FnAt.of d jbD ?_ ?_;walk_at "F";have nd:=jbD.nd;obtain ⟨l,us,ks,g,rfl,hl,hg,nd,hk,ll,ht,q⟩:=h;refine ⟨_,(Zad (Zaz (i:=1) (Zey jN (hr.mono (by decide)) rfl))
     (Zad (Zbj zai rfl (ZaC K (pv 0)) (ZcY K rfl (ZaI (ZbM (i:=2)) (ZaI (ZbM (i:=3)) ZcT))) (Zag (ZaD (Za0 ZiZ (pv 3) ZbA) (Zag (Zax (Zap P w K mg base 6 (pv 1) (Zaa (pv 2) (Zaa (pv 3) Zab))))) Zau)))
     (Zag (Zak (pv 1))))),?_⟩
 walk_at "vc";refine mkM ht fun m H1 nx1 nm hm1=>?_
 have hl1:=nx1.at hl;have hg1:=hg.same nx1.same;refine ⟨⟨_,sL hl1⟩,loopL (xs:=us) (GathI c CM ts l m ks g H) ⟨⟨[],_,_,rfl,hm1,Zd8,fun k=>rfl⟩,nx1⟩ ?_ ?_ ?_⟩
 . rintro i σ H2 hi ⟨_,nx⟩
   exact sL (nx.at hl)
 . rintro i x σ H2 hi ⟨⟨es,v2,v3,rfl,hm2,ok,pl⟩,nx⟩
   obtain ⟨k,hki,t,u,rfl,h1,h2,_⟩:=(hg.same nx.same).get hi;obtain ⟨k0,up,lt⟩:=hk k (yao hki);have tk:ks.take (i+1)=ks.take i++[k]:=by rw [ybk,hki];rfl
   have nk:k∉ks.take i:=fun z=>by
     have nd2:=(yaq i ks) ▸ nd;have dr:k∈ks.drop i:=yao (i:=0) (by rw [List.getElem?_drop,ycg];exact hki);exact (ycf.mp nd2).2.2 k z k dr rfl
   walk_at "vc";refine ⟨_,SqT.of (oT h1),rfl,_,_,rfl,_,_,rfl,rfl,?_⟩;have inT:∀ j,j∈ks.take (i+1)↔j∈ks.take i\/j=k:=fun j=>by rw [tk,yaf,yaa]
   by_cases e0:g k=[]
   . rw [if_pos (h2.1 e0)]
     refine ⟨⟨es,_,_,rfl,hm2,ok,fun j=>?_⟩,nx⟩;rw [pl j];by_cases c1:j∈ks.take i
     . rw [if_pos c1,if_pos ((inT j).mpr (.inl c1))]
     . rw [if_neg c1]
       by_cases c2:j=k
       . rw [if_pos ((inT j).mpr (.inr c2)),c2,e0]
       . rw [if_neg (fun z=>((inT j).mp z).elim c1 c2)]
   . obtain ⟨a,rfl,st⟩:=h2.2 e0
     rw [if_neg (by intro z;cases z)];obtain ⟨dx,fs,ho,nf⟩:=hm2.obj;obtain ⟨o,hmo,f4⟩:=hm2.four;refine ⟨_,_,_,(oT ho),nf.2.2.2.2.1,_,_,jat,m,k,es,g k,_,a,rfl,hm2,ok,⟨fun z=>absurd z e0,fun _=>⟨rfl,st⟩⟩,up,lt,nx.tb,fun H3 nb hm3=>⟨⟨_,_,_,rfl,hm3,ok.keep k0 up lt,fun j=>?_⟩,?_⟩⟩
     . rw [Zfp,pl j]
       by_cases c2:j=k
       . rw [if_pos c2,if_pos ((inT j).mpr (.inr c2)),c2]
       . rw [if_neg c2]
         by_cases c1:j∈ks.take i
         . rw [if_pos c1,if_pos ((inT j).mpr (.inl c1))]
         . rw [if_neg c1,if_neg (fun z=>((inT j).mp z).elim c1 c2)]
     . exact (nx.nb.trans nb).of_new nm
 . rintro σ H2 ⟨⟨es,v2,v3,rfl,hm2,ok,pl⟩,nx⟩
   walk_at "vc";have ek:us.length=ks.length:=Paired.length hg;rw [yas (by omega)] at pl;exact q m H2 es nx nm hm2 ok pl
structure DW (kvs:List (Key × V))(ks:List Nat)(g:Nat->List Nat):Prop where
 keys:kvs.map (·.1)=ks.map fun (k:Nat)=>Sum.inl (k:Int)
 nd:ks.Nodup
 ok:∀ k∈ks,k<256/\Up 0 (g k)/\∀ p∈g k,p<256
 val:∀ k∈ks,valV kvs (Sum.inl (k:Int))=some (.int (wd (g k):Nat))
def spOfWords (c:Kd->Addr)(CM:Addr)(ts:Tabs):Sp:=fun vs H Q _=>∃ (d:Addr) (kvs:List (Key × V)) (ks:List Nat) (g:Nat->List Nat),vs=[.ref d]/\noT H d=some (.dK kvs)/\DW kvs ks g/\ks.length<=256/\Tbs ts H /\
 ∀ m H' es,Nx ts H H'->noT H m=none->MkAt c CM (noT H') m es->EsOk es->(∀ k,plcE k es=if k∈ks then g k else [])->Q (.ref m) H'
structure OfI (c:Kd->Addr)(zs:List Nat)(g:Nat->List Nat)(H1:Hp)(D:Addr)(i:Nat)(ys:List V)(H2:Hp):Prop where
 le:i<=zs.length
 len:ys.length=i
 same:Same H1 H2
 hD:H2 D=some (.lst ys)
 gp:Gp c H2 g ys (zs.take i)
theorem ZjM (u:Up 0 ps)(h:ps≠[]):runsOf ps≠[]:=fun e=>h (by rw [<- (runs_ok u).1,e];rfl)
theorem StAt.away {c:Kd->Addr} {k:Kd} {x D:Addr} {o:HO} (h:StAt c k H x ps) (u:Up 0 ps) (ne:ps≠[]) (hD:H D=some (.lst ys)) (al:∀ y∈ys,∃ (t:Addr) (i:Int) (v:V),y=.ref t/\H t=some (.tup [.int i,v])/\∀ z,v≠.int z):StAt c k (upd H D o) x ps:=by
 cases k with
 | l =>
   obtain ⟨dx,l,e,h⟩:=h;refine ⟨dx,l,?_,?_⟩
   . rw [Zai (fun z=>by rw [z,hD] at e;cases e)];exact e
   . rw [Zai (fun z=>?_)];exact h
     rw [z,hD] at h;cases ps with
     | nil=>exact ne rfl
     | cons p r =>
       have:ys=pint (p::r):=by cases h;rfl
       obtain ⟨t,i,v,e1,_⟩:=al (.int (p:Nat)) (by rw [this];exact .head _);cases e1
 | b =>
   obtain ⟨dx,e⟩:=h;refine ⟨dx,?_⟩;rw [Zai (fun z=>by rw [z,hD] at e;cases e)];exact e
 | r =>
   obtain ⟨dx,l,e,us,h,t⟩:=h;refine ⟨dx,l,?_,us,?_,Paired.mapP t fun _ _ ⟨t,e,ht⟩=>⟨t,e,?_⟩⟩
   . rw [Zai (fun z=>by rw [z,hD] at e;cases e)];exact e
   . rw [Zai (fun z=>?_)];exact h
     rw [z,hD] at h;have eu:ys=us:=by cases h;rfl
     have nr:=ZjM u ne;generalize runsOf ps=rs at t nr;cases t with
     | nil=>exact nr rfl
     | cons r q =>
       obtain ⟨t1,e1,ht1⟩:=r;obtain ⟨t2,i,v,e2,ht2,nv⟩:=al _ (by rw [eu];exact .head _);rw [e1] at e2;cases e2;rw [ht1] at ht2;cases ht2;exact nv _ rfl
   . rw [Zai (fun z=>by rw [z,hD] at ht;cases ht)];exact ht
theorem KeptIs.noInt {c:Kd->Addr}{v:V}(h:KeptIs c H ps v):∀ z,v≠.int z:=fun z e=>by
 by_cases c:ps=[]
 . rw [h.1 c] at e;cases e
 . obtain ⟨x,e2,_⟩:=h.2 c
   rw [e2] at e;cases e
theorem Gp.all {c:Kd->Addr}{g:Nat->List Nat}{us:List V}(h:Gp c H g us ks):∀ y∈us,∃ (t:Addr) (i:Int) (v:V),y=.ref t/\H t=some (.tup [.int i,v])/\∀ z,v≠.int z:=fun y hy=>by
 obtain ⟨i,hi⟩:=List.getElem?_of_mem hy;obtain ⟨k,_,t,u,e,h1,h2,_⟩:=h.get hi;exact ⟨t,k,u,e,h1,h2.noInt⟩
theorem KPair.away {c:Kd->Addr}{g:Nat->List Nat}{D:Addr}{v:V}{k:Nat}{o:HO}(h:KPair c H g v k)(hD:H D=some (.lst ys))(al:∀ y∈ys,∃ (t:Addr) (i:Int) (v:V),y=.ref t/\H t=some (.tup [.int i,v])/\∀ z,v≠.int z):KPair c (upd H D o) g v k:=by
 obtain ⟨t,u,e,h1,h2,h3⟩:=h;refine ⟨t,u,e,?_,⟨h2.1,fun n=>?_⟩,h3⟩
 . rw [Zai (fun z=>by rw [z,hD] at h1;cases h1)];exact h1
 . obtain ⟨x,e2,st⟩:=h2.2 n
   exact ⟨x,e2,st.away h3 n hD al⟩
theorem Gp.snoc {c:Kd->Addr}{g:Nat->List Nat}:∀ {us:List V} {ks:List Nat} {v:V} {k:Nat},Gp c H g us ks->KPair c H g v k->Gp c H g (us++[v]) (ks++[k])
 | _,_,_,_,.nil,h=>.cons h .nil
 | _,_,_,_,.cons r q,h=>.cons r (Gp.snoc q h)
theorem Zg7 (B:Blt mg)(jo:FnAt P w K mg base "kept" ["word"] 4 (spKept c))(jt:FnAt P w K mg base "gathered" ["pairs"] 7 (spGath c CM ts))(d:DefAt K mg "of_words" Zc5 ["words"]):FnAt P w K mg base "of_words" ["words"] 8 (spOfWords c CM ts):=by
 refine FnAt.of d jbC ?_ ?_;walk_at "F";have nd:=jbC.nd;obtain ⟨d,kvs,ks,g,rfl,hd,dw,lk,ht,q⟩:=h;refine ⟨_,(Zag (Zak (Zaj jt (Zaa (ZbQ ["key"] [0] rfl (ZaC K (ZaB Zc1 rfl B.sorted L2.boot_sorted (Zaa (pv 0) Zab))) (fun _ _ _ _ _=>Za2 (i:=0) (by show List.Nodup (["key","words"]:List Str);decide +kernel) rfl (Or.inl rfl)) (fun _ _ _ _ _=>ZdG) (fun _ _ _ _ _=>(Zcx (Zaa (pv 0) (Zaa (Zaj jo (Zaa (Zbq (hu1 hr) (pv 1) (pv 0) (fun _ _=>rfl)) Zab)) Zab)))) ⟨⟨_,rfl,rfl,.inl rfl⟩,trivial⟩ ZaY) Zab)))),?_⟩;walk_at "vc";have hd:=(oT hd)
 refine ⟨kvs,hd,ks.map fun (k:Nat)=>(k:Int),by rw [dw.keys,ybl];rfl,fun l ns fl pm _=>?_⟩;obtain ⟨zs,rfl,pz⟩:∃ zs:List Nat,ns=zs.map (fun (k:Nat)=>(k:Int))/\zs.Perm ks:=by
   refine ⟨ns.map Int.toNat,?_,?_⟩
   . rw [ybl]
     refine (List.map_id ns).symm.trans (ybV fun y hy=>?_);obtain ⟨k,_,rfl⟩:=yaJ.mp (pm.mem_iff.mp hy);show (k:Int)=((k:Int).toNat:Int)
     rw [yap]
   . have:=pm.map Int.toNat
     rw [ybl] at this;have e:ks.map (Int.toNat ∘ fun (k:Nat)=>(k:Int))=ks:=(ybV fun y hy=>yap y).trans (List.map_id ks);rw [e] at this;exact this
 have lz:zs.length=ks.length:=pz.length_eq;rw [<- ZcD];have s1:=Same.new (o:=.lst (pint zs)) fl;have hl:upd H l (.lst (pint zs)) l=some (.lst (pint zs)):=Zac;have hd:=s1 _ _ hd;generalize upd H l (.lst (pint zs))=H1 at s1 hl hd ⊢;refine ⟨⟨_,SqL.of hl⟩,compG (n:=zs.length) (OfI c zs g H1) (fun D nD=>⟨yax _,rfl,Same.new nD,Zac,.nil⟩) (fun D i ys H h=>h.le) ?_ ?_ ?_ ?_⟩
 . rintro D ys H3 nD ⟨_,_,sm,_,_⟩
   exact ⟨_,SqL.of (sm _ _ hl),by rw [Zal];exact yag _⟩
 . rintro D i ys H3 nD hi ⟨_,_,sm,_,_⟩
   exact ⟨_,_,SqL.of (sm _ _ hl),yae (by rw [Zal];exact hi)⟩
 . rintro D i ys H3 x H4 nD hi ⟨le,len,sm,hD,gp⟩ ⟨rfl,yy⟩
   obtain ⟨p,hp,rfl⟩:=ZaR (yy _ (SqL.of (sm _ _ hl)));have pk:p∈ks:=pz.mem_iff.mp (yao hp);obtain ⟨p0,up,lt⟩:=dw.ok p pk;walk_at "vc";have dg:=DGet.k (k:=Sum.inl (p:Int)) (sm _ _ hd);rw [dw.val p pk] at dg;refine ⟨_,dg,g p,rfl,up,lt,fun u H5 s5 kp=>⟨by decide,fun t ft=>?_⟩⟩;have s6:=Same.new (o:=.tup [V.int (p:Nat),u]) ft;have g6:upd H5 t (.tup [V.int (p:Nat),u]) t=some (.tup [V.int (p:Nat),u]):=Zac;have kp:=kp.same s6;generalize upd H5 t (.tup [V.int (p:Nat),u])=H6 at s6 g6 kp ⊢;have S:=s5.trans s6;have hD:=S _ _ hD;have gp:=gp.same S;have al:=gp.all;have tk:zs.take (i+1)=zs.take i++[p]:=by rw [ybk,hp];rfl
   refine compYes (by omega) hi (by omega) hD ⟨hi,by rw [yac,len];rfl,(sm.trans S).put nD,Zac,?_⟩;rw [tk];exact Gp.snoc (Paired.mapP gp fun _ _ h=>KPair.away h hD al) (KPair.away ⟨t,u,rfl,g6,kp,up⟩ hD al)
 . rintro D ys H3 nD ⟨le,len,sm,hD,gp⟩
   rw [yas (yag _)] at gp;have nx:=ht.nx (s1.trans sm);refine ⟨D,ys,zs,g,rfl,Zan hD (nl _),gp.noT,pz.nodup_iff.mpr dw.nd,fun k hk=>dw.ok k (pz.mem_iff.mp hk),by omega,nx.tb,fun m H' es nx2 nm hm ok pl=>q m H' es (nx.trans nx2) (nx.free nm) hm ok fun k=>?_⟩;rw [pl k];by_cases z:k∈ks
   . rw [if_pos z,if_pos (pz.mem_iff.mpr z)]
   . rw [if_neg z,if_neg (fun y=>z (pz.mem_iff.mp y))]
theorem ZjS (kvs:List (Key × V))(k:Key)(v:V):(putK kvs k v).map (·.1)=if (valV kvs k).isSome=true then kvs.map (·.1) else kvs.map (·.1)++[k]:=by
 unfold putK;rw [Zb1];split
 . rw [ybl]
   refine ybV fun kv _=>?_
   show (if kv.1=k then (kv.1,v) else kv).1=kv.1;split<;>rfl
 . rw [yaP]
   rfl
def spMarksOf (c:Kd->Addr)(CM:Addr)(ts:Tabs):Sp:=fun vs H Q _=>∃ (l:Addr) (ns:List Nat),vs=[.ref l]/\noT H l=some (.lst (pint ns))/\(∀ n∈ns,n<=65535)/\ns.length<=1000/\Tbs ts H /\
 ∀ m H' es,Nx ts H H'->noT H m=none->MkAt c CM (noT H') m es->EsOk es->(∀ x,x∈flat es↔x∈ns)->Q (.ref m) H'
structure MoI (l:Addr)(ns:List Nat)(H:Hp)(i:Nat)(σ:L2.St)(H':Hp):Prop where
 ex:∃ (d:Addr) (kvs:List (Key × V)) (ks:List Nat) (g:Nat->List Nat) (v2:Option V),σ=[some (.ref l),some (.ref d),v2]/\H d=none/\H' d=some (.dK kvs)/\DW kvs ks g/\(∀ k,k∉ks->g k=[]/\valV kvs (Sum.inl (k:Int))=none)/\∀ x,x%256∈g (x/256)↔x∈ns.take i
 same:Same H H'
theorem Zf9 (nd:ks.Nodup)(h:∀ k∈ks,k<256):ks.length<=256:=by
 have:=nd.length_le_of_subset (l₂:=List.range 256) fun k hk=>ybR.mpr (h k hk)
 rw [ybP] at this;exact this
theorem DW.put {g:Nat->List Nat}{n:Nat}(dw:DW kvs ks g)(no:∀ k,k∉ks->g k=[]/\valV kvs (Sum.inl (k:Int))=none)(hn:n<=65535) :
   let g':Nat->List Nat:=fun k=>if k=n/256 then gAdd (g (n/256)) (n%256) else g k
   let ks':List Nat:=if n/256∈ks then ks else ks++[n/256]
   let kvs':=putK kvs (Sum.inl ((n/256:Nat):Int)) (.int (wd (gAdd (g (n/256)) (n%256)):Nat))
   DW kvs' ks' g'/\(∀ k,k∉ks'->g' k=[]/\valV kvs' (Sum.inl (k:Int))=none):=by
 intro g' ks' kvs';have iff_ks:∀ k,k∈ks'↔k∈ks\/k=n/256:=fun k=>by
   show k∈(if n/256∈ks then ks else ks++[n/256])↔_;split
   . rename_i h
     exact ⟨.inl,fun z=>z.elim id fun z=>by rw [z];exact h⟩
   . rw [yaf,yaa]
 have vals:∀ k:Nat,valV kvs' (Sum.inl (k:Int))=if k=n/256 then some (.int (wd (gAdd (g (n/256)) (n%256)):Nat)) else valV kvs (Sum.inl (k:Int)):=fun k=>by
   show valV (putK kvs (Sum.inl ((n/256:Nat):Int)) _) (Sum.inl (k:Int))=_;rw [Zdl];by_cases c:k=n/256
   . rw [if_pos (by rw [c]),if_pos c]
   . rw [if_neg (by intro z;exact c (Int.ofNat.inj (Sum.inl.inj z))),if_neg c]
 have some_iff:(valV kvs (Sum.inl ((n/256:Nat):Int))).isSome=true↔n/256∈ks:=by
   by_cases c:n/256∈ks
   . rw [dw.val _ c];simp [c]
   . rw [(no _ c).2];simp [c]
 refine ⟨⟨?_,?_,fun k hk=>?_,fun k hk=>?_⟩,fun k hk=>?_⟩
 . show (putK kvs _ _).map (·.1)=_
   rw [ZjS];show _=(if n/256∈ks then ks else ks++[n/256]).map _;by_cases c:n/256∈ks
   . rw [if_pos (some_iff.mpr c),if_pos c,dw.keys]
   . rw [if_neg (fun z=>c (some_iff.mp z)),if_neg c,dw.keys,yaP]
     rfl
 . show (if n/256∈ks then ks else ks++[n/256]).Nodup
   split
   . exact dw.nd
   . rename_i h
     exact Zjg dw.nd h
 . have gk:g' k=if k=n/256 then gAdd (g (n/256)) (n%256) else g k:=rfl
   rw [gk];by_cases c:k=n/256
   . rw [if_pos c]
     exact ⟨by omega,ZbZ _ _,Zh1 (f:=fun x=>decide (x∈g (n/256))||decide (x∈[n%256]))⟩
   . rw [if_neg c]
     exact dw.ok k (((iff_ks k).mp hk).resolve_right c)
 . rw [vals]
   have gk:g' k=if k=n/256 then gAdd (g (n/256)) (n%256) else g k:=rfl
   rw [gk];by_cases c:k=n/256
   . rw [if_pos c,if_pos c]
   . rw [if_neg c,if_neg c]
     exact dw.val k (((iff_ks k).mp hk).resolve_right c)
 . have nk:k∉ks/\k≠n/256:=⟨fun z=>hk ((iff_ks k).mpr (.inl z)),fun z=>hk ((iff_ks k).mpr (.inr z))⟩
   have gk:g' k=if k=n/256 then gAdd (g (n/256)) (n%256) else g k:=rfl
   rw [gk,vals,if_neg nk.2,if_neg nk.2];exact no k nk.1
theorem Zhf (cP:∃ t,mg "PLACES"=some (.int 256 t)) (jg:FnAt P w K mg base "check_number" ["thing"] 2 spChk) (ja3:FnAt P w K mg base "of_words" ["words"] 8 (spOfWords c CM ts)) (d:DefAt K mg "marks_of" ZcU ["numbers"]):FnAt P w K mg base "marks_of" ["numbers"] 9 (spMarksOf c CM ts):=by
 obtain ⟨tP,ja⟩:=cP;refine FnAt.of d jbB ?_ ?_;walk_at "F";have nd:=jbB.nd;obtain ⟨l,ns,rfl,hl,hn,ll,ht,q⟩:=h;refine ⟨_,(Zad (Zaz (i:=1) ZcA)
     (Zad (Zbj zai rfl (ZaC K (pv 0)) (ZbM (i:=2)) (Zad (Zax (Zaj jg (Zaa (pv 2) Zab)))
     (Zag (Zee (hu1 hr) (pv 1) (Zah Zas (pv 2) (ZaJ ja)) (Zah Zfj (Zhb (hu1 hr) (pv 1) (Zah Zas (pv 2) (ZaJ ja)) Zaf ⟨rfl,rfl,rfl,rfl⟩) (Zah Zbe Zaf (Zah Zar (pv 2) (ZaJ ja)))) rfl))))
     (Zag (Zak (Zaj ja3 (Zaa (pv 1) Zab)))))),?_⟩
 walk_at "vc";have hl:=(oT hl)
 intro d nd;have sd:Same H (upd H d (.dK [])):=Same.new nd;refine ⟨⟨_,SqL.of (sd _ _ hl)⟩,loopL (xs:=pint ns) (MoI l ns H) ⟨⟨d,[],[],fun _=>[],_,rfl,nd,Zac,⟨rfl,List.nodup_nil,(fun _ h=>nomatch h),(fun _ h=>nomatch h)⟩,fun k _=>⟨rfl,rfl⟩,fun x=>⟨(fun h=>nomatch h),(fun h=>nomatch h)⟩⟩,sd⟩ ?_ ?_ ?_⟩
 . rintro i σ H2 hi ⟨_,sm⟩
   exact SqL.of (sm _ _ hl)
 . rintro i x σ H2 hi ⟨⟨d,kvs,ks,g,v2,rfl,nd,hd,dw,no,me⟩,sm⟩
   obtain ⟨n,hni,rfl⟩:=ZaR hi;have n0:=hn n (yao hni);have tk:ns.take (i+1)=ns.take i++[n]:=by rw [ybk,hni];rfl
   have e1:(n:Int)/256=((n/256:Nat):Int):=by omega
   have e2:(n:Int)%256=((n%256:Nat):Int):=by omega
   walk_at "vc";rw [e1,e2];have dg:=DGet.k (k:=Sum.inl ((n/256:Nat):Int)) hd;have p0:n%256<256:=ycc _ (by decide);have gk:Up 0 (g (n/256))/\(∀ p∈g (n/256),p<256)/\(valV kvs (Sum.inl ((n/256:Nat):Int))).getD (V.int 0)=.int (wd (g (n/256)):Nat):=by
     by_cases z:n/256∈ks
     . rw [dw.val _ z]
       exact ⟨(dw.ok _ z).2.1,(dw.ok _ z).2.2,rfl⟩
     . rw [(no _ z).2,(no _ z).1]
       exact ⟨trivial,(fun _ h=>nomatch h),rfl⟩
   obtain ⟨dw2,no2⟩:=dw.put no n0;refine ⟨n,rfl,n0,.inl ⟨kvs,.inl hd⟩,_,dg,⟨by omega,by omega,by decide⟩,_,gk.2.2,_,DPut.k (k:=Sum.inl ((n/256:Nat):Int)) hd ?_,⟨d,_,_,_,_,rfl,nd,?_,dw2,no2,fun x=>?_⟩,sm.put nd⟩
   . have:=Zf9 dw.nd fun k hk=>(dw.ok k hk).1
     have l2:=congrArg List.length dw.keys;rw [yad,yad] at l2;exact small1000 (by omega)
   . rw [Zac,ZeS,ZiH gk.1 (Zer _) gk.2.1 (ZgL p0)]
     rfl
   . rw [tk,yaf,yaa,<- me]
     show x%256∈(if x/256=n/256 then gAdd (g (n/256)) (n%256) else g (x/256))↔_;by_cases c:x/256=n/256
     . rw [if_pos c,Zg1 gk.2.1 p0,c]
       constructor
       . rintro (z | z)
         . exact .inl z
         . exact .inr (by omega)
       . rintro (z | z)
         . exact .inl z
         . exact .inr (by omega)
     . rw [if_neg c]
       constructor
       . exact .inl
       . rintro (z | z)
         . exact z
         . exact absurd (by rw [z]) c
 . rintro σ H2 ⟨⟨d,kvs,ks,g,v2,rfl,nd,hd,dw,no,me⟩,sm⟩
   walk_at "vc";rw [Zal,yas (yag _)] at me;have nx:=ht.nx sm;refine ⟨d,kvs,ks,g,rfl,Zan hd (L2.nd _),dw,Zf9 dw.nd fun k hk=>(dw.ok k hk).1,nx.tb,fun m H' es nx2 nm hm ok pl=>q m H' es (nx.trans nx2) (nx.free nm) hm ok fun x=>?_⟩;rw [ZaL ok,pl,<- me];by_cases z:x/256∈ks
   . rw [if_pos z]
   . rw [if_neg z,(no _ z).1]
end
def cntA (k:Nat)(es:List Ent):Nat:=((ahs 0 es).filter fun y=>decide (y<=k)).length
theorem cntA_eq (k:Nat)(es:List Ent):cnt (fun x=>decide (x<=(k:Int))) ((ahs 0 es).map fun (p:Nat)=>(p:Int))=cntA k es:=by
 unfold cnt cntA;rw [ybw,yad];congr 1
 refine yby fun x _=>?_
 show decide ((x:Int)<=(k:Int))=_;rw [yaS];omega
def spChk39 (c:Kd->Addr)(CM:Addr):Sp:=fun vs H Q _=>∃ (m:Addr) (es:List Ent) (k:Nat),vs=[.ref m,.int k]/\MkAt c CM (noT H) m es/\k<tot es/\Q .non H
def spCh39 (c:Kd->Addr)(CM:Addr)(ts:Tabs):Sp:=fun vs H Q _=>∃ (m:Addr) (es:List Ent) (k:Nat),vs=[.ref m,.int k]/\MkAt c CM (noT H) m es/\EsOk es/\k<tot es/\Tbs ts H/\∀ (x:Nat) H',(flat es)[k]?=some x->Nx ts H H'->Q (.int (x:Nat)) H'
section
variable {c:Kd->Addr}{ts:Tabs}
theorem Zis {es:List Ent}(ok:EsOk es):((ahs 0 es).map fun (p:Nat)=>(p:Int)).length<=1000:=by have:=Zdh ok;rw [yad,ZbF];omega
theorem ok_chk39 (jn:FnAt P w K mg base "is_whole" ["thing"] 1 spIsWhole)(cd:CD_Marks K mg CM):MethAt P w K mg base CM "check_place" ["self","k"] 2 (spChk39 c CM):=by refine MethAt.of cd.c cd.m_check_place jD ?_ ?_;walk_at "F";have nd:=jD.nd;obtain ⟨m,es,k,rfl,hm,hk,q⟩:=h;obtain ⟨dx,kd,ah,sr,h1,h2,h3,h4⟩:=hm.ex;refine ⟨_,(Zag (ZaD (PW.pt (pw_or (Zcy (Za9 (Zaj jn (Zaa (pv 1) Zab)))) (ZgJ (Zcy (Zec ZcF ZdZ Zaf (pv 1) (Zam K (pv 0))))))) (Zag (Zfx)) Zau)),?_⟩;walk_at "vc";refine ⟨_,rfl,_,rfl,?_⟩;rw [if_neg (by decide),if_pos (by omega)];refine ⟨_,_,_,(oT h1),cd.c,cd.n_held,_,rfl,_,rfl,?_⟩;rw [if_pos (by omega)];exact q
theorem ok_ch39 (cP:∃ t,mg "PLACES"=some (.int 256 t))(jae:MethAt P w K mg base CM "check_place" ["self","k"] 2 (spChk39 c CM))(jbI:FnAt P w K mg base "halved_counts" ["aheads","k"] 3 (spHKt ts (fun y k=>decide (k<=y)) 1))(hc:∀ k,MethAt P w K mg base (c k) "chosen" ["self","k"] 5 (spChosenM c k))(cd:CD_Marks K mg CM):MethAt P w K mg base CM "chosen" ["self","k"] 6 (spCh39 c CM ts):=by
 obtain ⟨tP,ja⟩:=cP;refine MethAt.of cd.c cd.m_chosen jaC ?_ ?_;walk_at "F";have nd:=jaC.nd;obtain ⟨m,es,k,rfl,hm,ok,hk,ht,q⟩:=h;obtain ⟨dx,kd,ah,sr,h1,h2,h3,h4⟩:=hm.ex;refine ⟨_,(Zad (Zax (Zap P w K mg base 2 (pv 0) (Zaa (pv 1) Zab)))
     (Zad (Zaz (i:=2) (Zc0 (ZiR K) (Zaj jbI (Zaa (Zam K (pv 0)) (Zaa (pv 1) Zab))) Zaf))
     (Zag (Zak (Zah Zav (Zah Zbt (Zc0 (ZaE K) (Zam K (pv 0)) (pv 2)) (ZaJ ja)) (Zap P w K mg base 5 (Zc0 (ZaE K) (Zam K (pv 0)) (pv 2)) (Zaa (Zah ZaP (pv 1) (Zc0 (ZaE K) (Zam K (pv 0)) (pv 2))) Zab))))))),?_⟩
 walk_at "vc";refine ⟨_,_,_,(oT h1),rfl,_,_,jae,m,es,k,rfl,hm,hk,?_⟩;refine ⟨_,_,_,(oT h1),cd.c,cd.n_aheads,.ref ah,rfl,ah,_,k,rfl,by rw [h3,ZcD],Zis ok,Zim (fun a b h p=>yak (Int.le_trans (Int.le_of_lt h) (ybo p))) (Ze1 (ahs_up 0 es ok.ne)),ht,fun t l H1 nx f1 f2 g1 g2=>?_⟩;obtain ⟨n,e,x,pp,e1,e2,e3,e4,e5,e6⟩:=ZgV 0 es k (yax _) (by omega);have en:((cnt (fun x=>decide (x<=(k:Int))) ((ahs 0 es).map fun (p:Nat)=>(p:Int)):Nat):Int)-1=(n:Int):=by rw [cntA_eq];unfold cntA;rw [e1];omega
 rw [en] at g1;refine ⟨t,rfl,_,SqT.of (oT g1),_,rfl,?_⟩;have he:=yao e2;have st:=((hm.st e he).same nx.same).same noT_sub;obtain ⟨dx3,fs3,ho3,nf3⟩:=st.obj;have h1:=nx.at h1;have h2:=nx.at h2;have h3:=nx.at h3;have h4:=nx.at h4;refine ⟨_,_,_,(oT h1),cd.c,cd.n_keyed,_,rfl,kd,rfl,_,n,rfl,sL h2,_,ZcW (ZeP e2),_,rfl,_,_,_,(oT h1),cd.c,cd.n_stretches,_,rfl,sr,rfl,_,n,rfl,sL h4,.ref e.loc,Zc3 (by rw [yav,e2];rfl),?_⟩;have kx:(k:Int)-(x:Int)=((k-x:Nat):Int):=by omega
 have eg:e.ps.getD (k-x) 0=pp:=by rw [yat,e5];rfl
 refine ⟨e.loc,rfl,_,_,_,ho3,nf3.2.2.2.2.2.2.2.2.1,_,_,hc _,_,_,_,(oT h1),cd.c,cd.n_aheads,_,rfl,ah,rfl,_,n,rfl,sL h3,_,ZcW e3,_,rfl,?_⟩;rw [kx];refine ⟨e.loc,e.ps,k-x,rfl,st,ok.pup e he,ok.plt e he,(yaQ.mp e5).1,?_⟩;rw [eg];refine ⟨_,rfl,?_⟩;have:=q (256*e.key+pp) H1 e6 nx;rw [show (e.key:Int)*256+(pp:Int)=((256*e.key+pp:Nat):Int) by omega];exact this
end
def spNumbers (c:Kd->Addr)(CM:Addr):Sp:=fun vs H Q _=>∃ (m:Addr) (es:List Ent),vs=[.ref m]/\MkAt c CM (noT H) m es/\EsOk es/\tot es<=900/\∀ l H',Same H H'->H l=none->H' l=some (.lst (pint (flat es)))->Q (.ref l) H'
structure NmI (m D:Addr)(es:List Ent)(H:Hp)(i:Nat)(σ:L2.St)(H':Hp):Prop where
 ex:∃ v2 v3:Option V,σ=[some (.ref m),some (.ref D),v2,v3]/\H' D=some (.lst (pint (flat (es.take i))))
 same:Same H H'
section
variable {c:Kd->Addr}{ts:Tabs}
theorem ZhX (B:Blt mg) (cP:∃ t,mg "PLACES"=some (.int 256 t)) (hw:∀ k,MethAt P w K mg base (c k) "word" ["self"] 4 (spWordM c k)) (ji:FnAt P w K mg base "places_of" ["word"] 3 spPlacesOf) (cd:CD_Marks K mg CM):MethAt P w K mg base CM "numbers" ["self"] 5 (spNumbers c CM):=by
 obtain ⟨tP,ja⟩:=cP;refine MethAt.of cd.c cd.m_numbers jam ?_ ?_;walk_at "F";have nd:=jam.nd;obtain ⟨m,es,rfl,hm,ok,ln,q⟩:=h;obtain ⟨dx,kd,ah,sr,h1,h2,h3,h4⟩:=hm.ex;refine ⟨_,(Zad (Zaz (i:=1) (ZaS Zab))
     (Zad (Zbj zai rfl (Zje K rfl B.zip (Zaa (Zam K (pv 0)) (Zaa (Zam K (pv 0)) Zab))) (ZcY K rfl (ZaI (ZbM (i:=2)) (ZaI (ZbM (i:=3)) ZcT))) (Zag (Zax (Zfq K zaF PySem.F.slot_list_extend PySem.F.type_list_extend ZjL (pv 1) (Zaa (ZbQ ["place"] [2] rfl (ZaC K (Zaj ji (Zaa (ZaG P w K mg base 4 (pv 3)) Zab))) (fun _ _ _ _ _=>Za2 (i:=0) (by show List.Nodup (["place","key"]:List Str);decide +kernel) rfl (Or.inl rfl)) (fun _ _ _ _ _=>ZdG) (fun _ _ _ _ _=>(Zah Zav (Zah Zbt (pv 1) (ZaJ ja)) (pv 0))) ⟨⟨_,rfl,rfl,.inl rfl⟩,trivial⟩ ZaY) Zab)))))
     (Zag (Zak (pv 1))))),?_⟩
 walk_at "vc";refine ⟨yax _,fun D nD=>?_⟩;have s1:=Same.new (o:=.lst []) nD;refine ⟨_,_,_,s1 _ _ (oT h1),cd.c,cd.n_keyed,.ref kd,rfl,_,_,_,s1 _ _ (oT h1),cd.c,cd.n_stretches,.ref sr,rfl,kd,sr,⟨rfl,rfl⟩,⟨_,SqL.of (s1 _ _ (oT h2))⟩,⟨_,SqL.of (s1 _ _ (oT h4))⟩,loopZ (xs:=pint (kys es)) (ys:=es.map fun e=>V.ref e.loc) (NmI m D es H) ⟨⟨_,_,rfl,Zac⟩,s1⟩ ?_ ?_ ?_⟩
 . rintro i σ H1 ⟨_,sm⟩
   exact ⟨SqL.of (sm _ _ (oT h2)),SqL.of (sm _ _ (oT h4))⟩
 . rintro i x y T σ H1 hx hy nT ⟨⟨v2,v3,rfl,hD⟩,sm⟩
   obtain ⟨e,he,rfl,rfl⟩:∃ e,es[i]?=some e/\x=.int (e.key:Nat)/\y=.ref e.loc:=by
     rw [yav] at hy;cases q:es[i]? with
     | none=>rw [q] at hy;cases hy
     | some e =>
       rw [q] at hy;obtain ⟨p,hp,rfl⟩:=ZaR hx;rw [ZeP q] at hp;cases hp;exact ⟨e,rfl,rfl,(Option.some.inj hy).symm⟩
   have hin:=yao he;have sT:=Same.new (o:=.tup [.int (e.key:Nat),.ref e.loc]) nT;have st:=(((hm.st e hin).same noT_sub).same sm).same sT;have hD2:=sT _ _ hD;walk_at "vc";refine ⟨_,SqT.of Zac,rfl,?_⟩;walk_at "vc";generalize upd H1 T (.tup [.int (e.key:Nat),.ref e.loc])=H2 at sT st hD2 ⊢;obtain ⟨dx2,fs2,ho2,nf2⟩:=st.obj;have up:=ok.pup e hin;have lt:=ok.plt e hin;have l256:=Up.lt256 up lt;refine ⟨_,_,⟨rfl,rfl⟩,_,_,rfl,rfl,⟨_,SqL.of hD2⟩,_,rfl,_,_,_,ho2,nf2.2.2.1,_,_,hw _,e.loc,e.ps,rfl,st,up,lt,e.ps,rfl,up,lt,fun r H3 s3 nr hr=>⟨r,rfl,⟨_,SqL.of hr⟩,compL (fun _=>true) (mapI fun p=>(e.key:Int)*256+p) (SqL.of hr) (by rw [Zal];omega) (fun x H R hx s h=>?_) (fun x H R hx _ s h=>?_) (fun b nb=>?_)⟩⟩
   . walk_at "vc"
     exact h
   . obtain ⟨p,hp,rfl⟩:=Zbl hx
     walk_at "vc";exact h
   rw [ybU.mpr (fun _ _=>rfl),Zfs (g:=fun p=>256*e.key+p) fun p _=>by omega];have sb:=Same.new (o:=.lst (pint (e.ps.map fun p=>256*e.key+p))) nb;have S:=s3.trans sb;have tk:flat (es.take (i+1))=flat (es.take i)++e.ps.map fun p=>256*e.key+p:=by rw [ybk,he,Zbk];show _++(_++flat [])=_;rw [show flat []=[] from rfl,yaO]
   have tl:(flat (es.take (i+1))).length<=900:=by rw [ZaO];have:=ZaK (es.take (i+1)) (es.drop (i+1));rw [yaq] at this;omega
   rw [tk,yac] at tl;refine ⟨_,rfl,_,S _ _ hD2,_,Zac,?_,⟨⟨_,_,rfl,?_⟩,((sm.trans sT).trans S).put nD⟩⟩
   . rw [Zal,Zal]
     exact ybF (small1000 (by omega))
   . rw [Zac,tk]
     unfold pint;rw [yaP]
 . rintro σ H1 ⟨⟨v2,v3,rfl,hD⟩,sm⟩
   walk_at "vc";rw [yas (by rw [Zal,yad];unfold kys;rw [yad];omega)] at hD;exact q D H1 sm nD hD
end
def bodyD:Kd->List Nat->PyData
 | .l,ps=>.list ((ps.map fun (p:Nat)=>(p:Int)).map PyData.int)
 | .b,ps=>.int ((wd ps:Nat):Int)
 | .r,ps=>.list ((runsOf ps).map pairD)
def toldD (k:Kd)(ps:List Nat):PyData:=.tuple [.str (kS k),bodyD k ps]
theorem rd_body {k:Kd}{v:V}(h:BodyIs H k ps v):RdD K H v (bodyD k ps):=by
 cases k with
 | l =>
   obtain ⟨l,rfl,hl⟩:=h;rw [Zgg] at hl;exact .lst (SqL.of hl) (Zeh _)
 | b=>rw [show v=_ from h];exact .int _
 | r =>
   obtain ⟨l,rfl,us,hl,ht⟩:=h;exact .lst (SqL.of hl) (Zek ht)
theorem ZeG:∀ ns:List Int,PyData.canLayAll0 (ns.map PyData.int)=true
 | []=>rfl
 | n::r=>by
   rw [yaC];simp only [PyData.canLayAll0,PyData.canLay0,ZeG r,Bool.and_self]
theorem Zfi:∀ ns:List Int,PyData.depthAll (ns.map PyData.int)<=1
 | []=>by decide
 | n::r=>by
   have:=Zfi r;rw [yaC];simp only [PyData.depthAll,PyData.depth];omega
theorem lay_body (k:Kd)(ps:List Nat):PyData.canLay0 (bodyD k ps)=true/\PyData.depth (bodyD k ps)<=2:=by
 cases k with
 | l =>
   have:=Zfi (ps.map fun (p:Nat)=>(p:Int));exact ⟨by simp only [bodyD,PyData.canLay0];exact ZeG _,by simp only [bodyD,PyData.depth];omega⟩
 | b=>exact ⟨rfl,by simp only [bodyD,PyData.depth];omega⟩
 | r =>
   have:=Zdn (runsOf ps);exact ⟨by simp only [bodyD,PyData.canLay0];exact ZcZ _,by simp only [bodyD,PyData.depth];omega⟩
theorem ZiC (k:Kd)(ps:List Nat):SeqAt.noMix (toldD k ps) (toldD k ps)=true:=by
 cases k with
 | l =>
   have e:PySem.Spec.Shape.has (.list .int) (bodyD .l ps)=true:=list_map_has fun _=>rfl
   have h:PySem.Spec.Shape.has (.tuple [.str,.list .int]) (toldD .l ps)=true:=by show (true&&(PySem.Spec.Shape.has (.list .int) (bodyD .l ps)&&true))=true;rw [e];rfl
   exact zaK (.tuple [.str,.list .int]) rfl _ _ h h
 | b=>exact zaK (.tuple [.str,.int]) rfl _ _ rfl rfl
 | r =>
   have e:PySem.Spec.Shape.has (.list (.tuple [.int,.int])) (bodyD .r ps)=true:=list_map_has fun _=>rfl
   have h:PySem.Spec.Shape.has (.tuple [.str,.list (.tuple [.int,.int])]) (toldD .r ps)=true:=by show (true&&(PySem.Spec.Shape.has (.list (.tuple [.int,.int])) (bodyD .r ps)&&true))=true;rw [e];rfl
   exact zaK (.tuple [.str,.list (.tuple [.int,.int])]) rfl _ _ h h
section
variable {c:Kd->Addr}{ts:Tabs}
def spKeyList (c:Kd->Addr)(CM:Addr):Sp:=fun vs H Q _=>∃ (m:Addr) (es:List Ent),vs=[.ref m]/\MkAt c CM (noT H) m es/\∀ l,H l=none->Q (.ref l) (upd H l (.lst (pint (kys es))))
def spWordAt (c:Kd->Addr)(CM:Addr)(ts:Tabs):Sp:=fun vs H Q _=>∃ (m:Addr) (k:Nat) (es:List Ent),vs=[.ref m,.int k]/\MkAt c CM (noT H) m es/\EsOk es/\Tbs ts H/\∀ H',Nx ts H H'->Q (.int (wd (plcE k es):Nat)) H'
def spManyMM (c:Kd->Addr)(CM:Addr):Sp:=fun vs H Q _=>∃ (m:Addr) (es:List Ent),vs=[.ref m]/\MkAt c CM (noT H) m es/\Q (.int (tot es:Nat)) H
def RowAt (H:Hp)(v:V)(e:Ent):Prop:=∃ (t:Addr) (b:V),v=.ref t/\H t=some (.tup [.int (e.key:Nat),.str (kS (kdOf e.ps)),b])/\BodyIs H (kdOf e.ps) e.ps b
def spToldM (c:Kd->Addr)(CM:Addr):Sp:=fun vs H Q _=>∃ (m:Addr) (es:List Ent),vs=[.ref m]/\MkAt c CM (noT H) m es/\EsOk es/\∀ l us H',Same H H'->H' l=some (.lst us)->Paired (RowAt H') us es->Q (.ref l) H'
theorem Zhh (B:Blt mg)(cd:CD_Marks K mg CM):MethAt P w K mg base CM "key_list" ["self"] 1 (spKeyList c CM):=by refine MethAt.of cd.c cd.m_key_list jaa ?_ ?_;walk_at "F";have nd:=jaa.nd;obtain ⟨m,es,rfl,hm,q⟩:=h;obtain ⟨dx,kd,ah,sr,h1,h2,_⟩:=hm.ex;refine ⟨_,(Zag (Zak (ZcI (Zb9 K) rfl B.lst boot_list (Zaa (Zam K (pv 0)) Zab)))),?_⟩;walk_at "vc";exact ⟨_,_,_,(oT h1),cd.c,cd.n_keyed,.ref kd,rfl,kd,rfl,_,.inl (sL h2),q⟩
theorem Zjy (cd:CD_Marks K mg CM):MethAt P w K mg base CM "many" ["self"] 1 (spManyMM c CM):=by refine MethAt.of cd.c cd.m_many jaW ?_ ?_;walk_at "F";have nd:=jaW.nd;obtain ⟨m,es,rfl,hm,q⟩:=h;obtain ⟨dx,kd,ah,sr,h1,_⟩:=hm.ex;refine ⟨_,(Zag (Zak (Zam K (pv 0)))),?_⟩;walk_at "vc";exact ⟨_,_,_,(oT h1),cd.c,cd.n_held,_,rfl,q⟩
theorem ZhU (jj:MethAt P w K mg base CM "stretch_at" ["self","key"] 5 (spStAt c CM ts))(hw:∀ k,MethAt P w K mg base (c k) "word" ["self"] 4 (spWordM c k))(cd:CD_Marks K mg CM):MethAt P w K mg base CM "word_at" ["self","key"] 6 (spWordAt c CM ts):=by
 refine MethAt.of cd.c cd.m_word_at jan ?_ ?_;walk_at "F";have nd:=jan.nd;obtain ⟨m,k,es,rfl,hm,ok,ht,q⟩:=h;obtain ⟨dx,fs,ho,nf⟩:=hm.obj;refine ⟨_,(Zad (Zaz (i:=2) (Zap P w K mg base 5 (pv 0) (Zaa (pv 1) Zab)))
     (Zag (Zak (Zbo (Za0 Zfe (pv 2) ZbA) Zaf (ZaG P w K mg base 4 (pv 2)))))),?_⟩
 walk_at "vc";refine ⟨_,_,_,(oT ho),nf.2.2.2.1,_,_,jj,m,k,es,rfl,hm,ok,ht,fun H' nx=>?_⟩;have q:=q H' nx;have hm:=hm.same nx.same;rcases Zbh k ok.up with z | ⟨e,z1,z2,z3⟩
 . rw [(ZbD z).1]
   rw [(ZbD z).2] at q;show if V.non=V.non then _ else _
   rw [if_pos rfl];exact q
 . rw [(Zbf z1).1]
   rw [(Zbf z1).2] at q;have st:=(hm.st e z3).same noT_sub;obtain ⟨dx2,fs2,ho2,nf2⟩:=st.obj;show if V.ref e.loc=V.non then _ else _
   rw [if_neg (by intro y;cases y)];exact ⟨_,rfl,_,_,_,ho2,nf2.2.2.1,_,_,hw _,e.loc,e.ps,rfl,st,ok.pup e z3,ok.plt e z3,q⟩
theorem BodyIs.away {k:Kd}{v:V}{D:Addr}{o:HO}(h:BodyIs H k ps v)(n:∀ l,v=.ref l->l≠D)(hD:H D=some (.lst ys)):BodyIs (upd H D o) k ps v:=by
 cases k with
 | l =>
   obtain ⟨l,e,h⟩:=h;exact ⟨l,e,by rw [Zai (n l e)];exact h⟩
 | b=>exact h
 | r =>
   obtain ⟨l,e,us,h,t⟩:=h;exact ⟨l,e,us,by rw [Zai (n l e)];exact h,Paired.mapP t fun _ _ ⟨t,e,ht⟩=>⟨t,e,by rw [Zai (fun z=>by rw [z,hD] at ht;cases ht)];exact ht⟩⟩
def RowD (D:Addr)(H:Hp)(v:V)(e:Ent):Prop:=∃ (t:Addr) (b:V),v=.ref t/\H t=some (.tup [.int (e.key:Nat),.str (kS (kdOf e.ps)),b])/\BodyIs H (kdOf e.ps) e.ps b/\∀ l,b=.ref l->l≠D
theorem RowD.away {D:Addr}{v:V}{e:Ent}{o:HO}(h:RowD D H v e)(hD:H D=some (.lst ys)):RowD D (upd H D o) v e:=by obtain ⟨t,b,e1,h1,h2,h3⟩:=h;exact ⟨t,b,e1,by rw [Zai (fun z=>by rw [z,hD] at h1;cases h1)];exact h1,h2.away h3 hD,h3⟩
theorem RowD.same {D:Addr}{v:V}{e:Ent}(h:RowD D H v e)(s:Same H H'):RowD D H' v e:=by obtain ⟨t,b,e1,h1,h2,h3⟩:=h;exact ⟨t,b,e1,s _ _ h1,h2.same s,h3⟩
theorem Paired.snoc {α β:Type}{F:α->β->Prop}:∀ {us:List α} {es:List β} {u:α} {e:β},Paired F us es->F u e->Paired F (us++[u]) (es++[e])
 | _,_,_,_,.nil,h=>.cons h .nil
 | _,_,_,_,.cons r q,h=>.cons r (Paired.snoc q h)
structure ToI (es:List Ent)(H:Hp)(D:Addr)(i:Nat)(ys:List V)(H':Hp):Prop where
 le:i<=es.length
 len:ys.length=i
 same:Same H H'
 hD:H' D=some (.lst ys)
 rows:Paired (RowD D H') ys (es.take i)
theorem ok_toldM (B:Blt mg)(hk:∀ k,MethAt P w K mg base (c k) "kind" ["self"] 4 (spKindS k))(hb:∀ k,MethAt P w K mg base (c k) "body" ["self"] 4 (spBodyN c k))(cd:CD_Marks K mg CM):MethAt P w K mg base CM "told" ["self"] 5 (spToldM c CM):=by
 refine MethAt.of cd.c cd.m_told jaX ?_ ?_;walk_at "F";have nd:=jaX.nd;obtain ⟨m,es,rfl,hm,ok,q⟩:=h;obtain ⟨dx,kd,ah,sr,h1,h2,h3,h4⟩:=hm.ex;refine ⟨_,(Zag (Zak (ZbQ ["key","stretch"] [] rfl (Zje K rfl B.zip (Zaa (Zam K (pv 0)) (Zaa (Zam K (pv 0)) Zab))) (fun _ _ _ _ _=>ZcY (n:=2) K rfl (ZaI (Za2 (i:=0) (by show List.Nodup (["key","stretch"]:List Str);decide +kernel) rfl (Or.inl rfl)) (ZaI (Za2 (i:=1) (by show List.Nodup (["key","stretch"]:List Str);decide +kernel) rfl (Or.inl rfl)) ZcT))) (fun _ _ _ _ _=>ZdG) (fun _ _ _ _ _=>(Zcx (Zaa (pv 0) (Zaa (ZaG P w K mg base 4 (pv 1)) (Zaa (ZaG P w K mg base 4 (pv 1)) Zab))))) trivial ZjO))),?_⟩;walk_at "vc";refine ⟨_,_,_,(oT h1),cd.c,cd.n_keyed,.ref kd,rfl,_,_,_,(oT h1),cd.c,cd.n_stretches,.ref sr,rfl,kd,sr,⟨rfl,rfl⟩,⟨_,sL h2⟩,⟨_,sL h4⟩,compG (n:=es.length) (ToI es H) (fun D nD=>⟨yax _,rfl,Same.new nD,Zac,.nil⟩) (fun D i ys H h=>h.le) ?_ ?_ ?_ ?_⟩
 . rintro D ys H3 nD ⟨_,_,sm,_,_⟩
   exact ⟨_,_,SqL.of (sm _ _ (oT h2)),SqL.of (sm _ _ (oT h4)),.inr (by rw [yad];exact yag _)⟩
 . rintro D i ys H3 nD hi ⟨_,_,sm,_,_⟩
   exact ⟨_,_,_,_,SqL.of (sm _ _ (oT h2)),SqL.of (sm _ _ (oT h4)),yae (by rw [Zal];unfold kys;rw [yad];exact hi),yae (by rw [yad];exact hi)⟩
 . rintro D i ys H3 x H4 nD hi ⟨le,len,sm,hD,rows⟩ ⟨T,x1,y1,rfl,nT,rfl,gx,gy⟩
   have he:es[i]?=some es[i]:=yae hi;generalize es[i]=e at he;obtain rfl:x1=.int (e.key:Nat):=by have:=gx _ (SqL.of (sm _ _ (oT h2)));obtain ⟨p,hp,rfl⟩:=ZaR this;rw [ZeP he] at hp;cases hp;rfl
   obtain rfl:y1=.ref e.loc:=by have:=gy _ (SqL.of (sm _ _ (oT h4)));rw [yav,he] at this;exact (Option.some.inj this).symm
   have hin:=yao he;have sT:=Same.new (o:=.tup [.int (e.key:Nat),.ref e.loc]) nT;have st:=(((hm.st e hin).same noT_sub).same sm).same sT;have hD2:=sT _ _ hD;have rows:=Paired.mapP rows fun _ _ h=>h.same sT
   walk_at "vc";refine ⟨_,SqT.of Zac,rfl,?_⟩;walk_at "vc";generalize upd H3 T (.tup [.int (e.key:Nat),.ref e.loc])=H4 at sT st hD2 rows ⊢;obtain ⟨dx2,fs2,ho2,nf2⟩:=st.obj;refine ⟨_,_,⟨rfl,rfl⟩,_,_,rfl,rfl,_,rfl,_,_,_,ho2,nf2.1,_,_,hk _,e.loc,rfl,_,rfl,_,_,_,ho2,nf2.2.1,_,_,hb _,e.loc,e.ps,rfl,st,fun b H5 s5 bi fr=>⟨by decide,fun p np=>?_⟩⟩;have sp:=Same.new (o:=.tup [.int (e.key:Nat),.str (kS (kdOf e.ps)),b]) np;have gp:upd H5 p (.tup [.int (e.key:Nat),.str (kS (kdOf e.ps)),b]) p=some (.tup [.int (e.key:Nat),.str (kS (kdOf e.ps)),b]):=Zac;generalize upd H5 p (.tup [.int (e.key:Nat),.str (kS (kdOf e.ps)),b])=H6 at sp gp ⊢;have hD5:=sp _ _ (s5 _ _ hD2);have rows5:=Paired.mapP rows fun _ _ h=>h.same (s5.trans sp)
   have les:=Zdh ok;have tk:es.take (i+1)=es.take i++[e]:=by rw [ybk,he];rfl
   refine compYes (by omega) hi (by omega) hD5 ⟨hi,by rw [yac,len];rfl,((sm.trans sT).trans (s5.trans sp)).put nD,Zac,?_⟩;rw [tk];have row:RowD D H6 (.ref p) e:=⟨p,b,rfl,gp,bi.same sp,fun l el z=>by
     have:=fr l el;rw [z,hD2] at this;cases this⟩
   exact Paired.snoc (Paired.mapP rows5 fun _ _ h=>h.away hD5) (row.away hD5)
 . rintro D ys H3 nD ⟨le,len,sm,hD,rows⟩
   rw [yas (yag _)] at rows;exact q D ys H3 sm hD (Paired.mapP rows fun _ _ ⟨t,b,e1,h1,h2,_⟩=>⟨t,b,e1,h1,h2⟩)
theorem ZiP {H:Hp}:∀ {us:List V} {ks as:List Nat},PrOf H us ((pint ks).zip (pint as))->Tups H us (ks.zip as)
 | _,[],_,h=>by cases h;exact .nil
 | _,_::_,[],h=>by cases h;exact .nil
 | _,k::ks,a::as,h=>by
   cases h with
   | cons r q=>exact .cons r (ZiP q)
def spBookM (c:Kd->Addr)(CM:Addr):Sp:=fun vs H Q _=>∃ (m:Addr) (es:List Ent),vs=[.ref m]/\MkAt c CM (noT H) m es/\∀ l us H',Same H H'->H' l=some (.lst us)->Tups H' us ((kys es).zip (ahs 0 es))->Q (.ref l) H'
theorem ok_bookM (B:Blt mg)(cd:CD_Marks K mg CM):MethAt P w K mg base CM "book" ["self"] 1 (spBookM c CM):=by refine MethAt.of cd.c cd.m_book jaY ?_ ?_;walk_at "F";have nd:=jaY.nd;obtain ⟨m,es,rfl,hm,q⟩:=h;obtain ⟨dx,kd,ah,sr,h1,h2,h3,h4⟩:=hm.ex;refine ⟨_,(Zag (Zak (ZhH K rfl rfl B.lst rfl B.zip (Zaa (Zam K (pv 0)) (Zaa (Zam K (pv 0)) Zab))))),?_⟩;walk_at "vc";refine ⟨_,_,_,(oT h1),cd.c,cd.n_keyed,.ref kd,rfl,_,_,_,(oT h1),cd.c,cd.n_aheads,.ref ah,rfl,kd,ah,⟨rfl,rfl⟩,_,sL h2,_,sL h3,?_,fun p us H2 s2 np hp pr _=>q p us H2 s2 hp (ZiP pr)⟩;rw [Zal,Zal,ZbF];unfold kys;rw [yad]
def rowD (e:Ent):PyData:=.tuple [.int (e.key:Nat),.str (kS (kdOf e.ps)),bodyD (kdOf e.ps) e.ps]
theorem Ze5 {H:Hp}:∀ {us:List V} {es:List Ent},Paired (RowAt H) us es->RdDs K H us (es.map rowD)
 | _,_,.nil=>.nil
 | _,_,.cons ⟨t,b,e,h,hb⟩ r=>by
   subst e;exact .cons (.tup (SqT.of h) (.cons (.int _) (.cons (.str _) (.cons (rd_body hb) .nil)))) (Ze5 r)
theorem ZhN:∀ es:List Ent,PyData.canLayAll0 (es.map rowD)=true/\PyData.depthAll (es.map rowD)<=3
 | []=>⟨rfl,by decide⟩
 | e :: r=>by
   obtain ⟨h1,h2⟩:=ZhN r;obtain ⟨b1,b2⟩:=lay_body (kdOf e.ps) e.ps;have hs:PyData.canLay0 (.str (kS (kdOf e.ps)))=true:=by cases kdOf e.ps<;>decide +kernel
   rw [yaC];refine ⟨?_,?_⟩
   . simp only [PyData.canLayAll0,rowD,PyData.canLay0,b1,h1,ycs]
     exact hs
   . simp only [PyData.depthAll,rowD,PyData.depth]
     omega
theorem Zft:∀ es:List Ent,SeqAt.noMixAll (es.map rowD) (es.map rowD)=true
 | []=>by simp only [List.map_nil,SeqAt.noMixAll]
 | e :: r=>by
   have h:SeqAt.noMix (rowD e) (rowD e)=true:=by have:=ZiC (kdOf e.ps) e.ps;simp only [toldD,SeqAt.noMix,SeqAt.noMixAll,ycs,Bool.true_and] at this;simp only [rowD,SeqAt.noMix,SeqAt.noMixAll,ycs,Bool.true_and];exact this
   rw [yaC];simp only [SeqAt.noMixAll,h,Zft r,Bool.and_self]
theorem ZjE {Q:VK}{a b:Addr}{us vs:List V}{es es':List Ent}(ha:H a=some (.lst us))(hb:H b=some (.lst vs))(h1:Paired (RowAt H) us es)(h2:Paired (RowAt H) vs es')(e:es.map rowD=es'.map rowD)(q:Q (.bl true) H):rEqD K (.ref a) (.ref b) H Q:=by
 have r2:=Ze5 (K:=K) h2;rw [<- e] at r2;obtain ⟨l1,l2⟩:=ZhN es;have sh:SeqAt.shaped (.list (es.map rowD))=true:=by
   show (PyData.canLay0 (.list (es.map rowD))&&decide (PyData.depth (.list (es.map rowD))<=64))=true;rw [ybE];refine ⟨?_,yak ?_⟩
   . simp only [PyData.canLay0]
     exact l1
   . simp only [PyData.depth]
     omega
 exact ⟨.list (es.map rowD),.list (es.map rowD),.lst (SqL.of ha) (Ze5 h1),.lst (SqL.of hb) r2,sh,sh,by simp only [SeqAt.noMix];exact Zft es,by rw [PySem.Spec.same_self];exact q⟩
def kpE (e:Ent):Nat × List Nat:=(e.key,e.ps)
theorem ent_plc {es:List Ent}(ok:EsOk es){e:Ent}(he:e∈es):plcE e.key es=e.ps:=by
 rcases Zbh e.key ok.up with z | ⟨e',z1,z2,z3⟩
 . have:e∈miE e.key es:=yau.mpr ⟨he,yak rfl⟩
   rw [z] at this;cases this
 . have:e∈miE e.key es:=yau.mpr ⟨he,yak rfl⟩
   rw [z1,yaa] at this;rw [(Zbf z1).2,this]
theorem ZdR {es:List Ent}(ok:EsOk es)(k:Nat):k∈kys es↔∃ n∈flat es,n/256=k:=by
 constructor
 . intro h
   obtain ⟨e,he,rfl⟩:=yaJ.mp h;obtain ⟨p,r,ep⟩:=List.exists_cons_of_ne_nil (ok.ne e he);have hp:p∈e.ps:=by rw [ep];exact .head _
   have:=ok.plt e he p hp;exact ⟨256*e.key+p,(Zb0 ok.plt).mpr ⟨e,he,by omega,by rw [show (256*e.key+p)%256=p by omega];exact hp⟩,by omega⟩
 . rintro ⟨n,hn,rfl⟩
   obtain ⟨e,he,h1,_⟩:=(Zb0 ok.plt).mp hn;exact yaJ.mpr ⟨e,he,h1⟩
theorem ZiF {es:List Ent}(ok:EsOk es)(k:Nat):Up 0 (plcE k es)/\∀ p∈plcE k es,p<256:=by
 rcases Zbh k ok.up with z | ⟨e,z1,z2,z3⟩
 . rw [(ZbD z).2]
   exact ⟨trivial,fun _ h=>nomatch h⟩
 . rw [(Zbf z1).2]
   exact ⟨ok.pup e z3,ok.plt e z3⟩
theorem ZdX {es:List Ent}(ok:EsOk es){k p:Nat}(hp:p<256):p∈plcE k es↔256*k+p∈flat es:=by rw [ZaL ok,show (256*k+p)%256=p by omega,show (256*k+p)/256=k by omega]
theorem kp_eq {es es':List Ent}(ok:EsOk es)(ok':EsOk es')(e:flat es=flat es'):es.map kpE=es'.map kpE:=by
 have hp:∀ k,plcE k es=plcE k es':=fun k=>by
   obtain ⟨u1,l1⟩:=ZiF ok k;obtain ⟨u2,l2⟩:=ZiF ok' k;refine Up.ext u1 u2 fun p=>⟨fun h=>?_,fun h=>?_⟩
   . have:=l1 p h
     rw [ZdX ok' this,<- e,<- ZdX ok this];exact h
   . have:=l2 p h
     rw [ZdX ok this,e,<- ZdX ok' this];exact h
 have hk:kys es=kys es':=Up.ext ok.up ok'.up fun k=>by rw [ZdR ok,ZdR ok',e]
 have f:∀ {es:List Ent},EsOk es->es.map kpE=(kys es).map fun k=>(k,plcE k es):=fun {es} ok=>by
   unfold kys;rw [ybl];exact ybV fun e he=>by show (e.key,e.ps)=(e.key,plcE e.key es);rw [ent_plc ok he]
 rw [f ok,f ok',hk];exact ybV fun k _=>by rw [hp]
theorem rows_kp {es es':List Ent}(e:es.map kpE=es'.map kpE):es.map rowD=es'.map rowD:=by
 have f:∀ es:List Ent,es.map rowD=(es.map kpE).map fun p=>.tuple [.int (p.1:Nat),.str (kS (kdOf p.2)),bodyD (kdOf p.2) p.2]:=fun es=>by rw [ybl];rfl
 rw [f,f,e]
end
theorem Zgh {ks:List Int}:∀ {a:Nat},ks.Pairwise (·<·)->(∀ y∈ks,(a:Int)<=y)->∃ os:List Nat,ks=os.map (fun (o:Nat)=>(o:Int))/\Up a os:=by
 induction ks with
 | nil=>exact fun _ _=>⟨[],rfl,trivial⟩
 | cons x r ih =>
   intro a so h;obtain ⟨h1,h2⟩:=ybZ.mp so;have hx:=h x (.head _);obtain ⟨os,e,u⟩:=ih (a:=x.toNat+1) h2 fun y hy=>by have:=h1 y hy;omega
   refine ⟨x.toNat::os,?_,by omega,u⟩;rw [yaC,<- e,ybQ (by omega)]
theorem Zfy {k:Nat}{os:List Nat}:(k:Int)∈os.map (fun (o:Nat)=>(o:Int))↔k∈os:=by
 rw [yaJ];constructor
 . rintro ⟨o,ho,e⟩
   have:o=k:=by omega
   rw [<- this];exact ho
 . exact fun h=>⟨k,h,rfl⟩
theorem Zdg {a:Nat}(h:Up a ps):ps.Nodup:=by
 have h2:(ps.map fun (p:Nat)=>(p:Int)).Nodup:=(Ze1 h).imp fun h=>Int.ne_of_lt h
 exact List.Pairwise.of_map (fun (p:Nat)=>(p:Int)) (fun a b h e=>h (by rw [e])) h2
structure JoI (c:Kd->Addr)(ts:Tabs)(H:Hp)(ks:List Nat)(g:Nat->List Nat)(D:Addr)(i:Nat)(ys:List V)(H':Hp):Prop where
 le:i<=ks.length
 len:ys.length=i
 nx:Nx ts H H'
 hD:noT H' D=some (.lst ys)
 gp:Gp c (noT H') g ys (ks.take i)
section
variable {c:Kd->Addr}{ts:Tabs}
theorem ZjG {l:Addr}{g:Nat->List Nat}{σ0:L2.St}{H1:Hp}{Q:VK}(hl:noT H1 l=some (.lst (pint ks)))(ht:Tbs ts H1)(uk:Up 0 ks)(hk:∀ k∈ks,k<256/\Up 0 (g k)/\∀ p∈g k,p<256)
   (el:∀ k∈ks,∀ H2 (R:VK),Nx ts H1 H2->(∀ v H3 t,Nx ts H2 H3->KeptIs c H3 (g k) v->H3 t=none->R (.ref t) (upd H3 t (.tup [.int (k:Nat),v])))->te ((capSt 1 caps σ0).set 0 (some (.int (k:Nat)))) H2 R)
   (q:∀ m H' es,Nx ts H1 H'->noT H1 m=none->MkAt c CM (noT H') m es->EsOk es->(∀ k,plcE k es=if k∈ks then g k else [])->Q (.ref m) H') :
   CompJ (Itl K l) 1 caps (gName 0) tNoTest te σ0 H1 (fun x H=>spGath c CM ts [x] H Q E0):=by
 have lk:ks.length<=256:=Up.lt256 uk fun k hk'=>(hk k hk').1
 refine compG (n:=ks.length) (JoI c ts H1 ks g) (fun D nD=>⟨yax _,rfl,Nx.new ht nD,nU,.nil⟩) (fun D i ys H h=>h.le) ?_ ?_ ?_ ?_
 . rintro D ys H3 nD ⟨_,_,nx,_,_⟩
   exact ⟨_,sL (nx.at hl),by rw [Zal];exact yag _⟩
 . rintro D i ys H3 nD hi ⟨_,_,nx,_,_⟩
   exact ⟨_,_,sL (nx.at hl),yae (by rw [Zal];exact hi)⟩
 . rintro D i ys H3 x H4 nD hi ⟨le,len,nx,hD,gp⟩ ⟨rfl,yy⟩
   obtain ⟨k,hk',rfl⟩:=ZaR (yy _ (sL (nx.at hl)));have pk:=yao hk';obtain ⟨k0,up,lt⟩:=hk k pk;show te ((capSt 1 caps σ0).set 0 (some (.int (k:Nat)))) H4 _;refine el k pk H4 _ nx fun v H5 t nx5 kp ft=>?_
   have nx6:=Nx.new (o':=.tup [.int (k:Nat),v]) nx5.tb ft;have g6:noT (upd H5 t (.tup [.int (k:Nat),v])) t=some (.tup [.int (k:Nat),v]):=Zan Zac (nt _);have kp:=(kp.same (Same.new (o:=.tup [.int (k:Nat),v]) ft)).noT;generalize upd H5 t (.tup [.int (k:Nat),v])=H6 at nx6 g6 kp ⊢;have nx7:=nx5.trans nx6;have hD:=nx7.at hD;have gp:=gp.same nx7.same;have al:=gp.all;have tk:ks.take (i+1)=ks.take i++[k]:=by rw [ybk,hk'];rfl
   have nu:noT (upd H6 D (.lst (ys++[.ref t])))=upd (noT H6) D (.lst (ys++[.ref t])):=Zci (nl _) (.inr ⟨_,hD⟩);refine compYes (by omega) hi (by omega) (oT hD) ⟨hi,by rw [yac,len];rfl,(nx.trans nx7).put (ZaU nD) (oT hD) trivial,nU,?_⟩;rw [tk,nu];exact Gp.snoc (Paired.mapP gp fun _ _ h=>KPair.away h hD al) (KPair.away ⟨t,v,rfl,g6,kp,up⟩ hD al)
 . rintro D ys H3 nD ⟨le,len,nx,hD,gp⟩
   rw [yas (yag _)] at gp;exact ⟨D,ys,ks,g,rfl,hD,gp,Zdg uk,hk,by omega,nx.tb,fun m H' es nx2 nm hm ok pl=>q m H' es (nx.trans nx2) (nx.free nm) hm ok pl⟩
end
def spRow51 (K:ZFr):Sp:=fun vs H Q _=>∃ (a:Addr) (ns:List Int) (c:Int),vs=[.ref a,.int c]/\SqL K H a (ns.map V.int)/\∀ r:Nat,r<=65535->Q (.int r) H
theorem ok_row51 (jb:FnAt P w K mg base "_law_mixed" ["_law_cell","_law_k"] 1 spMixed)(je:FnAt P w K mg base "_law_cell_at" ["_law_script","_law_k"] 1 (spCell K))(d:DefAt K mg "_law_row" ZeW ["_law_script","_law_cell"]):FnAt P w K mg base "_law_row" ["_law_script","_law_cell"] 2 (spRow51 K):=by
 refine FnAt.of d jci ?_ ?_;walk_at "F";have nd:=jci.nd;obtain ⟨a,ns,c,rfl,hS,q⟩:=h;refine ⟨_,(Zad (Zaz (i:=2) (Zaj jb (Zaa (pv 1) (Zaa Zaf Zab))))
     (Zad (Zaz (i:=3) (Zaj je (Zaa (pv 0) (Zaa Zaf Zab))))
     (Zad (Zaz (i:=4) (Zah Zar (Zaj jb (Zaa (pv 3) (Zaa (Zah Zav Zaf (Zah Zar (pv 2) Zaf)) Zab))) Zaf))
     (Zad (ZaD (Za0 Zbr (Zah Zar (Zah Zas (pv 2) Zaf) Zaf) Zaf) (Zag (Zak (Zah Zav (Zah Zbt Zaf (pv 4)) (Zah Zar (Zah Zas (pv 2) Zaf) Zaf)))) Zau)
     (Zag (Zak (Zah Zav (Zah Zbt Zaf (pv 4)) (Zah Zar (Zah Zav (Zaj jb (Zaa (pv 3) (Zaa Zaf Zab))) (Zah Zar (Zah Zas (pv 2) Zaf) Zaf)) Zaf)))))))),?_⟩
 walk_at "vc";refine ⟨_,_,rfl,a,ns,0,rfl,hS,_,rfl,_,_,rfl,_,rfl,_,rfl,?_⟩;have fin:∀ x:Int,0<=x->x<=65535->Q (.int x) H:=fun x h0 h1=>by
   have:=q x.toNat (by omega)
   rw [ybQ h0] at this;exact this
 split
 . exact ⟨_,rfl,fin _ (by omega) (by omega)⟩
 . exact ⟨_,_,rfl,_,rfl,_,rfl,fin _ (by omega) (by omega)⟩
def spVal51:Sp:=fun vs H Q _=>∃ (c t:Int),vs=[.int c,.int t]/\0<=t/\t<2^40/\∀ v:Int,0<=v->v<=t->Q (.int v) H
theorem ok_val51 (B:Blt mg)(jb:FnAt P w K mg base "_law_mixed" ["_law_cell","_law_k"] 1 spMixed)(d:DefAt K mg "_law_value" ZdE ["_law_cell","_law_top"]):FnAt P w K mg base "_law_value" ["_law_cell","_law_top"] 2 spVal51:=by
 refine FnAt.of d jbP ?_ ?_;walk_at "F";have nd:=jbP.nd;obtain ⟨c,t,rfl,t0,t1,q⟩:=h;refine ⟨_,(Zad (Zaz (i:=2) (Zaj jb (Zaa (pv 0) (Zaa Zaf Zab))))
     (Zad (Zaz (i:=3) (Zaj jb (Zaa (pv 0) (Zaa Zaf Zab))))
     (Zad (ZaD (Za0 Zbr (Zah Zar (pv 2) Zaf) Zaf) (Zag (Zak (Zah Zar (Zah Zas (pv 2) Zaf) (Zah Zav (ZaB (ZfO rfl) rfl B.min Zf8 (Zaa (pv 1) (Zaa Zaf Zab))) Zaf)))) Zau)
     (Zad (ZaD (Za0 Zbr (Zah Zar (pv 2) Zaf) Zaf) (Zag (Zak (Zah ZaP (pv 1) (Zah Zar (Zah Zas (pv 2) Zaf) (Zah Zav (ZaB (ZfO rfl) rfl B.min Zf8 (Zaa (pv 1) (Zaa Zaf Zab))) Zaf))))) Zau)
     (Zad (ZaD (Za0 Zbr (Zah Zar (pv 2) Zaf) Zaf) (Zag (Zak (Zah Zar (Zah ZaP (Zah Zbe Zaf (Zah Zar (pv 3) Zaf)) (Zah Zar (Zah Zas (pv 2) Zaf) Zaf)) (Zah Zav (pv 1) Zaf)))) Zau)
     (Zag (Zak (Zah Zar (Zah Zav (Zah Zbt (pv 2) Zaf) (pv 3)) (Zah Zav (pv 1) Zaf))))))))),?_⟩
 walk_at "vc";refine ⟨_,_,rfl,_,_,rfl,?_⟩;have em:∀ x y:Int,0<y->0<=x%y/\x%y<y:=fun x y hy=>⟨Int.emod_nonneg x (by omega),ycm x hy⟩
 refine ⟨_,rfl,?_⟩;split
 . refine ⟨_,rfl,_,_,⟨rfl,rfl⟩,?_⟩
   have p:0<(if 3<t then 3 else t)+1:=by split<;>omega
   have:=em (mixI c 21/4) _ p;refine ⟨p,q _ this.1 ?_⟩;have l:(if 3<t then 3 else t)<=t:=by split<;>omega
   omega
 refine ⟨_,rfl,?_⟩;split
 . refine ⟨_,rfl,_,_,⟨rfl,rfl⟩,?_⟩
   have p:0<(if 2<t then 2 else t)+1:=by split<;>omega
   have:=em (mixI c 21/4) _ p;have l:(if 2<t then 2 else t)<=t:=by split<;>omega
   exact ⟨p,q _ (by omega) (by omega)⟩
 refine ⟨_,rfl,?_⟩;have t2:0<t+1:=by omega
 split
 . have f:=em (mixI c 22) 40 (by decide)
   refine ⟨_,rfl,⟨f.1,by omega,by decide⟩,_,rfl,t2,?_⟩;have:=em (1*2^(mixI c 22%40).toNat-mixI c 21/4%2) _ t2;exact q _ this.1 (by omega)
 . have:=em (mixI c 21*2147483629+mixI c 22) _ t2
   exact ⟨_,rfl,_,rfl,t2,q _ this.1 (by omega)⟩
theorem ZcM (c k:Int):0<=mixI c k/\mixI c k<2147483629:=⟨Int.emod_nonneg _ (by decide),ycm _ (by decide)⟩
structure Dn (kvs:List (Key × V))(ms:List Nat):Prop where
 keys:kvs.map (·.1)=ms.map fun (k:Nat)=>(Sum.inl (k:Int):Key)
 nd:ms.Nodup
theorem Zc2 (kvs:List (Key × V))(k:Key)(v:V):(putK kvs k v).map (·.1)=if (valV kvs k).isSome=true then kvs.map (·.1) else kvs.map (·.1)++[k]:=by
 unfold putK;rw [Zb1];split
 . rw [ybl]
   refine ybV fun kv _=>?_
   show (if kv.1=k then (kv.1,v) else kv).1=kv.1;split<;>rfl
 . rw [yaP]
   rfl
theorem inl_nat {x n:Nat}:(Sum.inl (x:Int):Key)=Sum.inl (n:Int)↔x=n:=⟨fun e=>by have:=Sum.inl.inj e;omega,fun e=>by rw [e]⟩
theorem Dn.some (h:Dn kvs ms)(n:Nat):(valV kvs (Sum.inl (n:Int))).isSome=decide (n∈ms):=by
 have e:(kvs.any fun kv=>decide (kv.1=(Sum.inl (n:Int):Key)))=(kvs.map (·.1)).any fun k=>decide (k=(Sum.inl (n:Int):Key)):=by rw [List.any_map];rfl
 rw [<- Zb1,e,h.keys,List.any_map,ybJ,List.any_eq_true,yaz];constructor
 . rintro ⟨k,hk,e⟩
   rw [<- inl_nat.mp (ybo e)];exact hk
 . exact fun hn=>⟨n,hn,yak rfl⟩
theorem Dn.put (h:Dn kvs ms)(n:Nat)(v:V):∃ ms',Dn (putK kvs (Sum.inl (n:Int)) v) ms'/\(∀ x,x∈ms'↔x∈ms\/x=n)/\ms'.length<=ms.length+1:=by
 by_cases hn:n∈ms
 . refine ⟨ms,⟨?_,h.nd⟩,fun x=>⟨.inl,fun z=>z.elim id fun z=>z ▸ hn⟩,yca _⟩
   rw [Zc2,if_pos (by rw [h.some];exact yak hn),h.keys]
 . refine ⟨ms++[n],⟨?_,?_⟩,fun x=>by rw [yaf,yaa],by rw [yac];exact yag _⟩
   . rw [Zc2,if_neg (by rw [h.some,yaz];exact hn),h.keys,yaP]
     rfl
   . rw [ycf]
     refine ⟨h.nd,ybD.mpr ⟨yaX,.nil⟩,fun a ha b hb e=>hn ?_⟩;rw [yaa.mp hb] at e;rw [<- e];exact ha
theorem Dn.drop (h:Dn kvs ms)(n:Nat):Dn (dropK kvs (Sum.inl (n:Int))) (ms.filter fun x=>decide (x≠n)):=by
 refine ⟨?_,h.nd.filter _⟩;unfold dropK;have e:(kvs.filter fun kv=>decide (kv.1≠(Sum.inl (n:Int):Key))).map (·.1)=(kvs.map (·.1)).filter fun k=>decide (k≠(Sum.inl (n:Int):Key)):=by rw [ybw];rfl
 rw [e,h.keys,ybw];congr 1
 refine yby fun x _=>?_
 show decide ((Sum.inl (x:Int):Key)≠Sum.inl (n:Int))=decide (x≠n);rw [yaS];exact ⟨fun h e=>h (by rw [e]),fun h e=>h (inl_nat.mp e)⟩
theorem Dn.len (h:Dn kvs ms):kvs.length=ms.length:=by have:=congrArg List.length h.keys;rw [yad,yad] at this;exact this
section
variable {ts:Tabs}{m d:Addr}{H2:Hp}
end
section
variable {c:Kd->Addr}{ts:Tabs}{m d:Addr}{es:List Ent}
end
theorem Zgk {zs:List Int}(h:Dn kvs ms)(pm:zs.Perm (ms.map fun (n:Nat)=>(n:Int)))(so:zs.Pairwise (·<=·)):∃ os:List Nat,zs.map V.int=pint os/\Up 0 os/\(∀ n,n∈os↔n∈ms)/\os.length=ms.length:=by
 have n1:(ms.map fun (n:Nat)=>(n:Int)).Nodup:=by rw [List.Nodup,List.pairwise_map];exact h.nd.imp fun h e=>h (by omega)
 have lt:zs.Pairwise (·<·):=(so.and (pm.nodup_iff.mpr n1)).imp fun h=>by omega
 have mem:∀ y,y∈zs↔∃ n∈ms,(n:Int)=y:=fun y=>by rw [pm.mem_iff,yaJ]
 obtain ⟨os,eo,uo⟩:=Zgh (a:=0) lt fun y hy=>by
   obtain ⟨n,_,rfl⟩:=(mem y).mp hy;omega
 refine ⟨os,by rw [eo,<- ZcD],uo,fun n=>?_,?_⟩
 . have:=mem (n:Int)
   rw [eo,Zfy] at this;rw [this];constructor
   . rintro ⟨k,hk,e⟩
     have:k=n:=by omega
     rw [<- this];exact hk
   . exact fun hn=>⟨n,hn,rfl⟩
 . have:=pm.length_eq
   rw [eo,yad,yad] at this;exact this
theorem Ze6 (kvs:List (Key × V)){k j:Key}(n:j≠k):valV (dropK kvs k) j=valV kvs j:=by
 unfold valV dropK;rw [List.find?_filter];congr 2
 funext x;by_cases c:x.1=j
 . simp [c,n]
 . simp [c]
def Loose (H:Hp)(b:Addr):Prop:=(∃ o,H b=some o/\Four o)\/∃ kvs,H b=some (.dK kvs)
theorem Loose.no {b:Addr}{o:HO}(h:Loose H b)(e:H b=some o)(n1:¬ Four o)(n2:∀ kvs,o≠.dK kvs):False:=by
 rcases h with ⟨o',e',f⟩ | ⟨kvs,e'⟩
 . rw [e] at e'
   cases e';exact n1 f
 . rw [e] at e'
   exact n2 kvs (Option.some.inj e')
theorem Zbu:¬ Four (.lst xs):=fun ⟨_,_,_,_,_,_,z⟩=>by cases z
theorem four_tup:¬ Four (.tup xs):=fun ⟨_,_,_,_,_,_,z⟩=>by cases z
theorem Zfk {dx:Addr}{f:Str × V}:¬ Four (.ins C dx [f]):=fun ⟨_,_,_,_,_,_,z⟩=>by cases z
section
variable {c:Kd->Addr}{F:Addr->Prop}
theorem StAt.off {k:Kd}{x:Addr}(hF:∀ b,F b->Loose H b)(h:StAt c k H x ps)(s:∀ b o,¬ F b->H b=some o->H' b=some o):StAt c k H' x ps:=by
 have go:∀ {b o},H b=some o->¬ Four o->(∀ kvs,o≠.dK kvs)->H' b=some o:=fun {b o} e n1 n2=>s b o (fun z=>(hF b z).no e n1 n2) e
 cases k with
 | l =>
   obtain ⟨dx,l,e,h⟩:=h;exact ⟨dx,l,go e Zfk (fun _ z=>by cases z),go h Zbu (fun _ z=>by cases z)⟩
 | b =>
   obtain ⟨dx,e⟩:=h;exact ⟨dx,go e Zfk (fun _ z=>by cases z)⟩
 | r =>
   obtain ⟨dx,l,e,us,h,t⟩:=h;exact ⟨dx,l,go e Zfk (fun _ z=>by cases z),us,go h Zbu (fun _ z=>by cases z),Paired.mapP t fun _ _ ⟨t,e,ht⟩=>⟨t,e,go ht four_tup (fun _ z=>by cases z)⟩⟩
theorem MkAt.off {m:Addr}{es:List Ent}(hF:∀ b,F b->Loose H b)(h:MkAt c CM H m es)(n:¬ F m)(s:∀ b o,¬ F b->H b=some o->H' b=some o):MkAt c CM H' m es:=by
 have go:∀ {b o},H b=some o->¬ Four o->(∀ kvs,o≠.dK kvs)->H' b=some o:=fun {b o} e n1 n2=>s b o (fun z=>(hF b z).no e n1 n2) e
 obtain ⟨⟨dx,kd,ah,sr,h1,h2,h3,h4⟩,st⟩:=h;exact ⟨⟨dx,kd,ah,sr,s _ _ n h1,go h2 Zbu (fun _ z=>by cases z),go h3 Zbu (fun _ z=>by cases z),go h4 Zbu (fun _ z=>by cases z)⟩,fun e he=>(st e he).off hF s⟩
end
structure ColD where
 mv:Addr
 dn:Addr
 dk:Addr
 ev:List Ent
 kn:List (Key × V)
 ns:List Nat
 kk:List (Key × V)
 ks:List Nat
 A:Nat->Addr
 E:Nat->List Ent
 B:Nat->Addr
 kb:Nat->List (Key × V)
 nb:Nat->List Nat
def ColD.F (D:ColD)(b:Addr):Prop:=b=D.mv\/b=D.dn\/b=D.dk\/(∃ n∈D.ns,b=D.A n)\/∃ k∈D.ks,b=D.B k
structure ColAt (c:Kd->Addr)(CM C:Addr)(f:Str)(t:Int)(H:Hp)(x:Addr)(D:ColD)(S:Nat->Prop)(R:Nat->Nat->Prop)(U:Nat->Prop)(T:Nat->Nat->Prop):Prop where
 hx:∃ dx,H x=some (.ins C dx [("valued",.ref D.mv),("by_number",.ref D.dn),("by_key",.ref D.dk),(f,.int t)])
 hv:MkAt c CM H D.mv D.ev
 okv:EsOk D.ev
 hn:H D.dn=some (.dK D.kn)
 dnn:Dn D.kn D.ns
 hk:H D.dk=some (.dK D.kk)
 dnk:Dn D.kk D.ks
 an:∀ n∈D.ns,valV D.kn (Sum.inl (n:Int))=some (.ref (D.A n))/\MkAt c CM H (D.A n) (D.E n)/\EsOk (D.E n)
 ak:∀ k∈D.ks,valV D.kk (Sum.inl (k:Int))=some (.ref (D.B k))/\H (D.B k)=some (.dK (D.kb k))/\Dn (D.kb k) (D.nb k)
 a1:∀ n∈D.ns,D.A n≠D.mv
 a2:∀ n∈D.ns,∀ m∈D.ns,D.A n=D.A m->n=m
 kl:∀ k∈D.ks,k<256
 b1:D.dn≠D.dk
 b2:∀ k∈D.ks,D.B k≠D.dn/\D.B k≠D.dk
 b3:∀ k∈D.ks,∀ j∈D.ks,D.B k=D.B j->k=j
 m1:∀ r,r∈flat D.ev↔S r
 m2:∀ n∈D.ns,∀ r,r∈flat (D.E n)↔R n r
 m3:∀ k n,(k∈D.ks/\n∈D.nb k)↔T k n
 m4:∀ n,n∈D.ns↔U n
theorem ZbW {c:Kd->Addr}{m d:Addr}{es:List Ent}(h:MkAt c CM H m es)(e:H d=some (.dK kvs)):m≠d:=fun z=>by
 obtain ⟨dx,fs,ho,_⟩:=h.obj;rw [z,e] at ho;cases ho
section
variable {c:Kd->Addr}{f:Str}{t:Int}{x:Addr}{D:ColD}{S S':Nat->Prop}{R R':Nat->Nat->Prop}{U U':Nat->Prop}{T T':Nat->Nat->Prop}
theorem ColAt.imp (h:ColAt c CM C f t H x D S R U T)(h1:∀ r,S r↔S' r)(h2:∀ n r,U n->(R n r↔R' n r))(h3:∀ n,U n↔U' n)(h4:∀ k n,T k n↔T' k n):ColAt c CM C f t H x D S' R' U' T' :=
 { h with m1:=fun r=>(h.m1 r).trans (h1 r),m2:=fun n hn r=>(h.m2 n hn r).trans (h2 n r ((h.m4 n).mp hn)),m3:=fun k n=>(h.m3 k n).trans (h4 k n),m4:=fun n=>(h.m4 n).trans (h3 n) }
theorem ColAt.loose (h:ColAt c CM C f t H x D S R U T):∀ b,D.F b->Loose H b:=by
 rintro b (rfl | rfl | rfl | ⟨n,hn,rfl⟩ | ⟨k,hk,rfl⟩)
 . exact .inl h.hv.four
 . exact .inr ⟨_,h.hn⟩
 . exact .inr ⟨_,h.hk⟩
 . exact .inl (h.an n hn).2.1.four
 . exact .inr ⟨_,(h.ak k hk).2.1⟩
theorem ColAt.notF (h:ColAt c CM C f t H x D S R U T):¬ Loose H x:=by
 obtain ⟨dx,hx⟩:=h.hx;intro z;refine z.no hx ?_ (fun _ z=>by cases z);rintro ⟨_,_,_,_,_,_,z⟩;injection z with _ _ z
 injection z with z _
 injection z with z _
 revert z;decide +kernel
theorem ColAt.off {F:Addr->Prop}(h:ColAt c CM C f t H x D S R U T)(hF:∀ b,F b->Loose H b)(no:∀ b,D.F b->¬ F b)(s:∀ b o,¬ F b->H b=some o->H' b=some o):ColAt c CM C f t H' x D S R U T:=by
 obtain ⟨dx,hx⟩:=h.hx;exact { h with
   hx:=⟨dx,s _ _ (fun z=>h.notF (hF _ z)) hx⟩
   hv:=h.hv.off hF (no _ (.inl rfl)) s
   hn:=s _ _ (no _ (.inr (.inl rfl))) h.hn
   hk:=s _ _ (no _ (.inr (.inr (.inl rfl)))) h.hk
   an:=fun n hn=>⟨(h.an n hn).1,(h.an n hn).2.1.off hF (no _ (.inr (.inr (.inr (.inl ⟨n,hn,rfl⟩))))) s,(h.an n hn).2.2⟩
   ak:=fun k hk=>⟨(h.ak k hk).1,s _ _ (no _ (.inr (.inr (.inr (.inr ⟨k,hk,rfl⟩))))) (h.ak k hk).2.1,(h.ak k hk).2.2⟩ }
theorem ColAt.same (h:ColAt c CM C f t H x D S R U T)(s:Same H H'):ColAt c CM C f t H' x D S R U T:=h.off (F:=fun _=>False) (fun _ z=>z.elim) (fun _ _ z=>z) fun b o _ e=>s b o e
theorem ColAt.hx1 {p:Addr}(h:ColAt c CM C f t H x D S R U T)(lp:Loose H p)(s:∀ b o,b≠p->H b=some o->H' b=some o):∃ dx,H' x=some (.ins C dx [("valued",.ref D.mv),("by_number",.ref D.dn),("by_key",.ref D.dk),(f,.int t)]):=by obtain ⟨dx,hx⟩:=h.hx;exact ⟨dx,s _ _ (fun z=>h.notF (z ▸ lp)) hx⟩
theorem MkAt.one {p m:Addr}{es:List Ent}(h:MkAt c CM H m es)(lp:Loose H p)(n:m≠p)(s:∀ b o,b≠p->H b=some o->H' b=some o):MkAt c CM H' m es:=h.off (F:=fun b=>b=p) (fun b z=>z ▸ lp) n s
theorem ColAt.setV {ev':List Ent}(h:ColAt c CM C f t H x D S R U T)(s:∀ b o,b≠D.mv->H b=some o->H' b=some o)(hm:MkAt c CM H' D.mv ev')(ok:EsOk ev')(m1:∀ r,r∈flat ev'↔S' r):ColAt c CM C f t H' x { D with ev:=ev' } S' R U T :=
 have lp:Loose H D.mv:=.inl h.hv.four
 { h with
   hx:=h.hx1 lp s
   hv:=hm
   okv:=ok
   hn:=s _ _ (Ne.symm (ZbW h.hv h.hn)) h.hn
   hk:=s _ _ (Ne.symm (ZbW h.hv h.hk)) h.hk
   an:=fun n hn=>⟨(h.an n hn).1,(h.an n hn).2.1.one lp (h.a1 n hn) s,(h.an n hn).2.2⟩
   ak:=fun k hk=>⟨(h.ak k hk).1,s _ _ (Ne.symm (ZbW h.hv (h.ak k hk).2.1)) (h.ak k hk).2.1,(h.ak k hk).2.2⟩
   m1:=m1 }
theorem ColAt.setN {n:Nat}{e':List Ent}(h:ColAt c CM C f t H x D S R U T)(hn:n∈D.ns)(s:∀ b o,b≠D.A n->H b=some o->H' b=some o)(hm:MkAt c CM H' (D.A n) e')(ok:EsOk e')(m2:∀ r,r∈flat e'↔R' n r)(m2':∀ m r,m≠n->(R m r↔R' m r)):ColAt c CM C f t H' x { D with E:=fun m=>if m=n then e' else D.E m } S R' U T:=by
 have hA:=(h.an n hn).2.1;have lp:Loose H (D.A n):=.inl hA.four;refine { h with
   hx:=h.hx1 lp s
   hv:=h.hv.one lp (Ne.symm (h.a1 n hn)) s
   hn:=s _ _ (Ne.symm (ZbW hA h.hn)) h.hn
   hk:=s _ _ (Ne.symm (ZbW hA h.hk)) h.hk
   an:=fun m hm'=>⟨(h.an m hm').1,?_⟩
   ak:=fun k hk=>⟨(h.ak k hk).1,s _ _ (Ne.symm (ZbW hA (h.ak k hk).2.1)) (h.ak k hk).2.1,(h.ak k hk).2.2⟩
   m2:=fun m hm' r=>?_ }
 . by_cases e:m=n
   . subst e
     simp only [if_pos rfl];exact ⟨hm,ok⟩
   . simp only [if_neg e]
     exact ⟨(h.an m hm').2.1.one lp (fun z=>e (h.a2 m hm' n hn z)) s,(h.an m hm').2.2⟩
 . by_cases e:m=n
   . subst e
     simp only [if_pos rfl];exact m2 r
   . simp only [if_neg e]
     exact (h.m2 m hm' r).trans (m2' m r e)
theorem ColAt.addN {n:Nat}{z:Addr}(h:ColAt c CM C f t H x D S R U T)(hn:n∉D.ns)(hz:MkAt c CM H z [])(nF:¬ D.F z):ColAt c CM C f t (upd H D.dn (.dK (putK D.kn (Sum.inl (n:Int)) (.ref z)))) x { D with kn:=putK D.kn (Sum.inl (n:Int)) (.ref z),ns:=D.ns++[n],A:=fun m=>if m=n then z else D.A m,E:=fun m=>if m=n then [] else D.E m } S (fun m r=>m≠n/\R m r) (fun m=>U m\/m=n) T:=by
 have lp:Loose H D.dn:=.inr ⟨_,h.hn⟩;have s:∀ b o,b≠D.dn->H b=some o->upd H D.dn (.dK (putK D.kn (Sum.inl (n:Int)) (.ref z))) b=some o:=fun b o nb e=>by rw [Zai nb];exact e
 have ne:∀ m∈D.ns,m≠n:=fun m hm z=>hn (z ▸ hm)
 have zA:∀ m∈D.ns,D.A m≠z:=fun m hm e=>nF (.inr (.inr (.inr (.inl ⟨m,hm,e.symm⟩))))
 refine { h with
   hx:=h.hx1 lp s
   hv:=h.hv.one lp (ZbW h.hv h.hn) s
   hn:=Zac
   dnn:=?_
   hk:=s _ _ (Ne.symm h.b1) h.hk
   an:=fun m hm=>?_
   ak:=fun k hk=>⟨(h.ak k hk).1,s _ _ (h.b2 k hk).1 (h.ak k hk).2.1,(h.ak k hk).2.2⟩
   a1:=fun m hm=>?_
   a2:=fun m hm m' hm' e=>?_
   m2:=fun m hm r=>?_
   m4:=fun m=>?_ }
 . refine ⟨?_,?_⟩
   . rw [Zc2,if_neg (by rw [h.dnn.some,yaz];exact hn),h.dnn.keys,yaP]
     rfl
   . rw [ycf]
     refine ⟨h.dnn.nd,ybD.mpr ⟨yaX,.nil⟩,fun a ha b hb e=>hn ?_⟩;rw [yaa.mp hb] at e;rw [<- e];exact ha
 . rw [Zdl]
   rcases yaf.mp hm with hm | hm
   . rw [if_neg (fun q=>ne m hm (inl_nat.mp q))]
     simp only [if_neg (ne m hm)];exact ⟨(h.an m hm).1,(h.an m hm).2.1.one lp (ZbW (h.an m hm).2.1 h.hn) s,(h.an m hm).2.2⟩
   . rw [yaa.mp hm,if_pos rfl]
     simp only [if_pos rfl];exact ⟨rfl,hz.one lp (ZbW hz h.hn) s,Zd8⟩
 . rcases yaf.mp hm with hm | hm
   . simp only [if_neg (ne m hm)]
     exact h.a1 m hm
   . rw [yaa.mp hm]
     simp only [if_pos rfl];exact fun e=>nF (.inl e)
 . rcases yaf.mp hm with hm | hm<;>rcases yaf.mp hm' with hm' | hm'
   . simp only [if_neg (ne m hm),if_neg (ne m' hm')] at e
     exact h.a2 m hm m' hm' e
   . rw [yaa.mp hm'] at e
     simp only [if_neg (ne m hm),if_pos rfl] at e;exact absurd e (zA m hm)
   . rw [yaa.mp hm] at e
     simp only [if_neg (ne m' hm'),if_pos rfl] at e;exact absurd e.symm (zA m' hm')
   . rw [yaa.mp hm,yaa.mp hm']
 . rcases yaf.mp hm with hm | hm
   . simp only [if_neg (ne m hm)]
     exact (h.m2 m hm r).trans ⟨fun z=>⟨ne m hm,z⟩,fun z=>z.2⟩
   . rw [yaa.mp hm]
     simp only [if_pos rfl];exact ⟨fun z=>(nomatch z),fun z=>(z.1 rfl).elim⟩
 . show m∈D.ns++[n]↔_
   rw [yaf,yaa,h.m4]
theorem ColAt.popN {n:Nat}(h:ColAt c CM C f t H x D S R U T):ColAt c CM C f t (upd H D.dn (.dK (dropK D.kn (Sum.inl (n:Int))))) x { D with kn:=dropK D.kn (Sum.inl (n:Int)),ns:=D.ns.filter fun m=>decide (m≠n) } S R (fun m=>U m/\m≠n) T:=by
 have lp:Loose H D.dn:=.inr ⟨_,h.hn⟩;have s:∀ b o,b≠D.dn->H b=some o->upd H D.dn (.dK (dropK D.kn (Sum.inl (n:Int)))) b=some o:=fun b o nb e=>by rw [Zai nb];exact e
 have mem:∀ {m},m∈D.ns.filter (fun m=>decide (m≠n))->m∈D.ns/\m≠n:=fun hm=>⟨(yau.mp hm).1,ybo (yau.mp hm).2⟩
 refine { h with
   hx:=h.hx1 lp s
   hv:=h.hv.one lp (ZbW h.hv h.hn) s
   hn:=Zac
   dnn:=h.dnn.drop n
   hk:=s _ _ (Ne.symm h.b1) h.hk
   an:=fun m hm=>?_
   ak:=fun k hk=>⟨(h.ak k hk).1,s _ _ (h.b2 k hk).1 (h.ak k hk).2.1,(h.ak k hk).2.2⟩
   a1:=fun m hm=>h.a1 m (mem hm).1
   a2:=fun m hm m' hm' e=>h.a2 m (mem hm).1 m' (mem hm').1 e
   m2:=fun m hm r=>h.m2 m (mem hm).1 r
   m4:=fun m=>?_ }
 . rw [Ze6 _ fun q=>(mem hm).2 (inl_nat.mp q)]
   have hm:=(mem hm).1;exact ⟨(h.an m hm).1,(h.an m hm).2.1.one lp (ZbW (h.an m hm).2.1 h.hn) s,(h.an m hm).2.2⟩
 . show m∈D.ns.filter (fun m=>decide (m≠n))↔_
   rw [yau,yaz,h.m4]
theorem ColAt.setK {k:Nat}{kb':List (Key × V)}{nb':List Nat}(h:ColAt c CM C f t H x D S R U T)(hk:k∈D.ks)(dn':Dn kb' nb')(m3:∀ n,n∈nb'↔T' k n)(m3':∀ j n,j≠k->(T j n↔T' j n)):ColAt c CM C f t (upd H (D.B k) (.dK kb')) x { D with kb:=fun j=>if j=k then kb' else D.kb j,nb:=fun j=>if j=k then nb' else D.nb j } S R U T':=by
 have hB:=(h.ak k hk).2.1;have lp:Loose H (D.B k):=.inr ⟨_,hB⟩;have s:∀ b o,b≠D.B k->H b=some o->upd H (D.B k) (.dK kb') b=some o:=fun b o nb e=>by rw [Zai nb];exact e
 refine { h with
   hx:=h.hx1 lp s
   hv:=h.hv.one lp (ZbW h.hv hB) s
   hn:=s _ _ (Ne.symm (h.b2 k hk).1) h.hn
   hk:=s _ _ (Ne.symm (h.b2 k hk).2) h.hk
   an:=fun m hm=>⟨(h.an m hm).1,(h.an m hm).2.1.one lp (ZbW (h.an m hm).2.1 hB) s,(h.an m hm).2.2⟩
   ak:=fun j hj=>⟨(h.ak j hj).1,?_⟩
   m3:=fun j n=>?_ }
 . by_cases e:j=k
   . subst e
     simp only [if_pos rfl];exact ⟨Zac,dn'⟩
   . simp only [if_neg e]
     exact ⟨s _ _ (fun z=>e (h.b3 j hj k hk z)) (h.ak j hj).2.1,(h.ak j hj).2.2⟩
 . by_cases e:j=k
   . subst e
     simp only [if_pos rfl];rw [<- m3];exact ⟨fun z=>z.2,fun z=>⟨hk,z⟩⟩
   . simp only [if_neg e]
     exact (h.m3 j n).trans (m3' j n e)
theorem ColAt.addK {k:Nat}{z:Addr}(h:ColAt c CM C f t H x D S R U T)(k256:k<256)(hk:k∉D.ks)(hz:H z=some (.dK []))(nF:¬ D.F z):ColAt c CM C f t (upd H D.dk (.dK (putK D.kk (Sum.inl (k:Int)) (.ref z)))) x { D with kk:=putK D.kk (Sum.inl (k:Int)) (.ref z),ks:=D.ks++[k],B:=fun j=>if j=k then z else D.B j,kb:=fun j=>if j=k then [] else D.kb j,nb:=fun j=>if j=k then [] else D.nb j } S R U T:=by
 have lp:Loose H D.dk:=.inr ⟨_,h.hk⟩;have s:∀ b o,b≠D.dk->H b=some o->upd H D.dk (.dK (putK D.kk (Sum.inl (k:Int)) (.ref z))) b=some o:=fun b o nb e=>by rw [Zai nb];exact e
 have ne:∀ m∈D.ks,m≠k:=fun m hm z=>hk (z ▸ hm)
 have zB:∀ m∈D.ks,D.B m≠z:=fun m hm e=>nF (.inr (.inr (.inr (.inr ⟨m,hm,e.symm⟩))))
 refine { h with
   hx:=h.hx1 lp s
   hv:=h.hv.one lp (ZbW h.hv h.hk) s
   hn:=s _ _ h.b1 h.hn
   hk:=Zac
   dnk:=?_
   an:=fun m hm=>⟨(h.an m hm).1,(h.an m hm).2.1.one lp (ZbW (h.an m hm).2.1 h.hk) s,(h.an m hm).2.2⟩
   ak:=fun m hm=>?_
   kl:=fun m hm=>(yaf.mp hm).elim (fun z=>h.kl m z) fun z=>by rw [yaa.mp z];exact k256
   b2:=fun m hm=>?_
   b3:=fun m hm m' hm' e=>?_
   m3:=fun m n=>?_ }
 . refine ⟨?_,?_⟩
   . rw [Zc2,if_neg (by rw [h.dnk.some,yaz];exact hk),h.dnk.keys,yaP]
     rfl
   . rw [ycf]
     refine ⟨h.dnk.nd,ybD.mpr ⟨yaX,.nil⟩,fun a ha b hb e=>hk ?_⟩;rw [yaa.mp hb] at e;rw [<- e];exact ha
 . rw [Zdl]
   rcases yaf.mp hm with hm | hm
   . rw [if_neg (fun q=>ne m hm (inl_nat.mp q))]
     simp only [if_neg (ne m hm)];exact ⟨(h.ak m hm).1,s _ _ (h.b2 m hm).2 (h.ak m hm).2.1,(h.ak m hm).2.2⟩
   . rw [yaa.mp hm,if_pos rfl]
     simp only [if_pos rfl];exact ⟨rfl,s _ _ (fun e=>nF (.inr (.inr (.inl e)))) hz,⟨rfl,.nil⟩⟩
 . rcases yaf.mp hm with hm | hm
   . simp only [if_neg (ne m hm)]
     exact h.b2 m hm
   . rw [yaa.mp hm]
     simp only [if_pos rfl];exact ⟨fun e=>nF (.inr (.inl e)),fun e=>nF (.inr (.inr (.inl e)))⟩
 . rcases yaf.mp hm with hm | hm<;>rcases yaf.mp hm' with hm' | hm'
   . simp only [if_neg (ne m hm),if_neg (ne m' hm')] at e
     exact h.b3 m hm m' hm' e
   . rw [yaa.mp hm'] at e
     simp only [if_neg (ne m hm),if_pos rfl] at e;exact absurd e (zB m hm)
   . rw [yaa.mp hm] at e
     simp only [if_neg (ne m' hm'),if_pos rfl] at e;exact absurd e.symm (zB m' hm')
   . rw [yaa.mp hm,yaa.mp hm']
 . show (m∈D.ks++[k]/\n∈if m=k then [] else D.nb m)↔_
   rw [<- h.m3,yaf,yaa];by_cases e:m=k
   . rw [if_pos e]
     exact ⟨fun z=>(nomatch z.2),fun z=>absurd z.1 (e ▸ hk)⟩
   . rw [if_neg e]
     exact ⟨fun z=>⟨z.1.elim id fun y=>absurd y e,z.2⟩,fun z=>⟨.inl z.1,z.2⟩⟩
end
theorem Dn.small (h:Dn kvs ms)(b:∀ n∈ms,n<1000):kvs.length<sizeLine:=by rw [h.len];refine small1000 (yaN (h.nd.length_le_of_subset (l₂:=List.range 1000) fun n hn=>ybR.mpr (b n hn)) ?_);rw [ybP];exact yag _
theorem Loose.none {b:Addr}(h:Loose H b)(e:H b=none):False:=by rcases h with ⟨o,e',_⟩ | ⟨kvs,e'⟩<;>rw [e] at e'<;>cases e'
structure Cf (ts:Tabs)(F:Addr->Prop)(H:Hp)(F':Addr->Prop)(H':Hp):Prop where
 same:∀ b o,¬ F b->noT H b=some o->noT H' b=some o
 tb:Tbs ts H'
 foot:∀ b,F' b->F b\/noT H b=none
section
variable {ts:Tabs}{F F' F2:Addr->Prop}{H2:Hp}
theorem Cf.trans (a:Cf ts F H F' H') (b:Cf ts F' H' F2 H2):Cf ts F H F2 H2:=by
 refine ⟨fun d o n e=>b.same d o (fun z=>?_) (a.same d o n e),b.tb,fun d z=>?_⟩
 . rcases a.foot d z with z | z
   . exact n z
   . rw [z] at e;cases e
 . rcases b.foot d z with z | z
   . exact a.foot d z
   . by_cases y:F d
     . exact .inl y
     . refine .inr ?_
       cases e:noT H d with
       | none=>rfl
       | some o=>rw [a.same d o y e] at z;cases z
theorem Cf.nx (a:Nx ts H H'):Cf ts F H F H':=⟨fun b o _ e=>a.same b o e,a.tb,fun _ z=>.inl z⟩
theorem Cf.nb {m:Addr}(a:Nb ts m H H')(hm:F m):Cf ts F H F H':=⟨fun b o n e=>a.same b o (fun z=>n (z ▸ hm)) e,a.tb,fun _ z=>.inl z⟩
theorem Cf.put {m:Addr}{o o':HO}(ht:Tbs ts H)(hm:F m)(e:H m=some o)(so:Soft o)(hF:∀ b,F' b->F b\/noT H b=none):Cf ts F H F' (upd H m o'):=by refine ⟨fun b o n e=>?_,ht.put e so,hF⟩;have z:=Zae e;exact Zan (by rw [Zai (fun y=>n (by rw [y];exact hm))];exact z.1) z.2
end
def spCountM (c:Kd->Addr)(CM:Addr)(ts:Tabs):Sp:=fun vs H Q _=>∃ (m:Addr) (k:Nat) (es:List Ent),vs=[.ref m,.int k]/\MkAt c CM (noT H) m es/\EsOk es/\Tbs ts H/\∀ H',Nx ts H H'->Q (.int ((plcE k es).length:Nat)) H'
section
variable {c:Kd->Addr}{ts:Tabs}
theorem Zg3 (jq:MethAt P w K mg base CM "found" ["self","key"] 4 (spFound c CM ts))(jk:MethAt P w K mg base CM "stands" ["self","at","key"] 1 (spStands c CM))(jy:MethAt P w K mg base CM "ahead_of" ["self","at"] 1 (spAhead c CM))(cd:CD_Marks K mg CM):MethAt P w K mg base CM "count_at" ["self","key"] 5 (spCountM c CM ts):=by
 refine MethAt.of cd.c cd.m_count_at jab ?_ ?_;walk_at "F";have nd:=jab.nd;obtain ⟨m,k,es,rfl,hm,ok,ht,q⟩:=h;obtain ⟨dx,fs,ho,nf⟩:=hm.obj;refine ⟨_,(Zad (Zaz (i:=2) (Zap P w K mg base 4 (pv 0) (Zaa (pv 1) Zab)))
     (Zag (Zak (Zbo (Za9 (Zap P w K mg base 1 (pv 0) (Zaa (pv 2) (Zaa (pv 1) Zab)))) (Zah ZaP (Zap P w K mg base 1 (pv 0) (Zaa (Zah Zav (pv 2) Zaf) Zab)) (Zc0 (ZaE K) (Zam K (pv 0)) (pv 2))) Zaf)))),?_⟩
 walk_at "vc";refine ⟨_,_,_,(oT ho),nf.1,_,_,jq,m,k,es,rfl,hm,ok,ht,fun H1 nx=>?_⟩;have q:=q H1 nx;have hm:=hm.same nx.same;refine ⟨_,_,_,(oT (nx.at ho)),nf.2.1,_,_,jk,m,k,es,rfl,hm,ok,_,rfl,?_⟩;have gl:=Zgs k ok;rcases Zbh k ok.up with z | ⟨e,z1,z2,z3⟩
 . have e0:plcE k es=[]:=by
     unfold plcE;rw [z]
   rw [e0] at q;rw [yaw (by simp [z]),if_neg (by decide)];exact q
 . have e0:plcE k es=e.ps:=by
     unfold plcE;rw [z1]
   rw [e0] at q;rw [z1] at gl;have gl:es[(loE k es).length]?=some e:=gl;obtain ⟨dx2,kd,ah,sr,h1,h2,h3,h4⟩:=hm.ex;have ll:=(yaQ.mp gl).1;rw [yak (by simp [z1]),if_pos rfl];walk_at "vc";have ga:=Ze2 0 es _ ll;rw [ybH] at ga;refine ⟨_,_,_,(oT (nx.at ho)),nf.2.2.1,_,_,jy,m,(loE k es).length+1,es,rfl,hm,by omega,_,_,_,(oT h1),cd.c,cd.n_aheads,.ref ah,rfl,ah,rfl,_,sL h3,.int (tot (es.take (loE k es).length):Nat),ZcW ga,_,rfl,_,rfl,?_⟩;have et:tot (es.take ((loE k es).length+1))=tot (es.take (loE k es).length)+e.ps.length:=by rw [ybk,gl];show tot (_++[e])=_;rw [ZaK];show _+(e.ps.length+0)=_;omega
   rw [et];have:((tot (es.take (loE k es).length)+e.ps.length:Nat):Int)-(tot (es.take (loE k es).length):Nat)=(e.ps.length:Nat):=by omega
   rw [this];exact q
end
section
variable {a:Addr}{m:Nat}{tt:TT}{σ:L2.St}{H1:Hp}{Q:VK}{ts:Tabs}
theorem compX (hT:Tbs ts H1)(p:Nat->Bool)(fy:Nat->V)(hS:noT H1 a=some (.lst xs))(hn:xs.length<=1000000)
   (ht:∀ i x H2 (R:Bool->Hp->Prop),xs[i]?=some x->Nx ts H1 H2->(∀ H3,Nx ts H2 H3->R (p i) H3)->tt ((capSt m caps σ).set 0 (some x)) H2 R)
   (he:∀ i x H2 (R:VK),xs[i]?=some x->p i=true->Nx ts H1 H2->(∀ H3,Nx ts H2 H3->R (fy i) H3)->te ((capSt m caps σ).set 0 (some x)) H2 R)
   (hq:∀ D H2,Nx ts H1 H2->noT H1 D=none->H2 D=some (.lst (((List.range xs.length).filter p).map fy))->Q (.ref D) H2):CompJ (Itl K a) m caps (gName 0) tt te σ H1 Q:=by
 have sq:∀ {H2},Nx ts H1 H2->SqL K H2 a xs:=fun n=>sL (n.at hS)
 refine compG (n:=xs.length) (fun D i ys H2=>i<=xs.length/\Nx ts H1 H2/\H2 D=some (.lst ys)/\ys=((List.range i).filter p).map fy) (fun D hD=>⟨yax _,Nx.new hT hD,Zac,rfl⟩) (fun D i ys H2 h=>h.1)
   (fun D ys H2 hD h=>⟨xs,sq h.2.1,yag _⟩) (fun D i ys H2 hD hi h=>⟨xs,_,sq h.2.1,yae hi⟩) ?_ (fun D ys H2 hD h=>hq D H2 h.2.1 (ZaU hD) (h.2.2.2 ▸ h.2.2.1))
 rintro D i ys H2 x H3 hD hi ⟨_,s2,h2,rfl⟩ ⟨rfl,y⟩;have hx:=y xs (sq s2);rw [gName];refine ht i x H3 _ hx s2 fun H4 s4=>?_
 have ll:(((List.range i).filter p).map fy).length<=i:=by rw [yad];exact yaN (ybp _ _) (by rw [ybP];exact yag _)
 have at4:∀ {H5 xs},Nx ts H3 H5->H3 D=some (.lst xs)->H5 D=some (.lst xs):=fun n e=>(oT (n.at (Zan e (nl _))))
 split
 . rename_i e
   refine he i x _ _ hx e (s2.trans s4) fun H5 s5=>compYes hn hi ll (at4 (s4.trans s5) h2) ⟨hi,((s2.trans s4).trans s5).put (ZaU hD) (at4 (s4.trans s5) h2) trivial,Zac,?_⟩
   rw [List.range_succ,ybC,yaP];simp [e]
 . rename_i e
   refine compNo (ys:=((List.range i).filter p).map fy) hi ⟨hi,s2.trans s4,at4 s4 h2,?_⟩;rw [List.range_succ,ybC,yaP];simp [e]
end
def nmB (b:Bool)(v:Nat):List Nat:=if b=true then [v] else pl 256 v
def Rg (b:Bool)(g:Nat->Option Nat)(n r:Nat):Prop:=∃ v,g r=some v/\n∈nmB b v
def tpB (b:Bool)(t:Nat):Nat:=if b=true then t else 2^t-1
def okT (b:Bool)(t:Nat):Prop:=if b=true then t<=999 else t<=40
def fK (b:Bool):Str:=if b=true then "greatest" else "width"
structure ColF (b:Bool)(c:Kd->Addr)(CM C:Addr)(t:Nat)(H:Hp)(x:Addr)(D:ColD)(g:Nat->Option Nat):Prop where
 at_:ColAt c CM C (fK b) t H x D (fun r=>∃ v,g r=some v) (Rg b g) (fun n=>∃ r,Rg b g n r) (fun k n=>∃ r,r/256=k/\Rg b g n r)
 bd:∀ r v,g r=some v->r<=65535/\v<=tpB b t
 ok:okT b t
theorem nmB_up (b:Bool)(v:Nat):Up 0 (nmB b v):=by
 unfold nmB;split
 . exact Zer _
 . exact Zg9 _ _
theorem Zig (h:t<=40):2^t<=2^40:=ybB (by decide) h
theorem Zh2 {b:Bool}{v n:Nat}(ok:okT b t)(h:v<=tpB b t)(hn:n∈nmB b v):n<1000:=by
 unfold okT at ok;unfold tpB at h;unfold nmB at hn;cases b with
 | true =>
   simp only [zaT] at ok h hn;rw [yaa.mp hn];omega
 | false =>
   simp only [yaF,zay] at hn;have:=(mem_pl.mp hn).1;omega
section
variable {b:Bool}{c:Kd->Addr}{x:Addr}{D:ColD}{ts:Tabs}
theorem ColF.same (h:ColF b c CM C t H x D g)(s:Same H H'):ColF b c CM C t H' x D g:=⟨h.at_.same s,h.bd,h.ok⟩
theorem ColF.lt (h:ColF b c CM C t H x D g){n r:Nat}(z:Rg b g n r):n<1000:=by obtain ⟨v,e,hn⟩:=z;exact Zh2 h.ok (h.bd r v e).2 hn
theorem ColF.off {F:Addr->Prop}(h:ColF b c CM C t H x D g)(hF:∀ b,F b->Loose H b)(no:∀ b,D.F b->¬ F b)(s:∀ b o,¬ F b->H b=some o->H' b=some o):ColF b c CM C t H' x D g:=⟨h.at_.off hF no s,h.bd,h.ok⟩
end
theorem ColAt.get {c:Kd->Addr}{f:Str}{t:Int}{x:Addr}{D:ColD}{S:Nat->Prop}{R:Nat->Nat->Prop}{U:Nat->Prop}{T:Nat->Nat->Prop}(h:ColAt c CM C f t (noT H) x D S R U T){n:Nat}(hn:n∈D.ns):DGet H D.dn (.int (n:Int)) (some (.ref (D.A n)))/\MkAt c CM (noT H) (D.A n) (D.E n)/\EsOk (D.E n):=by refine ⟨?_,(h.an n hn).2⟩;have:=DGet.k (k:=Sum.inl (n:Int)) (oT h.hn);rw [(h.an n hn).1] at this;exact this
theorem sum_wd:∀ ps:List Nat,(ps.map fun n=>(2:Int)^n).sum=(wd ps:Nat)
 | []=>rfl
 | p::r=>by
   rw [yaC,List.sum_cons,sum_wd r];show _=((2^p+wd r:Nat):Int)
   rw [yco,ycq];rfl
structure ClC (K:ZFr)(C:Addr):Prop where
 c:Cls K C
 n1:NoAttr K C "valued"
 n2:NoAttr K C "by_number"
 n3:NoAttr K C "by_key"
def spNat (c:Kd->Addr)(CM C:Addr):Sp:=fun vs H Q _=>∃ (x:Addr) (k:Nat) (f:Str) (t:Int) (D:ColD) (S:Nat->Prop) (R:Nat->Nat->Prop) (U:Nat->Prop) (T:Nat->Nat->Prop),vs=[.ref x,.int k]/\ColAt c CM C f t (noT H) x D S R U T/\∀ l os H',Same H H'->H l=none->H' l=some (.lst (pint os))->Up 0 os->(∀ n,n∈os↔T k n)->Q (.ref l) H'
section
variable {c:Kd->Addr}{ts:Tabs}
theorem ok_nat (B:Blt mg)(cc:ClC K C)(d:MDefAt K C "numbers_at" "Column.numbers_at" ZaM ["self","key"]):MethAt P w K mg base C "numbers_at" ["self","key"] 2 (spNat c CM C):=by
 refine MethAt.of cc.c d jE ?_ ?_;walk_at "F";have nd:=jE.nd;obtain ⟨x,k,f,t,D,S,R,U,T,rfl,hc,q⟩:=h;obtain ⟨dx,hx⟩:=hc.hx;refine ⟨_,(Zag (Zak (ZaB Zc1 rfl B.sorted L2.boot_sorted (Zaa (Zhb (hu1 hr) (Zam K (pv 0)) (pv 1) ZcA ⟨rfl,rfl,rfl,rfl⟩) Zab)))),?_⟩;walk_at "vc";refine ⟨_,_,_,(oT hx),cc.c,cc.n3,_,rfl,_,rfl,.inl ⟨_,.inl (oT hc.hk)⟩,fun p np=>?_⟩;have s1:Same H (upd H p (.dK [])):=Same.new np;refine ⟨_,DGet.k (k:=Sum.inl (k:Int)) (s1 _ _ (oT hc.hk)),?_⟩;by_cases hk:k∈D.ks
 . obtain ⟨h1,h2,h3⟩:=hc.ak k hk
   rw [h1];refine ⟨_,rfl,_,s1 _ _ (oT h2),(D.nb k).map fun (n:Nat)=>(n:Int),by rw [h3.keys,ybl];rfl,fun l zs nl pm so=>?_⟩;obtain ⟨os,e,up,mem,_⟩:=Zgk h3 pm so;rw [e];exact q l os _ (s1.trans (Same.new nl)) (s1.free nl) Zac up fun n=>by rw [mem,<- hc.m3];exact ⟨fun z=>⟨hk,z⟩,fun z=>z.2⟩
 . have hz:valV D.kk (Sum.inl (k:Int))=none:=by
     have:=hc.dnk.some k;rw [yaw hk] at this;exact Option.not_isSome_iff_eq_none.mp (by rw [this];decide)
   rw [hz];refine ⟨_,rfl,_,Zac,[],rfl,fun l zs nl pm so=>?_⟩;rw [List.perm_nil.mp pm];exact q l [] _ (s1.trans (Same.new nl)) (s1.free nl) Zac trivial fun n=>by rw [<- hc.m3];exact ⟨fun z=>(nomatch z),fun z=>absurd z.1 hk⟩
def spVal (b:Bool)(c:Kd->Addr)(CM C:Addr)(ts:Tabs):Sp:=fun vs H Q _=>∃ (x:Addr) (r t:Nat) (D:ColD) (g:Nat->Option Nat),vs=[.ref x,.int r]/\r<=65535/\ColF b c CM C t (noT H) x D g/\Tbs ts H/\∀ H',Nx ts H H'->Q (ofO (g r)) H'
theorem ok_valV (B:Blt mg) (cP:∃ t,mg "PLACES"=some (.int 256 t)) (cc:ClC K C) (jg:FnAt P w K mg base "check_number" ["thing"] 2 spChk) (jcj:MethAt P w K mg base C "numbers_at" ["self","key"] 2 (spNat c CM C)) (jA:MethAt P w K mg base CM "has" ["self","n"] 6 (spHas c CM ts)) (d:MDefAt K C "value" "ByValue.value" ZbL ["self","row"]):MethAt P w K mg base C "value" ["self","row"] 7 (spVal true c CM C ts):=by
 obtain ⟨tP,ja⟩:=cP;refine MethAt.of cc.c d jao ?_ ?_;walk_at "F";have nd:=jao.nd;obtain ⟨x,r,t,D,g,rfl,hr1,hc,ht,q⟩:=h;obtain ⟨dx,hx⟩:=hc.at_.hx;refine ⟨_,(Zad (Zax (Zaj jg (Zaa (pv 1) Zab)))
     (Zad (Zbj zai rfl (ZaC K (Zap P w K mg base 2 (pv 0) (Zaa (Zah Zas (pv 1) (ZaJ ja)) Zab))) (ZbM (i:=2)) (Zag (ZaD (Za9 (Zap P w K mg base 6 (Zbq (hu1 hr) (Zam K (pv 0)) (pv 2) (fun _ _=>rfl)) (Zaa (pv 1) Zab))) (Zag (Zak (pv 2))) Zau)))
     (Zag (Zak ZbA)))),?_⟩
 have e1:(r:Int)/256=((r/256:Nat):Int):=by omega
 walk_at "vc";rw [e1];refine ⟨r,rfl,hr1,_,_,_,(oT hx),rfl,_,_,jcj,x,r/256,_,_,D,_,_,_,_,rfl,hc.at_,fun l os H1 s1 nl hl up mem=>?_⟩;refine ⟨l,rfl,⟨_,SqL.of hl⟩,?_⟩;refine loopL (xs:=pint os) (fun i σ H'=>(∃ v2,σ=[some (.ref x),some (.int r),v2])/\Nx ts H H'/\noT H' l=some (.lst (pint os))/\∀ j n,j<i->os[j]?=some n->g r≠some n) ⟨⟨_,rfl⟩,ht.nx s1,Zan hl (L2.nl _),fun j n h=>absurd h (by omega)⟩ ?_ ?_ ?_
 . rintro i σ H2 _ ⟨_,nx,hl2,_⟩
   exact sL hl2
 . rintro i v σ H2 hv ⟨⟨v2,rfl⟩,nx,hl2,no⟩
   obtain ⟨n,hn,rfl⟩:=ZaR hv;have hc2:=hc.same nx.same;obtain ⟨r',_,hR⟩:=(mem n).mp (yao hn);have hin:n∈D.ns:=(hc2.at_.m4 n).mpr ⟨r',hR⟩;obtain ⟨a1,a2,a3⟩:=hc2.at_.an n hin;obtain ⟨dx2,hx2⟩:=hc2.at_.hx;obtain ⟨dm,fs,ho,nf⟩:=a2.obj;walk_at "vc";refine ⟨_,_,_,(oT hx2),cc.c,cc.n2,_,rfl,_,rfl,_,(hc2.at_.get hin).1,_,rfl,_,_,_,(oT ho),nf.2.2.2.2.2.1,_,_,jA,D.A n,r,D.E n,rfl,hr1,a2,a3,nx.tb,fun H3 nx3=>⟨_,rfl,?_⟩⟩;have eq:r∈flat (D.E n)↔g r=some n:=by rw [hc2.at_.m2 n hin r];exact ⟨fun ⟨v,e,hv⟩=>by rw [e,yaa.mp (show n∈[v] from hv)],fun e=>⟨n,e,yaa.mpr rfl⟩⟩
   by_cases z:r∈flat (D.E n)
   . rw [if_pos (yak z)]
     have:=q H3 (nx.trans nx3);rw [eq.mp z] at this;exact this
   . rw [if_neg (by rw [yaz];exact z)]
     refine ⟨nx.trans nx3,nx3.at hl2,fun j m hj hm=>?_⟩;by_cases e:j=i
     . rw [e,hn] at hm
       cases hm;exact fun w=>z (eq.mpr w)
     . exact no j m (by omega) hm
 . rintro σ H2 ⟨⟨v2,rfl⟩,nx,hl2,no⟩
   walk_at "vc";have e0:g r=none:=by
     cases e:g r with
     | none=>rfl
     | some v =>
       have hv:v∈os:=(mem v).mpr ⟨r,rfl,v,e,yaa.mpr rfl⟩;obtain ⟨j,hj⟩:=List.mem_iff_getElem?.mp hv;exact absurd e (no j v (by rw [Zal];exact (yaQ.mp hj).1) hj)
   have:=q H2 nx;rw [e0] at this;exact this
theorem ok_valB (B:Blt mg) (cP:∃ t,mg "PLACES"=some (.int 256 t)) (cc:ClC K C) (jcj:MethAt P w K mg base C "numbers_at" ["self","key"] 2 (spNat c CM C)) (jA:MethAt P w K mg base CM "has" ["self","n"] 6 (spHas c CM ts)) (d:MDefAt K C "value" "ByBits.value" ZbX ["self","row"]):MethAt P w K mg base C "value" ["self","row"] 7 (spVal false c CM C ts):=by
 obtain ⟨tP,ja⟩:=cP;refine MethAt.of cc.c d jaE ?_ ?_;walk_at "F";have nd:=jaE.nd;obtain ⟨x,r,t,D,g,rfl,hr1,hc,ht,q⟩:=h;obtain ⟨dx,hx⟩:=hc.at_.hx;refine ⟨_,(Zad (ZaD (Zcy (Za9 (Zap P w K mg base 6 (Zam K (pv 0)) (Zaa (pv 1) Zab)))) (Zag (Zak ZbA)) Zau)
     (Zag (Zak (ZaB (Zj6 K) rfl B.sum ZjP (Zaa (ZbQ ["bit"] [1,0] rfl (ZaC K (Zap P w K mg base 2 (pv 0) (Zaa (Zah Zas (pv 1) (ZaJ ja)) Zab))) (fun _ _ _ _ _=>Za2 (i:=0) (by show List.Nodup (["bit","row","self"]:List Str);decide +kernel) rfl (Or.inl rfl)) (fun _ _ _ _ _=>Zd5 (Za9 (Zap P w K mg base 6 (Zbq (hu1 hr) (Zam K (pv 2)) (pv 0) (fun _ _=>rfl)) (Zaa (pv 1) Zab)))) (fun _ _ _ _ _=>(Zah Zbe Zaf (pv 0))) ⟨⟨_,rfl,rfl,.inl rfl⟩,⟨⟨_,rfl,rfl,.inl rfl⟩,trivial⟩⟩ ZaY) Zab))))),?_⟩
 have e1:(r:Int)/256=((r/256:Nat):Int):=by omega
 walk_at "vc";rw [e1];obtain ⟨dm,fs,ho,nf⟩:=hc.at_.hv.obj;refine ⟨_,_,_,(oT hx),cc.c,cc.n1,_,rfl,_,rfl,_,_,_,(oT ho),nf.2.2.2.2.2.1,_,_,jA,D.mv,r,D.ev,rfl,hr1,hc.at_.hv,hc.at_.okv,ht,fun H1 nx=>⟨_,rfl,?_⟩⟩;cases e:g r with
 | none =>
   have z:¬ r∈flat D.ev:=by rw [hc.at_.m1,e];rintro ⟨v,z⟩;cases z
   rw [if_pos (yaw z)];have:=q H1 nx;rw [e] at this;exact this
 | some v =>
   have z:r∈flat D.ev:=by rw [hc.at_.m1,e];exact ⟨v,rfl⟩
   rw [if_neg (by rw [yak z];decide)];have hc1:=hc.same nx.same;obtain ⟨dx1,hx1⟩:=hc1.at_.hx;refine ⟨_,_,_,(oT hx1),rfl,_,_,jcj,x,r/256,_,_,D,_,_,_,_,rfl,hc1.at_,fun l os H2 s2 nl hl up mem=>?_⟩;walk_at "vc";have nx2:=nx.trans (nx.tb.nx s2);refine ⟨⟨_,SqL.of hl⟩,compX (ts:=ts) nx2.tb (fun i=>decide (os.getD i 0∈pl 256 v)) (fun i=>.int (2^os.getD i 0)) (Zan hl (L2.nl _)) (by
     rw [Zal];have:=Zdg up;exact yaN (this.length_le_of_subset (l₂:=List.range 1000) fun n hn=>by
       obtain ⟨r',_,hR⟩:=(mem n).mp hn;exact ybR.mpr (hc.lt hR)) (by rw [ybP];decide)) ?_ ?_ ?_⟩
   . intro i y H3 R hy nx3 h
     obtain ⟨n,hn,rfl⟩:=ZaR hy;have gd:os.getD i 0=n:=by rw [yat,hn];rfl
     rw [gd] at h;have hc3:=hc.same (nx2.trans nx3).same;obtain ⟨r',_,hR⟩:=(mem n).mp (yao hn);have hin:n∈D.ns:=(hc3.at_.m4 n).mpr ⟨r',hR⟩;obtain ⟨a1,a2,a3⟩:=hc3.at_.an n hin;obtain ⟨dx3,hx3⟩:=hc3.at_.hx;obtain ⟨dm3,fs3,ho3,nf3⟩:=a2.obj;walk_at "vc";refine ⟨_,_,_,(oT hx3),cc.c,cc.n2,_,rfl,_,rfl,_,(hc3.at_.get hin).1,_,rfl,_,_,_,(oT ho3),nf3.2.2.2.2.2.1,_,_,jA,D.A n,r,D.E n,rfl,hr1,a2,a3,nx3.tb,fun H4 nx4=>⟨_,rfl,?_⟩⟩;have eq:r∈flat (D.E n)↔n∈pl 256 v:=by rw [hc3.at_.m2 n hin r];exact ⟨fun ⟨u,e',hv⟩=>by rw [e] at e';cases e';exact hv,fun e'=>⟨v,e,e'⟩⟩
     rw [yaS.mpr eq];exact h H4 nx4
   . intro i y H3 R hy hp nx3 h
     obtain ⟨n,hn,rfl⟩:=ZaR hy;have gd:os.getD i 0=n:=by rw [yat,hn];rfl
     rw [gd] at h;obtain ⟨r',_,hR⟩:=(mem n).mp (yao hn);have:=hc.lt hR;walk_at "vc";refine ⟨⟨by omega,by omega,by decide⟩,?_⟩;rw [ycv,yap];exact h H3 (.refl nx3.tb)
   . intro L H3 nx3 nL hL
     have en:((List.range (pint os).length).filter fun i=>decide (os.getD i 0∈pl 256 v)).map (fun i=>V.int (2^os.getD i 0))=((pl 256 v).map fun n=>(2:Int)^n).map V.int:=by
       rw [Zal,Zbz (fun n=>decide (n∈pl 256 v)) (fun n=>V.int (2^n)) os _ _ fun i n hn=>by
         have gd:os.getD i 0=n:=by rw [yat,hn];rfl
         rw [gd];exact ⟨rfl,rfl⟩]
       have ef:os.filter (fun n=>decide (n∈pl 256 v))=pl 256 v:=Up.ext up.filter (Zg9 _ _) fun n=>by
         rw [yau,yaz];exact ⟨fun z=>z.2,fun z=>⟨(mem n).mpr ⟨r,rfl,v,e,z⟩,z⟩⟩
       rw [ef,ybl];rfl
     rw [en] at hL;refine ⟨L,rfl,_,SqL.of hL,?_⟩;have v1:=(hc.bd r v e).2;have v2:v<2^256:=by
       have ok:=hc.ok;unfold okT at ok;unfold tpB at v1;simp only [yaF,zay] at ok v1;have:=Zig ok;have:(2:Nat)^40<2^256:=by decide
       omega
     rw [sum_wd,wd_pl v2];have:=q H3 (nx2.trans nx3);rw [e] at this;exact this
end
theorem Zao {t u:TS}{σ:L2.St}(h:∀ k:L2.St->Hp->Prop,(∀ σ' H',u D σ' H'->k σ' H')->t { D with nx:=k } σ H):tSeq t u D σ H:=h (u D) fun _ _ x=>x
def okV (b:Bool)(t:Nat)(v:V):Bool:=match v with
 | .int z=>decide (0<=z/\z<=tpB b t)
 | _=>false
def spNof (b:Bool):Sp:=fun vs H Q _=>∃ (x:Addr) (v:Nat),vs=[.ref x,.int v]/\v<2^256/\∀ l H',Same H H'->H l=none->H' l=some (.lst (pint (nmB b v)))->Q (.ref l) H'
def spTop (b:Bool)(c:Kd->Addr)(CM C:Addr):Sp:=fun vs H Q _=>∃ (x:Addr) (t:Nat) (D:ColD) (S:Nat->Prop) (R:Nat->Nat->Prop) (U:Nat->Prop) (T:Nat->Nat->Prop),vs=[.ref x]/\ColAt c CM C (fK b) t (noT H) x D S R U T/\okT b t/\Q (.int (tpB b t:Nat)) H
def spCan (b:Bool)(c:Kd->Addr)(CM C:Addr):Sp:=fun vs H Q _=>∃ (x:Addr) (v:V) (t:Nat) (D:ColD) (S:Nat->Prop) (R:Nat->Nat->Prop) (U:Nat->Prop) (T:Nat->Nat->Prop),vs=[.ref x,v]/\ColAt c CM C (fK b) t (noT H) x D S R U T/\okT b t/\Scal v/\Q (.bl (okV b t v)) H
theorem ZaN {b:Bool}{a1 a2 a3 a4:V}{m:Str}(h:([("valued",a1),("by_number",a2),("by_key",a3)]:List (Str × V)).lookup m=none)(h1:("greatest":Str)≠m)(h2:("width":Str)≠m):([("valued",a1),("by_number",a2),("by_key",a3),(fK b,a4)]:List (Str × V)).lookup m=none:=by
 have e:([("valued",a1),("by_number",a2),("by_key",a3),(fK b,a4)]:List (Str × V))=([("valued",a1),("by_number",a2),("by_key",a3)]:List (Str × V))++[(fK b,a4)]:=rfl;rw [e,List.lookup_append,h];show List.lookup m [(fK b,a4)]=none;have:(m==fK b)=false:=by
   unfold fK;split
   . exact zas.mpr (Ne.symm h1)
   . exact zas.mpr (Ne.symm h2)
 rw [yba,this];rfl
section
variable {c:Kd->Addr}{ts:Tabs}
theorem ok_nofV (cc:ClC K C)(d:MDefAt K C "numbers_of" "ByValue.numbers_of" Za7 ["self","value"]):MethAt P w K mg base C "numbers_of" ["self","value"] 4 (spNof true):=by refine MethAt.of cc.c d jz ?_ ?_;walk_at "F";have nd:=jz.nd;obtain ⟨x,v,rfl,hv,q⟩:=h;refine ⟨_,(Zag (Zak (ZaS (Zaa (pv 1) Zab)))),?_⟩;walk_at "vc";exact ⟨by decide,fun p np=>q p _ (Same.new np) np Zac⟩
theorem ok_nofB (cc:ClC K C)(ji:FnAt P w K mg base "places_of" ["word"] 3 spPlacesOf)(d:MDefAt K C "numbers_of" "ByBits.numbers_of" Za8 ["self","value"]):MethAt P w K mg base C "numbers_of" ["self","value"] 4 (spNof false):=by refine MethAt.of cc.c d jF ?_ ?_;walk_at "F";have nd:=jF.nd;obtain ⟨x,v,rfl,hv,q⟩:=h;refine ⟨_,(Zag (Zak (Zaj ji (Zaa (pv 1) Zab)))),?_⟩;walk_at "vc";exact ⟨pl 256 v,by rw [wd_pl hv],Zg9 _ _,fun p hp=>(mem_pl.mp hp).1,fun r H' s nr hr=>q r H' s nr hr⟩
theorem ok_topV (cc:ClC K C)(n4:NoAttr K C "greatest")(d:MDefAt K C "top" "ByValue.top" Zcv ["self"]):MethAt P w K mg base C "top" ["self"] 1 (spTop true c CM C):=by refine MethAt.of cc.c d jaJ ?_ ?_;walk_at "F";have nd:=jaJ.nd;obtain ⟨x,t,D,S,R,U,T,rfl,hc,ok,q⟩:=h;obtain ⟨dx,hx⟩:=hc.hx;refine ⟨_,(Zag (Zak (Zam K (pv 0)))),?_⟩;walk_at "vc";exact ⟨_,_,_,(oT hx),cc.c,n4,_,rfl,q⟩
theorem ok_topB (cc:ClC K C)(n4:NoAttr K C "width")(d:MDefAt K C "top" "ByBits.top" ZcP ["self"]):MethAt P w K mg base C "top" ["self"] 1 (spTop false c CM C):=by
 refine MethAt.of cc.c d ja1 ?_ ?_;walk_at "F";have nd:=ja1.nd;obtain ⟨x,t,D,S,R,U,T,rfl,hc,ok,q⟩:=h;obtain ⟨dx,hx⟩:=hc.hx;refine ⟨_,(Zag (Zak (Zah ZaP (Zah Zbe Zaf (Zam K (pv 0))) Zaf))),?_⟩;walk_at "vc";have ok:t<=40:=ok;refine ⟨_,_,_,(oT hx),cc.c,n4,_,rfl,_,rfl,⟨by omega,by omega,by decide⟩,?_⟩;have e:(1:Int)*2^(t:Int).toNat-1=((tpB false t:Nat):Int):=by
   rw [ycv,yap];show _=((2^t-1:Nat):Int)
   have:=Nat.one_le_two_pow (n:=t);rw [Int.ofNat_sub this,ycq];rfl
 rw [e];exact q
theorem ok_can {b:Bool}(cc:ClC K C)(jn:FnAt P w K mg base "is_whole" ["thing"] 1 spIsV)(jcr:MethAt P w K mg base C "top" ["self"] 1 (spTop b c CM C))(d:MDefAt K C "can_have" "Column.can_have" Za1 ["self","value"]):MethAt P w K mg base C "can_have" ["self","value"] 2 (spCan b c CM C):=by
 refine MethAt.of cc.c d jZ ?_ ?_;walk_at "F";have nd:=jZ.nd;obtain ⟨x,v,t,D,S,R,U,T,rfl,hc,ok,sv,q⟩:=h;obtain ⟨dx,hx⟩:=hc.hx;refine ⟨_,(Zag (Zak (ZdM (Zaj jn (Zaa (pv 1) Zab)) (ZdL (pe_chain ZcF ZcF Zaf (pv 1) (ZaG P w K mg base 1 (pv 0))))))),?_⟩;walk_at "vc";refine ⟨v,rfl,sv,_,rfl,?_⟩;cases v with
 | int z =>
   show if true=true then _ else _
   rw [if_pos rfl];refine ⟨z,rfl,?_⟩;by_cases z0:0<=z
   . rw [if_pos z0]
     refine ⟨_,_,_,(oT hx),ZaN rfl (by decide) (by decide),_,_,jcr,x,t,D,S,R,U,T,rfl,hc,ok,z,rfl,_,rfl,?_⟩;have e:okV b t (.int z)=decide (z<=((tpB b t:Nat):Int)):=yaS.mpr ⟨fun h=>h.2,fun h=>⟨z0,h⟩⟩;rw [e] at q;exact q
   . rw [if_neg z0]
     rw [show okV b t (.int z)=false from yaw fun h=>z0 h.1] at q;exact q
 | bl b=>exact q
 | non=>exact q
 | str z=>exact q
 | _=>exact sv.elim
end
def gOff (g:Nat->Option Nat)(r:Nat):Nat->Option Nat:=fun y=>if y=r then none else g y
def gOn (g:Nat->Option Nat)(r v:Nat):Nat->Option Nat:=fun y=>if y=r then some v else g y
def Ri (b:Bool)(g:Nat->Option Nat)(r v i n y:Nat):Prop:=Rg b g n y/\¬ (y=r/\n∈(nmB b v).take i)
def ColQ (c:Kd->Addr)(CM C:Addr)(f:Str)(t:Int)(H:Hp)(x:Addr)(D:ColD)(S:Nat->Prop)(R:Nat->Nat->Prop):Prop:=ColAt c CM C f t H x D S R (fun n=>∃ y,R n y) (fun k n=>∃ y,y/256=k/\R n y)
theorem Zbs {p q:Nat->Prop}(h:∀ y,p y↔q y):(∃ y,p y)↔∃ y,q y:=⟨fun ⟨y,z⟩=>⟨y,(h y).mp z⟩,fun ⟨y,z⟩=>⟨y,(h y).mpr z⟩⟩
section
variable {b:Bool}{r v i n m y:Nat}
theorem ri_zero:Ri b g r v 0 n y↔Rg b g n y:=⟨fun h=>h.1,fun h=>⟨h,fun z=>nomatch z.2⟩⟩
theorem ri_succ (hn:(nmB b v)[i]?=some n):Ri b g r v (i+1) m y↔Ri b g r v i m y/\¬ (m=n/\y=r):=by
 unfold Ri;rw [ybk,hn,yaf,Option.toList_some,yaa];constructor
 . exact fun h=>⟨⟨h.1,fun z=>h.2 ⟨z.1,.inl z.2⟩⟩,fun z=>h.2 ⟨z.2,.inr z.1⟩⟩
 . exact fun h=>⟨h.1.1,fun z=>z.2.elim (fun w=>h.1.2 ⟨z.1,w⟩) fun w=>h.2 ⟨w,z.1⟩⟩
theorem Zhr {a:Nat}(u:Up a ps)(h:ps[i]?=some n):n∉ps.take i:=fun z=>by
 have nd:=Zdg u;obtain ⟨j,hj⟩:=List.mem_iff_getElem?.mp z;rw [List.getElem?_take] at hj;split at hj
 . rename_i lt
   have h1:=(yaQ.mp hj)
   have h2:=(yaQ.mp h)
   have:=(List.getElem_inj nd (h₀:=h1.1) (h₁:=h2.1)).mp (h1.2.trans h2.2.symm);omega
 . cases hj
theorem ri_at (u:Up 0 (nmB b v))(e:g r=some v)(hn:(nmB b v)[i]?=some n):Ri b g r v i n r:=⟨⟨v,e,yao hn⟩,fun z=>Zhr u hn z.2⟩
theorem Zio (e:g r=some v):Ri b g r v (pint (nmB b v)).length n y↔Rg b (gOff g r) n y:=by
 unfold Ri Rg gOff;rw [Zal,ycu];by_cases z:y=r
 . subst z
   rw [if_pos rfl];constructor
   . rintro ⟨⟨u,h1,h2⟩,h3⟩
     rw [e] at h1;cases h1;exact absurd ⟨rfl,h2⟩ h3
   . rintro ⟨u,h,_⟩
     cases h
 . rw [if_neg z]
   exact ⟨fun h=>h.1,fun h=>⟨h,fun w=>z w.1⟩⟩
theorem plc_lt {es:List Ent}{k p:Nat}(ok:EsOk es)(h:p∈plcE k es):p<256:=by
 rcases Zbh k ok.up with z | ⟨e,z1,z2,z3⟩
 . rw [(ZbD z).2] at h
   cases h
 . rw [(Zbf z1).2] at h
   exact ok.plt e z3 p h
theorem v256 (ok:okT b t)(v1:v<=tpB b t):v<2^256:=by
 unfold okT at ok;unfold tpB at v1;have:(2:Nat)^40<2^256:=by decide
 have:999<(2:Nat)^256:=by decide
 cases b with
 | true =>
   simp only [zaT] at ok v1;omega
 | false =>
   simp only [yaF,zay] at ok v1;have:=Zig ok;omega
theorem ColF.v256 {c:Kd->Addr}{x:Addr}{D:ColD}(h:ColF b c CM C t H x D g)(e:g r=some v):v<2^256:=My.v256 h.ok (h.bd r v e).2
end
def spTakeC (b:Bool)(c:Kd->Addr)(CM C:Addr)(ts:Tabs):Sp:=fun vs H Q _=>∃ (x:Addr) (r t:Nat) (D:ColD) (g:Nat->Option Nat),vs=[.ref x,.int r]/\r<=65535/\ColF b c CM C t (noT H) x D g/\Tbs ts H/\∀ D' H',Cf ts D.F H D'.F H'->ColF b c CM C t (noT H') x D' (gOff g r)->Q (.bl (g r).isSome) H'
section
variable {c:Kd->Addr}{ts:Tabs}
theorem Zhy {b:Bool} (cP:∃ t,mg "PLACES"=some (.int 256 t)) (cc:ClC K C) (jcw:MethAt P w K mg base C "value" ["self","row"] 7 (spVal b c CM C ts)) (jcs:MethAt P w K mg base C "numbers_of" ["self","value"] 4 (spNof b)) (h_take:MethAt P w K mg base CM "take" ["self","n"] 7 (spTakeM c CM ts)) (jco:MethAt P w K mg base CM "count_at" ["self","key"] 5 (spCountM c CM ts)) (jb7:MethAt P w K mg base CM "many" ["self"] 1 (spManyMM c CM)) (d:MDefAt K C "take" "Column.take" ZbE ["self","row"]):MethAt P w K mg base C "take" ["self","row"] 8 (spTakeC b c CM C ts):=by
 obtain ⟨tP,ja⟩:=cP;refine MethAt.of cc.c d jaI ?_ ?_;walk_at "F";have nd:=jaI.nd;obtain ⟨x,r,t,D,g,rfl,hr1,hc,ht,q⟩:=h;obtain ⟨dx,hx⟩:=hc.at_.hx;refine ⟨_,(Zad (Zaz (i:=2) (Zap P w K mg base 7 (pv 0) (Zaa (pv 1) Zab)))
     (Zad (ZaD (Za0 Zfe (pv 2) ZbA) (Zag (Zak Zdq)) Zau)
     (Zad (Zax (Zap P w K mg base 7 (Zam K (pv 0)) (Zaa (pv 1) Zab)))
     (Zad (Zbj zai rfl (ZaC K (Zap P w K mg base 4 (pv 0) (Zaa (pv 2) Zab))) (ZbM (i:=3)) (Zad (Zaz (i:=4) (Zbq (hu1 hr) (Zam K (pv 0)) (pv 3) (fun _ _=>rfl)))
     (Zad (Zax (Zap P w K mg base 7 (pv 4) (Zaa (pv 1) Zab)))
     (Zad (ZaD (Za0 Zbr (Zap P w K mg base 5 (pv 4) (Zaa (Zah Zas (pv 1) (ZaJ ja)) Zab)) Zaf) (Zag (Zax (ZhI (Zbq (hu1 hr) (Zam K (pv 0)) (Zah Zas (pv 1) (ZaJ ja)) (fun _ _=>rfl)) (pv 3) ⟨rfl,rfl,rfl,rfl⟩))) Zau)
     (Zag (ZaD (Za0 Zbr (ZaG P w K mg base 1 (pv 4)) Zaf) (Zag (Zax (ZhI (Zam K (pv 0)) (pv 3) ⟨rfl,rfl,rfl,rfl⟩))) Zau))))))
     (Zag (Zak Zdq)))))),?_⟩
 have e1:(r:Int)/256=((r/256:Nat):Int):=by omega
 refine Zao fun k hk=>?_
 walk_at "vc";refine ⟨_,_,_,(oT hx),ZaN rfl (by decide) (by decide),_,_,jcw,x,r,t,D,g,rfl,hr1,hc,ht,fun H1 nx=>hk _ _ (Zao fun k hk=>?_)⟩;have hc1:=hc.same nx.same;walk_at "vc";cases e:g r with
 | none =>
   show if V.non=V.non then _ else _
   rw [if_pos rfl];have eg:gOff g r=g:=by
     funext y;unfold gOff;split
     . rename_i h
       rw [h,e]
     . rfl
   have:=q D H1 (Cf.nx nx) (by rw [eg];exact hc1);rw [e] at this;exact this
 | some v =>
   show if V.int (v:Nat)=V.non then _ else _
   rw [if_neg (fun z=>by cases z)];refine hk _ _ (Zao fun k hk=>?_);obtain ⟨dx1,hx1⟩:=hc1.at_.hx;obtain ⟨dm,kd,ah,sr,ho,_⟩:=hc1.at_.hv.ex;walk_at "vc";refine ⟨_,_,_,(oT hx1),cc.c,cc.n1,_,rfl,_,rfl,_,_,_,(oT ho),rfl,_,_,h_take,D.mv,r,D.ev,rfl,hr1,hc1.at_.hv,hc1.at_.okv,nx.tb,fun H2 ev' nb hm ok2 mem2=>hk _ _ (Zao fun k hk=>?_)⟩;have c2:=hc1.at_.setV (S':=fun y=>∃ u,gOff g r y=some u) nb.same hm ok2 fun y=>by
     rw [mem2,hc1.at_.m1];unfold gOff;by_cases z:y=r
     . rw [if_pos z]
       exact ⟨fun h=>absurd z h.2,fun ⟨u,h⟩=>by cases h⟩
     . rw [if_neg z]
       exact ⟨fun h=>h.1,fun h=>⟨h,z⟩⟩
   have f2:Cf ts D.F H ({ D with ev:=ev' }:ColD).F H2:=(Cf.nx nx).trans (Cf.nb nb (.inl rfl));generalize ({ D with ev:=ev' }:ColD)=D2 at c2 f2;obtain ⟨dx2,hx2⟩:=c2.hx;have hv:=hc.v256 e;walk_at "vc";refine ⟨_,_,_,(oT hx2),ZaN rfl (by decide) (by decide),_,_,jcs,x,v,rfl,hv,fun l H3 s3 nl hl=>⟨l,rfl,⟨_,SqL.of hl⟩,?_⟩⟩;have nx3:=f2.tb.nx s3;refine loopL (xs:=pint (nmB b v)) (fun i σ H'=>(∃ v3 v4,σ=[some (.ref x),some (.int r),some (.int v),v3,v4])/\noT H' l=some (.lst (pint (nmB b v)))/\∃ D',Cf ts D.F H D'.F H'/\ColQ c CM C (fK b) t (noT H') x D' (fun y=>∃ u,gOff g r y=some u) (Ri b g r v i)) ⟨⟨_,_,rfl⟩,Zan hl (L2.nl _),D2,f2.trans (Cf.nx nx3),(c2.same nx3.same).imp (fun _=>zaA) (fun n y _=>ri_zero.symm) (fun n=>Zbs fun y=>ri_zero.symm) (fun k n=>Zbs fun y=>and_congr zaA ri_zero.symm)⟩ ?_ ?_ ?_
   . rintro i σ H2 _ ⟨_,hl2,_⟩
     exact sL hl2
   . rintro i w σ H4 hw ⟨⟨v3,v4,rfl⟩,hl4,D4,f4,c4⟩
     obtain ⟨n,hn,rfl⟩:=ZaR hw;have rs:∀ m y,Ri b g r v (i+1) m y↔Ri b g r v i m y/\¬ (m=n/\y=r):=fun m y=>ri_succ hn
     have r0:Ri b g r v i n r:=ri_at (nmB_up b v) e hn;have lst4:∀ {D5 H5},Cf ts D4.F H4 D5 H5->noT H5 l=some (.lst (pint (nmB b v))):=fun f=>f.same _ _ (fun z=>(c4.loose _ z).no hl4 Zbu (fun _ z=>by cases z)) hl4
     generalize Ri b g r v i=R at rs r0 c4;generalize Ri b g r v (i+1)=R' at rs;have hin:n∈D4.ns:=(c4.m4 n).mpr ⟨r,r0⟩;obtain ⟨a1,a2,a3⟩:=c4.an n hin;obtain ⟨dx4,hx4⟩:=c4.hx;obtain ⟨dm4,kd4,ah4,sr4,ho4,_⟩:=a2.ex;rw [gName];refine Zao fun k hk=>?_
     walk_at "vc";refine ⟨_,_,_,(oT hx4),cc.c,cc.n2,_,rfl,_,rfl,_,(c4.get hin).1,hk _ _ (Zao fun k hk=>?_)⟩;walk_at "vc";refine ⟨_,_,_,(oT ho4),rfl,_,_,h_take,D4.A n,r,D4.E n,rfl,hr1,a2,a3,f4.tb,fun H5 e5 nb5 hm5 ok5 mem5=>hk _ _ (Zao fun k hk=>?_)⟩;have m5:∀ y,y∈flat e5↔R' n y:=fun y=>by
       rw [mem5,c4.m2 n hin,rs];exact ⟨fun h=>⟨h.1,fun z=>h.2 z.2⟩,fun h=>⟨h.1,fun z=>h.2 ⟨rfl,z⟩⟩⟩
     have c5:=c4.setN (R':=R') hin nb5.same hm5 ok5 m5 (fun m y hm=>by rw [rs];exact ⟨fun h=>⟨h,fun z=>hm z.1⟩,fun h=>h.1⟩);have g5:Cf ts D4.F H4 ({ D4 with E:=fun m=>if m=n then e5 else D4.E m }:ColD).F H5:=Cf.nb nb5 (.inr (.inr (.inr (.inl ⟨n,hin,rfl⟩))));have dE:({ D4 with E:=fun m=>if m=n then e5 else D4.E m }:ColD).E n=e5:=if_pos rfl;have dA:({ D4 with E:=fun m=>if m=n then e5 else D4.E m }:ColD).A n=D4.A n:=rfl;have dN:n∈({ D4 with E:=fun m=>if m=n then e5 else D4.E m }:ColD).ns:=hin;generalize ({ D4 with E:=fun m=>if m=n then e5 else D4.E m }:ColD)=D5 at c5 g5 dE dA dN;have hm5':=hm5;obtain ⟨dm5,kd5,ah5,sr5,ho5,_⟩:=hm5'.ex;walk_at "vc";rw [e1];refine ⟨_,_,_,(oT ho5),rfl,_,_,jco,D4.A n,r/256,e5,rfl,hm5,ok5,nb5.tb,fun H6 nx6=>⟨rfl,?_⟩⟩;have c6:=c5.same nx6.same;have g6:=g5.trans (Cf.nx nx6);have fin:∀ D7 H7,Cf ts D4.F H4 D7.F H7->ColAt c CM C (fK b) t (noT H7) x D7 (fun y=>∃ u,gOff g r y=some u) R' (fun n=>∃ y,R n y) (fun k n=>∃ y,y/256=k/\R' n y)->D7.A n=D4.A n->D7.E n=e5->n∈D7.ns->k [some (.ref x),some (.int r),some (.int v),some (.int n),some (.ref (D4.A n))] H7:=by
       intro D7 H7 g7 c7 dA dE dN;refine hk _ _ ?_;obtain ⟨_,b2,b3⟩:=c7.get dN;rw [dA,dE] at b2;obtain ⟨dm7,kd7,ah7,sr7,ho7,_⟩:=b2.ex;walk_at "vc";refine ⟨_,_,_,(oT ho7),rfl,_,_,jb7,D4.A n,e5,rfl,b2,rfl,?_⟩;obtain ⟨dx7,hx7⟩:=c7.hx;by_cases z:flat e5=[]
       . rw [if_pos (by rw [<- ZaO,z];rfl)]
         refine ⟨_,_,_,(oT hx7),cc.c,cc.n2,_,rfl,_,rfl,.inl ⟨_,.inl (oT c7.hn)⟩,_,(oT c7.hn),Sum.inl (n:Int),rfl,_,(c7.an n dN).1,?_⟩;have g8:Cf ts D7.F H7 ({ D7 with kn:=dropK D7.kn (Sum.inl (n:Int)),ns:=D7.ns.filter fun m=>decide (m≠n) }:ColD).F (upd H7 D7.dn (.dK (dropK D7.kn (Sum.inl (n:Int))))):=Cf.put g7.tb (.inr (.inl rfl)) (oT c7.hn) trivial fun p hp=>.inl (by
           rcases hp with h | h | h | ⟨m,h,w⟩ | h
           . exact .inl h
           . exact .inr (.inl h)
           . exact .inr (.inr (.inl h))
           . exact .inr (.inr (.inr (.inl ⟨m,(yau.mp h).1,w⟩)))
           . exact .inr (.inr (.inr (.inr h))))
         refine ⟨lst4 (g7.trans g8),_,f4.trans (g7.trans g8),?_⟩;have c8:=c7.popN (n:=n);rw [<- Zci (L2.nd _) (.inr ⟨_,c7.hn⟩)] at c8;refine c8.imp (fun _=>zaA) (fun _ _ _=>zaA) (fun m=>?_) (fun _ _=>zaA);constructor
         . rintro ⟨⟨y,hy⟩,mn⟩
           exact ⟨y,(rs m y).mpr ⟨hy,fun w=>mn w.1⟩⟩
         . rintro ⟨y,hy⟩
           refine ⟨⟨y,((rs m y).mp hy).1⟩,fun mn=>?_⟩;rw [mn] at hy;have:=(m5 y).mpr hy;rw [z] at this;cases this
       . rw [if_neg (by
           intro w;rw [V.int.injEq] at w;have:(flat e5).length=0:=by rw [ZaO];omega
           exact z (List.eq_nil_of_length_eq_zero this))]
         refine ⟨lst4 g7,_,f4.trans g7,c7.imp (fun _=>zaA) (fun _ _ _=>zaA) (fun m=>?_) (fun _ _=>zaA)⟩;constructor
         . rintro ⟨y,hy⟩
           by_cases mn:m=n
           . rw [mn]
             obtain ⟨y',hy'⟩:=List.exists_mem_of_ne_nil _ z;exact ⟨y',(m5 y').mp hy'⟩
           . exact ⟨y,(rs m y).mpr ⟨hy,fun w=>mn w.1⟩⟩
         . exact fun ⟨y,hy⟩=>⟨y,((rs m y).mp hy).1⟩
     have tk:(r/256)∈D5.ks/\n∈D5.nb (r/256):=(c5.m3 _ _).mpr ⟨r,rfl,r0⟩;by_cases z:plcE (r/256) e5=[]
     . rw [if_pos (by rw [z];rfl)]
       obtain ⟨dx6,hx6⟩:=c6.hx;obtain ⟨q1,q2,q3⟩:=c6.ak _ tk.1;have q4:DGet H6 D5.dk (.int ((r/256:Nat):Int)) (some (.ref (D5.B (r/256)))):=by have:=DGet.k (k:=Sum.inl ((r/256:Nat):Int)) (oT c6.hk);rw [q1] at this;exact this
       have q5:∃ u,valV (D5.kb (r/256)) (Sum.inl (n:Int))=some u:=by have:=q3.some n;rw [yak tk.2] at this;exact ybG.mp this
       obtain ⟨u,q5⟩:=q5;refine ⟨_,_,_,(oT hx6),cc.c,cc.n3,_,rfl,_,rfl,_,q4,_,rfl,.inl ⟨_,.inl (oT q2)⟩,_,(oT q2),Sum.inl (n:Int),rfl,_,q5,?_⟩;have c7:=c6.setK (T':=fun k n=>∃ y,y/256=k/\R' n y) tk.1 (q3.drop n) (fun m=>by
         rw [yau,yaz];have h3:=c6.m3 (r/256) m;constructor
         . rintro ⟨h1,h2⟩
           obtain ⟨y,y1,y2⟩:=h3.mp ⟨tk.1,h1⟩;exact ⟨y,y1,(rs m y).mpr ⟨y2,fun w=>h2 w.1⟩⟩
         . rintro ⟨y,y1,y2⟩
           refine ⟨(h3.mpr ⟨y,y1,((rs m y).mp y2).1⟩).2,fun mn=>?_⟩;rw [mn] at y2;have:=(ZaL ok5).mp ((m5 y).mpr y2);rw [y1,z] at this;cases this) (fun j m hj=>Zbs fun y=>and_congr_right fun y1=>by
         rw [rs];exact ⟨fun h=>⟨h,fun w=>hj (by rw [<- y1,w.2])⟩,fun h=>h.1⟩)
       rw [<- Zci (L2.nd _) (.inr ⟨_,q2⟩)] at c7;refine fin _ _ ?_ c7 dA dE dN;exact g6.trans (Cf.put g6.tb (.inr (.inr (.inr (.inr ⟨_,tk.1,rfl⟩)))) (oT q2) trivial fun p hp=>.inl hp)
     . rw [if_neg (by
         intro w;rw [V.int.injEq] at w;exact z (List.eq_nil_of_length_eq_zero (by omega)))]
       refine fin D5 H6 g6 (c6.imp (fun _=>zaA) (fun _ _ _=>zaA) (fun _=>zaA) (fun j m=>?_)) dA dE dN;constructor
       . rintro ⟨y,y1,y2⟩
         by_cases w:m=n/\y=r
         . obtain ⟨p,hp⟩:=List.exists_mem_of_ne_nil _ z
           have lt:p<256:=plc_lt ok5 hp;have d1:(256*(r/256)+p)/256=r/256:=by omega
           have d2:(256*(r/256)+p)%256=p:=by omega
           refine ⟨256*(r/256)+p,by rw [d1,<- y1,w.2],?_⟩;rw [w.1];exact (m5 _).mp ((ZaL ok5).mpr (by rw [d1,d2];exact hp))
         . exact ⟨y,y1,(rs m y).mpr ⟨y2,w⟩⟩
       . exact fun ⟨y,y1,y2⟩=>⟨y,y1,((rs m y).mp y2).1⟩
   . rintro σ H4 ⟨⟨v3,v4,rfl⟩,hl4,D4,f4,c4⟩
     refine hk _ _ ?_;walk_at "vc";have:=q D4 H4 f4 ⟨c4.imp (fun _=>zaA) (fun n y _=>Zio e) (fun n=>Zbs fun y=>Zio e) (fun k n=>Zbs fun y=>and_congr zaA (Zio e)),fun y u z=>?_,hc.ok⟩
     . rw [e] at this
       exact this
     . unfold gOff at z
       split at z
       . cases z
       . exact hc.bd y u z
end
def spPutC (b:Bool)(c:Kd->Addr)(CM C:Addr)(ts:Tabs):Sp:=fun vs H Q _=>∃ (x:Addr) (r v t:Nat) (D:ColD) (g:Nat->Option Nat),vs=[.ref x,.int r,.int v]/\r<=65535/\v<=tpB b t/\ColF b c CM C t (noT H) x D g/\Tbs ts H/\∀ D' H',Cf ts D.F H D'.F H'->ColF b c CM C t (noT H') x D' (gOn g r v)->Q .non H'
def Rj (b:Bool)(g:Nat->Option Nat)(r v i n y:Nat):Prop:=Rg b (gOff g r) n y\/(y=r/\n∈(nmB b v).take i)
section
variable {b:Bool}{r v i n m y:Nat}
theorem rj_zero:Rj b g r v 0 n y↔Rg b (gOff g r) n y:=⟨fun h=>h.elim id fun z=>(nomatch z.2),fun h=>.inl h⟩
theorem rj_succ (hn:(nmB b v)[i]?=some n):Rj b g r v (i+1) m y↔Rj b g r v i m y\/(m=n/\y=r):=by
 unfold Rj;rw [ybk,hn,yaf,Option.toList_some,yaa,or_assoc];refine or_congr zaA ?_;constructor
 . rintro ⟨h,z | z⟩
   . exact .inl ⟨h,z⟩
   . exact .inr ⟨z,h⟩
 . rintro (⟨h,z⟩ | ⟨z,h⟩)
   . exact ⟨h,.inl z⟩
   . exact ⟨h,.inr z⟩
theorem Zib:Rj b g r v (pint (nmB b v)).length n y↔Rg b (gOn g r v) n y:=by
 unfold Rj Rg gOn gOff;rw [Zal,ycu];by_cases z:y=r
 . subst z
   rw [if_pos rfl,if_pos rfl];constructor
   . rintro (⟨u,h1,h2⟩ | h)
     . cases h1
     . exact ⟨v,rfl,h.2⟩
   . rintro ⟨u,h1,h2⟩
     cases h1;exact .inr ⟨rfl,h2⟩
 . rw [if_neg z,if_neg z]
   exact ⟨fun h=>h.elim id fun w=>absurd w.1 z,fun h=>.inl h⟩
end
section
variable {c:Kd->Addr}{ts:Tabs}
theorem Zi9 {b:Bool}(cP:∃ t,mg "PLACES"=some (.int 256 t))(cc:ClC K C)(jg:FnAt P w K mg base "check_number" ["thing"] 2 spChk)(h_can:MethAt P w K mg base C "can_have" ["self","value"] 2 (spCan b c CM C))(jcx:MethAt P w K mg base C "take" ["self","row"] 8 (spTakeC b c CM C ts))(jcs:MethAt P w K mg base C "numbers_of" ["self","value"] 4 (spNof b))(jb2:MethAt P w K mg base CM "put" ["self","n"] 7 (spPutM c CM ts))(jN:MakeAt P w K mg base "Marks" CM ["self"] 1 (spInitM c CM ts))(d:MDefAt K C "put" "Column.put" ZbP ["self","row","value"]):MethAt P w K mg base C "put" ["self","row","value"] 9 (spPutC b c CM C ts):=by
 obtain ⟨tP,ja⟩:=cP;refine MethAt.of cc.c d ja0 ?_ ?_;walk_at "F";have nd:=ja0.nd;obtain ⟨x,r,v,t,D,g,rfl,hr1,hv1,hc,ht,q⟩:=h;obtain ⟨dx,hx⟩:=hc.at_.hx;refine ⟨_,(Zad (Zax (Zaj jg (Zaa (pv 1) Zab)))
     (Zad (ZaD (Zcy (Za9 (Zap P w K mg base 2 (pv 0) (Zaa (pv 2) Zab)))) (Zag (Zfx)) Zau)
     (Zad (Zax (Zap P w K mg base 8 (pv 0) (Zaa (pv 1) Zab)))
     (Zad (Zax (Zap P w K mg base 7 (Zam K (pv 0)) (Zaa (pv 1) Zab)))
     (Zag (Zbj zai rfl (ZaC K (Zap P w K mg base 4 (pv 0) (Zaa (pv 2) Zab))) (ZbM (i:=3)) (Zad (Zax (Zap P w K mg base 7 (ZiM (Zam K (pv 0)) (pv 3) (Zey jN (hr.mono (by decide)) rfl) ⟨rfl,rfl,rfl,rfl⟩) (Zaa (pv 1) Zab)))
     (Zag (Zee (hu1 hr) (ZiM (Zam K (pv 0)) (Zah Zas (pv 1) (ZaJ ja)) ZcA ⟨rfl,rfl,rfl,rfl⟩) (pv 3) Zdq rfl))))))))),?_⟩
 have e1:(r:Int)/256=((r/256:Nat):Int):=by omega
 refine Zao fun k hk=>?_
 walk_at "vc";refine ⟨r,rfl,hr1,hk _ _ (Zao fun k hk=>?_)⟩;walk_at "vc";refine ⟨_,_,_,(oT hx),ZaN rfl (by decide) (by decide),_,_,h_can,x,.int v,t,D,_,_,_,_,rfl,hc.at_,hc.ok,trivial,_,rfl,?_⟩;rw [show okV b t (.int (v:Nat))=true from yak ⟨by omega,by omega⟩,if_neg (by decide)];refine hk _ _ (Zao fun k hk=>?_);walk_at "vc";refine ⟨_,_,_,(oT hx),ZaN rfl (by decide) (by decide),_,_,jcx,x,r,t,D,g,rfl,hr1,hc,ht,fun D1 H1 f1 c1=>hk _ _ (Zao fun k hk=>?_)⟩;obtain ⟨dx1,hx1⟩:=c1.at_.hx;obtain ⟨dm,kd,ah,sr,ho,_⟩:=c1.at_.hv.ex;walk_at "vc";refine ⟨_,_,_,(oT hx1),cc.c,cc.n1,_,rfl,_,rfl,_,_,_,(oT ho),rfl,_,_,jb2,D1.mv,r,D1.ev,rfl,hr1,c1.at_.hv,c1.at_.okv,f1.tb,fun H2 ev' nb hm ok2 mem2=>hk _ _ ?_⟩;have c2:=c1.at_.setV (S':=fun y=>∃ u,gOn g r v y=some u) nb.same hm ok2 fun y=>by
   rw [mem2,c1.at_.m1];unfold gOff gOn;by_cases z:y=r
   . rw [if_pos z,if_pos z]
     exact ⟨fun _=>⟨v,rfl⟩,fun _=>.inr z⟩
   . rw [if_neg z,if_neg z]
     exact ⟨fun h=>h.elim id fun w=>absurd w z,fun h=>.inl h⟩
 have f2:Cf ts D.F H ({ D1 with ev:=ev' }:ColD).F H2:=f1.trans (Cf.nb nb (.inl rfl));generalize ({ D1 with ev:=ev' }:ColD)=D2 at c2 f2;obtain ⟨dx2,hx2⟩:=c2.hx;have hv:v<2^256:=v256 hc.ok hv1;walk_at "vc";refine ⟨_,_,_,(oT hx2),ZaN rfl (by decide) (by decide),_,_,jcs,x,v,rfl,hv,fun l H3 s3 nl hl=>⟨l,rfl,⟨_,SqL.of hl⟩,?_⟩⟩;have nx3:=f2.tb.nx s3;refine loopL (xs:=pint (nmB b v)) (fun i σ H'=>(∃ v3,σ=[some (.ref x),some (.int r),some (.int v),v3])/\noT H' l=some (.lst (pint (nmB b v)))/\∃ D',Cf ts D.F H D'.F H'/\ColQ c CM C (fK b) t (noT H') x D' (fun y=>∃ u,gOn g r v y=some u) (Rj b g r v i)) ⟨⟨_,rfl⟩,Zan hl (L2.nl _),D2,f2.trans (Cf.nx nx3),(c2.same nx3.same).imp (fun _=>zaA) (fun n y _=>rj_zero.symm) (fun n=>Zbs fun y=>rj_zero.symm) (fun k n=>Zbs fun y=>and_congr zaA rj_zero.symm)⟩ ?_ ?_ ?_
 . rintro i σ H2 _ ⟨_,hl2,_⟩
   exact sL hl2
 . rintro i w σ H4 hw ⟨⟨v3,rfl⟩,hl4,D4,f4,c4⟩
   obtain ⟨n,hn,rfl⟩:=ZaR hw;have rs:∀ m y,Rj b g r v (i+1) m y↔Rj b g r v i m y\/(m=n/\y=r):=fun m y=>rj_succ hn
   have n1:n<1000:=Zh2 hc.ok hv1 (yao hn);have lst4:∀ {D5 H5},Cf ts D4.F H4 D5 H5->noT H5 l=some (.lst (pint (nmB b v))):=fun f=>f.same _ _ (fun z=>(c4.loose _ z).no hl4 Zbu (fun _ z=>by cases z)) hl4
   have rb:∀ m y,Rj b g r v i m y->m<1000:=by
     rintro m y (h | h)
     . exact c1.lt h
     . exact Zh2 hc.ok hv1 (ybb h.2)
   generalize Rj b g r v i=R at rs c4 rb;generalize Rj b g r v (i+1)=R' at rs;obtain ⟨dx4,hx4⟩:=c4.hx;rw [gName];refine Zao fun k hk=>?_
   walk_at "vc";refine ⟨_,_,_,(oT hx4),cc.c,cc.n2,_,rfl,_,rfl,.inl ⟨_,.inl (oT c4.hn)⟩,mkM (c:=c) f4.tb fun z H5 nx5 nz hz=>?_⟩;have c5:=c4.same nx5.same;have s5:D4.kn.length<sizeLine:=c4.dnn.small fun m hm=>by
     obtain ⟨y,hy⟩:=(c4.m4 m).mp hm;exact rb m y hy
   have fin:∀ D7 H7,Cf ts D4.F H4 D7.F H7->ColAt c CM C (fK b) t (noT H7) x D7 (fun y=>∃ u,gOn g r v y=some u) R' (fun n=>∃ y,R' n y) (fun k n=>∃ y,y/256=k/\R n y)->k [some (.ref x),some (.int r),some (.int v),some (.int n)] H7:=by
     intro D7 H7 g7 c7;refine hk _ _ ?_;obtain ⟨dx7,hx7⟩:=c7.hx;have k256:r/256<256:=by omega
     walk_at "vc";rw [e1];refine ⟨_,_,_,(oT hx7),cc.c,cc.n3,_,rfl,_,rfl,.inl ⟨_,.inl (oT c7.hk)⟩,fun p np=>?_⟩;have nx8:Nx ts H7 (upd H7 p (.dK [])):=Nx.new g7.tb np;have c8:=c7.same nx8.same;have hp8:upd H7 p (.dK []) p=some (.dK []):=Zac;have nF:¬ D7.F p:=fun z=>(c7.loose p z).none (ZaU np)
     have g8:Cf ts D4.F H4 D7.F (upd H7 p (.dK [])):=g7.trans (Cf.nx nx8);generalize upd H7 p (.dK [])=H8 at nx8 c8 hp8 g8 ⊢;have last:∀ D9 H9,Cf ts D4.F H4 D9.F H9->ColAt c CM C (fK b) t (noT H9) x D9 (fun y=>∃ u,gOn g r v y=some u) R' (fun n=>∃ y,R' n y) (fun k n=>∃ y,y/256=k/\R n y)->(hk9:r/256∈D9.ks)->∃ H10,DPut H9 (D9.B (r/256)) (.int (n:Int)) (.bl true) H10/\noT H10 l=some (.lst (pint (nmB b v)))/\∃ D',Cf ts D.F H D'.F H10/\ColQ c CM C (fK b) t (noT H10) x D' (fun y=>∃ u,gOn g r v y=some u) R':=by
       intro D9 H9 g9 c9 hk9;obtain ⟨q1,q2,q3⟩:=c9.ak _ hk9;have s9:(D9.kb (r/256)).length<sizeLine:=q3.small fun m hm=>by
         obtain ⟨y,_,hy⟩:=(c9.m3 (r/256) m).mp ⟨hk9,hm⟩;exact rb m y hy
       refine ⟨_,DPut.k (k:=Sum.inl (n:Int)) (oT q2) s9,?_⟩;obtain ⟨ms',d1,d2,_⟩:=q3.put n (.bl true);have c10:=c9.setK (T':=fun k n=>∃ y,y/256=k/\R' n y) hk9 d1 (fun m=>by
         rw [d2];have h3:=c9.m3 (r/256) m;constructor
         . rintro (h1 | h1)
           . obtain ⟨y,y1,y2⟩:=h3.mp ⟨hk9,h1⟩
             exact ⟨y,y1,(rs m y).mpr (.inl y2)⟩
           . exact ⟨r,rfl,(rs m r).mpr (.inr ⟨h1,rfl⟩)⟩
         . rintro ⟨y,y1,y2⟩
           rcases (rs m y).mp y2 with h | h
           . exact .inl (h3.mpr ⟨y,y1,h⟩).2
           . exact .inr h.1) (fun j m hj=>Zbs fun y=>and_congr_right fun y1=>by
         rw [rs];exact ⟨.inl,fun h=>h.elim id fun w=>absurd (by rw [<- y1,w.2]) hj⟩)
       rw [<- Zci (L2.nd _) (.inr ⟨_,q2⟩)] at c10;have g10:=g9.trans (Cf.put (F':=D9.F) g9.tb (.inr (.inr (.inr (.inr ⟨_,hk9,rfl⟩)))) (oT q2) (o':=.dK (putK (D9.kb (r/256)) (Sum.inl (n:Int)) (.bl true))) trivial fun p hp=>.inl hp);refine ⟨lst4 g10,_,?_,c10⟩;exact f4.trans g10
     have s8:D7.kk.length<sizeLine:=c7.dnk.small fun m hm=>Nat.lt_trans (c7.kl m hm) (by decide)
     refine ⟨_,(oT c8.hk),Sum.inl ((r/256:Nat):Int),rfl,s8,fun u hu=>?_,fun hu=>?_⟩
     . have hin:r/256∈D7.ks:=by
         have:=c7.dnk.some (r/256);rw [hu] at this;exact ybo this.symm
       rw [(c7.ak _ hin).1] at hu;cases hu;obtain ⟨H10,y1,y2⟩:=last D7 H8 g8 c8 hin;exact ⟨_,rfl,H10,y1,y2⟩
     . have hin:r/256∉D7.ks:=fun w=>by
         have:=c7.dnk.some (r/256);rw [hu,yak w] at this;cases this
       have c9:=c8.addK k256 hin (Zan hp8 (L2.nd _)) nF;rw [<- Zci (L2.nd _) (.inr ⟨_,c8.hk⟩)] at c9
       have g9 : Cf ts D4.F H4 ({ D7 with kk:=putK D7.kk (Sum.inl ((r/256:Nat):Int)) (.ref p),ks:=D7.ks++[r/256],B:=fun j=>if j=r/256 then p else D7.B j,kb:=fun j=>if j=r/256 then [] else D7.kb j,nb:=fun j=>if j=r/256 then [] else D7.nb j }:ColD).F (upd H8 D7.dk (.dK (putK D7.kk (Sum.inl ((r/256:Nat):Int)) (.ref p)))):=by
         refine g7.trans ⟨fun b o n e=>?_,g8.tb.put (oT c8.hk) trivial,fun b hb=>?_⟩
         . have:=Zae (nx8.at e)
           refine Zan ?_ this.2;rw [Zai (fun z=>n (by rw [z];exact .inr (.inr (.inl rfl))))];exact this.1
         . rcases hb with h | h | h | h | ⟨j,hj,w⟩
           . exact .inl (.inl h)
           . exact .inl (.inr (.inl h))
           . exact .inl (.inr (.inr (.inl h)))
           . exact .inl (.inr (.inr (.inr (.inl h))))
           . by_cases ej:j=r/256
             . simp only [if_pos ej] at w
               rw [w];exact .inr (ZaU np)
             . simp only [if_neg ej] at w
               refine .inl (.inr (.inr (.inr (.inr ⟨j,(yaf.mp hj).elim id fun z=>absurd (yaa.mp z) ej,w⟩))))
       obtain ⟨H10,y1,y2⟩:=last _ _ g9 c9 (yaI _ (yaa.mpr rfl));simp only [if_pos rfl] at y1;exact ⟨H10,y1,y2⟩
   refine ⟨_,(oT c5.hn),Sum.inl (n:Int),rfl,s5,fun u hu=>?_,fun hu=>?_⟩
   . have hin:n∈D4.ns:=by
       have:=c4.dnn.some n;rw [hu] at this;exact ybo this.symm
     obtain ⟨a1,a2,a3⟩:=c5.an n hin;rw [a1] at hu;cases hu;obtain ⟨dm5,kd5,ah5,sr5,ho5,_⟩:=a2.ex;refine ⟨_,rfl,_,_,_,(oT ho5),rfl,_,_,jb2,D4.A n,r,D4.E n,rfl,hr1,a2,a3,nx5.tb,fun H6 e6 nb6 hm6 ok6 mem6=>?_⟩;have c6:=c5.setN (R':=R') hin nb6.same hm6 ok6 (fun y=>by
       rw [mem6,c5.m2 n hin,rs];exact ⟨fun h=>h.elim .inl fun w=>.inr ⟨rfl,w⟩,fun h=>h.elim .inl fun w=>.inr w.2⟩) (fun m y hm=>by rw [rs];exact ⟨.inl,fun h=>h.elim id fun w=>absurd w.1 hm⟩)
     refine fin _ H6 ?_ (c6.imp (fun _=>zaA) (fun _ _ _=>zaA) (fun m=>?_) (fun _ _=>zaA))
     . exact (Cf.nx nx5).trans (Cf.nb nb6 (.inr (.inr (.inr (.inl ⟨n,hin,rfl⟩)))))
     . constructor
       . exact fun ⟨y,hy⟩=>⟨y,(rs m y).mpr (.inl hy)⟩
       . rintro ⟨y,hy⟩
         rcases (rs m y).mp hy with h | h
         . exact ⟨y,h⟩
         . rw [h.1]
           exact (c4.m4 n).mp hin
   . have hin:n∉D4.ns:=fun w=>by
       have:=c4.dnn.some n;rw [hu,yak w] at this;cases this
     have nF:¬ D4.F z:=fun w=>(c4.loose z w).none nz
     have zn:z≠D4.dn:=fun w=>nF (.inr (.inl w))
     have c6:=c5.addN hin hz nF;rw [<- Zci (L2.nd _) (.inr ⟨_,c5.hn⟩)] at c6;have hz6:=hz.one (H':=noT (upd H5 D4.dn (.dK (putK D4.kn (Sum.inl (n:Int)) (.ref z))))) (.inr ⟨_,c5.hn⟩) zn (fun b o nb e=>by rw [Zci (L2.nd _) (.inr ⟨_,c5.hn⟩),Zai nb];exact e)
     have g6 : Cf ts D4.F H4 ({ D4 with kn:=putK D4.kn (Sum.inl (n:Int)) (.ref z),ns:=D4.ns++[n],A:=fun m=>if m=n then z else D4.A m,E:=fun m=>if m=n then [] else D4.E m }:ColD).F (upd H5 D4.dn (.dK (putK D4.kn (Sum.inl (n:Int)) (.ref z)))):=by
       refine ⟨fun b o n e=>?_,nx5.tb.put (oT c5.hn) trivial,fun b hb=>?_⟩
       . have:=Zae (nx5.at e)
         refine Zan ?_ this.2;rw [Zai (fun z=>n (by rw [z];exact .inr (.inl rfl)))];exact this.1
       . rcases hb with h | h | h | ⟨j,hj,w⟩ | h
         . exact .inl (.inl h)
         . exact .inl (.inr (.inl h))
         . exact .inl (.inr (.inr (.inl h)))
         . by_cases ej:j=n
           . simp only [if_pos ej] at w
             rw [w];exact .inr nz
           . simp only [if_neg ej] at w
             refine .inl (.inr (.inr (.inr (.inl ⟨j,(yaf.mp hj).elim id fun z=>absurd (yaa.mp z) ej,w⟩))))
         . exact .inl (.inr (.inr (.inr (.inr h))))
     generalize upd H5 D4.dn (.dK (putK D4.kn (Sum.inl (n:Int)) (.ref z)))=H6 at c6 hz6 g6 ⊢;have A6:({ D4 with kn:=putK D4.kn (Sum.inl (n:Int)) (.ref z),ns:=D4.ns++[n],A:=fun m=>if m=n then z else D4.A m,E:=fun m=>if m=n then [] else D4.E m }:ColD).A n=z:=if_pos rfl;have hin6:n∈({ D4 with kn:=putK D4.kn (Sum.inl (n:Int)) (.ref z),ns:=D4.ns++[n],A:=fun m=>if m=n then z else D4.A m,E:=fun m=>if m=n then [] else D4.E m }:ColD).ns:=yaI _ (yaa.mpr rfl);generalize ({ D4 with kn:=putK D4.kn (Sum.inl (n:Int)) (.ref z),ns:=D4.ns++[n],A:=fun m=>if m=n then z else D4.A m,E:=fun m=>if m=n then [] else D4.E m }:ColD)=D6 at c6 g6 A6 hin6;obtain ⟨dm6,kd6,ah6,sr6,ho6,_⟩:=hz6.ex;refine ⟨_,_,_,(oT ho6),rfl,_,_,jb2,z,r,[],rfl,hr1,hz6,Zd8,g6.tb,fun H7 e7 nb7 hm7 ok7 mem7=>?_⟩;rw [<- A6] at nb7 hm7;have c7:=c6.setN (R':=R') hin6 nb7.same hm7 ok7 (fun y=>by
       rw [mem7,rs];constructor
       . rintro (h | h)
         . cases h
         . exact .inr ⟨rfl,h⟩
       . rintro (h | h)
         . exact absurd ((c4.m4 n).mpr ⟨y,h⟩) hin
         . exact .inr h.2) (fun m y hm=>by rw [rs];exact ⟨fun h=>.inl h.2,fun h=>h.elim (fun w=>⟨hm,w⟩) fun w=>absurd w.1 hm⟩)
     refine fin _ H7 ?_ (c7.imp (fun _=>zaA) (fun _ _ _=>zaA) (fun m=>?_) (fun _ _=>zaA))
     . exact g6.trans (Cf.nb nb7 (.inr (.inr (.inr (.inl ⟨n,hin6,rfl⟩)))))
     . constructor
       . rintro (⟨y,hy⟩ | h)
         . exact ⟨y,(rs m y).mpr (.inl hy)⟩
         . exact ⟨r,(rs m r).mpr (.inr ⟨h,rfl⟩)⟩
       . rintro ⟨y,hy⟩
         rcases (rs m y).mp hy with h | h
         . exact .inl ⟨y,h⟩
         . exact .inr h.1
 . rintro σ H4 ⟨⟨v3,rfl⟩,hl4,D4,f4,c4⟩
   walk_at "vc";refine q D4 H4 f4 ⟨c4.imp (fun _=>zaA) (fun n y _=>Zib) (fun n=>Zbs fun y=>Zib) (fun k n=>Zbs fun y=>and_congr zaA Zib),fun y u z=>?_,hc.ok⟩;unfold gOn at z;split at z
   . rename_i w
     cases z;exact ⟨by omega,hv1⟩
   . exact hc.bd y u z
end
def Fx (x:Addr)(H H':Hp):Prop:=∀ b o,b≠x->H b=some o->H' b=some o
theorem Fx.of {x:Addr}(s:Same H H'):Fx x H H':=fun b o _ e=>s b o e
theorem Fx.trans {x:Addr}{H'':Hp}(a:Fx x H H')(b:Fx x H' H''):Fx x H H'':=fun c o n e=>b c o n (a c o n e)
theorem Fx.put {x:Addr}{o:HO}(a:Fx x H H'):Fx x H (upd H' x o):=fun c oc n e=>by rw [Zai n];exact a c oc n e
theorem Zi3 {x dx:Addr}{o o':HO}(h1:H x=none)(h2:H dx=none)(f:Fx x (upd (upd H dx o) x o') H'):Same H H':=fun b ob e=>by
 have nb:b≠x:=Zaq e h1;refine f b ob nb ?_;rw [Zai nb,Zai (Zaq e h2)];exact e
def MkE (CM:Addr)(H:Hp)(p:Addr):Prop:=∃ dx a b c,H p=some (.ins CM dx [("keyed",.ref a),("aheads",.ref b),("stretches",.ref c),("held",.int 0)])/\H a=some (.lst [])/\H b=some (.lst [])/\H c=some (.lst [])
theorem MkE.fx {x:Addr}{p:Addr}{dx:Addr}{fs:List (Str × V)}(n:p≠x)(hx:H x=some (.ins C dx fs))(s:Fx x H H')(h:MkE CM H p):MkE CM H' p:=by
 obtain ⟨dx',a,b,c,h1,h2,h3,h4⟩:=h;have k:∀ {l:Addr},H l=some (.lst [])->H' l=some (.lst []):=fun {l} e=>s _ _ (fun z=>by rw [z,hx] at e;cases e) e
 exact ⟨dx',a,b,c,s _ _ n h1,k h2,k h3,k h4⟩
def spMI (CM:Addr):Sp:=fun vs H Q _=>∃ (x dx:Addr),vs=[.ref x]/\H x=some (.ins CM dx [])/\∀ H',Fx x H H'->MkE CM H' x->Q .non H'
theorem ok_MI (cd:CD_Marks K mg CM):MakeAt P w K mg base "Marks" CM ["self"] 1 (spMI CM):=by
 refine MakeAt.of cd.at_ cd.init jm ?_ ?_;walk_at "F";have nd:=jm.nd;obtain ⟨x,dx,rfl,hx,q⟩:=h;refine ⟨_,(Zad (ZaF K (pv 0) (ZaS Zab))
     (Zad (ZaF K (pv 0) (ZaS Zab))
     (Zad (ZaF K (pv 0) (ZaS Zab))
     (Zag (ZaF K (pv 0) Zaf))))),?_⟩
 walk_at "vc";refine ⟨by decide,fun p1 n1=>⟨_,_,_,(Same.new n1) _ _ hx,cd.c,cd.n_keyed,by decide,by decide,fun p2 n2=>⟨_,_,_,(Same.new n2) _ _ Zac,cd.c,cd.n_aheads,by show 1<1000;decide,by decide,fun p3 n3=>⟨_,_,_,(Same.new n3) _ _ Zac,cd.c,cd.n_stretches,by show 2<1000;decide,_,_,_,Zac,cd.c,cd.n_held,by show 3<1000;decide,q _ ?_ ?_⟩⟩⟩⟩
 . exact ((((Fx.of (Same.new n1)).put.trans (Fx.of (Same.new n2))).put.trans (Fx.of (Same.new n3))).put).put
 . have x1:p1≠x:=Ne.symm (Zaq hx n1)
   have x2:p2≠x:=fun z=>by rw [z,Zac] at n2;cases n2
   have x3:p3≠x:=fun z=>by rw [z,Zac] at n3;cases n3
   refine ⟨dx,p1,p2,p3,Zac,?_,?_,?_⟩
   . have e1:=Zac (H:=H) (a:=p1) (o:=.lst [])
     have e2:=(Fx.of (x:=x) (Same.refl _)).put (o:=.ins CM dx [("keyed",.ref p1)]) _ _ x1 e1;have e3:=(Fx.of (Same.new (o:=.lst []) n2)).put (o:=.ins CM dx [("keyed",.ref p1),("aheads",.ref p2)]) _ _ x1 e2;have e4:=(Fx.of (Same.new (o:=.lst []) n3)).put (o:=.ins CM dx [("keyed",.ref p1),("aheads",.ref p2),("stretches",.ref p3)]) _ _ x1 e3;rw [Zai x1];exact e4
   . have e2:=Zac (H:=upd (upd H p1 (.lst [])) x (.ins CM dx [("keyed",.ref p1)])) (a:=p2) (o:=.lst [])
     have e3:=(Fx.of (x:=x) (Same.refl _)).put (o:=.ins CM dx [("keyed",.ref p1),("aheads",.ref p2)]) _ _ x2 e2;have e4:=(Fx.of (Same.new (o:=.lst []) n3)).put (o:=.ins CM dx [("keyed",.ref p1),("aheads",.ref p2),("stretches",.ref p3)]) _ _ x2 e3;rw [Zai x2];exact e4
   . rw [Zai x3,Zai x3,Zac]
def spCI (CM C:Addr):Sp:=fun vs H Q _=>∃ (x dx:Addr),vs=[.ref x]/\H x=some (.ins C dx [])/\∀ m d1 d2 H',Fx x H H'->H' x=some (.ins C dx [("valued",.ref m),("by_number",.ref d1),("by_key",.ref d2)])->MkE CM H' m->H' d1=some (.dK [])->H' d2=some (.dK [])->d1≠d2->H m=none->H d1=none->H d2=none->Q .non H'
theorem none_of {p:Addr}(s:Same H H')(h:H' p=none):H p=none:=by
 cases e:H p with
 | none=>rfl
 | some o=>rw [s _ _ e] at h;cases h
section
variable {c:Kd->Addr}{ts:Tabs}
theorem ok_CI {M:Addr}(jN:MakeAt P w K mg base "Marks" CM ["self"] 1 (spMI CM))(cc:ClC K C)(bc:ByCls K mg "Column" "__init__" M f)(F:Fun K "__init__" "Column.__init__" Zat f fd)(b:Binds K fd ["self"] []):BaseAt P w K mg base "Column" "__init__" ["self"] 3 (spCI CM C):=by
 refine ⟨M,f,fd,bc,?_,b⟩;refine F.ok ZdP (fun vs H Q E h=>?_) (fun cdv A outer s H vs Q E hr h=>?_)
 . obtain ⟨x,dx,rfl,_⟩:=h
   rfl
 obtain ⟨x,dx,rfl,hx,q⟩:=h;refine ⟨_,(Zad (ZaF K (pv 0) (Zey jN (hr.mono (by decide)) rfl))
     (Zad (ZaF K (pv 0) ZcA)
     (Zag (ZaF K (pv 0) ZcA)))),?_⟩
 walk_at "vc";refine fun m dm nm ndm hne=>⟨m,dm,rfl,Zac,fun H2 f2 me=>⟨rfl,?_⟩⟩
 have sm:=Zi3 nm ndm f2;have xm:x≠m:=Zaq hx nm;have hx2:=sm _ _ hx;refine ⟨_,_,_,hx2,cc.c,cc.n1,by decide,fun p1 n1=>⟨_,_,_,(Same.new n1) _ _ Zac,cc.c,cc.n2,by show 1<1000;decide,fun p2 n2=>⟨_,_,_,(Same.new n2) _ _ Zac,cc.c,cc.n3,by show 2<1000;decide,?_⟩⟩⟩;have p1x:p1≠x:=fun z=>by rw [z,Zac] at n1;cases n1
 have p2x:p2≠x:=fun z=>by rw [z,Zac] at n2;cases n2
 have g1:Fx x H2 (upd H2 x (.ins C dx [("valued",.ref m)])):=(Fx.of (Same.refl _)).put;have g2:=(g1.trans (Fx.of (Same.new (o:=.dK []) n1))).put (o:=.ins C dx [("valued",.ref m),("by_number",.ref p1)]);have g3:=(g2.trans (Fx.of (Same.new (o:=.dK []) n2))).put (o:=.ins C dx [("valued",.ref m),("by_number",.ref p1),("by_key",.ref p2)]);refine q m p1 p2 _ ((Fx.of sm).trans g3) Zac (me.fx (Ne.symm xm) hx2 g3) ?_ ?_ (fun z=>by rw [<- z,Zai p1x,Zac] at n2;cases n2) nm (none_of sm (by rw [Zai p1x] at n1;exact n1)) ?_
 . have e1:=Zac (H:=upd H2 x (.ins C dx [("valued",.ref m)])) (a:=p1) (o:=.dK [])
   have e2:upd (upd (upd H2 x (.ins C dx [("valued",.ref m)])) p1 (.dK [])) x (.ins C dx [("valued",.ref m),("by_number",.ref p1)]) p1=some (.dK []):=by rw [Zai p1x];exact e1
   rw [Zai p1x];exact (Same.new n2) _ _ e2
 . rw [Zai p2x,Zac]
 . refine none_of sm ?_
   rw [Zai p2x] at n2;have n3:=none_of (Same.new (o:=.dK []) n1) n2;rw [Zai p2x] at n3;exact n3
theorem MkE.ne {m x dx:Addr}{fs:List (Str × V)}(me:MkE CM H m)(hx:H x=some (.ins C dx (("valued",.ref m)::fs))):m≠x:=fun z=>by
 obtain ⟨_,_,_,_,h1,_⟩:=me;rw [z,hx] at h1;injection h1 with h1
 injection h1 with _ _ h1
 injection h1 with h1
 injection h1 with h1
 revert h1;decide +kernel
def NoR (c:Kd->Addr)(CM C:Addr)(f:Str)(t:Int)(H:Hp)(x:Addr)(D:ColD):Prop:=ColAt c CM C f t H x D (fun _=>False) (fun _ _=>False) (fun _=>False) (fun _ _=>False)
def spVI (c:Kd->Addr)(CM C:Addr)(f:Str):Sp:=fun vs H Q _=>∃ (x dx:Addr) (t:Int),vs=[.ref x,.int t]/\H x=some (.ins C dx [])/\∀ D H',Fx x H H'->NoR c CM C f t (noT H') x D->(∀ b,D.F b->H b=none)->Q .non H'
theorem MkE.toM {m:Addr}(h:MkE CM H m):MkAt c CM (noT H) m []:=by obtain ⟨dx,a,b,d,h1,h2,h3,h4⟩:=h;exact ⟨⟨dx,a,b,d,Zan h1 (ni _ _ _),Zan h2 (nl _),Zan h3 (nl _),Zan h4 (nl _)⟩,fun e he=>nomatch he⟩
theorem noR_mk {x dx m d1 d2:Addr}{f:Str}{t:Int}{H1:Hp}(hx:H x=some (.ins C dx []))(f1:Fx x H H1)(e1:H1 x=some (.ins C dx [("valued",.ref m),("by_number",.ref d1),("by_key",.ref d2)]))(me:MkE CM H1 m)(k1:H1 d1=some (.dK []))(k2:H1 d2=some (.dK []))(n12:d1≠d2)(z0:H m=none)(z1:H d1=none)(z2:H d2=none):∃ D,NoR c CM C f t (noT (upd H1 x (.ins C dx [("valued",.ref m),("by_number",.ref d1),("by_key",.ref d2),(f,.int t)]))) x D/\∀ b,D.F b->H b=none:=by
 have mx:=me.ne e1;have g:Fx x H1 (upd H1 x (.ins C dx [("valued",.ref m),("by_number",.ref d1),("by_key",.ref d2),(f,.int t)])):=(Fx.of (Same.refl _)).put;have me2:=me.fx mx e1 g;have q1:=g _ _ (fun z=>by rw [z,e1] at k1;cases k1) k1;have q2:=g _ _ (fun z=>by rw [z,e1] at k2;cases k2) k2;refine ⟨⟨m,d1,d2,[],[],[],[],[],fun _=>0,fun _=>[],fun _=>0,fun _=>[],fun _=>[]⟩,?_,?_⟩
 . exact { hx:=⟨dx,Zan Zac (ni _ _ _)⟩,hv:=me2.toM,okv:=Zd8,hn:=Zan q1 (L2.nd _),dnn:=⟨rfl,.nil⟩,hk:=Zan q2 (L2.nd _),dnk:=⟨rfl,.nil⟩,an:=fun _ h=>(nomatch h),ak:=fun _ h=>(nomatch h),a1:=fun _ h=>(nomatch h),a2:=fun _ h=>(nomatch h),kl:=fun _ h=>(nomatch h),b1:=n12,b2:=fun _ h=>(nomatch h),b3:=fun _ h=>(nomatch h),m1:=fun _=>⟨fun h=>(nomatch h),fun h=>h.elim⟩,m2:=fun _ h=>(nomatch h),m3:=fun _ _=>⟨fun h=>(nomatch h.1),fun h=>h.elim⟩,m4:=fun _=>⟨fun h=>(nomatch h),fun h=>h.elim⟩ }
 . rintro b (rfl | rfl | rfl | ⟨n,hn,_⟩ | ⟨n,hn,_⟩)
   . exact z0
   . exact z1
   . exact z2
   . cases hn
   . cases hn
theorem ok_VI {CV:Addr}(cd:CD_ByValue K mg CV)(hb_Column:BaseAt P w K mg base "Column" "__init__" ["self"] 3 (spCI CM CV)):MakeAt P w K mg base "ByValue" CV ["self","top"] 4 (spVI c CM CV "greatest"):=by
 refine MakeAt.of cd.at_ cd.init jM ?_ ?_;walk_at "F";have nd:=jM.nd;obtain ⟨x,dx,v,rfl,hx,q⟩:=h;refine ⟨_,(Zad (Zax (ZiT hb_Column (hr.mono (by decide)) rfl (Zaa (pv 0) Zab)))
     (Zag (ZaF K (pv 0) (pv 1)))),?_⟩
 walk_at "vc";refine ⟨x,dx,rfl,hx,fun m d1 d2 H1 f1 e1 me k1 k2 n12 z0 z1 z2=>⟨_,_,_,e1,cd.c,cd.n_greatest,by show 3<1000;decide,?_⟩⟩;obtain ⟨D,r1,r2⟩:=noR_mk (c:=c) (f:="greatest") (t:=v) hx f1 e1 me k1 k2 n12 z0 z1 z2;exact q D _ f1.put r1 r2
theorem ok_BI {CB:Addr}(cd:CD_ByBits K mg CB)(hb_Column:BaseAt P w K mg base "Column" "__init__" ["self"] 3 (spCI CM CB)):MakeAt P w K mg base "ByBits" CB ["self","width"] 4 (spVI c CM CB "width"):=by
 refine MakeAt.of cd.at_ cd.init j1 ?_ ?_;walk_at "F";have nd:=j1.nd;obtain ⟨x,dx,v,rfl,hx,q⟩:=h;refine ⟨_,(Zad (Zax (ZiT hb_Column (hr.mono (by decide)) rfl (Zaa (pv 0) Zab)))
     (Zag (ZaF K (pv 0) (pv 1)))),?_⟩
 walk_at "vc";refine ⟨x,dx,rfl,hx,fun m d1 d2 H1 f1 e1 me k1 k2 n12 z0 z1 z2=>⟨_,_,_,e1,cd.c,cd.n_width,by show 3<1000;decide,?_⟩⟩;obtain ⟨D,r1,r2⟩:=noR_mk (c:=c) (f:="width") (t:=v) hx f1 e1 me k1 k2 n12 z0 z1 z2;exact q D _ f1.put r1 r2
theorem mkC {f:Str}{t:Int}{R:Addr->Hp->Prop}{E:XK}(q:∀ x D H',Same H H'->H x=none->NoR c CM C f t (noT H') x D->(∀ b,D.F b->H b=none)->R x H'):∀ x dx,H x=none->H dx=none->dx≠x->spVI c CM C f [.ref x,.int t] (upd (upd H dx (.own x)) x (.ins C dx [])) (fun v H'=>v=.non/\R x H') E:=by intro x dx nx ndx dne;have m2:Same H (upd (upd H dx (.own x)) x (.ins C dx [])):=(Same.new ndx).put nx;exact ⟨x,dx,t,rfl,Zac,fun D H' fx hc hF=>⟨rfl,q x D H' (Zi3 nx ndx fx) nx hc fun b hb=>none_of m2 (hF b hb)⟩⟩
theorem NoR.toF {b:Bool}{x:Addr}{D:ColD}(h:NoR c CM C (fK b) t H x D)(ok:okT b t):ColF b c CM C t H x D (fun _=>none) :=
 ⟨h.imp (fun r=>⟨fun z=>z.elim,fun ⟨v,z⟩=>by cases z⟩) (fun n r z=>z.elim) (fun n=>⟨fun z=>z.elim,fun ⟨r,v,z,_⟩=>by cases z⟩) (fun k n=>⟨fun z=>z.elim,fun ⟨r,_,v,z,_⟩=>by cases z⟩),fun r v z=>(by cases z),ok⟩
end
def plV (g:Nat->Option Nat)(k:Nat)(p:Nat->Bool):List Nat:=(List.range 256).filter fun q=>match g (256*k+q) with
 | some v=>p v
 | none=>false
theorem Zb7 (g:Nat->Option Nat)(k:Nat)(p:Nat->Bool):Up 0 (plV g k p):=ZbZ _ _
theorem mem_plV {k:Nat}{p:Nat->Bool}{q:Nat}:q∈plV g k p↔q<256/\∃ v,g (256*k+q)=some v/\p v=true:=by
 unfold plV;rw [yau,ybR];refine and_congr zaA ?_;cases e:g (256*k+q) with
 | none=>exact ⟨fun h=>(nomatch h),fun ⟨v,h,_⟩=>(nomatch h)⟩
 | some v=>exact ⟨fun h=>⟨v,rfl,h⟩,fun ⟨u,h,z⟩=>by cases h;exact z⟩
theorem Zih {k:Nat}{p:Nat->Bool}:∀ q∈plV g k p,q<256:=fun q h=>(mem_plV.mp h).1
theorem ZcN {k:Nat}{p:Nat->Bool}(u:Up 0 qs)(h:∀ q,q∈qs↔q<256/\∃ v,g (256*k+q)=some v/\p v=true):qs=plV g k p:=Up.ext u (Zb7 _ _ _) fun q=>by rw [h,mem_plV]
theorem ZgC {es:List Ent}{k:Nat}{p:Nat->Bool}(ok:EsOk es)(k256:k<256)(h:∀ r,r∈flat es↔∃ v,g r=some v/\p v=true):plcE k es=plV g k p:=by
 obtain ⟨u,l⟩:=ZiF ok k;refine ZcN u fun q=>?_
 constructor
 . intro hq
   have lt:=l q hq;refine ⟨lt,(h _).mp ((ZaL ok).mpr ?_)⟩;rw [show (256*k+q)/256=k by omega,show (256*k+q)%256=q by omega];exact hq
 . rintro ⟨lt,hv⟩
   have:=(ZaL ok).mp ((h _).mpr hv);rw [show (256*k+q)/256=k by omega,show (256*k+q)%256=q by omega] at this;exact this
theorem ZcR (p q:Prop)[Decidable p][Decidable q]:decide (p\/q)=(decide p||decide q):=by by_cases p<;>by_cases q<;>simp [*]
theorem Zgw {k:Nat}{p:Nat->Bool}(h:∀ v,p v=false):plV g k p=[]:=by
 symm
 refine ZcN trivial fun q=>⟨fun z=>(nomatch z),fun ⟨_,v,_,z⟩=>?_⟩
 rw [h] at z;cases z
theorem ZaW {k:Nat}{p p':Nat->Bool}(h:∀ v,(∃ q,q<256/\g (256*k+q)=some v)->p v=p' v):plV g k p=plV g k p' :=
 ZcN (Zb7 _ _ _) fun q=>by
   rw [mem_plV];refine and_congr_right fun lt=>Zbs fun v=>and_congr_right fun e=>?_
   rw [h v ⟨q,lt,e⟩]
theorem Ziv {k:Nat}{p p':Nat->Bool}:Builtin.bitOr ((wd (plV g k p):Nat):Int) ((wd (plV g k p'):Nat):Int)=((wd (plV g k fun v=>p v||p' v):Nat):Int):=by
 rw [ZiH (Zb7 _ _ _) (Zb7 _ _ _) Zih Zih];congr 2
 refine ZcN (ZbZ _ _) fun q=>?_
 rw [yau,ybR,Bool.or_eq_true,yaz,yaz,mem_plV,mem_plV];refine and_congr_right fun lt=>?_
 constructor
 . rintro (⟨_,v,e,z⟩ | ⟨_,v,e,z⟩)
   . exact ⟨v,e,by rw [z];rfl⟩
   . exact ⟨v,e,by rw [z,Bool.or_true]⟩
 . rintro ⟨v,e,z⟩
   rcases Bool.or_eq_true_iff.mp z with z | z
   . exact .inl ⟨lt,v,e,z⟩
   . exact .inr ⟨lt,v,e,z⟩
theorem plV_and {k:Nat}{p p':Nat->Bool}:Builtin.bitAnd ((wd (plV g k p):Nat):Int) ((wd (plV g k p'):Nat):Int)=((wd (plV g k fun v=>p v&&p' v):Nat):Int):=by
 rw [and_wdI (Zb7 _ _ _) (Zb7 _ _ _)];congr 2
 refine ZcN (Zb7 _ _ _).filter fun q=>?_
 rw [yau,yaz,mem_plV,mem_plV];constructor
 . rintro ⟨⟨lt,v,e,z⟩,_,u,e',z'⟩
   rw [e] at e';cases e';exact ⟨lt,v,e,by rw [z,z'];rfl⟩
 . rintro ⟨lt,v,e,z⟩
   obtain ⟨z1,z2⟩:=Bool.and_eq_true_iff.mp z;exact ⟨⟨lt,v,e,z1⟩,lt,v,e,z2⟩
theorem Zfu {k:Nat}{p p':Nat->Bool}:Builtin.bitAnd ((wd (plV g k p):Nat):Int) (Builtin.bitNot ((wd (plV g k p'):Nat):Int))=((wd (plV g k fun v=>p v&&!p' v):Nat):Int):=by
 rw [ZgP (Zb7 _ _ _) (Zb7 _ _ _)];congr 2
 refine ZcN (Zb7 _ _ _).filter fun q=>?_
 rw [yau,ycr,decide_eq_false_iff_not,mem_plV,mem_plV];constructor
 . rintro ⟨⟨lt,v,e,z⟩,no⟩
   refine ⟨lt,v,e,?_⟩;cases h:p' v with
   | true=>exact absurd ⟨lt,v,e,h⟩ no
   | false=>rw [z];rfl
 . rintro ⟨lt,v,e,z⟩
   obtain ⟨z1,z2⟩:=Bool.and_eq_true_iff.mp z;refine ⟨⟨lt,v,e,z1⟩,fun ⟨_,u,e',z'⟩=>?_⟩;rw [e] at e';cases e';rw [z'] at z2;cases z2
def inR (lo hi:Int)(v:Nat):Bool:=decide (lo<=(v:Int)/\(v:Int)<=hi)
def spWat (b:Bool)(c:Kd->Addr)(CM C:Addr)(ts:Tabs):Sp:=fun vs H Q _=>∃ (x:Addr) (k t:Nat) (lo hi:Int) (D:ColD) (g:Nat->Option Nat),vs=[.ref x,.int k,.int lo,.int hi]/\k<256/\ColF b c CM C t (noT H) x D g/\Tbs ts H/\∀ H',Nx ts H H'->Q (.int (wd (plV g k (inR lo hi)):Nat)) H'
def spWup (c:Kd->Addr)(CM C:Addr)(ts:Tabs):Sp:=fun vs H Q _=>∃ (x:Addr) (k t:Nat) (hi:Int) (D:ColD) (g:Nat->Option Nat),vs=[.ref x,.int k,.int hi]/\k<256/\ColF false c CM C t (noT H) x D g/\Tbs ts H/\∀ H',Nx ts H H'->Q (.int (wd (plV g k (fun v=>decide ((v:Int)<=hi))):Nat)) H'
def spTou (c:Kd->Addr)(CM C:Addr)(ts:Tabs):Sp:=fun vs H Q _=>∃ (x:Addr) (k:Nat) (lo hi:Int) (f:Str) (t:Int) (D:ColD) (S:Nat->Prop) (R:Nat->Nat->Prop) (U:Nat->Prop) (T:Nat->Nat->Prop),vs=[.ref x,.int k,.int lo,.int hi]/\ColAt c CM C f t (noT H) x D S R U T/\(f="greatest"\/f="width")/\(∀ n,T k n->n<1000)/\Tbs ts H/\∀ l os H',Nx ts H H'->noT H l=none->noT H' l=some (.lst (pint os))->Up 0 os->(∀ n,n∈os↔T k n/\lo<=(n:Int)/\(n:Int)<=hi)->Q (.ref l) H'
theorem fK_or (b:Bool):fK b="greatest"\/fK b="width":=by cases b<;>simp [fK]
theorem ZjU (n:Nat):rngN ((n:Int)-1) (-1) (-1)=n:=by
 unfold rngN Builtin.Range.rangeSize;rw [if_neg (by decide)];have e:((n:Int)-1 - -1-1) / - -1=(n:Int)-1:=by rw [show (- -1:Int)=1 by decide,Int.ediv_one];omega
 rw [e];split
 . omega
 . omega
theorem Zit (h:t<=40):Builtin.Range.small ((t:Int)-1) (-1) (-1)=true:=by revert t;decide
theorem look_of {f:Str}{a1 a2 a3 a4:V}{m:Str}(hf:f="greatest"\/f="width")(h:([("valued",a1),("by_number",a2),("by_key",a3)]:List (Str × V)).lookup m=none)(h1:("greatest":Str)≠m)(h2:("width":Str)≠m):([("valued",a1),("by_number",a2),("by_key",a3),(f,a4)]:List (Str × V)).lookup m=none:=by
 rcases hf with rfl | rfl
 . exact ZaN (b:=true) h h1 h2
 . exact ZaN (b:=false) h h1 h2
section
variable {c:Kd->Addr}{ts:Tabs}
theorem ok_tou (B:Blt mg)(cc:ClC K C)(jcj:MethAt P w K mg base C "numbers_at" ["self","key"] 2 (spNat c CM C))(d:MDefAt K C "touched_at" "ByValue.touched_at" Za5 ["self","key","low","high"]):MethAt P w K mg base C "touched_at" ["self","key","low","high"] 3 (spTou c CM C ts):=by
 refine MethAt.of cc.c d Zc9 (fun vs H Q E h=>?_) (fun f0 cdv A outer s H vs Q E hr h=>?_)
 . obtain ⟨x,k,lo,hi,f,t,D,S,R,U,T,rfl,_⟩:=h
   rfl
 obtain ⟨x,k,lo,hi,f,t,D,S,R,U,T,rfl,hc,hf,hb,ht,q⟩:=h;obtain ⟨dx,hx⟩:=hc.hx;refine ⟨_,(Zag (Zak (ZbQ ["number"] [2,3] rfl (ZaC K (Zap P w K mg base 2 (pv 0) (Zaa (pv 1) Zab))) (fun _ _ _ _ _=>Za2 (i:=0) (by show List.Nodup (["number","low","high"]:List Str);decide +kernel) rfl (Or.inl rfl)) (fun _ _ _ _ _=>Zd5 (Zec ZcF ZcF (pv 1) (pv 0) (pv 2))) (fun _ _ _ _ _=>(pv 0)) ⟨⟨_,rfl,rfl,.inl rfl⟩,⟨⟨_,rfl,rfl,.inl rfl⟩,trivial⟩⟩ ZaY))),?_⟩;walk_at "vc";refine ⟨_,_,_,(oT hx),look_of hf rfl (by decide) (by decide),_,_,jcj,x,k,_,_,D,_,_,_,_,rfl,hc,fun l os H1 s1 nl0 hl up mem=>?_⟩;have len:os.length<=1000:=by
   have:=(Zdg up).length_le_of_subset (l₂:=List.range 1000) fun n hn=>ybR.mpr (hb n ((mem n).mp hn))
   rw [ybP] at this;exact this
 refine ⟨l,rfl,⟨_,SqL.of hl⟩,compL (fun v=>match v with | .int i=>decide (lo<=i/\i<=hi) | _=>false) id (SqL.of hl) (by rw [Zal];omega) (fun y H2 R2 hy s2 h2=>?_) (fun y H2 R2 hy _ s2 h2=>?_) (fun p np=>?_)⟩
 . obtain ⟨n,hn,rfl⟩:=Zbl hy
   walk_at "vc";have h2:R2 (decide (lo<=((n:Nat):Int)/\((n:Nat):Int)<=hi)) H2:=h2;by_cases z:lo<=(n:Int)
   . rw [if_pos z]
     rw [show decide (lo<=((n:Nat):Int)/\((n:Nat):Int)<=hi)=decide (((n:Nat):Int)<=hi) from yaS.mpr ⟨fun h=>h.2,fun h=>⟨z,h⟩⟩] at h2;exact h2
   . rw [if_neg z]
     rw [show decide (lo<=((n:Nat):Int)/\((n:Nat):Int)<=hi)=false from yaw fun h=>z h.1] at h2;exact h2
 . obtain ⟨n,hn,rfl⟩:=Zbl hy
   walk_at "vc";exact h2
 . have e:((pint os).filter fun v=>match v with | .int i=>decide (lo<=i/\i<=hi) | _=>false).map id=pint (os.filter fun n=>decide (lo<=(n:Int)/\(n:Int)<=hi)):=by
     unfold pint;rw [List.map_id,ybw];rfl
   rw [e];have nx1:=ht.nx s1;refine q p _ _ (nx1.trans (Nx.new nx1.tb np)) (nx1.free (ZaU np)) (nU) up.filter fun n=>?_
   rw [yau,mem,yaz]
theorem ok_watV (cc:ClC K C)(h_tou:MethAt P w K mg base C "touched_at" ["self","key","low","high"] 3 (spTou c CM C ts))(jB:MethAt P w K mg base CM "word_at" ["self","key"] 6 (spWordAt c CM ts))(d:MDefAt K C "word_at" "ByValue.word_at" Zbm ["self","key","low","high"]):MethAt P w K mg base C "word_at" ["self","key","low","high"] 8 (spWat true c CM C ts):=by
 refine MethAt.of cc.c d j2 (fun vs H Q E h=>?_) (fun f0 cdv A outer s H vs Q E hr h=>?_)
 . obtain ⟨x,k,t,lo,hi,D,g,rfl,_⟩:=h
   rfl
 obtain ⟨x,k,t,lo,hi,D,g,rfl,k256,hc,ht,q⟩:=h;obtain ⟨dx,hx⟩:=hc.at_.hx;have nd:=j2.nd;refine ⟨_,(Zad (Zaz (i:=4) Zaf)
     (Zad (Zbj zai rfl (ZaC K (Zap P w K mg base 3 (pv 0) (Zaa (pv 1) (Zaa (pv 2) (Zaa (pv 3) Zab))))) (ZbM (i:=5)) (Zag (Zaz (i:=4) (Zah Zfj (pv 4) (Zap P w K mg base 6 (Zbq (hu1 hr) (Zam K (pv 0)) (pv 5) (fun _ _=>rfl)) (Zaa (pv 1) Zab))))))
     (Zag (Zak (pv 4))))),?_⟩
 walk_at "vc";refine ⟨_,_,_,(oT hx),ZaN rfl (by decide) (by decide),_,_,h_tou,x,k,lo,hi,_,_,D,_,_,_,_,rfl,hc.at_,fK_or true,fun n ⟨r,_,z⟩=>hc.lt z,ht,fun l os H1 nx1 nl0 hl up mem=>?_⟩;refine ⟨l,rfl,⟨_,sL hl⟩,?_⟩;refine loopL (xs:=pint os) (fun i σ H'=>(∃ v5,σ=[some (.ref x),some (.int k),some (.int lo),some (.int hi),some (.int (wd (plV g k fun v=>decide (v∈os.take i)):Nat)),v5])/\Nx ts H H'/\noT H' l=some (.lst (pint os))) ⟨⟨_,by rw [Zgw fun v=>by simp];rfl⟩,nx1,hl⟩ ?_ ?_ ?_
 . rintro i σ H2 _ ⟨_,_,h⟩
   exact sL h
 . rintro i y σ H2 hy ⟨⟨v5,rfl⟩,nx2,hl2⟩
   obtain ⟨n,hn,rfl⟩:=ZaR hy;have c2:=hc.same nx2.same;obtain ⟨⟨r,_,hR⟩,_⟩:=(mem n).mp (yao hn);have hin:n∈D.ns:=(c2.at_.m4 n).mpr ⟨r,hR⟩;obtain ⟨a1,a2,a3⟩:=c2.at_.an n hin;obtain ⟨dx2,hx2⟩:=c2.at_.hx;obtain ⟨dm2,kd2,ah2,sr2,ho2,_⟩:=a2.ex;walk_at "vc";refine ⟨_,_,_,(oT hx2),cc.c,cc.n2,_,rfl,_,rfl,_,(c2.at_.get hin).1,_,rfl,_,_,_,(oT ho2),rfl,_,_,jB,D.A n,k,D.E n,rfl,a2,a3,nx2.tb,fun H3 nx3=>⟨_,rfl,?_⟩⟩;rw [ZgC (g:=g) (p:=fun v=>decide (v=n)) a3 k256 fun r=>by
     rw [c2.at_.m2 n hin r];refine Zbs fun v=>and_congr zaA ?_
     rw [yaz];exact ⟨fun h=>(yaa.mp (show n∈[v] from h)).symm,fun h=>yaa.mpr h.symm⟩,Ziv]
   refine ⟨?_,nx2.trans nx3,nx3.at hl2⟩;have ec:plV g k (fun v=>decide (v∈os.take i)||decide (v=n))=plV g k fun v=>decide (v∈os.take (i+1)):=ZaW fun v _=>by
     rw [ybk,hn,<- ZcR];refine yaS.mpr ?_;rw [yaf,Option.toList_some,yaa]
   rw [ec]
 . rintro σ H2 ⟨⟨v5,rfl⟩,nx2,hl2⟩
   walk_at "vc";have ec:plV g k (fun v=>decide (v∈os.take (pint os).length))=plV g k (inR lo hi):=ZaW fun v ⟨q0,q1,q2⟩=>by
     refine yaS.mpr ?_;rw [Zal,ycu,mem];exact ⟨fun h=>h.2,fun h=>⟨⟨256*k+q0,by omega,v,q2,yaa.mpr rfl⟩,h⟩⟩
   rw [ec];exact q H2 nx2
theorem ok_wup (B:Blt mg)(cc:ClC K C)(n4:NoAttr K C "width")(jaq:FnAt P w K mg base "bit_at" ["word","place"] 1 spBit)(jcr:MethAt P w K mg base C "top" ["self"] 1 (spTop false c CM C))(jB:MethAt P w K mg base CM "word_at" ["self","key"] 6 (spWordAt c CM ts))(d:MDefAt K C "word_up_to" "ByBits.word_up_to" Zba ["self","key","limit"]):MethAt P w K mg base C "word_up_to" ["self","key","limit"] 7 (spWup c CM C ts):=by
 refine MethAt.of cc.c d jG (fun vs H Q E h=>?_) (fun f0 cdv A outer s H vs Q E hr h=>?_)
 . obtain ⟨x,k,t,hi,D,g,rfl,_⟩:=h
   rfl
 obtain ⟨x,k,t,hi,D,g,rfl,k256,hc,ht,q⟩:=h;obtain ⟨dx,hx⟩:=hc.at_.hx;have nd:=jG.nd;refine ⟨_,(Zad (Zaz (i:=3) (Zap P w K mg base 6 (Zam K (pv 0)) (Zaa (pv 1) Zab)))
     (Zad (ZaD (Za0 ZdZ (pv 2) Zaf) (Zag (Zak Zaf)) Zau)
     (Zad (ZaD (Za0 op_ge (pv 2) (ZaG P w K mg base 1 (pv 0))) (Zag (Zak (pv 3))) Zau)
     (Zad (Zaz (i:=4) Zaf)
     (Zad (Zbj zai rfl (ZjX rfl B.range (Zaa (Zah ZaP (Zam K (pv 0)) Zaf) (Zaa (Zd7 Zgo Zaf) (Zaa (Zd7 Zgo Zaf) Zab)))) (ZbM (i:=5)) (Zad (Zaz (i:=6) (Zbo (pt_cmp (pc_din (hu1 hr) (pv 5) (Zam K (pv 0))) (by with_unfolding_all rfl)) (Zap P w K mg base 6 (Zbq (hu1 hr) (Zam K (pv 0)) (pv 5) (fun _ _=>rfl)) (Zaa (pv 1) Zab)) Zaf))
     (Zag (ZaD (Za0 Zbr (Zaj jaq (Zaa (pv 2) (Zaa (pv 5) Zab))) Zaf) (Zad (Zaz (i:=4) (Zah Zfj (pv 4) (Zah ZaZ (pv 3) (Zd7 Zfl (pv 6)))))
     (Zag (Zaz (i:=3) (Zah ZaZ (pv 3) (pv 6))))) (Zag (Zaz (i:=3) (Zah ZaZ (pv 3) (Zd7 Zfl (pv 6)))))))))
     (Zag (Zak (Zah Zfj (pv 4) (pv 3))))))))),?_⟩
 refine Zao fun k2 hk=>?_
 walk_at "vc";obtain ⟨dm,kd,ah,sr,ho,_⟩:=hc.at_.hv.ex;have ea:plcE k D.ev=plV g k fun _=>true:=ZgC hc.at_.okv k256 fun r=>by
   rw [hc.at_.m1];exact Zbs fun v=>⟨fun h=>⟨h,rfl⟩,fun h=>h.1⟩
 refine ⟨_,_,_,(oT hx),cc.c,cc.n1,_,rfl,_,rfl,_,_,_,(oT ho),rfl,_,_,jB,D.mv,k,D.ev,rfl,hc.at_.hv,hc.at_.okv,ht,fun H1 nx1=>hk _ _ (Zao fun k2 hk=>?_)⟩;rw [ea];walk_at "vc";by_cases h0:hi<0
 . rw [if_pos h0]
   have:=q H1 nx1;rw [Zgw fun v=>yaw (by omega)] at this;exact this
 rw [if_neg h0];refine hk _ _ (Zao fun k2 hk=>?_);have c1:=hc.same nx1.same;obtain ⟨dx1,hx1⟩:=c1.at_.hx;have ok:t<=40:=hc.ok;walk_at "vc";refine ⟨_,_,_,(oT hx1),ZaN rfl (by decide) (by decide),_,_,jcr,x,t,D,_,_,_,_,rfl,c1.at_,hc.ok,_,rfl,?_⟩;by_cases h1:((tpB false t:Nat):Int)<=hi
 . rw [if_pos h1]
   have:=q H1 nx1;rw [ZaW (p':=fun _=>true) fun v ⟨q0,q1,q2⟩=>yak (by have:=(hc.bd _ v q2).2;omega)] at this;exact this
 rw [if_neg h1];obtain ⟨L,rfl⟩:=yck (show 0<=hi by omega);have tp:tpB false t+1=2^t:=by show 2^t-1+1=2^t;have:=Nat.one_le_two_pow (n:=t);omega
 have L1:L<2^t:=by omega
 have v1:∀ v,(∃ q,q<256/\g (256*k+q)=some v)->v<2^t:=fun v ⟨q0,q1,q2⟩=>by
   have:=(hc.bd _ v q2).2;omega
 refine hk _ _ (Zao fun k2 hk=>?_);walk_at "vc";refine hk _ _ (Zao fun k2 hk=>?_);walk_at "vc";refine ⟨_,_,_,(oT hx1),cc.c,n4,_,rfl,_,rfl,_,_,_,⟨rfl,rfl,rfl⟩,by decide,by decide,?_,?_⟩
 . exact Zit ok
 rw [ZjU];refine loopF (fun i σ H'=>(∃ v5 v6,σ=[some (.ref x),some (.int k),some (.int L),some (.int (wd (plV g k fun v=>decide (v/2^(t-i)=L/2^(t-i))):Nat)),some (.int (wd (plV g k fun v=>decide (v/2^(t-i)<L/2^(t-i))):Nat)),v5,v6])/\i<=t/\Nx ts H H') ⟨⟨none,none,?_⟩,yax _,nx1⟩ ?_ ?_
 . rw [Nat.sub_zero,Nat.div_eq_of_lt L1,Zgw (p:=fun v=>decide (v/2^t<0)) fun v=>yaw (ycp _),ZaW (p:=fun v=>decide (v/2^t=0)) (p':=fun _=>true) fun v hv=>yak (Nat.div_eq_of_lt (v1 v hv))]
   rfl
 . rintro i σ H2 hi ⟨⟨v5,v6,rfl⟩,_,nx2⟩
   have c2:=hc.same nx2.same;obtain ⟨dx2,hx2⟩:=c2.at_.hx;obtain ⟨j,ej⟩:∃ j,t-i=j+1:=⟨t-i-1,by omega⟩
   have ej2:t-(i+1)=j:=by omega
   have j40:j<40:=by omega
   have eb:(t:Int)-1+(i:Nat)*(-1)=((j:Nat):Int):=by omega
   rw [eb];rw [ej,ej2];refine Zao fun k2 hk2=>?_
   have dv:∀ v:Nat,v/2^j=2*(v/2^(j+1))+(v.testBit j).toNat:=fun v=>by
     rw [Nat.testBit_eq_decide_div_mod_eq,Nat.pow_succ,<- Nat.div_div_eq_div_mul];have:=Nat.mod_two_eq_zero_or_one (v/2^j);rcases this with h | h
     . rw [h]
       simp;omega
     . rw [h]
       simp;omega
   have fin:∀ H3,Nx ts H2 H3->k2 [some (.ref x),some (.int k),some (.int L),some (.int (wd (plV g k fun v=>decide (v/2^(j+1)=L/2^(j+1))):Nat)),some (.int (wd (plV g k fun v=>decide (v/2^(j+1)<L/2^(j+1))):Nat)),some (.int (j:Nat)),some (.int (wd (plV g k fun v=>v.testBit j):Nat))] H3:=by
     intro H3 nx3;refine hk2 _ _ ?_;walk_at "vc";refine ⟨L,j,rfl,rfl,?_⟩;cases hb:L.testBit j with
     | true =>
       rw [if_pos (by decide)];rw [Zfu,Ziv,plV_and];refine ⟨?_,by omega,nx2.trans nx3⟩;have dL:=dv L;rw [hb] at dL;have ea:plV g k (fun v=>decide (v/2^(j+1)=L/2^(j+1))&&v.testBit j)=plV g k fun v=>decide (v/2^j=L/2^j):=ZaW fun v _=>by
         have dw:=dv v;cases z:v.testBit j<;>rw [z] at dw<;>simp only [ycs,Bool.and_false,Bool.toNat_true,Bool.toNat_false] at dL dw ⊢
         . exact (yaw (by omega)).symm
         . exact yaS.mpr (by omega)
       have eb:plV g k (fun v=>decide (v/2^(j+1)<L/2^(j+1))||decide (v/2^(j+1)=L/2^(j+1))&&!v.testBit j)=plV g k fun v=>decide (v/2^j<L/2^j):=ZaW fun v _=>by
         have dw:=dv v;cases z:v.testBit j<;>rw [z] at dw<;>simp only [ycs,Bool.and_false,ybS,yct,Bool.or_false,Bool.toNat_true,Bool.toNat_false] at dL dw ⊢
         . rw [<- ZcR]
           exact yaS.mpr (by omega)
         . exact yaS.mpr (by omega)
       rw [ea,eb];exact ⟨rfl,rfl⟩
     | false =>
       rw [if_neg (by decide)];rw [Zfu];refine ⟨?_,by omega,nx2.trans nx3⟩;have dL:=dv L;rw [hb] at dL;have ea:plV g k (fun v=>decide (v/2^(j+1)=L/2^(j+1))&&!v.testBit j)=plV g k fun v=>decide (v/2^j=L/2^j):=ZaW fun v _=>by
         have dw:=dv v;cases z:v.testBit j<;>rw [z] at dw<;>simp only [ycs,Bool.and_false,ybS,yct,Bool.toNat_true,Bool.toNat_false] at dL dw ⊢
         . exact yaS.mpr (by omega)
         . exact (yaw (by omega)).symm
       have eb:plV g k (fun v=>decide (v/2^(j+1)<L/2^(j+1)))=plV g k fun v=>decide (v/2^j<L/2^j):=ZaW fun v _=>by
         have dw:=dv v;cases z:v.testBit j<;>rw [z] at dw<;>simp only [Bool.toNat_true,Bool.toNat_false] at dL dw ⊢
         . exact yaS.mpr (by omega)
         . exact yaS.mpr (by omega)
       rw [ea,eb];exact ⟨rfl,rfl⟩
   walk_at "vc";refine ⟨_,_,_,(oT hx2),cc.c,cc.n2,_,rfl,_,rfl,_,DGet.k (k:=Sum.inl (j:Int)) (oT c2.at_.hn),?_⟩;rw [c2.at_.dnn.some j];by_cases hin:j∈D.ns
   . rw [if_pos (yak hin)]
     obtain ⟨a1,a2,a3⟩:=c2.at_.an j hin;obtain ⟨dm2,kd2,ah2,sr2,ho2,_⟩:=a2.ex;refine ⟨_,_,_,(oT hx2),cc.c,cc.n2,_,rfl,_,rfl,_,(c2.at_.get hin).1,_,rfl,_,_,_,(oT ho2),rfl,_,_,jB,D.A j,k,D.E j,rfl,a2,a3,nx2.tb,fun H3 nx3=>?_⟩;rw [ZgC (g:=g) (p:=fun v=>v.testBit j) a3 k256 fun r=>by
       rw [c2.at_.m2 j hin r];refine Zbs fun v=>and_congr zaA ?_
       exact ⟨fun h=>(mem_pl.mp (show j∈pl 256 v from h)).2,fun h=>show j∈pl 256 v from mem_pl.mpr ⟨by omega,h⟩⟩]
     exact fin H3 nx3
   . rw [if_neg (by rw [yaz];exact hin)]
     have e0:plV g k (fun v=>v.testBit j)=[]:=by
       symm
       refine ZcN trivial fun q0=>⟨fun z=>(nomatch z),fun ⟨_,v,e,z⟩=>absurd ((c2.at_.m4 j).mpr ⟨_,v,e,show j∈pl 256 v from mem_pl.mpr ⟨by omega,z⟩⟩) hin⟩
     have:=fin H2 (.refl nx2.tb);rw [e0] at this;exact this
 . rintro σ H2 ⟨⟨v5,v6,rfl⟩,_,nx2⟩
   refine hk _ _ ?_;walk_at "vc";have ec:plV g k (fun v=>decide (v/2^(t-t)<L/2^(t-t))||decide (v/2^(t-t)=L/2^(t-t)))=plV g k fun v=>decide ((v:Int)<=(L:Int)):=ZaW fun v _=>by
     rw [<- ZcR];refine yaS.mpr ?_;rw [ych,Nat.pow_zero,Nat.div_one,Nat.div_one];omega
   rw [Ziv,ec];exact q H2 nx2
theorem ok_watB (cc:ClC K C)(jcz:MethAt P w K mg base C "word_up_to" ["self","key","limit"] 7 (spWup c CM C ts))(d:MDefAt K C "word_at" "ByBits.word_at" ZbC ["self","key","low","high"]):MethAt P w K mg base C "word_at" ["self","key","low","high"] 8 (spWat false c CM C ts):=by
 refine MethAt.of cc.c d Zd9 (fun vs H Q E h=>?_) (fun f0 cdv A outer s H vs Q E hr h=>?_)
 . obtain ⟨x,k,t,lo,hi,D,g,rfl,_⟩:=h
   rfl
 obtain ⟨x,k,t,lo,hi,D,g,rfl,k256,hc,ht,q⟩:=h;obtain ⟨dx,hx⟩:=hc.at_.hx;refine ⟨_,(Zag (Zak (Zah ZaZ (Zap P w K mg base 7 (pv 0) (Zaa (pv 1) (Zaa (pv 3) Zab))) (Zd7 Zfl (Zap P w K mg base 7 (pv 0) (Zaa (pv 1) (Zaa (Zah ZaP (pv 2) Zaf) Zab))))))),?_⟩;walk_at "vc";refine ⟨_,_,_,(oT hx),ZaN rfl (by decide) (by decide),_,_,jcz,x,k,t,hi,D,g,rfl,k256,hc,ht,fun H1 nx1=>?_⟩;have c1:=hc.same nx1.same;obtain ⟨dx1,hx1⟩:=c1.at_.hx;refine ⟨_,_,_,(oT hx1),ZaN rfl (by decide) (by decide),_,_,jcz,x,k,t,lo-1,D,g,rfl,k256,c1,nx1.tb,fun H2 nx2=>⟨_,rfl,_,rfl,?_⟩⟩;rw [Zfu];have ec:plV g k (fun v=>decide ((v:Int)<=hi)&&!decide ((v:Int)<=lo-1))=plV g k (inR lo hi):=ZaW fun v _=>by
   unfold inR;rw [ybJ,ybE,ycr,yaz,decide_eq_false_iff_not,yaz];omega
 rw [ec];exact q H2 (nx1.trans nx2)
def spWin (b:Bool)(c:Kd->Addr)(CM C:Addr)(ts:Tabs):Sp:=fun vs H Q _=>∃ (x:Addr) (t:Nat) (lo hi:Int) (D:ColD) (g:Nat->Option Nat),vs=[.ref x,.int lo,.int hi]/\ColF b c CM C t (noT H) x D g/\Tbs ts H/\∀ m es H',Nx ts H H'->noT H m=none->MkAt c CM (noT H') m es->EsOk es->(∀ r,r∈flat es↔∃ v,g r=some v/\inR lo hi v=true)->Q (.ref m) H'
theorem Zgc {b:Bool} (cc:ClC K C) (jau:MethAt P w K mg base CM "key_list" ["self"] 1 (spKeyList c CM)) (h_wat:MethAt P w K mg base C "word_at" ["self","key","low","high"] 8 (spWat b c CM C ts)) (jo:FnAt P w K mg base "kept" ["word"] 4 (spKept c)) (jt:FnAt P w K mg base "gathered" ["pairs"] 7 (spGath c CM ts)) (d:MDefAt K C "within" "Column.within" Zbc ["self","low","high"]):MethAt P w K mg base C "within" ["self","low","high"] 9 (spWin b c CM C ts):=by
 refine MethAt.of cc.c d Zex (fun vs H Q E h=>?_) (fun f0 cdv A outer s H vs Q E hr h=>?_)
 . obtain ⟨x,t,lo,hi,D,g,rfl,_⟩:=h
   rfl
 obtain ⟨x,t,lo,hi,D,g,rfl,hc,ht,q⟩:=h;obtain ⟨dx,hx⟩:=hc.at_.hx;obtain ⟨dm,kd,ah,sr,ho,_⟩:=hc.at_.hv.ex;refine ⟨_,(Zag (Zak (Zaj jt (Zaa (ZbQ ["key"] [1,2,0] rfl (ZaC K (ZaG P w K mg base 1 (Zam K (pv 0)))) (fun _ _ _ _ _=>Za2 (i:=0) (by show List.Nodup (["key","low","high","self"]:List Str);decide +kernel) rfl (Or.inl rfl)) (fun _ _ _ _ _=>ZdG) (fun _ _ _ _ _=>(Zcx (Zaa (pv 0) (Zaa (Zaj jo (Zaa (Zap P w K mg base 8 (pv 3) (Zaa (pv 0) (Zaa (pv 1) (Zaa (pv 2) Zab)))) Zab)) Zab)))) ⟨⟨_,rfl,rfl,.inl rfl⟩,⟨⟨_,rfl,rfl,.inl rfl⟩,⟨⟨_,rfl,rfl,.inl rfl⟩,trivial⟩⟩⟩ ZaY) Zab)))),?_⟩;walk_at "vc";refine ⟨_,_,_,(oT hx),cc.c,cc.n1,_,rfl,_,rfl,_,_,_,(oT ho),rfl,_,_,jau,D.mv,D.ev,rfl,hc.at_.hv,fun l nl0=>⟨l,rfl,⟨_,SqL.of Zac⟩,?_⟩⟩;have ok:=hc.at_.okv;have nx1:Nx ts H (upd H l (.lst (pint (kys D.ev)))):=Nx.new ht nl0;have hl:noT (upd H l (.lst (pint (kys D.ev)))) l=some (.lst (pint (kys D.ev))):=nU;generalize upd H l (.lst (pint (kys D.ev)))=H1 at nx1 hl ⊢;have hk:∀ k∈kys D.ev,k<256/\Up 0 (plV g k (inR lo hi))/\∀ p∈plV g k (inR lo hi),p<256:=fun k hk=>by
   obtain ⟨e,he,rfl⟩:=yaJ.mp hk;exact ⟨ok.klt e he,Zb7 _ _ _,Zih⟩
 refine ZjG (g:=fun k=>plV g k (inR lo hi)) hl nx1.tb ok.up hk (fun k pk H2 R nx2 r=>?_) fun m H' es nx nm hm ok2 pl=>q m es H' (nx1.trans nx) (nx1.free nm) hm ok2 fun y=>?_
 . have nxA:=nx1.trans nx2
   have cA:=hc.same nxA.same;obtain ⟨dxA,hxA⟩:=cA.at_.hx;obtain ⟨k256,u3,l3⟩:=hk k pk;walk_at "vc";refine ⟨_,_,_,(oT hxA),ZaN rfl (by decide) (by decide),_,_,h_wat,x,k,t,lo,hi,D,g,rfl,k256,cA,nxA.tb,fun H3 nx3=>?_⟩;exact ⟨_,rfl,u3,l3,fun v H5 s5 kp=>⟨by decide,fun p np=>r v H5 p (nx3.trans (nx3.tb.nx s5)) kp np⟩⟩
 . rw [ZaL ok2,pl]
   have ey:256*(y/256)+y%256=y:=by omega
   constructor
   . intro h
     split at h
     . have:=(mem_plV.mp h).2
       rw [ey] at this;exact this
     . cases h
   . rintro ⟨v,e,z⟩
     rw [if_pos ((ZdR ok _).mpr ⟨y,(hc.at_.m1 y).mpr ⟨v,e⟩,rfl⟩)];exact mem_plV.mpr ⟨by omega,v,by rw [ey];exact e,z⟩
end
def kB (c:Int):Bool:=decide (mixI c 26%3=0)
def kT (c:Int):Nat:=(if mixI c 26%3=0 then (if mixI c 26/3%4=0 then mixI c 26/12%1000 else if mixI c 26/3%4=1 then mixI c 26/12%6 else if mixI c 26/3%4=2 then 999 else mixI c 26/12%40) else if mixI c 26%12=2 then 1+mixI c 26/12%40 else 1+mixI c 26/12%7).toNat
theorem kT_ok (c:Int):okT (kB c) (kT c):=by
 unfold okT kB kT;have:=ZcM c 26;generalize mixI c 26=x at this;by_cases h:x%3=0
 . simp only [h,decide_true,zaT]
   split
   . omega
   . split
     . omega
     . split<;>omega
 . simp only [h,decide_false,zay,yaF]
   split<;>omega
theorem top_eq (t:Nat):(1:Int)*2^(t:Int).toNat-1=((tpB false t:Nat):Int):=by
 rw [ycv,yap];show _=((2^t-1:Nat):Int)
 have:=Nat.one_le_two_pow (n:=t);rw [Int.ofNat_sub this,ycq];rfl
def spCol (c:Kd->Addr)(CM:Addr)(CK:Bool->Addr):Sp:=fun vs H Q _=>∃ (z:Int),vs=[.int z]/\∀ x D p H',Same H H'->H x=none->ColF (kB z) c CM (CK (kB z)) (kT z) (noT H') x D (fun _=>none)->(∀ a,D.F a->H a=none)->H p=none->H' p=some (.tup [.ref x,.int (tpB (kB z) (kT z):Nat)])->Q (.ref p) H'
section
variable {c:Kd->Addr}{ts:Tabs}
theorem ok_col (jb:FnAt P w K mg base "_law_mixed" ["_law_cell","_law_k"] 1 spMixed) (jbq:MakeAt P w K mg base "ByValue" (CK true) ["self","top"] 4 (spVI c CM (CK true) "greatest")) (jbS:MakeAt P w K mg base "ByBits" (CK false) ["self","width"] 4 (spVI c CM (CK false) "width")) (d:DefAt K mg "_law_column" ZcO ["_law_cell"]):FnAt P w K mg base "_law_column" ["_law_cell"] 6 (spCol c CM CK):=by
 refine FnAt.of d jbE ?_ ?_;walk_at "F";have nd:=jbE.nd;obtain ⟨z,rfl,q⟩:=h;refine ⟨_,(Zad (Zaz (i:=1) (Zaj jb (Zaa (pv 0) (Zaa Zaf Zab))))
     (Zad (ZaD (Za0 Zbr (Zah Zar (pv 1) Zaf) Zaf) (Zad (Zaz (i:=2) (Zc0 (ZaE K) (ZaS (Zaa (Zah Zar (Zah Zas (pv 1) Zaf) Zaf) (Zaa (Zah Zar (Zah Zas (pv 1) Zaf) Zaf) (Zaa Zaf (Zaa (Zah Zar (Zah Zas (pv 1) Zaf) Zaf) Zab))))) (Zah Zar (Zah Zas (pv 1) Zaf) Zaf)))
     (Zag (Zak (Zcx (Zaa (Zdp jbq (hr.mono (by decide)) rfl (Zaa (pv 2) Zab)) (Zaa (pv 2) Zab)))))) Zau)
     (Zad (Zaz (i:=3) (Zah Zav Zaf (Zah Zar (Zah Zas (pv 1) Zaf) Zaf)))
     (Zad (ZaD (Za0 Zbr (Zah Zar (pv 1) Zaf) Zaf) (Zag (Zaz (i:=3) (Zah Zav Zaf (Zah Zar (Zah Zas (pv 1) Zaf) Zaf)))) Zau)
     (Zag (Zak (Zcx (Zaa (Zdp jbS (hr.mono (by decide)) rfl (Zaa (pv 3) Zab)) (Zaa (Zah ZaP (Zah Zbe Zaf (pv 3)) Zaf) Zab))))))))),?_⟩
 have ok:=kT_ok z;have rg:=ZcM z 26;walk_at "vc";refine ⟨_,_,rfl,_,rfl,?_⟩;by_cases h:mixI z 26%3=0
 . rw [if_pos h]
   have kb:kB z=true:=yak h;rw [kb] at q ok;have idx:atI [V.int (mixI z 26/12%1000),V.int (mixI z 26/12%6),V.int 999,V.int (mixI z 26/12%40)] (mixI z 26/3%4)=some (.int (kT z:Nat)):=by
     unfold kT;rw [if_pos h];rcases (show mixI z 26/3%4=0\/mixI z 26/3%4=1\/mixI z 26/3%4=2\/mixI z 26/3%4=3 by omega) with e | e | e | e
     . rw [e,if_pos rfl,ybQ (by omega)]
       rfl
     . rw [e,if_neg (by decide),if_pos rfl,ybQ (by omega)]
       rfl
     . rw [e,if_neg (by decide),if_neg (by decide),if_pos rfl]
       rfl
     . rw [e,if_neg (by decide),if_neg (by decide),if_neg (by decide),ybQ (by omega)]
       rfl
   refine ⟨_,rfl,_,rfl,_,rfl,by decide,fun p np=>⟨_,rfl,_,SqL.of Zac,_,idx,mkC (c:=c) fun x D H1 s1 nx hN hF=>⟨by decide,fun p2 np2=>?_⟩⟩⟩;have s0:Same H H1:=(Same.new np).trans s1;have s2:=Same.new (o:=.tup [.ref x,.int (kT z:Nat)]) np2;exact q x D p2 _ (s0.trans s2) (none_of (Same.new np) nx) ((NoR.toF (b:=true) hN ok).same s2.noT) (fun a ha=>none_of (Same.new np) (hF a ha)) (none_of s0 np2) Zac
 . rw [if_neg h]
   have kb:kB z=false:=yaw h;rw [kb] at q ok;have fin:∀ x,H x=none->∀ D H1,Same H H1->NoR c CM (CK false) "width" (kT z:Nat) (noT H1) x D->(∀ b,D.F b->H b=none)->∀ p2,H1 p2=none->Q (.ref p2) (upd H1 p2 (.tup [.ref x,.int (1*2^((kT z:Nat):Int).toNat-1)])):=by intro x nx D H1 s1 hN hF p2 np2;rw [top_eq];have s2:=Same.new (o:=.tup [.ref x,.int (tpB false (kT z):Nat)]) np2;exact q x D p2 _ (s1.trans s2) nx ((NoR.toF (b:=false) hN ok).same s2.noT) hF (none_of s1 np2) Zac
   have ok:kT z<=40:=ok;refine ⟨_,rfl,_,rfl,?_⟩;by_cases h2:mixI z 26%12=2
   . rw [if_pos h2]
     refine ⟨_,rfl,?_⟩;have e:1+mixI z 26/12%40=((kT z:Nat):Int):=by unfold kT;rw [if_neg h,if_pos h2];omega
     rw [e];exact mkC (c:=c) fun x D H1 s1 nx hN hF=>⟨⟨by omega,by omega,by decide⟩,by decide,fin x nx D H1 s1 hN hF⟩
   . rw [if_neg h2]
     have e:1+mixI z 26/12%7=((kT z:Nat):Int):=by unfold kT;rw [if_neg h,if_neg h2];omega
     rw [e];exact mkC (c:=c) fun x D H1 s1 nx hN hF=>⟨⟨by omega,by omega,by decide⟩,by decide,fin x nx D H1 s1 hN hF⟩
end
structure Pl (kvs:List (Key × V))(ms:List Nat)(g:Nat->Option Nat):Prop where
 dn:Dn kvs ms
 val:∀ r:Nat,valV kvs (Sum.inl (r:Int))=(g r).map fun v=>V.int (v:Nat)
 len:ms.length<=100
theorem Pl.some (h:Pl kvs ms g)(r:Nat):(valV kvs (Sum.inl (r:Int))).isSome=(g r).isSome:=by rw [h.val];cases g r<;>rfl
structure Pd (b:Bool)(c:Kd->Addr)(CM:Addr)(CK:Bool->Addr)(t:Nat)(H:Hp)(x d:Addr)(D:ColD)(g:Nat->Option Nat)(kvs:List (Key × V))(ms:List Nat):Prop where
 col:ColF b c CM (CK b) t (noT H) x D g
 hd:noT H d=some (.dK kvs)
 nF:¬ D.F d
 pl:Pl kvs ms g
theorem ZhV {b:Bool}(ok:okT b t):tpB b t<2^40:=by
 unfold okT at ok;unfold tpB;cases b with
 | true =>
   simp only [zaT] at ok ⊢;have:(999:Nat)<2^40:=by decide
   omega
 | false =>
   simp only [yaF,zay] at ok ⊢;have:=Zig ok;have:=Nat.one_le_two_pow (n:=t);omega
theorem Pd.nx {b:Bool}{c:Kd->Addr}{x d:Addr}{D:ColD}{ts:Tabs}(h:Pd b c CM CK t H x d D g kvs ms)(n:Nx ts H H'):Pd b c CM CK t H' x d D g kvs ms:=⟨h.col.same n.same,n.at h.hd,h.nF,h.pl⟩
def orD (D:ColD)(d:Addr):Addr->Prop:=fun a=>D.F a\/a=d
section
variable {b:Bool}{c:Kd->Addr}{x d:Addr}{D D':ColD}{ts:Tabs}
theorem Pd.step (h:Pd b c CM CK t H x d D g kvs ms)(f:Cf ts D.F H D'.F H'):noT H' d=some (.dK kvs)/\¬ D'.F d :=
 ⟨f.same _ _ h.nF h.hd,fun z=>(f.foot d z).elim h.nF fun w=>by rw [h.hd] at w;cases w⟩
theorem Cf.orD (f:Cf ts D.F H D'.F H'):Cf ts (My.orD D d) H (My.orD D' d) H' :=
 ⟨fun b o n e=>f.same b o (fun z=>n (.inl z)) e,f.tb,fun b z=>z.elim (fun w=>(f.foot b w).elim (fun v=>.inl (.inl v)) .inr) fun w=>.inl (.inr w)⟩
theorem Cf.putD {kvs':List (Key × V)}(ht:Tbs ts H)(e:H d=some (.dK kvs)):Cf ts (My.orD D d) H (My.orD D d) (upd H d (.dK kvs')):=Cf.put ht (.inr rfl) e trivial fun _ z=>.inl z
theorem ColF.putD {kvs':List (Key × V)}(h:ColF b c CM C t (noT H) x D g)(hd:noT H d=some (.dK kvs))(nF:¬ D.F d):ColF b c CM C t (noT (upd H d (.dK kvs'))) x D g :=
 h.off (F:=fun a=>a=d) (fun a e=>by rw [e];exact .inr ⟨_,hd⟩) (fun a ha e=>nF (e ▸ ha)) fun a o n e=>by rw [Zci (L2.nd _) (.inr ⟨_,hd⟩),Zai n];exact e
end
def spSetIs (c:Kd->Addr)(CM:Addr)(ts:Tabs):Sp:=fun vs H Q _=>∃ (m l:Addr) (es:List Ent),vs=[.ref m,.ref l]/\MkAt c CM (noT H) m es/\EsOk es/\noT H l=some (.lst (pint (flat es)))/\tot es<=900/\Tbs ts H/\∀ H',Nx ts H H'->Q (.bl true) H'
def spCtd (c:Kd->Addr)(CM:Addr)(ts:Tabs):Sp:=fun vs H Q _=>∃ (m l:Addr) (n:Nat) (es:List Ent),vs=[.ref m,.ref l,.int n]/\n<=65535/\MkAt c CM (noT H) m es/\EsOk es/\noT H l=some (.lst (pint (flat es)))/\tot es<=900/\Tbs ts H/\∀ H',Nx ts H H'->Q (.bl true) H'
section
variable {c:Kd->Addr}{ts:Tabs}
theorem flat_le {es:List Ent}(ok:EsOk es):∀ n∈flat es,n<=65535:=fun n hn=>by
 have:=(ZdR ok (n/256)).mpr ⟨n,hn,rfl⟩;obtain ⟨e,he,z⟩:=yaJ.mp this;have:=ok.klt e he;omega
theorem body_noT {k:Kd}{v:V}(h:BodyIs H k ps v)(s:Same (noT H) H'):BodyIs H' k ps v:=by
 cases k with
 | l=>obtain ⟨l,e,h⟩:=h;exact ⟨l,e,s _ _ (Zan h (nl _))⟩
 | b=>exact h
 | r=>obtain ⟨l,e,us,h,t⟩:=h;exact ⟨l,e,us,s _ _ (Zan h (nl _)),Paired.mapP t fun _ _ ⟨t,e,ht⟩=>⟨t,e,s _ _ (Zan ht (nt _))⟩⟩
def loN (ns:List Nat)(k:Nat):Nat:=(ns.filter fun n=>decide (n/256<k)).length
theorem flat_key:∀ {es:List Ent},(∀ e∈es,∀ p∈e.ps,p<256)->∀ n∈flat es,∃ e∈es,n/256=e.key
 | [],_,n,h=>nomatch h
 | e :: r,hp,n,h=>by
   rcases yaf.mp (show n∈(e.ps.map fun p=>256*e.key+p)++flat r from h) with h | h
   . obtain ⟨p,hp2,rfl⟩:=yaJ.mp h
     have:=hp e (.head _) p hp2;exact ⟨e,.head _,by omega⟩
   . obtain ⟨e',he',z⟩:=flat_key (fun e he=>hp e (.tail _ he)) n h
     exact ⟨e',.tail _ he',z⟩
theorem ZhL:∀ {a:Nat} {es pre:List Ent},Up a (kys es)->(∀ e∈es,∀ p∈e.ps,p<256)->(∀ n∈flat pre,n/256<a)->(kys es).zip (ahs (tot pre) es)=(kys es).map fun k=>(k,loN (flat pre++flat es) k)
 | _,[],_,_,_,_=>rfl
 | a,e :: r,pre,up,hp,hlo=>by
   have up1:a<=e.key/\Up (e.key+1) (kys r):=up;have ih:=ZhL (pre:=pre++[e]) up1.2 (fun e' he=>hp e' (.tail _ he)) (fun n hn=>by
     rw [Zbk] at hn;rcases yaf.mp hn with h | h
     . have:=hlo n h
       omega
     . obtain ⟨e',he',z⟩:=flat_key (es:=[e]) (fun e' he'=>by rw [yaa.mp he'];exact hp e (.head _)) n h
       rw [z,yaa.mp he'];omega)
   have t1:tot (pre++[e])=tot pre+e.ps.length:=by rw [ZaK];rfl
   have f1:flat (pre++[e])++flat r=flat pre++flat (e::r):=by
     rw [Zbk,yah];show _++((_++[])++_)=_++(_++_)
     rw [yaO]
   rw [t1,f1] at ih;show (e.key,tot pre)::(kys r).zip (ahs (tot pre+e.ps.length) r)=(e.key,loN (flat pre++flat (e::r)) e.key)::(kys r).map _;rw [ih];congr 2
   unfold loN
   rw [ybC,yac,ybU.mpr (fun n hn=>yak (by have:=hlo n hn;omega)),ybi.mpr (fun n hn=>by
     rw [yaz];obtain ⟨e',he',z⟩:=flat_key hp n hn;rcases yaj.mp he' with w | w
     . rw [z,w]
       omega
     . have:=Up.of_lt up1.2 e'.key (yaJ.mpr ⟨e',w,rfl⟩)
       omega),ZaO]
   rfl
theorem rows_noT {us:List V}{es:List Ent}(h:Paired (RowAt H) us es)(s:Same (noT H) H'):Paired (RowAt H') us es :=
 Paired.mapP h fun _ _ ⟨t,b,e,h1,h2⟩=>⟨t,b,e,s _ _ (Zan h1 (nt _)),body_noT h2 s⟩
theorem ok_setis {jC:Addr}(B:Blt mg)(g_Marks:mg "Marks"=some (.ref jC))(cd:CD_Marks K mg CM)(jbr:MethAt P w K mg base CM "numbers" ["self"] 5 (spNumbers c CM))(jb8:MethAt P w K mg base CM "told" ["self"] 5 (spToldM c CM))(ja4:FnAt P w K mg base "marks_of" ["numbers"] 9 (spMarksOf c CM ts))(d:DefAt K mg "_law_set_is" ZcV ["_law_found","_law_due"]):FnAt P w K mg base "_law_set_is" ["_law_found","_law_due"] 10 (spSetIs c CM ts):=by
 refine FnAt.of d jbG ?_ ?_;walk_at "F";have nd:=jbG.nd;obtain ⟨m,l,es,rfl,hm,ok,hl,tl,ht,q⟩:=h;refine ⟨_,(Zag (Zak (ZdM (ZaB (ZcK K) rfl B.isi Zdf (Zaa (pv 0) (Zaa (Zi2 (v:=.ref jC) rfl g_Marks rfl) Zab))) (ZdM (pe_c (ZgI K (hu64 hr)) (ZaG P w K mg base 5 (pv 0)) (pv 1)) (ZdL (pe_c (ZgI K (hu64 hr)) (ZaG P w K mg base 5 (pv 0)) (ZaG P w K mg base 5 (Zaj ja4 (Zaa (pv 1) Zab))))))))),?_⟩;obtain ⟨dx,kd,ah,sr,h1,_⟩:=hm.ex;walk_at "vc";refine rIsi_ins (oT h1) cd.c cd.ty cd.i_Marks g_Marks ⟨_,rfl,?_⟩;rw [if_pos rfl];refine ⟨_,_,_,(oT h1),rfl,_,_,jbr,m,es,rfl,hm,ok,tl,fun l2 H2 s2 nl2 hl2=>?_⟩;have nx2:=ht.nx s2;refine Zgb (SqL.of hl2) (sL (nx2.at hl)) ⟨_,rfl,?_⟩;rw [yak rfl,if_pos rfl];have hm2:=hm.same nx2.same;obtain ⟨dx2,kd2,ah2,sr2,h12,_⟩:=hm2.ex;refine ⟨_,_,_,(oT h12),rfl,_,_,jb8,m,es,rfl,hm2,ok,fun p us H3 s3 hp rows=>?_⟩;have nx3:=nx2.trans (nx2.tb.nx s3);refine ⟨l,flat es,rfl,nx3.at hl,flat_le ok,by rw [ZaO];omega,nx3.tb,fun m4 H4 es4 nx4 nm4 hm4 ok4 mem4=>?_⟩;have ef:flat es4=flat es:=Up.ext ok4.flat_up ok.flat_up mem4;obtain ⟨dx4,kd4,ah4,sr4,h14,_⟩:=hm4.ex;refine ⟨_,rfl,_,_,_,(oT h14),rfl,_,_,jb8,m4,es4,rfl,hm4,ok4,fun p' us' H5 s5 hp' rows'=>?_⟩;have nx5:=nx4.trans (nx4.tb.nx s5);have sN:Same (noT H3) H5:=fun b o e=>(oT (nx5.at e))
 have rows:=rows_noT rows sN;refine ZjE (oT (nx5.at (Zan hp (nl _)))) hp' rows rows' (rows_kp (kp_eq ok ok4 ef.symm)) ?_;exact q H5 (nx3.trans nx5)
theorem ok_ctd (B:Blt mg)(jcl:MethAt P w K mg base CM "book" ["self"] 1 (spBookM c CM))(jb9:MethAt P w K mg base CM "below" ["self","n"] 6 (spBel c CM ts))(jct:MethAt P w K mg base CM "chosen" ["self","k"] 6 (spCh39 c CM ts))(d:DefAt K mg "_law_counted" Zcf ["_law_found","_law_due","_law_number"]):FnAt P w K mg base "_law_counted" ["_law_found","_law_due","_law_number"] 7 (spCtd c CM ts):=by
 refine FnAt.of d jar ?_ ?_;walk_at "F";have nd:=jar.nd;obtain ⟨m,l,n,es,rfl,n1,hm,ok,hl,tl,ht,q⟩:=h;refine ⟨_,(Zad (Zaz (i:=3) (ZaS Zab))
     (Zad (Zbj zai rfl (ZaC K (ZfL K rfl rfl B.sorted rfl B.st (ZbQ ["_law_row_here"] [] rfl (ZaC K (pv 1)) (fun _ _ _ _ _=>Za2 (i:=0) (by show List.Nodup (["_law_row_here"]:List Str);decide +kernel) rfl (Or.inl rfl)) (fun _ _ _ _ _=>ZdG) (fun _ _ _ _ _=>(Zah Zas (pv 0) Zaf)) trivial ZaY))) (ZbM (i:=4)) (Zag (Zax (Zfq K zaF zaN zaO ZcL (pv 3) (Zaa (Zcx (Zaa (pv 4) (Zaa (ZaB (ZaX K) rfl B.len zaz (Zaa (ZbQ ["_law_row_here"] [4] rfl (ZaC K (pv 1)) (fun _ _ _ _ _=>Za2 (i:=0) (by show List.Nodup (["_law_row_here","_law_key"]:List Str);decide +kernel) rfl (Or.inl rfl)) (fun _ _ _ _ _=>Zd5 (Za0 ZdZ (Zah Zas (pv 0) Zaf) (pv 1))) (fun _ _ _ _ _=>(pv 0)) ⟨⟨_,rfl,rfl,.inl rfl⟩,trivial⟩ ZaY) Zab)) Zab))) Zab)))))
     (Zad (Zfh (i:=5) ["_law_row_here"] [2] jar.nd rfl (by walk_at "l") rfl (ZaC K (pv 1)) (fun _ _ _ _ _=>Za2 (i:=0) (by show List.Nodup (["_law_row_here","_law_number"]:List Str);decide +kernel) rfl (Or.inl rfl)) (fun _ _ _ _ _=>Zd5 (Za0 ZdZ (pv 0) (pv 1))) (fun _ _ _ _ _=>(pv 0)) ⟨⟨_,rfl,rfl,.inl rfl⟩,trivial⟩ ZaY)
     (Zad (ZaD (PW.pt (pw_or (Za0 (op_neD K (hu64 hr)) (ZaG P w K mg base 1 (pv 0)) (pv 3)) (ZgJ (Za0 op_ne (Zap P w K mg base 6 (pv 0) (Zaa (pv 2) Zab)) (ZaB (ZaX K) rfl B.len zaz (Zaa (pv 5) Zab)))))) (Zag (Zak Zdq)) Zau)
     (Zag (Zak (pe_or (pe_c (ZgI K (hu64 hr)) (pv 1) (ZaS Zab)) (ZdL (pe_c Zbr (Zap P w K mg base 6 (pv 0) (Zaa (Zah Zar (pv 2) (ZaB (ZaX K) rfl B.len zaz (Zaa (pv 1) Zab))) Zab)) (Zc0 (ZaE K) (pv 1) (Zah Zar (pv 2) (ZaB (ZaX K) rfl B.len zaz (Zaa (pv 1) Zab))))))))))))),?_⟩
 refine Zao fun k hk=>?_
 walk_at "vc";refine ⟨yax _,fun bk nbk=>hk _ _ (Zao fun k hk=>?_)⟩;walk_at "vc";have s1:=Same.new (o:=.lst []) nbk;have hl0:=(oT hl)
 refine ⟨⟨_,SqL.of (s1 _ _ hl0)⟩,compL (fun _=>true) (mapI fun p=>p/256) (SqL.of (s1 _ _ hl0)) (by rw [Zal,ZaO];omega) (fun x H R hx s h=>?_) (fun x H R hx _ s h=>?_) (fun L nL=>?_)⟩
 . walk_at "vc"
   exact h
 . obtain ⟨p,hp,rfl⟩:=Zbl hx
   walk_at "vc";exact h
 rw [ybU.mpr (fun _ _=>rfl),Zfs (g:=fun p=>p/256) fun p _=>by omega];have s2:=s1.trans (Same.new (o:=.lst (pint ((flat es).map fun p=>p/256))) nL);have hbk2:upd (upd H bk (.lst [])) L (.lst (pint ((flat es).map fun p=>p/256))) bk=some (.lst []):=(Same.new nL) _ _ Zac;have hL2:upd (upd H bk (.lst [])) L (.lst (pint ((flat es).map fun p=>p/256))) L=some (.lst (pint ((flat es).map fun p=>p/256))):=Zac;generalize upd (upd H bk (.lst [])) L (.lst (pint ((flat es).map fun p=>p/256)))=H2 at s2 hbk2 hL2 ⊢;rw [ZcD] at hL2;refine ⟨L,rfl,_,SqL.of hL2,by rw [yad,yad,ZaO];omega,fun p ks np lt mem=>⟨⟨_,SqL.of Zac⟩,?_⟩⟩;obtain ⟨os,rfl,uo⟩:=Zgh (a:=0) lt fun y hy=>by
   obtain ⟨z,_,rfl⟩:=yaJ.mp ((mem y).mp hy);omega
 have eo:os=kys es:=Up.ext uo ok.up fun k=>by
   have:=mem (k:Int);rw [Zfy,Zfy] at this;rw [this,ZdR ok,yaJ]
 subst eo;rw [<- ZcD];have pbk:p≠bk:=fun z=>by rw [z,hbk2] at np;cases np
 have s3:=s2.trans (Same.new (o:=.lst (pint (kys es))) np);have hbk3:=(Same.new (o:=.lst (pint (kys es))) np) _ _ hbk2;have hp3:upd H2 p (.lst (pint (kys es))) p=some (.lst (pint (kys es))):=Zac;generalize upd H2 p (.lst (pint (kys es)))=H3 at s3 hbk3 hp3 ⊢;refine loopL (xs:=pint (kys es)) (fun i σ H'=>(∃ v4 v5,σ=[some (.ref m),some (.ref l),some (.int n),some (.ref bk),v4,v5])/\Same H H'/\H' p=some (.lst (pint (kys es)))/\RunsL H' bk (((kys es).map fun k=>(k,loN (flat es) k)).take i)) ⟨⟨_,_,rfl⟩,s3,hp3,⟨[],hbk3,.nil⟩⟩ ?_ ?_ ?_
 . rintro i σ H4 _ ⟨_,_,h,_⟩
   exact SqL.of h
 . rintro i y σ H4 hy ⟨⟨v4,v5,rfl⟩,sm,hp4,us,hbk4,tu⟩
   obtain ⟨k0,hk0,rfl⟩:=ZaR hy;walk_at "vc";refine ⟨⟨_,SqL.of hbk4⟩,⟨_,SqL.of (sm _ _ hl0)⟩,compL (fun v=>match v with | .int j=>decide (j/256<(k0:Int)) | _=>false) id (SqL.of (sm _ _ hl0)) (by rw [Zal,ZaO];omega) (fun x H R hx s h=>?_) (fun x H R hx _ s h=>?_) (fun Z nZ=>?_)⟩
   . obtain ⟨p,hp,rfl⟩:=Zbl hx
     walk_at "vc";exact h
   . walk_at "vc"
     exact h
   have e0:((pint (flat es)).filter fun v=>match v with | .int j=>decide (j/256<(k0:Int)) | _=>false).map id=pint ((flat es).filter fun n=>decide (n/256<k0)):=by
     unfold pint;rw [List.map_id,ybw];congr 1
     refine yby fun n _=>?_
     show decide ((n:Int)/256<(k0:Int))=decide (n/256<k0);exact yaS.mpr (by omega)
   rw [e0];refine ⟨Z,rfl,_,.inl (SqL.of Zac),by decide,fun T nT=>?_⟩;rw [Zal];have sZ:=Same.new (o:=.lst (pint ((flat es).filter fun n=>decide (n/256<k0)))) nZ;have sT:=sZ.trans (Same.new (o:=.tup [.int (k0:Nat),.int (((flat es).filter fun n=>decide (n/256<k0)).length:Nat)]) nT);have hb:=sT _ _ hbk4;have lu:=tu.length;have li:us.length<=256:=by rw [lu,yaG,yad];have:=Zdh ok;unfold kys;rw [yad];omega
   refine ⟨_,hb,small1000 (by omega),(sm.trans sT).put nbk,?_,?_⟩
   . rw [Zai pbk]
     exact sT _ _ hp4
   . have tk:((kys es).map fun k=>(k,loN (flat es) k)).take (i+1)=((kys es).map fun k=>(k,loN (flat es) k)).take i++[(k0,loN (flat es) k0)]:=by
       rw [ybk,yav,hk0];rfl
     rw [tk];exact ⟨_,Zac,((tu.same sT).snoc (r:=(k0,loN (flat es) k0)) Zac).upd hb⟩
 . rintro σ H4 ⟨⟨v4,v5,rfl⟩,sm,hp4,us,hbk4,tu⟩
   refine hk _ _ (Zao fun k hk=>?_);rw [yas (by rw [Zal,yad];exact yag _)] at tu;walk_at "vc";refine ⟨⟨_,SqL.of (sm _ _ hl0)⟩,compL (fun v=>match v with | .int j=>decide (j<(n:Int)) | _=>false) id (SqL.of (sm _ _ hl0)) (by rw [Zal,ZaO];omega) (fun x H R hx s h=>?_) (fun x H R hx _ s h=>?_) (fun Z nZ=>hk _ _ (Zao fun k hk=>?_))⟩
   . obtain ⟨p,hp,rfl⟩:=Zbl hx
     walk_at "vc";exact h
   . walk_at "vc"
     exact h
   have e0:((pint (flat es)).filter fun v=>match v with | .int j=>decide (j<(n:Int)) | _=>false).map id=pint ((flat es).filter fun y=>decide (y<n)):=by
     unfold pint;rw [List.map_id,ybw];congr 1
     refine yby fun y _=>?_
     show decide ((y:Int)<(n:Int))=decide (y<n);exact yaS.mpr (by omega)
   rw [e0];have s5:=sm.trans (Same.new (o:=.lst (pint ((flat es).filter fun y=>decide (y<n)))) nZ);have hZ5:upd H4 Z (.lst (pint ((flat es).filter fun y=>decide (y<n)))) Z=some (.lst (pint ((flat es).filter fun y=>decide (y<n)))):=Zac;have hb5:RunsL (upd H4 Z (.lst (pint ((flat es).filter fun y=>decide (y<n))))) bk ((kys es).zip (ahs 0 es)):=by have:=ZhL (pre:=[]) ok.up ok.plt (fun n h=>nomatch h);rw [show (kys es).zip (ahs 0 es)=(kys es).map fun k=>(k,loN (flat es) k) from this];exact RunsL.same ⟨us,hbk4,tu⟩ (Same.new nZ)
   generalize upd H4 Z (.lst (pint ((flat es).filter fun y=>decide (y<n))))=H5 at s5 hZ5 hb5 ⊢;have nx5:=ht.nx s5;have hm5:=hm.same nx5.same;obtain ⟨dx5,kd5,ah5,sr5,h15,_⟩:=hm5.ex;walk_at "vc";refine ⟨_,_,_,(oT h15),rfl,_,_,jcl,m,es,rfl,hm5,fun l6 us6 H6 s6 hl6 tu6=>?_⟩;refine ZhW ⟨us6,hl6,tu6⟩ (hb5.same s6) ⟨_,rfl,?_⟩;rw [yak rfl,if_neg (by decide)];have nx6:=nx5.trans (nx5.tb.nx s6);have hm6:=hm.same nx6.same;refine ⟨_,_,_,s6 _ _ (oT h15),rfl,_,_,jb9,m,n,es,rfl,n1,hm6,ok,nx6.tb,fun H7 nx7=>?_⟩;have nx67:=nx6.trans nx7;have hZ7:=(oT (nx7.at (Zan (s6 _ _ hZ5) (nl _))))
   refine ⟨_,.inl (SqL.of hZ7),rfl,?_⟩;rw [Zal,bel_flat ok,if_pos rfl];refine hk _ _ ?_;have hl7:=nx67.at hl;have hm7:=hm.same nx67.same;obtain ⟨dx7,kd7,ah7,sr7,h17,_⟩:=hm7.ex;walk_at "vc";refine ⟨yax _,fun p8 np8=>?_⟩;have nx8:=nx67.trans (Nx.new (o':=.lst []) nx67.tb np8);have hl8:=nx8.at hl;have hp8:upd H7 p8 (.lst []) p8=some (.lst []):=Zac;generalize upd H7 p8 (.lst [])=H8 at nx8 hl8 hp8 ⊢;refine Zgb (qs:=[]) (sL hl8) (SqL.of hp8) ⟨_,rfl,?_⟩;by_cases e:flat es=[]
   . rw [if_pos (yak e)]
     exact q H8 nx8
   . rw [if_neg (by rw [yaz];exact e)]
     have hm8:=hm.same nx8.same;obtain ⟨dx8,kd8,ah8,sr8,h18,_⟩:=hm8.ex;have lp:0<(flat es).length:=List.length_pos_iff.mpr e;refine ⟨_,_,_,(oT h18),rfl,_,_,jct,_,.inl (sL hl8),by rw [Zal];omega,?_⟩;rw [Zal];have em:(n:Int)%((flat es).length:Nat)=((n%(flat es).length:Nat):Int):=by rw [Int.natCast_emod]
     rw [em];have lm:n%(flat es).length<(flat es).length:=ycc _ lp;refine ⟨m,es,n%(flat es).length,rfl,hm8,ok,by rw [<- ZaO];exact lm,nx8.tb,fun x H9 hx nx9=>?_⟩;have hl9:=(oT (nx9.at hl8))
     refine ⟨_,.inl (SqL.of hl9),by rw [Zal];omega,_,SqL.of hl9,.int (x:Nat),?_,rfl,?_⟩
     . rw [Zal,em]
       exact ZcW hx
     . rw [yak rfl]
       exact q H9 (nx8.trans nx9)
end
def spLim:Sp:=fun vs H Q _=>∃ (z k:Int) (t:Nat) (d:Addr) (kvs:List (Key × V)) (ms:List Nat) (g:Nat->Option Nat),vs=[.int z,.int k,.int (t:Nat),.ref d]/\t<2^40/\H d=some (.dK kvs)/\Pl kvs ms g/\∀ (n:Int) H',Same H H'->Q (.int n) H'
theorem valV_nd {k:Key}{v:V}(nd:(kvs.map (·.1)).Nodup)(h:(k,v)∈kvs):valV kvs k=some v:=by induction kvs<;>grind [valV]
theorem Pl.vals (h:Pl kvs ms g):∃ ns:List Int,kvs.map (·.2)=ns.map V.int/\ns.length<=100:=by
 have nd:(kvs.map (·.1)).Nodup:=by rw [h.dn.keys];exact List.Pairwise.map _ (fun a b h e=>h (inl_nat.mp e)) h.dn.nd
 have all:∀ kv∈kvs,∃ i:Int,kv.2=.int i:=fun kv hk=>by
   have:kv.1∈kvs.map (·.1):=yaJ.mpr ⟨kv,hk,rfl⟩;rw [h.dn.keys] at this;obtain ⟨m,hm,em⟩:=yaJ.mp this;have e1:=valV_nd nd (show (kv.1,kv.2)∈kvs from hk);rw [<- em,h.val] at e1;cases e:g m with
   | none=>rw [e] at e1;cases e1
   | some v =>
     rw [e] at e1;exact ⟨v,(Option.some.inj e1).symm⟩
 have lk:kvs.length<=100:=by rw [h.dn.len];exact h.len
 clear nd h;induction kvs with
 | nil=>exact ⟨[],rfl,by decide⟩
 | cons kv r ih =>
   obtain ⟨i,ei⟩:=all kv (.head _);obtain ⟨ns,e,l⟩:=ih (fun kv hk=>all kv (.tail _ hk)) (by rw [yan] at lk;omega);refine ⟨i::ns,by rw [yaC,yaC,e,ei],?_⟩;have:=congrArg List.length e;rw [yad,yad] at this;rw [yan] at lk ⊢;omega
section
variable {c:Kd->Addr}{ts:Tabs}
theorem ok_lim (B:Blt mg)(jb:FnAt P w K mg base "_law_mixed" ["_law_cell","_law_k"] 1 spMixed)(d:DefAt K mg "_law_limit" ZdC ["_law_cell","_law_k","_law_top","_law_plain"]):FnAt P w K mg base "_law_limit" ["_law_cell","_law_k","_law_top","_law_plain"] 2 spLim:=by
 refine FnAt.of d jbQ ?_ ?_;walk_at "F";have nd:=jbQ.nd;obtain ⟨z,k,t,d,kvs,ms,g,rfl,t40,hd,pl,q⟩:=h;refine ⟨_,(Zad (Zaz (i:=4) (Zaj jb (Zaa (pv 0) (Zaa (pv 1) Zab))))
     (Zad (Zaz (i:=5) (ZfE rfl rfl B.sorted (pv 3)))
     (Zad (ZaD (Za0 Zbr (Zah Zar (pv 4) Zaf) Zaf) (Zag (Zak (Zah Zar (Zah Zav (Zah Zbt (pv 0) Zaf) (pv 4)) (Zah Zav (pv 2) Zaf)))) Zau)
     (Zad (ZaD (Za0 Zbr (Zah Zar (pv 4) Zaf) Zaf) (Zag (Zak (Zc0 (ZaE K) (ZaS (Zaa Zaf (Zaa (pv 2) Zab))) (Zah Zar (Zah Zas (pv 4) Zaf) Zaf)))) Zau)
     (Zad (ZaD (Za0 Zbr (Zah Zar (pv 4) Zaf) Zaf) (Zag (Zak (Zah Zbt (Zc0 (ZaE K) (ZaS (Zaa (Zd7 Zgo Zaf) (Zaa (Zah Zav (pv 2) Zaf) Zab))) (Zah Zar (Zah Zas (pv 4) Zaf) Zaf)) (Zah Zav Zaf (Zah Zar (Zah Zav (Zah Zbt (pv 0) Zaf) (pv 4)) (Zah op_mulG (Zah op_pow Zaf Zaf) (Zah op_pow Zaf Zaf))))))) Zau)
     (Zad (ZaD (Za0 (ZgI K (hu64 hr)) (pv 5) (ZaS Zab)) (Zag (Zak (Zah ZaP (Zah Zar (Zah Zas (pv 4) Zaf) Zaf) Zaf))) Zau)
     (Zag (Zak (Zah ZaP (Zah Zav (Zc0 (ZaE K) (pv 5) (Zah Zar (Zah Zas (pv 4) Zaf) (ZaB (ZaX K) rfl B.len zaz (Zaa (pv 5) Zab)))) (Zah Zar (Zah Zas (pv 4) Zaf) Zaf)) Zaf))))))))),?_⟩
 have rg:=ZcM z k;refine Zao fun k2 hk=>?_
 walk_at "vc";refine ⟨_,_,rfl,hk _ _ (Zao fun k2 hk=>?_)⟩;generalize mixI z k=n at rg ⊢;obtain ⟨vs,ev,lv⟩:=pl.vals;walk_at "vc";refine ⟨_,hd,vs,ev,fun l zs nl pm so=>hk _ _ ?_⟩;have s1:=Same.new (o:=.lst (zs.map V.int)) nl;have hl1:upd H l (.lst (zs.map V.int)) l=some (.lst (zs.map V.int)):=Zac;generalize upd H l (.lst (zs.map V.int))=H1 at s1 hl1 ⊢;walk_at "vc";by_cases c0:n%5=0
 . rw [if_pos c0]
   exact ⟨by omega,q _ _ s1⟩
 rw [if_neg c0];by_cases c1:n%5=1
 . rw [if_pos c1]
   refine ⟨by decide,fun p np=>?_⟩;have i1:∃ y:Int,atI [V.int 0,V.int (t:Nat)] (n/5%2)=some (.int y):=by
     rcases (show n/5%2=0\/n/5%2=1 by omega) with e | e<;>rw [e]
     . exact ⟨_,rfl⟩
     . exact ⟨_,rfl⟩
   obtain ⟨y,i1⟩:=i1;exact ⟨_,SqL.of Zac,_,i1,q _ _ (s1.trans (Same.new np))⟩
 rw [if_neg c1];by_cases c2:n%5=2
 . rw [if_pos c2]
   refine ⟨by decide,fun p np=>?_⟩;have i1:∃ y:Int,atI [V.int (-1),V.int ((t:Nat)+1)] (n/10%2)=some (.int y)/\-18446744073709551616<y/\y<18446744073709551616:=by
     have:(2:Nat)^40<18446744073709551616:=by decide
     rcases (show n/10%2=0\/n/10%2=1 by omega) with e | e<;>rw [e]
     . exact ⟨_,rfl,by decide,by decide⟩
     . exact ⟨_,rfl,by omega,by omega⟩
   obtain ⟨y,i1,y1,y2⟩:=i1;exact ⟨_,SqL.of Zac,_,i1,by decide,by decide,ZhT (by decide +kernel) (by decide +kernel),y,rfl,.inl ⟨y1,y2⟩,q _ _ (s1.trans (Same.new np))⟩
 rw [if_neg c2];refine ⟨yax _,fun p np=>?_⟩;have s2:=s1.trans (Same.new (o:=.lst []) np);have hl2:=(Same.new (o:=.lst []) np) _ _ hl1;refine Zf5 (ns:=zs) (ms:=[]) (SqL.of hl2) (SqL.of Zac) ⟨_,rfl,?_⟩;by_cases e:zs=[]
 . rw [if_pos (yak e)]
   exact q _ _ s2
 . rw [if_neg (by rw [yaz];exact e)]
   have lp:0<zs.length:=List.length_pos_iff.mpr e;refine ⟨_,.inl (SqL.of hl2),by rw [yad];omega,_,SqL.of hl2,?_⟩;rw [yad];have g0:0<=n/15%(zs.length:Nat):=Int.emod_nonneg _ (by omega);have g1:n/15%(zs.length:Nat)<zs.length:=ycm _ (by omega);have gi:(n/15%(zs.length:Nat)).toNat<zs.length:=by omega
   have ga:atI (zs.map V.int) (n/15%(zs.length:Nat))=some (.int zs[(n/15%(zs.length:Nat)).toNat]):=by have:=Zc3 (xs:=zs.map V.int) (j:=(n/15%(zs.length:Nat)).toNat) (v:=.int zs[(n/15%(zs.length:Nat)).toNat]) (by rw [yav,yae gi];rfl);rw [ybQ g0] at this;exact this
   exact ⟨_,ga,_,rfl,q _ _ s2⟩
end
section
variable {b:Bool}{c:Kd->Addr}{x d:Addr}{D D':ColD}{ts:Tabs}
theorem Pd.lo (h:Pd b c CM CK t H x d D g kvs ms):∀ e,orD D d e->Loose (noT H) e:=fun e he=>he.elim (fun w=>h.col.at_.loose e w) fun w=>by rw [w];exact .inr ⟨_,h.hd⟩
theorem Pl.drop (h:Pl kvs ms g)(r:Nat):Pl (dropK kvs (Sum.inl (r:Int))) (ms.filter fun m=>decide (m≠r)) (gOff g r):=by
 refine ⟨h.dn.drop r,fun y=>?_,yaN (ybp _ _) h.len⟩;unfold gOff;by_cases e:y=r
 . rw [if_pos e,e]
   have:=(h.dn.drop r).some r;rw [yaw (fun w=>by rw [yau,yaz] at w;exact w.2 rfl)] at this;exact Option.not_isSome_iff_eq_none.mp (by rw [this];decide)
 . rw [if_neg e,Ze6 _ fun w=>e (inl_nat.mp w)]
   exact h.val y
theorem Pl.off {r:Nat}(h:Pl kvs ms g)(hu:valV kvs (Sum.inl (r:Int))=none):Pl kvs ms (gOff g r):=by
 refine ⟨h.dn,fun y=>?_,h.len⟩;unfold gOff;split
 . rename_i e
   rw [e,hu];rfl
 . exact h.val y
theorem Pl.put (h:Pl kvs ms g)(r v:Nat)(l:ms.length<100):∃ ms',Pl (putK kvs (Sum.inl (r:Int)) (.int (v:Nat))) ms' (gOn g r v)/\ms'.length<=ms.length+1:=by
 obtain ⟨ms',d1,d2,d3⟩:=h.dn.put r (.int (v:Nat));refine ⟨ms',⟨d1,fun y=>?_,by omega⟩,d3⟩;unfold gOn;rw [Zdl];by_cases e:y=r
 . rw [if_pos e,if_pos (by rw [e])]
   rfl
 . rw [if_neg e,if_neg fun w=>e (inl_nat.mp w)]
   exact h.val y
end
theorem cut_map (ns:List Int)(lo hi:Option Int):∃ ms:List Int,cutV (ns.map V.int) lo hi=ms.map V.int:=by unfold cutV;rw [yad];exact ⟨(ns.drop (HT.sIx ns.length 0 lo)).take (HT.sIx ns.length ns.length hi-HT.sIx ns.length 0 lo),by rw [List.map_take,List.map_drop]⟩
theorem cut30 (ns:List Int):∃ zs:List Int,cutV (ns.map V.int) (some 2) (some 32)=zs.map V.int/\zs.length<=30:=by obtain ⟨zs,e⟩:=cut_map ns (some 2) (some 32);refine ⟨zs,e,?_⟩;have h:=congrArg List.length e;rw [yad] at h;rw [<- h];unfold cutV;rw [show (2:Int)=((2:Nat):Int) from rfl,show (32:Int)=((32:Nat):Int) from rfl,HT.sIx_nat,HT.sIx_nat,yaG,yaW];omega
theorem Zef {ts:Tabs}{H2 H3:Hp}{F F':Addr->Prop}{a:Addr}(n:Nx ts H H2)(lo:∀ b,F b->Loose (noT H2) b)(f:Cf ts F H2 F' H3)(h:SqL K (noT H) a xs):SqL K (noT H3) a xs:=by
 have go:∀ {b o},noT H b=some o->¬ Four o->(∀ kvs,o≠.dK kvs)->noT H3 b=some o:=fun {b o} e n1 n2=>f.same b o (fun z=>(lo b z).no (n.at e) n1 n2) (n.at e)
 rcases h with h | h
 . rcases h with h | ⟨o,h⟩
   . exact .inl (.inl (go h Zbu (fun _ z=>by cases z)))
   . exact .inl (.inr ⟨o,go h (fun ⟨_,_,_,_,_,_,z⟩=>by cases z) (fun _ z=>by cases z)⟩)
 . exact .inr h
def spFill (K:ZFr)(c:Kd->Addr)(CM:Addr)(CK:Bool->Addr)(ts:Tabs):Sp:=fun vs H Q _=>∃ (b:Bool) (x a:Addr) (ns:List Int) (t:Nat) (D:ColD),vs=[.ref x,.ref a,.int (tpB b t:Nat)]/\ColF b c CM (CK b) t (noT H) x D (fun _=>none)/\SqL K (noT H) a (ns.map V.int)/\Tbs ts H /\
 ∀ d D' g kvs ms H',Cf ts D.F H D'.F H'->noT H d=none->Pd b c CM CK t H' x d D' g kvs ms->ms.length<=80->Q (.ref d) H'
structure ClW (P:Program)(w:World)(K:ZFr)(mg:Str->Option Value)(base:Heap)(b:Bool)(c:Kd->Addr)(CM C:Addr)(ts:Tabs):Prop where
 take:MethAt P w K mg base C "take" ["self","row"] 8 (spTakeC b c CM C ts)
 put:MethAt P w K mg base C "put" ["self","row","value"] 9 (spPutC b c CM C ts)
 within:MethAt P w K mg base C "within" ["self","low","high"] 9 (spWin b c CM C ts)
section
variable {c:Kd->Addr}{ts:Tabs}
theorem Ze7 {b:Bool}{r v:Nat}{x d:Addr}{D:ColD}{Q:VK}(cp:ClW P w K mg base b c CM (CK b) ts)(pd:Pd b c CM CK t H x d D g kvs ms)(tb:Tbs ts H)(hr1:r<=65535)(hv:v<=tpB b t)(lm:ms.length<100)(q:∀ D' H' kvs' ms',Cf ts (orD D d) H (orD D' d) H'->Pd b c CM CK t H' x d D' (gOn g r v) kvs' ms'->ms'.length<=ms.length+1->Q .non H') :
   ∃ H1,DPut H d (.int (r:Nat)) (.int (v:Nat)) H1/\∃ C dx fs,H1 x=some (.ins C dx fs)/\fs.lookup (Str.ofString "put")=none/\∃ ps sp,MethAt P w K mg base C "put" ps 9 sp/\∃ u,DGet H1 d (.int (r:Nat)) (some u)/\sp [.ref x,.int (r:Nat),u] H1 Q E0:=by
 obtain ⟨ms',pl',l'⟩:=pd.pl.put r v lm;have hd1:upd H d (.dK (putK kvs (Sum.inl (r:Int)) (.int (v:Nat)))) d=some (.dK (putK kvs (Sum.inl (r:Int)) (.int (v:Nat)))):=Zac;have c1:=pd.col.putD (kvs':=putK kvs (Sum.inl (r:Int)) (.int (v:Nat))) pd.hd pd.nF;have f1:Cf ts (orD D d) H (orD D d) (upd H d (.dK (putK kvs (Sum.inl (r:Int)) (.int (v:Nat))))):=Cf.putD tb (oT pd.hd);refine ⟨_,DPut.k (k:=Sum.inl (r:Int)) (oT pd.hd) (small1000 (by rw [pd.pl.dn.len];omega)),?_⟩;generalize upd H d (.dK (putK kvs (Sum.inl (r:Int)) (.int (v:Nat))))=H1 at hd1 c1 f1 ⊢;obtain ⟨dx,hx⟩:=c1.at_.hx;refine ⟨_,_,_,(oT hx),ZaN rfl (by decide) (by decide),_,_,cp.put,.int (v:Nat),?_,x,r,v,t,D,g,rfl,hr1,hv,c1,f1.tb,fun D2 H2 f2 c2=>?_⟩
 . have:=DGet.k (k:=Sum.inl (r:Int)) hd1
   rw [Zdl,if_pos rfl] at this;exact this
 . refine q D2 H2 _ ms' (f1.trans f2.orD) ⟨c2,f2.same _ _ pd.nF (Zan hd1 (L2.nd _)),fun z=>?_,pl'⟩ l'
   rcases f2.foot d z with w | w
   . exact pd.nF w
   . rw [Zan hd1 (L2.nd _)] at w
     cases w
theorem ok_fill (B:Blt mg) (cp:∀ b,ClW P w K mg base b c CM (CK b) ts) (jb:FnAt P w K mg base "_law_mixed" ["_law_cell","_law_k"] 1 spMixed) (je:FnAt P w K mg base "_law_cell_at" ["_law_script","_law_k"] 1 (spCell K)) (jaQ:FnAt P w K mg base "_law_row" ["_law_script","_law_cell"] 2 (spRow51 K)) (jS:FnAt P w K mg base "_law_value" ["_law_cell","_law_top"] 2 spVal51) (d:DefAt K mg "_law_filled" ZcS ["_law_column_here","_law_script","_law_top"]):FnAt P w K mg base "_law_filled" ["_law_column_here","_law_script","_law_top"] 10 (spFill K c CM CK ts):=by
 refine FnAt.of d jbF ?_ ?_;walk_at "F";have nd:=jbF.nd;obtain ⟨b,x,a,ns,t,D,rfl,hc,hS,ht,q⟩:=h;refine ⟨_,(Zad (Zaz (i:=3) ZcA)
     (Zad (Zaz (i:=4) (Zaj jb (Zaa (Zaj je (Zaa (pv 1) (Zaa Zaf Zab))) (Zaa Zaf Zab))))
     (Zad (ZaD (Za0 Zbr (Zah Zar (pv 4) Zaf) Zaf) (Zag (Zbj zai rfl (Zep rfl B.range (Zaa (Zah Zav Zaf (Zah Zar (Zah Zas (pv 4) Zaf) Zaf)) Zab)) (ZbM (i:=5)) (Zad (Zaz (i:=6) (Zah Zav (Zah Zbt Zaf (Zah Zar (Zaj jb (Zaa (Zaj je (Zaa (pv 1) (Zaa Zaf Zab))) (Zaa Zaf Zab))) Zaf)) (Zah Zar (Zah Zav (Zah Zas (pv 4) Zaf) (Zah Zbt Zaf (pv 5))) Zaf)))
     (Zad (Zee (hu1 hr) (pv 3) (pv 6) (Zah Zar (Zah Zav (Zah Zas (pv 4) Zaf) (Zah Zas (pv 5) Zaf)) (Zah Zav (pv 2) Zaf)) rfl)
     (Zag (Zax (Zap P w K mg base 9 (pv 0) (Zaa (pv 6) (Zaa (Zbq (hu1 hr) (pv 3) (pv 6) (fun _ _=>rfl)) Zab))))))))) Zau)
     (Zad (Zbj zai rfl (ZaC K (Zcc (Zb8 K) (pv 1) (Zcj Zaf) (Zcj Zaf))) (ZbM (i:=7)) (Zad (Zaz (i:=6) (Zaj jaQ (Zaa (pv 1) (Zaa (pv 7) Zab))))
     (Zag (ZaD (Za0 Zbr (Zah Zar (Zaj jb (Zaa (pv 7) (Zaa Zaf Zab))) Zaf) Zaf) (Zad (Zax (Zap P w K mg base 8 (pv 0) (Zaa (pv 6) Zab)))
     (Zag (Zax (pe_dpop2 (pv 3) (pv 6) ZbA ⟨rfl,rfl,rfl,rfl⟩)))) (Zad (Zee (hu1 hr) (pv 3) (pv 6) (Zaj jS (Zaa (pv 7) (Zaa (pv 2) Zab))) rfl)
     (Zag (Zax (Zap P w K mg base 9 (pv 0) (Zaa (pv 6) (Zaa (Zbq (hu1 hr) (pv 3) (pv 6) (fun _ _=>rfl)) Zab))))))))))
     (Zag (Zak (pv 3))))))),?_⟩
 have t40:=ZhV hc.ok;refine Zao fun k hk=>?_
 walk_at "vc";intro d nd0;refine hk _ _ (Zao fun k hk=>?_);have nx1:Nx ts H (upd H d (.dK [])):=Nx.new ht nd0;have pd:Pd b c CM CK t (upd H d (.dK [])) x d D (fun _=>none) [] []:=⟨hc.same nx1.same,Zan Zac (L2.nd _),fun z=>(hc.at_.loose d z).none (ZaU nd0),⟨rfl,.nil⟩,fun _=>rfl,by decide⟩
 have hS1:SqL K (noT (upd H d (.dK []))) a (ns.map V.int):=nx1.same.seq hS;have nd0:=ZaU nd0;have f1:Cf ts D.F H D.F (upd H d (.dK [])):=Cf.nx nx1;generalize upd H d (.dK [])=H1 at nx1 pd hS1 f1 hk ⊢;walk_at "vc";refine ⟨a,ns,0,rfl,hS1.noT,_,_,rfl,hk _ _ (Zao fun k hk=>?_)⟩;generalize hz:ns.getD 0 0=z0;have rg:=ZcM z0 27;generalize mixI z0 27=n at rg ⊢;have lo1:∀ e,orD D d e->Loose (noT H1) e:=pd.lo;have fin:∀ D' g kvs ms H' (w5 w6 w7:Option V),Cf ts (orD D d) H1 (orD D' d) H'->Pd b c CM CK t H' x d D' g kvs ms->ms.length<=40->k [some (.ref x),some (.ref a),some (.int (tpB b t:Nat)),some (.ref d),some (.int n),w5,w6,w7] H':=by
   intro D' g kvs ms H' w5 w6 w7 f' pd' lm;refine hk _ _ (Zao fun k hk=>?_);have hS':=Zef (.refl nx1.tb) lo1 f' hS1;obtain ⟨zs,ct,l30⟩:=cut30 ns;walk_at "vc";refine ⟨_,hS'.noT,fun p np=>⟨⟨_,SqL.of Zac⟩,?_⟩⟩;rw [ct];have nxp:Nx ts H' (upd H' p (.lst (zs.map V.int))):=Nx.new f'.tb np;have hp:upd H' p (.lst (zs.map V.int)) p=some (.lst (zs.map V.int)):=Zac;generalize upd H' p (.lst (zs.map V.int))=H2 at nxp hp ⊢;have l30:(zs.map V.int).length<=30:=by rw [yad];exact l30
   refine loopL (xs:=zs.map V.int) (fun i σ H3=>(∃ w5 w6 w7,σ=[some (.ref x),some (.ref a),some (.int (tpB b t:Nat)),some (.ref d),some (.int n),w5,w6,w7])/\noT H3 p=some (.lst (zs.map V.int))/\∃ D' g kvs ms,Cf ts (orD D d) H1 (orD D' d) H3/\Pd b c CM CK t H3 x d D' g kvs ms/\ms.length<=40+i) ⟨⟨_,_,_,rfl⟩,Zan hp (nl _),D',g,kvs,ms,f'.trans (Cf.nx nxp),pd'.nx nxp,by omega⟩ ?_ ?_ ?_
   . rintro i σ H3 _ ⟨_,h,_⟩
     exact sL h
   . rintro i y σ H3 hy ⟨⟨w5,w6,w7,rfl⟩,hp3,D3,g3,kv3,ms3,f3,pd3,lm3⟩
     obtain ⟨u,rfl⟩:∃ z:Int,y=.int z:=by obtain ⟨z,_,e⟩:=yaJ.mp (yao hy);exact ⟨z,e.symm⟩
     have hi:=(yaQ.mp hy).1;have hS3:=Zef (.refl nx1.tb) lo1 f3 hS1;have lst3:∀ {D5 H5},Cf ts (orD D3 d) H3 D5 H5->noT H5 p=some (.lst (zs.map V.int)):=fun f=>f.same _ _ (fun z=>(pd3.lo _ z).no hp3 Zbu (fun _ z=>by cases z)) hp3
     rw [gName];refine Zao fun k hk=>?_
     walk_at "vc";refine ⟨a,ns,u,rfl,hS3.noT,fun r hr1=>hk _ _ ?_⟩;obtain ⟨dx3,hx3⟩:=pd3.col.at_.hx;walk_at "vc";refine ⟨_,_,rfl,_,rfl,?_⟩;by_cases h5:mixI u 25%5=0
     . rw [if_pos h5]
       refine ⟨_,_,_,(oT hx3),ZaN rfl (by decide) (by decide),_,_,(cp b).take,x,r,t,D3,g3,rfl,hr1,pd3.col,f3.tb,fun D4 H4 f4 c4=>?_⟩;obtain ⟨hd4,nF4⟩:=pd3.step f4;refine ⟨.inl ⟨_,.inl (oT hd4)⟩,_,(oT hd4),Sum.inl (r:Int),rfl,fun u hu=>?_,fun hu=>?_⟩
       . have f5:=f4.orD.trans (Cf.putD (D:=D4) (kvs':=dropK kv3 (Sum.inl (r:Int))) f4.tb (oT hd4))
         exact ⟨lst3 f5,D4,f3.trans f5,_,_,_,⟨c4.putD hd4 nF4,Zan Zac (L2.nd _),nF4,pd3.pl.drop r⟩,yaN (ybp _ _) (by omega)⟩
       . exact ⟨lst3 f4.orD,D4,f3.trans f4.orD,_,_,_,⟨c4,hd4,nF4,pd3.pl.off hu⟩,by omega⟩
     . rw [if_neg h5]
       refine ⟨u,_,rfl,by omega,by omega,fun v v0 v1=>?_⟩;obtain ⟨v,rfl⟩:=yck v0;exact Ze7 (cp b) pd3 f3.tb hr1 (by omega) (by omega) fun D4 H4 kv4 ms4 f4 pd4 l4=>⟨lst3 f4,D4,f3.trans f4,_,_,_,pd4,by omega⟩
   . rintro σ H3 ⟨⟨w5,w6,w7,rfl⟩,hp3,D3,g3,kv3,ms3,f3,pd3,lm3⟩
     refine hk _ _ ?_;walk_at "vc";refine q d D3 g3 kv3 ms3 H3 ⟨fun e o ne ho=>?_,f3.tb,fun e he=>?_⟩ nd0 pd3 (by omega)
     . exact f3.same e o (fun z=>z.elim ne fun w=>by rw [w,nd0] at ho;cases ho) (nx1.at ho)
     . rcases f3.foot e (.inl he) with (w | w) | w
       . exact .inl w
       . rw [w]
         exact .inr nd0
       . exact .inr (nx1.free w)
 walk_at "vc";by_cases h8:n%8=0
 . rw [if_pos h8]
   refine ⟨by omega,by omega,?_⟩;have l39:(30+n/8%10).toNat<=39:=by omega
   refine loopR (fun i σ H3=>(∃ w5 w6 w7,σ=[some (.ref x),some (.ref a),some (.int (tpB b t:Nat)),some (.ref d),some (.int n),w5,w6,w7])/\∃ D' g kvs ms,Cf ts (orD D d) H1 (orD D' d) H3/\Pd b c CM CK t H3 x d D' g kvs ms/\ms.length<=i) ⟨⟨_,_,_,rfl⟩,D,_,_,_,Cf.nx (.refl nx1.tb),pd,yax _⟩ ?_ ?_
   . rintro i σ H3 hi ⟨⟨w5,w6,w7,rfl⟩,D3,g3,kv3,ms3,f3,pd3,lm3⟩
     have hS3:=Zef (.refl nx1.tb) lo1 f3 hS1;rw [gName];refine Zao fun k hk=>?_
     walk_at "vc";refine ⟨a,ns,0,rfl,hS3.noT,_,_,rfl,_,rfl,hk _ _ ?_⟩;generalize hm:mixI (ns.getD 0 0) 30=y;have er:256*(y%256)+(n/80+2*(i:Int))%256=(((256*(y%256)+(n/80+2*(i:Int))%256).toNat:Nat):Int):=by omega
     rw [er];have hr1:(256*(y%256)+(n/80+2*(i:Int))%256).toNat<=65535:=by omega
     generalize (256*(y%256)+(n/80+2*(i:Int))%256).toNat=r at hr1 ⊢;have e0:0<=(n/640+(i:Int)/36)%(((tpB b t:Nat):Int)+1):=Int.emod_nonneg _ (by omega);have e2:(n/640+(i:Int)/36)%(((tpB b t:Nat):Int)+1)<((tpB b t:Nat):Int)+1:=ycm _ (by omega);walk_at "vc";refine ⟨by omega,?_⟩;generalize (n/640+(i:Int)/36)%(((tpB b t:Nat):Int)+1)=v at e0 e2 ⊢;obtain ⟨v,rfl⟩:=yck e0;exact Ze7 (cp b) pd3 f3.tb hr1 (by omega) (by omega) fun D4 H4 kv4 ms4 f4 pd4 l4=>⟨D4,f3.trans f4,_,_,_,pd4,by omega⟩
   . rintro σ H3 ⟨⟨w5,w6,w7,rfl⟩,D3,g3,kv3,ms3,f3,pd3,lm3⟩
     exact fin D3 g3 kv3 ms3 H3 _ _ _ f3 pd3 (by omega)
 . rw [if_neg h8]
   exact fin D _ _ _ H1 _ _ _ (Cf.nx (.refl nx1.tb)) pd (yax _)
end
def spRight (K:ZFr)(c:Kd->Addr)(CM:Addr)(CK:Bool->Addr)(ts:Tabs):Sp:=fun vs H Q _=>∃ (b:Bool) (x d a:Addr) (ns:List Int) (t:Nat) (D:ColD) (g:Nat->Option Nat) (kvs:List (Key × V)) (ms:List Nat),vs=[.ref x,.ref d,.ref a,.int (tpB b t:Nat)]/\Pd b c CM CK t H x d D g kvs ms/\SqL K (noT H) a (ns.map V.int)/\Tbs ts H/\∀ H',Nx ts H H'->Q (.bl true) H'
def spLaw53 (K:ZFr)(ts:Tabs):Sp:=fun vs H Q _=>∃ (a:Addr) (ns:List Int),vs=[.ref a]/\SqL K (noT H) a (ns.map V.int)/\ns.length<=63/\Tbs ts H/\∀ H',Q (.bl true) H'
section
variable {c:Kd->Addr}{ts:Tabs}
theorem Zh5 (B:Blt mg) (cp:∀ b,ClW P w K mg base b c CM (CK b) ts) (jb:FnAt P w K mg base "_law_mixed" ["_law_cell","_law_k"] 1 spMixed) (je:FnAt P w K mg base "_law_cell_at" ["_law_script","_law_k"] 1 (spCell K)) (jaR:FnAt P w K mg base "_law_limit" ["_law_cell","_law_k","_law_top","_law_plain"] 2 spLim) (ja5:FnAt P w K mg base "_law_set_is" ["_law_found","_law_due"] 10 (spSetIs c CM ts)) (jaK:FnAt P w K mg base "_law_counted" ["_law_found","_law_due","_law_number"] 7 (spCtd c CM ts)) (d:DefAt K mg "_law_right" ZdA ["_law_column_here","_law_plain","_law_script","_law_top"]):FnAt P w K mg base "_law_right" ["_law_column_here","_law_plain","_law_script","_law_top"] 11 (spRight K c CM CK ts):=by
 refine FnAt.of d ja2 ?_ ?_;walk_at "F";have nd:=ja2.nd;obtain ⟨b,x,d,a,ns,t,D,g,kvs,ms,rfl,pd,hS,ht,q⟩:=h;refine ⟨_,(Zad (Zbj zai rfl (Zep rfl B.range (Zaa Zaf Zab)) (ZbM (i:=4)) (Zad (Zaz (i:=5) (Zaj je (Zaa (pv 2) (Zaa (pv 4) Zab))))
     (Zad (Zaz (i:=6) (Zaj jaR (Zaa (pv 5) (Zaa (Zah Zav Zaf (pv 4)) (Zaa (pv 3) (Zaa (pv 1) Zab))))))
     (Zad (Zaz (i:=7) (Zaj jaR (Zaa (pv 5) (Zaa (Zah Zav Zaf (pv 4)) (Zaa (pv 3) (Zaa (pv 1) Zab))))))
     (Zad (Zfh (i:=8) ["_law_row_here"] [6,7,1] ja2.nd rfl (by walk_at "l") rfl (ZaC K (ZaB Zc1 rfl B.sorted L2.boot_sorted (Zaa (pv 1) Zab))) (fun _ _ _ _ _=>Za2 (i:=0) (by show List.Nodup (["_law_row_here","_law_low","_law_high","_law_plain"]:List Str);decide +kernel) rfl (Or.inl rfl)) (fun _ _ _ _ _=>Zd5 (Zec ZcF ZcF (pv 1) (Zbq (hu1 hr) (pv 3) (pv 0) (fun _ _=>rfl)) (pv 2))) (fun _ _ _ _ _=>(pv 0)) ⟨⟨_,rfl,rfl,.inl rfl⟩,⟨⟨_,rfl,rfl,.inl rfl⟩,⟨⟨_,rfl,rfl,.inl rfl⟩,trivial⟩⟩⟩ ZaY)
     (Zad (Zaz (i:=9) (Zap P w K mg base 9 (pv 0) (Zaa (pv 6) (Zaa (pv 7) Zab))))
     (Zag (ZaD (PW.pt (pw_or (Zcy (Za9 (Zaj ja5 (Zaa (pv 9) (Zaa (pv 8) Zab))))) (ZgJ (Zcy (Za9 (Zaj jaK (Zaa (pv 9) (Zaa (pv 8) (Zaa (Zah Zar (Zaj jb (Zaa (pv 5) (Zaa Zaf Zab))) Zaf) Zab))))))))) (Zag (Zak Zdq)) Zau))))))))
     (Zag (Zak Zdq))),?_⟩
 have t40:=ZhV pd.col.ok;refine Zao fun k hk=>?_
 walk_at "vc";refine loopR (fun i σ H1=>(∃ w4 w5 w6 w7 w8 w9,σ=[some (.ref x),some (.ref d),some (.ref a),some (.int (tpB b t:Nat)),w4,w5,w6,w7,w8,w9])/\Nx ts H H1) ⟨⟨_,_,_,_,_,_,rfl⟩,.refl ht⟩ ?_ ?_
 . rintro i σ H1 hi ⟨⟨w4,w5,w6,w7,w8,w9,rfl⟩,nx1⟩
   have pd1:=pd.nx nx1;have hS1:SqL K (noT H1) a (ns.map V.int):=nx1.same.seq hS;rw [gName];refine Zao fun k hk=>?_
   walk_at "vc";refine ⟨a,ns,i,rfl,hS1.noT,hk _ _ (Zao fun k hk=>?_)⟩;generalize ns.getD i 0=z;walk_at "vc";refine ⟨z,_,_,d,kvs,ms,g,rfl,t40,(oT pd1.hd),pd.pl,fun lo H2 s2=>hk _ _ (Zao fun k hk=>?_)⟩;have nx2:=nx1.trans (nx1.tb.nx s2);have pd2:=pd.nx nx2;walk_at "vc";refine ⟨z,_,_,d,kvs,ms,g,rfl,t40,(oT pd2.hd),pd.pl,fun hi' H3 s3=>hk _ _ (Zao fun k hk=>?_)⟩;have nx3:=nx2.trans (nx2.tb.nx s3);have pd3:=pd.nx nx3;walk_at "vc";refine ⟨_,(oT pd3.hd),ms.map fun (n:Nat)=>(n:Int),by rw [pd.pl.dn.keys,ybl];rfl,fun l zs nl0 pm so=>?_⟩;obtain ⟨os,e,up,mem,_⟩:=Zgk pd.pl.dn pm so;rw [e];have nx4:=nx3.trans (Nx.new (o':=.lst (pint os)) nx3.tb nl0);have hl4:upd H3 l (.lst (pint os)) l=some (.lst (pint os)):=Zac;generalize upd H3 l (.lst (pint os))=H4 at nx4 hl4 ⊢;have pd4:=pd.nx nx4;have lo100:os.length<=100:=by
     have:=(Zdg up).length_le_of_subset fun y hy=>(mem y).mp hy
     have:=pd.pl.len;omega
   refine ⟨⟨_,SqL.of hl4⟩,compL (fun v=>match v with | .int r=>(match g r.toNat with | some u=>inR lo hi' u | none=>false) | _=>false) id (SqL.of hl4) (by rw [Zal];omega) (fun y H5 R hy s5 h5=>?_) (fun y H5 R hy _ s5 h5=>?_) (fun L nL=>hk _ _ (Zao fun k hk=>?_))⟩
   . obtain ⟨r,hr0,rfl⟩:=Zbl hy
     obtain ⟨v,gv⟩:∃ v,g r=some v:=by have:=pd.pl.some r;rw [pd.pl.dn.some,yak ((mem r).mp hr0)] at this;exact ybG.mp this.symm
     have h5:R (match g r with | some u=>inR lo hi' u | none=>false) H5:=h5;rw [gv] at h5;have h5:R (inR lo hi' v) H5:=h5;have vv:=pd.pl.val r;rw [gv] at vv;have dg:DGet H5 d (.int (r:Nat)) (some (.int (v:Nat))):=by have:=DGet.k (k:=Sum.inl (r:Int)) (s5 _ _ (oT pd4.hd));rw [vv] at this;exact this
     walk_at "vc";refine ⟨_,dg,_,rfl,?_⟩;by_cases z1:lo<=(v:Int)
     . rw [if_pos z1]
       refine ⟨_,rfl,?_⟩;rw [show inR lo hi' v=decide ((v:Int)<=hi') from yaS.mpr ⟨fun h=>h.2,fun h=>⟨z1,h⟩⟩] at h5;exact h5
     . rw [if_neg z1]
       rw [show inR lo hi' v=false from yaw fun h=>z1 h.1] at h5;exact h5
   . obtain ⟨r,hr0,rfl⟩:=Zbl hy
     walk_at "vc";exact h5
   have e0:((pint os).filter fun v=>match v with | .int r=>(match g r.toNat with | some u=>inR lo hi' u | none=>false) | _=>false).map id=pint (os.filter fun r=>match g r with | some u=>inR lo hi' u | none=>false):=by unfold pint;rw [List.map_id,ybw];rfl
   rw [e0];have nx5:=nx4.trans (Nx.new (o':=.lst (pint (os.filter fun r=>match g r with | some u=>inR lo hi' u | none=>false))) nx4.tb nL);have hL5:upd H4 L (.lst (pint (os.filter fun r=>match g r with | some u=>inR lo hi' u | none=>false))) L=some (.lst (pint (os.filter fun r=>match g r with | some u=>inR lo hi' u | none=>false))):=Zac;generalize upd H4 L (.lst (pint (os.filter fun r=>match g r with | some u=>inR lo hi' u | none=>false)))=H5 at nx5 hL5 ⊢;have hL5:=Zan hL5 (nl _);have pd5:=pd.nx nx5;obtain ⟨dx5,hx5⟩:=pd5.col.at_.hx;walk_at "vc";refine ⟨_,_,_,(oT hx5),ZaN rfl (by decide) (by decide),_,_,(cp b).within,x,t,lo,hi',D,g,rfl,pd5.col,nx5.tb,fun m es H6 nx6 nm hm ok mem6=>hk _ _ ?_⟩;have ef:flat es=os.filter fun r=>match g r with | some u=>inR lo hi' u | none=>false:=Up.ext ok.flat_up up.filter fun r=>by
     rw [mem6,yau,mem];cases gv:g r with
     | none=>exact ⟨fun ⟨v,h,_⟩=>(nomatch h),fun h=>(nomatch h.2)⟩
     | some v =>
       refine ⟨fun ⟨u,h,z⟩=>⟨?_,by cases h;exact z⟩,fun h=>⟨v,rfl,h.2⟩⟩;have:=pd.pl.some r;rw [pd.pl.dn.some,gv] at this;exact ybo this
   rw [<- ef] at hL5;have tl:tot es<=900:=by rw [<- ZaO,ef];have:=ybp (fun r=>match g r with | some u=>inR lo hi' u | none=>false) os;omega
   have nx6':=nx5.trans nx6;walk_at "vc";refine ⟨m,L,es,rfl,hm,ok,nx6.at hL5,tl,nx6.tb,fun H7 nx7=>⟨_,rfl,?_⟩⟩;rw [if_neg (by decide)];have rg:=ZcM z 56;refine ⟨_,_,rfl,_,rfl,?_⟩;have er:mixI z 56%65536=(((mixI z 56%65536).toNat:Nat):Int):=by omega
   rw [er];refine ⟨m,L,_,es,rfl,by omega,hm.same nx7.same,ok,nx7.at (nx6.at hL5),tl,nx7.tb,fun H8 nx8=>⟨_,rfl,?_⟩⟩;rw [if_neg (by decide)];exact (nx6'.trans nx7).trans nx8
 . rintro σ H1 ⟨⟨w4,w5,w6,w7,w8,w9,rfl⟩,nx1⟩
   refine hk _ _ ?_;walk_at "vc";exact q H1 nx1
theorem ok_law53 (B:Blt mg)(cp:∀ b,ClW P w K mg base b c CM (CK b) ts)(je:FnAt P w K mg base "_law_cell_at" ["_law_script","_law_k"] 1 (spCell K))(ja6:FnAt P w K mg base "_law_column" ["_law_cell"] 6 (spCol c CM CK))(jaQ:FnAt P w K mg base "_law_row" ["_law_script","_law_cell"] 2 (spRow51 K))(jS:FnAt P w K mg base "_law_value" ["_law_cell","_law_top"] 2 spVal51)(ja7:FnAt P w K mg base "_law_filled" ["_law_column_here","_law_script","_law_top"] 10 (spFill K c CM CK ts))(jaS:FnAt P w K mg base "_law_right" ["_law_column_here","_law_plain","_law_script","_law_top"] 11 (spRight K c CM CK ts))
   {fa:Addr} (FL:Fun K "law" "law" ZeC fa fd):FnOk P w K mg base CX0 13 fa fd ["_law_script"] (spLaw53 K ts):=by
 refine FL.ok jcq (fun vs H Q E h=>?_) (fun cdv A outer s H vs Q E hr h=>?_)
 . obtain ⟨a,ns,rfl,_⟩:=h
   rfl
 have nd:=jcq.nd;obtain ⟨a,ns,rfl,hS,h63,ht,q⟩:=h;refine ⟨_,(Zad (ZhY (Zaj ja6 (Zaa (Zaj je (Zaa (pv 0) (Zaa Zaf Zab))) Zab)) (ZcY K rfl (ZaI (ZbM (i:=1)) (ZaI (ZbM (i:=2)) ZcT))))
     (Zad (Zaz (i:=3) (Zaj ja7 (Zaa (pv 1) (Zaa (pv 0) (Zaa (pv 2) Zab)))))
     (Zad (ZaD (Zcy (Za9 (Zaj jaS (Zaa (pv 1) (Zaa (pv 3) (Zaa (pv 0) (Zaa (pv 2) Zab))))))) (Zag (Zak Zdq)) Zau)
     (Zad (Zaz (i:=4) (Zaj jaQ (Zaa (pv 0) (Zaa (Zaj je (Zaa (pv 0) (Zaa Zaf Zab))) Zab))))
     (Zad (Zee (hu1 hr) (pv 3) (pv 4) (Zaj jS (Zaa (Zaj je (Zaa (pv 0) (Zaa Zaf Zab))) (Zaa (pv 2) Zab))) rfl)
     (Zad (Zax (Zap P w K mg base 9 (pv 1) (Zaa (pv 4) (Zaa (Zbq (hu1 hr) (pv 3) (pv 4) (fun _ _=>rfl)) Zab))))
     (Zag (Zak (Zaj jaS (Zaa (pv 1) (Zaa (pv 3) (Zaa (pv 0) (Zaa (pv 2) Zab))))))))))))),?_⟩
 refine Zao fun k hk=>?_
 walk_at "vc";refine ⟨a,ns,1,rfl,hS.noT,?_⟩;generalize ns.getD 1 0=z;refine ⟨z,rfl,fun x D p1 H1 s1 nx c1 hF1 np1 hp1=>⟨p1,rfl,_,SqT.of hp1,rfl,_,_,rfl,_,_,rfl,rfl,hk _ _ (Zao fun k hk=>?_)⟩⟩;have nx1:=ht.nx s1;generalize kB z=b at c1 hp1 hk ⊢;generalize kT z=t at c1 hp1 hk ⊢;have hS1:SqL K (noT H1) a (ns.map V.int):=nx1.same.seq hS;walk_at "vc";refine ⟨b,x,a,ns,t,D,rfl,c1,hS1,nx1.tb,fun d D2 g2 kv2 ms2 H2 f2 nd2 pd2 lm2=>hk _ _ (Zao fun k hk=>?_)⟩;have hS2:=Zef (.refl nx1.tb) c1.at_.loose f2 hS1;walk_at "vc";refine ⟨b,x,d,a,ns,t,D2,g2,kv2,ms2,rfl,pd2,hS2,f2.tb,fun H3 nx3=>⟨_,rfl,?_⟩⟩;rw [if_neg (by decide)];refine hk _ _ (Zao fun k hk=>?_);have pd3:=pd2.nx nx3;have hS3:SqL K (noT H3) a (ns.map V.int):=nx3.same.seq hS2;walk_at "vc";refine ⟨a,ns,3,rfl,hS3.noT,?_⟩;refine ⟨a,ns,_,rfl,hS3.noT,fun r hr1=>hk _ _ ?_⟩;walk_at "vc";refine ⟨a,ns,4,rfl,hS3.noT,?_⟩;have t40:=ZhV pd3.col.ok;refine ⟨_,_,rfl,by omega,by omega,fun v v0 v1=>?_⟩;obtain ⟨v,rfl⟩:=yck v0;refine Ze7 (cp b) pd3 nx3.tb hr1 (by omega) (by omega) fun D4 H4 kv4 ms4 f4 pd4 l4=>?_
 have hS4:=Zef (.refl nx3.tb) pd3.lo f4 hS3;exact ⟨b,x,d,a,ns,t,D4,_,kv4,ms4,rfl,pd4,hS4,f4.tb,fun H5 _=>q H5⟩
end
theorem base_mk {M:Addr}{oc:Value}{od an:Option Addr}{kV doc pm cdv ct:Value}(X:K.In h)(G:h.Ns mainGlobals mg)(a:PySem.W.nsIn K mainGlobals "Column"=some (some (.ref M)))
   (sp:PySem.W.specialIn K (.ref M) "__getattribute__"=some (some (.builtin "type.__getattribute__"))) (rd:PySem.W.readsIn K M (.type "type")=true) (fc:PySem.W.findCls K (.ref M) (.type "type") "__init__"=some (.val (.ref f)))
   (l:K.lookup f=some ⟨oc,od,.func (PySem.W.fnOf "__init__" "Column.__init__" (defArgs Zat) (defBody Zat) (defScope Zat) .none kV doc pm an cdv ct),osl⟩) (c:PySem.W.codeIn K cdv "Column.__init__"=true) (k:PySem.W.keepIn K (.ref f)=true)
   (hb:∀ (kV doc pm:Value) (an:Option Addr) (cdv ct:Value) (us:List Value),us.length=["self"].length->bindArgs (PySem.W.fnOf "__init__" "Column.__init__" (defArgs Zat) (defBody Zat) (defScope Zat) .none kV doc pm an cdv ct) ⟨us,[]⟩=pure ((["self"]:List Str).zip us)) :
   ∃ M f fd,ByCls K mg "Column" "__init__" M f/\Fun K "__init__" "Column.__init__" Zat f fd/\Binds K fd ["self"] [] :=
 ⟨M,f,_,⟨zaZ X G a,sp,rd,fc,k⟩,ZcQ l c k,(ZcQ l c k).binds hb⟩
def lamDefs:List Str:=["halved_keys","halved_counts"]
def tsK (K:ZFr):Tabs:=[((tabAt K "halved_keys").2,qK,lpK),((tabAt K "halved_counts").2,qC,lpC)]
def spLawK (K:ZFr):Sp:=fun vs H Q E=>TabsUq (tsK K)/\spLaw53 K (tsK K) vs H Q E
theorem fn_uq {k:Nat}{ps:List Str}{U:Prop}(F:U->FnOk P w K mg base CX0 k f fd ps sp):FnOk P w K mg base CX0 k f fd ps (fun vs H Q E=>U/\sp vs H Q E) :=
 ⟨fun vs H Q E h=>(F h.1).len vs H Q E h.2,fun A outer s H args us vs Q E hr he hb hv hs=>(F hs.1).run A outer s H args us vs Q E hr he hb hv hs.2⟩
theorem sql_noT {a:Addr}(h:SqL K H a xs):SqL K (noT H) a xs:=by
 rcases h with h | h
 . rcases h with h | ⟨o,h⟩
   . exact .inl (.inl (Zan h (nl _)))
   . exact .inl (.inr ⟨o,Zan h fun _ z=>by cases z⟩)
 . exact .inr h
theorem Zjl {K:Params->ZFr}(w:World)(H:Hp)(a:Addr)(ns:List Int)(h1:ns.length<=63)(h2:∀ z∈ns,Builtin.Int.intBits z<=2^20)(h3:∀ y∈lamDefs,H (tabAt (K w.params) y).2=some (.tbl #[]))(h4:(lamDefs.map fun x=>(tabAt (K w.params) x).2).Nodup)(h5:SqL (K w.params) H a (ns.map V.int)):spLawK (K w.params) [.ref a] H (fun v _=>v=.bl true) fun _ _ _=>False:=by
 have ne:(tabAt (K w.params) "halved_keys").2≠(tabAt (K w.params) "halved_counts").2:=(ybD.mp h4).1 ∘ fun z=>yaj.mpr (.inl z)
 refine ⟨fun t ht u hu e=>?_,a,ns,rfl,sql_noT h5,h1,fun t ht=>?_,fun _=>rfl⟩
 . simp only [tsK,yaj,yaX,zaP] at ht hu
   rcases ht with rfl | rfl<;>rcases hu with rfl | rfl
   . rfl
   . exact absurd e ne
   . exact absurd e.symm ne
   . rfl
 . simp only [tsK,yaj,yaX,zaP] at ht
   rcases ht with rfl | rfl
   . exact .inl (h3 _ (.head _))
   . exact .inl (h3 _ (.tail _ (.head _)))
theorem wire53 {jag jav jaw jC jaT jbm MC fC:Addr}{fdC:FuncData}{fa:Addr}{ts:Tabs}(B:Blt mg)(jO:∃ t,mg "LOWER_1"=some (.int 38597363079105398474523661669562635951089994888546854679819194669304376546645 t))(jP:∃ t,mg "LOWER_2"=some (.int 23158417847463239084714197001737581570653996933128112807891516801582625927987 t))(jQ:∃ t,mg "LOWER_4"=some (.int 6811299366900952671974763824040465167839410862684739061144563765171360567055 t))(jR:∃ t,mg "LOWER_8"=some (.int 450552876409790643671482431940419874915447411150352389258589821042463539455 t))(ja:∃ t,mg "PLACES"=some (.int 256 t))(j4:∃ t,mg "GREATEST"=some (.int 65535 t))(j5:CD_ListStretch K mg jag)(jah:CD_BitStretch K mg jav)(jai:CD_RunStretch K mg jaw)(jd:CD_Marks K mg jC)(jc:CD_ByValue K mg jaT)(jf:CD_ByBits K mg jbm)(jaf:DefAt K mg "all_below" Zco ["place"])(jr:DefAt K mg "without_first" Zbd ["word"])(jbs:DefAt K mg "counted" Zdx ["word"])(jax:DefAt K mg "ones_below" ZbS ["word","place"])(jbT:DefAt K mg "one_at" Zeg ["word","k"])(jaL:DefAt K mg "first_one" Zcq ["word"])(ja8:DefAt K mg "last_one" ZcX ["word"])(jbU:DefAt K mg "bit_at" Zd0 ["word","place"])(jaM:DefAt K mg "span_word" Zcg ["first","last"])(jbt:DefAt K mg "runs_of" Zdt ["word"])(jaN:DefAt K mg "places_of" Zcd ["word"])(jbu:DefAt K mg "word_of" Zdy ["places"])(j6:DefAt K mg "word_of_runs" Zbp ["runs"])(jca:DefAt K mg "sizes" ZeO ["word"])(jcm:DefAt K mg "kept" Zgu ["word"])(jcb:DefAt K mg "added" ZeL ["stretch","place"])(jbv:DefAt K mg "removed" Zdw ["stretch","place"])(jay:DefAt K mg "is_whole" ZbY ["thing"])(j7:DefAt K mg "check_number" Zbv ["thing"])(ja9:DefAt K mg "marks_of" ZcU ["numbers"])(jba:DefAt K mg "of_words" Zc5 ["words"])(jbb:DefAt K mg "gathered" Zc4 ["pairs"])(jaO:DefAt K mg "_law_cell_at" Zch ["_law_script","_law_k"])(jbw:DefAt K mg "_law_mixed" ZdD ["_law_cell","_law_k"])(jbx:DefAt K mg "_law_value" ZdE ["_law_cell","_law_top"])(jcc:DefAt K mg "_law_row" ZeW ["_law_script","_law_cell"])(jbc:DefAt K mg "_law_column" ZcO ["_law_cell"])(jbd:DefAt K mg "_law_filled" ZcS ["_law_column_here","_law_script","_law_top"])(jby:DefAt K mg "_law_limit" ZdC ["_law_cell","_law_k","_law_top","_law_plain"])(jbe:DefAt K mg "_law_set_is" ZcV ["_law_found","_law_due"])(jaP:DefAt K mg "_law_counted" Zcf ["_law_found","_law_due","_law_number"])(jbz:DefAt K mg "_law_right" ZdA ["_law_column_here","_law_plain","_law_script","_law_top"])(bc:ByCls K mg "Column" "__init__" MC fC)(FC:Fun K "__init__" "Column.__init__" Zat fC fdC)(bC:Binds K fdC ["self"] [])(h_hk:FnAt P w K mg base "halved_keys" ["keys","key"] 3 (spHKt ts (fun y k=>decide (k<y)) 0))(h_hc:FnAt P w K mg base "halved_counts" ["aheads","k"] 3 (spHKt ts (fun y k=>decide (k<=y)) 1))(FL:Fun K "law" "law" ZeC fa fd):FnOk P w K mg base CX0 40 fa fd ["_law_script"] (spLaw53 K ts):=by
 let c:Kd->Addr:=fun k=>match k with | .l=>jag | .b=>jav | .r=>jaw
 have cL:CD_ListStretch K mg (c .l):=j5;have cB:CD_BitStretch K mg (c .b):=jah;have cR:CD_RunStretch K mg (c .r):=jai;have cc:∀ k,Cls K (c k):=fun k=>match k with | .l=>cL.c | .b=>cB.c | .r=>cR.c
 have jb:=ok_mixed (P:=P) (w:=w) (base:=base) jbw;have je:=Zid (P:=P) (w:=w) (base:=base) B jaO;have jv:=ZgD (P:=P) (w:=w) (base:=base) (ZdS jaf) jaM;have jh:=Zgr (P:=P) (w:=w) (base:=base) (ZgO ja8) jaL;have jl:=Zh3 (P:=P) (w:=w) (base:=base) ⟨jO,jP,jQ,jR⟩ jbs;have jbo:=Zh0 (P:=P) (w:=w) (base:=base) jh jv jbt;have ji:=ZgA (P:=P) (w:=w) (base:=base) jh (ZcE jr) jaN;have jbn:=Zii (P:=P) (w:=w) (base:=base) jbu;have j3:=ZeJ (P:=P) (w:=w) (base:=base) jv j6;have iL:=Zjo (P:=P) (w:=w) (base:=base) B cL;have iB:=ZjD (P:=P) (w:=w) (base:=base) cB;have iR:=ZjI (P:=P) (w:=w) (base:=base) B cR;have hw:∀ k,MethAt P w K mg base (c k) "word" ["self"] 4 (spWordM c k):=fun k=>match k with | .l=>ZjT jbn cL | .b=>ZjW cB | .r=>Zjz j3 cR
 have jb3:=ok_sizes (P:=P) (w:=w) (base:=base) ja jl jca;have jo:=ok_kept (P:=P) (w:=w) (base:=base) jb3 ji jbo iL iB iR jcm;have jb6:=ok_added (P:=P) (w:=w) (base:=base) hw jo jcb;have jbp:=Ziq (P:=P) (w:=w) (base:=base) hw jo jbv;have jaq:=ZjH (P:=P) (w:=w) (base:=base) jbU;have hhas:∀ k,MethAt P w K mg base (c k) "has" ["self","place"] 5 (spHasM c k):=fun k=>ok_has hw jaq k (cc k) (match k with | .l=>cL.m_has | .b=>cB.m_has | .r=>cR.m_has)
 have jas:=ZfK (P:=P) (w:=w) (base:=base) (ZdS jaf) jl jax;have hbelow:∀ k,MethAt P w K mg base (c k) "below" ["self","place"] 5 (spBelowM c k):=fun k=>ok_below hw jas k (cc k) (match k with | .l=>cL.m_below | .b=>cB.m_below | .r=>cR.m_below)
 have jbR:=Zj5 (P:=P) (w:=w) (base:=base) B (ZcE jr) jh jbT;have hchosen:∀ k,MethAt P w K mg base (c k) "chosen" ["self","k"] 5 (spChosenM c k):=fun k=>Zjj hw jbR k (cc k) (match k with | .l=>cL.m_chosen | .b=>cB.m_chosen | .r=>cR.m_chosen)
 have hkind:∀ k,MethAt P w K mg base (c k) "kind" ["self"] 4 (spKindS k):=fun k=>match k with | .l=>(Zj9 cL).mono (by decide) | .b=>(Zjq cB).mono (by decide) | .r=>(ZjK cR).mono (by decide)
 have hbody:∀ k,MethAt P w K mg base (c k) "body" ["self"] 4 (spBodyN c k):=fun k=>match k with | .l=>(Zip B cL).mono (by decide) | .b=>(Zin cB).mono (by decide) | .r=>(Zh9 B cR).mono (by decide)
 have hmany:∀ k,MethAt P w K mg base (c k) "many" ["self"] 5 (spManyM c k):=fun k=>ok_many hw jl k (cc k) (match k with | .l=>cL.m_many | .b=>cB.m_many | .r=>cR.m_many)
 have jn:=ZhE (P:=P) (w:=w) (base:=base) B jay;have jae:=ok_check (P:=P) (w:=w) (base:=base) j4 jn j7;have jq:=ok_found (c:=c) h_hk jd;have jk:=ZjA (P:=P) (w:=w) (base:=base) (c:=c) B jd;have jy:=ok_ahead (P:=P) (w:=w) (base:=base) (c:=c) B jd;have jcd:=ZfF jq jk jd;have jat:=ok_keep jq jk jy hmany jd;have jN:=ok_initM (P:=P) (w:=w) (base:=base) (c:=c) (ts:=ts) jd;have jA:=ok_hasM ja jae jcd hhas jd;have jb2:=ok_putM ja jA jcd jat jo jb6 jd;have h_take:=ok_takeM ja jA jcd jat jbp jd;have jbH:=ZgK (P:=P) (w:=w) (base:=base) B jay;have jbr:=ZhX (P:=P) (w:=w) (base:=base) (c:=c) B ja hw ji jd;have jb7:=Zjy (P:=P) (w:=w) (base:=base) (c:=c) jd;have jco:=Zg3 jq jk jy jd;have jb9:=ZjJ ja jae jq jk jy hbelow jd;have jt:=ZhB jN jat jbb;have ja3:=Zg7 B jo jt jba;have ja4:=Zhf ja jae ja3 ja9;have jau:=Zhh (P:=P) (w:=w) (base:=base) (c:=c) B jd;have jB:=ZhU jcd hw jd;have jb8:=ok_toldM B hkind hbody jd;have jcl:=ok_bookM (P:=P) (w:=w) (base:=base) (c:=c) B jd;have h_chk:=ok_chk39 (c:=c) jn jd;have h_ch:=ok_ch39 ja h_chk h_hc hchosen jd;have ccV:ClC K jaT:=⟨jc.c,jc.n_valued,jc.n_by_number,jc.n_by_key⟩
 have ccB:ClC K jbm:=⟨jf.c,jf.n_valued,jf.n_by_number,jf.n_by_key⟩
 let CK:Bool->Addr:=fun b=>if b=true then jaT else jbm
 have h_MI:=ok_MI (P:=P) (w:=w) (base:=base) jd;have jbq:=ok_VI (P:=P) (w:=w) (base:=base) (c:=c) jc (ok_CI h_MI ccV bc FC bC);have jbS:=ok_BI (P:=P) (w:=w) (base:=base) (c:=c) jf (ok_CI h_MI ccB bc FC bC);have natV:=ok_nat (P:=P) (w:=w) (base:=base) (c:=c) (CM:=jC) B ccV jc.m_numbers_at
 have natB:=ok_nat (P:=P) (w:=w) (base:=base) (c:=c) (CM:=jC) B ccB jf.m_numbers_at
 have valV:=ok_valV B ja ccV jae natV jA jc.m_value;have valB:=ok_valB B ja ccB natB jA jf.m_value;have nofV:=ok_nofV (P:=P) (w:=w) (base:=base) (mg:=mg) ccV jc.m_numbers_of;have nofB:=ok_nofB ccB ji jf.m_numbers_of;have topV:=ok_topV (P:=P) (w:=w) (base:=base) (mg:=mg) (c:=c) (CM:=jC) ccV jc.n_greatest jc.m_top;have topB:=ok_topB (P:=P) (w:=w) (base:=base) (mg:=mg) (c:=c) (CM:=jC) ccB jf.n_width jf.m_top;have canV:=ok_can ccV jbH topV jc.m_can_have;have canB:=ok_can ccB jbH topB jf.m_can_have;have takeV:=Zhy ja ccV valV nofV h_take jco jb7 jc.m_take;have takeB:=Zhy ja ccB valB nofB h_take jco jb7 jf.m_take;have putV:=Zi9 ja ccV jae canV takeV nofV jb2 jN jc.m_put;have putB:=Zi9 ja ccB jae canB takeB nofB jb2 jN jf.m_put;have watV:=ok_watV ccV (ok_tou B ccV natV jc.m_touched_at) jB jc.m_word_at
 have watB:=ok_watB ccB (ok_wup B ccB jf.n_width jaq topB jB jf.m_word_up_to) jf.m_word_at
 have winV:=Zgc ccV jau watV jo jt jc.m_within;have winB:=Zgc ccB jau watB jo jt jf.m_within;have cp:∀ b,ClW P w K mg base b c jC (CK b) ts:=fun b=>match b with | true=>⟨takeV,putV,winV⟩ | false=>⟨takeB,putB,winB⟩
 have jS:=ok_val51 B jb jbx;have jaQ:=ok_row51 jb je jcc;have ja6:=ok_col (CK:=CK) jb jbq jbS jbc;have ja7:=ok_fill B cp jb je jaQ jS jbd;have jaR:=ok_lim B jb jby;have ja5:=ok_setis B jd.at_ jd jbr jb8 ja4 jbe;have jaK:=ok_ctd B jcl jb9 h_ch jaP;have jaS:=Zh5 B cp jb je jaR ja5 jaK jbz;exact (ok_law53 B cp je ja6 jaQ jS ja7 jaS FL).mono (by decide)
theorem law_mk {fa:Addr}{oc:Value}{od an:Option Addr}{kV doc pm cdv ct:Value}(X:K.In h)(G:h.Ns mainGlobals mg)(hfa:mg "law"=some (.ref fa))(a:PySem.W.nsIn K mainGlobals "law"=some (some (.ref f)))
   (l:K.lookup f=some ⟨oc,od,.func (PySem.W.fnOf "law" "law" (defArgs ZeC) (defBody ZeC) (defScope ZeC) .none kV doc pm an cdv ct),osl⟩) (c:PySem.W.codeIn K cdv "law"=true) (k:PySem.W.keepIn K (.ref f)=true) :
   ∃ fd,Fun K "law" "law" ZeC fa fd/\∀ (s:Shared) (v:Value),BindsTo s fd ⟨[v],[]⟩ [("_law_script",v)]:=by
 have e:=hfa.symm.trans (zaZ X G a);cases e;exact ⟨_,ZcQ l c k,fun s v=>.of_eq rfl⟩
theorem walkT {l:PySem.W.OpenLaw}{q:Program}{loose:List Str}{YP:World->Heap->Prop}{d:DefRec}{K:Params->ZFr}(hn:l.most=some 63)(hdf:d.params.defaults=[])
   (hY:∀ (w:World) (h:Heap),YP w h->(K w.params).In h) (ok:∀ P,tabsOk (K P) lamDefs=true) (rok:recsOk q lamDefs=true)
   (F:∀ (w:World) (mg:Str->Option Value) (fa:Addr) (h:Heap),(K w.params).In h->h.Ns mainGlobals mg->mg d.name=some (.ref fa)->(∀ y∈lamDefs,PySem.W.tabIn (K w.params) y=some (tabAt (K w.params) y)) ->
     ∃ fd:FuncData,(∀ (s:Shared) (u:Value),BindsTo s fd ⟨[u],[]⟩ [("_law_script",u)])/\∀ base:Heap,(K w.params).In base->base.Ns mainGlobals mg->(∀ y∈lamDefs,TabIn base mg (tabAt (K w.params) y))->FnOk l.prog w (K w.params) mg base CX0 40 fa fd ["_law_script"] (spLawK (K w.params))) :
   PySem.W.WalkO q loose XP YP l.row.toRowW d [] (fun f vs=>PySem.call f vs) :=
 L2.walk_tabs (n:=63) (k:=40) (x:="_law_script") (sp:=fun w=>spLawK (K w.params)) lamDefs hn (by decide) hdf ⟨rfl,by decide,by decide⟩ hY ok rok (fun w mg fa h KX G m=>F w mg fa h KX G m fun y hy=>(Zen (ok _) hy).1) Zjl
theorem ZfW {x:Str}{R:Addr->Prop}(X:K.In h)(G:h.Ns mainGlobals mg)(a:PySem.W.nsIn K mainGlobals x=some (some (.ref C)))(r:mg x=some (.ref C)->R C):∃ C,R C:=⟨C,r (zaZ X G a)⟩
end My
theorem PySem.W.Fast.te16140028962400450816:True:=trivial
def PySem.W.Fast.tw16140028962400450816:Unit:=()
theorem PySem.W.Fast.te8194081005874287176:True:=trivial
def PySem.W.Fast.tw8194081005874287176:Unit:=()
theorem PySem.W.Fast.te12936934326904773933:True:=trivial
def PySem.W.Fast.tw12936934326904773933:Unit:=()
theorem PySem.W.Fast.te8403559534865787773:True:=trivial
def PySem.W.Fast.tw8403559534865787773:Unit:=()
theorem PySem.W.Fast.te13052408679150730464:True:=trivial
def PySem.W.Fast.tw13052408679150730464:Unit:=()
theorem PySem.W.Fast.te16555476440528808052:True:=trivial
def PySem.W.Fast.tw16555476440528808052:Unit:=()
theorem PySem.W.Fast.te4868988410673395695:True:=trivial
def PySem.W.Fast.tw4868988410673395695:Unit:=()
open PySem PySem.W PyProof.Rows My L2
abbrev zP:=PySem.Challenge.rw_runmarks_k53_rows_within.prog
local macro_rules | `(tactic| walk_at "d1")=>`(tactic| (dsimp only [L2.KOf]; refine' Zel (by assumption) (by assumption) ?a ?l ?c ?k ?b; (case a=>k_is); (case l=>k_is); (case c=>k_is); (case k=>k_is); exact fun _ _ _ _ _ _=>all1 fun _=>rfl))
local macro_rules | `(tactic| walk_at "d2")=>`(tactic| (dsimp only [L2.KOf]; refine' Zel (by assumption) (by assumption) ?a ?l ?c ?k ?b; (case a=>k_is); (case l=>k_is); (case c=>k_is); (case k=>k_is); exact fun _ _ _ _ _ _=>all2 fun _ _=>rfl))
local macro_rules | `(tactic| walk_at "d3")=>`(tactic| (dsimp only [L2.KOf]; refine' Zel (by assumption) (by assumption) ?a ?l ?c ?k ?b; (case a=>k_is); (case l=>k_is); (case c=>k_is); (case k=>k_is); exact fun _ _ _ _ _ _=>all3 fun _ _ _=>rfl))
local macro_rules | `(tactic| walk_at "d4")=>`(tactic| (dsimp only [L2.KOf]; refine' Zel (by assumption) (by assumption) ?a ?l ?c ?k ?b; (case a=>k_is); (case l=>k_is); (case c=>k_is); (case k=>k_is); exact fun _ _ _ _ _ _=>all4 fun _ _ _ _=>rfl))
local macro_rules | `(tactic| walk_at "i1")=>`(tactic| (refine' Zhq ?a ?b ?c ?d ?e ?f ?g ?h; (case a=>k_is); (case b=>k_is); (case c=>k_is); (case d=>k_is); (case e=>k_is); (case f=>k_is); (case g=>k_is); exact fun _ _ _ _ _ _=>all1 fun _=>rfl))
local macro_rules | `(tactic| walk_at "i2")=>`(tactic| (refine' Zhq ?a ?b ?c ?d ?e ?f ?g ?h; (case a=>k_is); (case b=>k_is); (case c=>k_is); (case d=>k_is); (case e=>k_is); (case f=>k_is); (case g=>k_is); exact fun _ _ _ _ _ _=>all2 fun _ _=>rfl))
local macro_rules | `(tactic| walk_at "m1")=>`(tactic| (refine' ZeR ?a ?b ?c ?d ?e ?f; (case a=>k_is); (case b=>k_is); (case c=>k_is); (case d=>k_is); (case e=>k_is); exact fun _ _ _ _ _ _=>all1 fun _=>rfl))
local macro_rules | `(tactic| walk_at "m2")=>`(tactic| (refine' ZeR ?a ?b ?c ?d ?e ?f; (case a=>k_is); (case b=>k_is); (case c=>k_is); (case d=>k_is); (case e=>k_is); exact fun _ _ _ _ _ _=>all2 fun _ _=>rfl))
local macro_rules | `(tactic| walk_at "m3")=>`(tactic| (refine' ZeR ?a ?b ?c ?d ?e ?f; (case a=>k_is); (case b=>k_is); (case c=>k_is); (case d=>k_is); (case e=>k_is); exact fun _ _ _ _ _ _=>all3 fun _ _ _=>rfl))
local macro_rules | `(tactic| walk_at "m4")=>`(tactic| (refine' ZeR ?a ?b ?c ?d ?e ?f; (case a=>k_is); (case b=>k_is); (case c=>k_is); (case d=>k_is); (case e=>k_is); exact fun _ _ _ _ _ _=>all4 fun _ _ _ _=>rfl))
local macro_rules | `(tactic| walk_at "cc")=>`(tactic| (refine' ⟨?a,?b,?c,?d⟩; (case a=>k_is); (case b=>k_is); (case c=>k_is); (case d=>k_is)))
local macro_rules | `(tactic| walk_at "ci")=>`(tactic| (refine' isi_to (by assumption) (by assumption) ?a ?b; (case a=>k_is); (case b=>kit_is)))
local macro_rules | `(tactic| walk_at "cn")=>`(tactic| (show PySem.W.findIn _ _ _ = _; k_is))
local macro_rules | `(tactic| walk_at "ic")=>`(tactic| (refine' int_mk (by assumption) (by assumption) ?a; (case a=>k_is)))
set_option maxRecDepth 100000 in
set_option maxHeartbeats 0 in
theorem PySem.Challenge.cw_runmarks_k53_rows_within_holds : PySem.Challenge.rw_runmarks_k53_rows_within.Holds := by
 w_on;o_law;k_head;(case hw=>w_witness2)
 k_fill
 refine My.walkT (l:=PySem.Challenge.rw_runmarks_k53_rows_within) rfl rfl (fun w h Y=>PySem.W.km_in_of Y) (fun P=>by kernel_rfl) (by kernel_rfl) ?F
 case F =>
   intro w mg fa h KX G hmg hTI;have jay:DefAt (L2.KOf KX) mg "is_whole" ZbY ["thing"]:=by walk_at "d1"
   have jbU:DefAt (L2.KOf KX) mg "bit_at" Zd0 ["word","place"]:=by walk_at "d2"
   have jaf:DefAt (L2.KOf KX) mg "all_below" Zco ["place"]:=by walk_at "d1"
   have jr:DefAt (L2.KOf KX) mg "without_first" Zbd ["word"]:=by walk_at "d1"
   have jbs:DefAt (L2.KOf KX) mg "counted" Zdx ["word"]:=by walk_at "d1"
   have jax:DefAt (L2.KOf KX) mg "ones_below" ZbS ["word","place"]:=by walk_at "d2"
   have jbT:DefAt (L2.KOf KX) mg "one_at" Zeg ["word","k"]:=by walk_at "d2"
   have jaL:DefAt (L2.KOf KX) mg "first_one" Zcq ["word"]:=by walk_at "d1"
   have ja8:DefAt (L2.KOf KX) mg "last_one" ZcX ["word"]:=by walk_at "d1"
   have jaM:DefAt (L2.KOf KX) mg "span_word" Zcg ["first","last"]:=by walk_at "d2"
   have jbu:DefAt (L2.KOf KX) mg "word_of" Zdy ["places"]:=by walk_at "d1"
   have jaN:DefAt (L2.KOf KX) mg "places_of" Zcd ["word"]:=by walk_at "d1"
   have jbt:DefAt (L2.KOf KX) mg "runs_of" Zdt ["word"]:=by walk_at "d1"
   have j6:DefAt (L2.KOf KX) mg "word_of_runs" Zbp ["runs"]:=by walk_at "d1"
   have jca:DefAt (L2.KOf KX) mg "sizes" ZeO ["word"]:=by walk_at "d1"
   have jcm:DefAt (L2.KOf KX) mg "kept" Zgu ["word"]:=by walk_at "d1"
   have jcb:DefAt (L2.KOf KX) mg "added" ZeL ["stretch","place"]:=by walk_at "d2"
   have jbv:DefAt (L2.KOf KX) mg "removed" Zdw ["stretch","place"]:=by walk_at "d2"
   have jcu:DefAt (L2.KOf KX) mg "halved" Zfg ["many","goes_on"]:=by walk_at "d2"
   have jbX:DefAt (L2.KOf KX) mg "halved_keys" ZbH ["keys","key"]:=by walk_at "d2"
   have jbJ:DefAt (L2.KOf KX) mg "halved_counts" Zbg ["aheads","k"]:=by walk_at "d2"
   have j7:DefAt (L2.KOf KX) mg "check_number" Zbv ["thing"]:=by walk_at "d1"
   have ja9:DefAt (L2.KOf KX) mg "marks_of" ZcU ["numbers"]:=by walk_at "d1"
   have jba:DefAt (L2.KOf KX) mg "of_words" Zc5 ["words"]:=by walk_at "d1"
   have jbb:DefAt (L2.KOf KX) mg "gathered" Zc4 ["pairs"]:=by walk_at "d1"
   have jaO:DefAt (L2.KOf KX) mg "_law_cell_at" Zch ["_law_script","_law_k"]:=by walk_at "d2"
   have jbw:DefAt (L2.KOf KX) mg "_law_mixed" ZdD ["_law_cell","_law_k"]:=by walk_at "d2"
   have jbx:DefAt (L2.KOf KX) mg "_law_value" ZdE ["_law_cell","_law_top"]:=by walk_at "d2"
   have jcc:DefAt (L2.KOf KX) mg "_law_row" ZeW ["_law_script","_law_cell"]:=by walk_at "d2"
   have jbc:DefAt (L2.KOf KX) mg "_law_column" ZcO ["_law_cell"]:=by walk_at "d1"
   have jbd:DefAt (L2.KOf KX) mg "_law_filled" ZcS ["_law_column_here","_law_script","_law_top"]:=by walk_at "d3"
   have jby:DefAt (L2.KOf KX) mg "_law_limit" ZdC ["_law_cell","_law_k","_law_top","_law_plain"]:=by walk_at "d4"
   have jbe:DefAt (L2.KOf KX) mg "_law_set_is" ZcV ["_law_found","_law_due"]:=by walk_at "d2"
   have jaP:DefAt (L2.KOf KX) mg "_law_counted" Zcf ["_law_found","_law_due","_law_number"]:=by walk_at "d3"
   have jbz:DefAt (L2.KOf KX) mg "_law_right" ZdA ["_law_column_here","_law_plain","_law_script","_law_top"]:=by walk_at "d4"
   have jbY:∃ C,CD_ListStretch (L2.KOf KX) mg C:=by
     dsimp only [L2.KOf];refine' ZfW (x:="ListStretch") KX G ?aListStretch ?bListStretch
     (case aListStretch=>k_is)
     intro z;refine' ⟨z,?_,?_,?_,?_,?_,?_,?_,?_,?_,?_,?_⟩
     . walk_at "cc"
     . walk_at "i2"
     . walk_at "m1"
     . walk_at "m1"
     . walk_at "m1"
     . walk_at "m1"
     . walk_at "m1"
     . walk_at "m2"
     . walk_at "m2"
     . walk_at "m2"
     . walk_at "cn"
   obtain ⟨jag,j5⟩:=jbY;have jce:∃ C,CD_BitStretch (L2.KOf KX) mg C:=by
     dsimp only [L2.KOf];refine' ZfW (x:="BitStretch") KX G ?aBitStretch ?bBitStretch
     (case aBitStretch=>k_is)
     intro z;refine' ⟨z,?_,?_,?_,?_,?_,?_,?_,?_,?_,?_,?_⟩
     . walk_at "cc"
     . walk_at "i2"
     . walk_at "m1"
     . walk_at "m1"
     . walk_at "m1"
     . walk_at "m1"
     . walk_at "m1"
     . walk_at "m2"
     . walk_at "m2"
     . walk_at "m2"
     . walk_at "cn"
   obtain ⟨jav,jah⟩:=jce;have jcf:∃ C,CD_RunStretch (L2.KOf KX) mg C:=by
     dsimp only [L2.KOf];refine' ZfW (x:="RunStretch") KX G ?aRunStretch ?bRunStretch
     (case aRunStretch=>k_is)
     intro z;refine' ⟨z,?_,?_,?_,?_,?_,?_,?_,?_,?_,?_,?_⟩
     . walk_at "cc"
     . walk_at "i2"
     . walk_at "m1"
     . walk_at "m1"
     . walk_at "m1"
     . walk_at "m1"
     . walk_at "m1"
     . walk_at "m2"
     . walk_at "m2"
     . walk_at "m2"
     . walk_at "cn"
   obtain ⟨jaw,jai⟩:=jcf;have jcy:∃ C,CD_Marks (L2.KOf KX) mg C:=by
     dsimp only [L2.KOf];refine' ZfW (x:="Marks") KX G ?aMarks ?bMarks
     (case aMarks=>k_is)
     intro z;refine' ⟨z,?_,?_,?_,?_,?_,?_,?_,?_,?_,?_,?_,?_,?_,?_,?_,?_,?_,?_,?_,?_,?_,?_,?_,?_,?_,?_⟩
     . walk_at "cc"
     . walk_at "i1"
     . walk_at "m2"
     . walk_at "m2"
     . walk_at "m2"
     . walk_at "m1"
     . walk_at "m2"
     . walk_at "m2"
     . walk_at "m1"
     . walk_at "m1"
     . walk_at "m1"
     . walk_at "m1"
     . walk_at "m2"
     . walk_at "m2"
     . walk_at "m2"
     . walk_at "m2"
     . walk_at "m2"
     . walk_at "m3"
     . walk_at "m2"
     . walk_at "m3"
     . walk_at "cc"
     . walk_at "ci"
     . walk_at "cn"
     . walk_at "cn"
     . walk_at "cn"
     . walk_at "cn"
   obtain ⟨jC,jd⟩:=jcy;have jcv:∃ C,CD_ByBits (L2.KOf KX) mg C:=by
     dsimp only [L2.KOf];refine' ZfW (x:="ByBits") KX G ?aByBits ?bByBits
     (case aByBits=>k_is)
     intro z;refine' ⟨z,?_,?_,?_,?_,?_,?_,?_,?_,?_,?_,?_,?_,?_,?_,?_,?_,?_,?_,?_,?_⟩
     . walk_at "cc"
     . walk_at "i2"
     . walk_at "m1"
     . walk_at "m2"
     . walk_at "m2"
     . walk_at "m4"
     . walk_at "m3"
     . walk_at "m2"
     . walk_at "m3"
     . walk_at "m2"
     . walk_at "m3"
     . walk_at "m2"
     . walk_at "cc"
     . walk_at "ci"
     . walk_at "ci"
     . walk_at "ci"
     . walk_at "cn"
     . walk_at "cn"
     . walk_at "cn"
     . walk_at "cn"
   obtain ⟨jbm,jf⟩:=jcv;have jcp:∃ C,CD_ByValue (L2.KOf KX) mg C:=by
     dsimp only [L2.KOf];refine' ZfW (x:="ByValue") KX G ?aByValue ?bByValue
     (case aByValue=>k_is)
     intro z;refine' ⟨z,?_,?_,?_,?_,?_,?_,?_,?_,?_,?_,?_,?_,?_,?_,?_,?_,?_,?_,?_,?_⟩
     . walk_at "cc"
     . walk_at "i2"
     . walk_at "m1"
     . walk_at "m2"
     . walk_at "m2"
     . walk_at "m4"
     . walk_at "m4"
     . walk_at "m2"
     . walk_at "m3"
     . walk_at "m2"
     . walk_at "m3"
     . walk_at "m2"
     . walk_at "cc"
     . walk_at "ci"
     . walk_at "ci"
     . walk_at "ci"
     . walk_at "cn"
     . walk_at "cn"
     . walk_at "cn"
     . walk_at "cn"
   obtain ⟨jaT,jc⟩:=jcp;have ja:∃ t,mg "PLACES"=some (.int 256 t):=by walk_at "ic"
   have jO:∃ t,mg "LOWER_1"=some (.int 38597363079105398474523661669562635951089994888546854679819194669304376546645 t):=by walk_at "ic"
   have jP:∃ t,mg "LOWER_2"=some (.int 23158417847463239084714197001737581570653996933128112807891516801582625927987 t):=by walk_at "ic"
   have jQ:∃ t,mg "LOWER_4"=some (.int 6811299366900952671974763824040465167839410862684739061144563765171360567055 t):=by walk_at "ic"
   have jR:∃ t,mg "LOWER_8"=some (.int 450552876409790643671482431940419874915447411150352389258589821042463539455 t):=by walk_at "ic"
   have j4:∃ t,mg "GREATEST"=some (.int 65535 t):=by walk_at "ic"
   have B:Blt mg:=by
     refine' ⟨zak KX G ?z0,zak KX G ?z1,zak KX G ?z2,zak KX G ?z3,zak KX G ?z4,zak KX G ?z5,zak KX G ?z6,zak KX G ?z7,zak KX G ?z8,zak KX G ?z9,zak KX G ?z10,zak KX G ?z11,zak KX G ?z12⟩
     (case z0=>k_is);(case z1=>k_is);(case z2=>k_is);(case z3=>k_is);(case z4=>k_is);(case z5=>k_is);(case z6=>k_is);(case z7=>k_is);(case z8=>k_is);(case z9=>k_is);(case z10=>k_is);(case z11=>k_is);(case z12=>k_is)
   have L:∃ fd,Fun (L2.KOf KX) "law" "law" ZeC fa fd/\∀ (s:Shared) (v:Value),BindsTo s fd ⟨[v],[]⟩ [("_law_script",v)]:=by
     dsimp only [L2.KOf];refine' My.law_mk KX G hmg ?aL ?lL ?cL ?kL
     (case aL=>k_is);(case lL=>k_is);(case cL=>k_is);(case kL=>k_is)
   obtain ⟨fd,FL,bL⟩:=L;refine ⟨fd,bL,fun base _ _ hTB=>?_⟩;refine fn_uq fun uq=>?_
   have eB:∃ M f fd,ByCls (L2.KOf KX) mg "Column" "__init__" M f/\Fun (L2.KOf KX) "__init__" "Column.__init__" Zat f fd/\Binds (L2.KOf KX) fd ["self"] []:=by
     dsimp only [L2.KOf];refine' base_mk KX G ?ya ?ys ?yr ?yf ?yl ?yc ?yk ?yh
     (case ya=>k_is);(case ys=>k_is);(case yr=>k_is);(case yf=>k_is);(case yl=>k_is);(case yc=>k_is);(case yk=>k_is)
     case yh=>exact fun _ _ _ _ _ _=>all1 fun _=>rfl
   obtain ⟨MC,fC,fdC,bc,FC,bC⟩:=eB;have jap:=fun base=>ZjB (P:=zP) (w:=w) (base:=base) jcu
   have h_hk:=(ok_hkeys (P:=zP) (w:=w) (base:=base) B (hTB _ (.head _)) jap (DefAt.toC KX G jbX (hTI _ (.head _)))).imp (hkT uq (.head _));have h_hc:=(Zic (P:=zP) (w:=w) (base:=base) B (hTB _ (.tail _ (.head _))) jap (DefAt.toC KX G jbJ (hTI _ (.tail _ (.head _))))).imp (hkT uq (.tail _ (.head _)));exact wire53 B jO jP jQ jR ja j4 j5 jah jai jd jc jf jaf jr jbs jax jbT jaL ja8 jbU jaM jbt jaN jbu j6 jca jcm jcb jbv jay j7 ja9 jba jbb jaO jbw jbx jcc jbc jbd jby jbe jaP jbz bc FC bC h_hk h_hc FL
#print axioms PySem.Challenge.cw_runmarks_k53_rows_within_holds
