import PyProof.Rows.All
import Wide.All
import OpenK.AllK
import Wide.FinOn
import Lean
import PyProof.EqAt
import PyProof.EqKinds
import PyProof.TupleCall
import PyProof.Rows.TupIter
import PyProof.ZipIter
import PyProof.MinMaxWalk
import PyProof.WalkInts
import PyProof.WalksMore
import PyProof.SeqI3
import PyProof.Rows.SetFrom
import PyProof.Rows.SortShell
import OpenK.KMore
import KE.KSortTup
import KE.KLam
import KE.KDictSum
import PyProof.CollectWalk
import PyProof.ListNew
import PyProof.SumWalkG
import KE.KDictLaws
import PySem.SetTable
import PyProof.SetNew
import PyProof.SetRoads
import PySem.Challenge.RW_runmarks_k38_sets_moved
set_option maxHeartbeats 4000000
local macro_rules | `(tactic| omega) => `(tactic| lia)
local macro_rules | `(tactic| walk_at "l") => `(tactic| first | exact Or.inl rfl | exact Or.inr rfl)
local macro_rules | `(tactic| walk_at "s") => `(tactic| exact ⟨rfl,rfl,rfl,by decide +kernel,rfl,by decide +kernel,by decide +kernel⟩)
local macro_rules | `(tactic| walk_at "l")=>`(tactic| first | exact Or.inl rfl | exact Or.inr rfl)
set_option hygiene false in
local macro_rules | `(tactic| walk_at "F")=>`(tactic| ((focus intro vs H Q E h; first | (obtain ⟨rfl,_⟩:=h; rfl) | (obtain ⟨_,rfl,_⟩:=h; rfl) | (obtain ⟨_,_,rfl,_⟩:=h; rfl) | (obtain ⟨_,_,_,rfl,_⟩:=h; rfl) | (obtain ⟨_,_,_,_,rfl,_⟩:=h; rfl) | (obtain ⟨_,_,_,_,_,rfl,_⟩:=h; rfl) | (obtain ⟨_,_,_,_,_,_,rfl,_⟩:=h; rfl) | (obtain ⟨_,_,_,_,_,_,_,rfl,_⟩:=h; rfl) | (obtain ⟨_,_,_,_,_,_,_,_,rfl,_⟩:=h; rfl) | (obtain ⟨_,_,_,_,_,_,_,_,_,rfl,_⟩:=h; rfl)); intro f cdv A outer s H vs Q E hr h))
theorem zaa:type_of% @PySem.wpAny_bind:=@PySem.wpAny_bind
theorem zab:type_of% @PySem.wpAny_pure:=@PySem.wpAny_pure
theorem zac:type_of% @PySem.Heap.get?_push_of_some:=@PySem.Heap.get?_push_of_some
theorem zad:type_of% @PySem.Heap.lt_size:=@PySem.Heap.lt_size
theorem zae:type_of% @PyProof.Rows.wpS_bind:=@PyProof.Rows.wpS_bind
theorem zaf:type_of% @PyProof.Rows.wpS_pure:=@PyProof.Rows.wpS_pure
theorem zag:type_of% @PySem.Heap.get?_push_size:=@PySem.Heap.get?_push_size
theorem zah:type_of% @List.Perm.append_left:=@List.Perm.append_left
theorem zai:type_of% @PySem.wpAny_setState_of:=@PySem.wpAny_setState_of
theorem zaj:type_of% @PySem.wpAny_holding:=@PySem.wpAny_holding
theorem zak:type_of% @PySem.PassesOwn.never:=@PySem.PassesOwn.never
theorem zal:type_of% @PySem.wpAny_Call_Name_kw:=@PySem.wpAny_Call_Name_kw
theorem zam:type_of% @PyProof.Rows.callWith_type1:=@PyProof.Rows.callWith_type1
theorem zan:type_of% @PySem.Calls.spliced_cons:=@PySem.Calls.spliced_cons
theorem zao:type_of% @PyProof.Rows.wpS_forRange:=@PyProof.Rows.wpS_forRange
theorem zap:type_of% @PySem.Heap.SameBut.update:=@PySem.Heap.SameBut.update
theorem zaq:type_of% @PySem.F.plainAttrs_list:=@PySem.F.plainAttrs_list
theorem zar:type_of% @PySem.boot_len:=@PySem.boot_len
theorem zas:type_of% @PySem.Heap.get?_update_other:=@PySem.Heap.get?_update_other
theorem zat:type_of% @PySem.W.mg_none_of:=@PySem.W.mg_none_of
theorem zau:type_of% @PySem.F.slot_list_append:=@PySem.F.slot_list_append
theorem zav:type_of% @PySem.F.type_list_append:=@PySem.F.type_list_append
theorem zaw:type_of% @PySem.Heap.get?_update_self:=@PySem.Heap.get?_update_self
theorem zax:type_of% @PySem.wpAny_call_entry:=@PySem.wpAny_call_entry
theorem zay:type_of% @PySem.W.kia_one:=@PySem.W.kia_one
theorem zaz:type_of% @PySem.mem_of_lookup:=@PySem.mem_of_lookup
theorem zaA:type_of% @PySem.builtinLookup_eq_fast:=@PySem.builtinLookup_eq_fast
theorem zaB:type_of% @PySem.wpAny_callSpecial?_slot:=@PySem.wpAny_callSpecial?_slot
theorem zaC:type_of% @PySem.Around.under_plainId:=@PySem.Around.under_plainId
theorem zaD:type_of% @PySem.Calls.spliced_nil:=@PySem.Calls.spliced_nil
theorem zaE:type_of% @PySem.fits_of_scanBound:=@PySem.fits_of_scanBound
theorem zaF:type_of% @PySem.wpAny_mono:=@PySem.wpAny_mono
theorem zaG:type_of% @beq_iff_eq:=@beq_iff_eq
theorem zaH:type_of% @PySem.wpAny_setField_rec:=@PySem.wpAny_setField_rec
theorem zaI:type_of% @PySem.SeqAt.noMix_of_shape:=@PySem.SeqAt.noMix_of_shape
theorem zaJ:type_of% @if_false:=@if_false
theorem zaK:type_of% @PySem.Heap.SameBut.refl:=@PySem.Heap.SameBut.refl
theorem zaL:type_of% @beq_eq_false_iff_ne:=@beq_eq_false_iff_ne
theorem zaM:type_of% @PySem.codeAny_builtin:=@PySem.codeAny_builtin
theorem zaN:type_of% @PySem.Heap.size_push:=@PySem.Heap.size_push
theorem zaO:type_of% @PySem.wpAny_truthy_bool:=@PySem.wpAny_truthy_bool
theorem zaP:type_of% @PySem.wpAny_passesOwn:=@PySem.wpAny_passesOwn
theorem zaQ:type_of% @PySem.wpAny_rule:=@PySem.wpAny_rule
theorem zaR:type_of% @bne_self_eq_false:=@bne_self_eq_false
theorem zaS:type_of% @PySem.wpAny_storeSet_of:=@PySem.wpAny_storeSet_of
theorem zaT:type_of% @PySem.typeLookup_type:=@PySem.typeLookup_type
theorem zaU:type_of% @or_false:=@or_false
theorem zaV:type_of% @PyProof.Rows.wpS_mono:=@PyProof.Rows.wpS_mono
theorem zaW:type_of% @PySem.wpAny_setEntries_of:=@PySem.wpAny_setEntries_of
theorem zaX:type_of% @PyProof.Rows.list_map_has:=@PyProof.Rows.list_map_has
theorem zaY:type_of% @PySem.wpAny_updateSeq:=@PySem.wpAny_updateSeq
theorem zaZ:type_of% @Option.some.injEq:=@Option.some.injEq
theorem za0:type_of% @PyProof.Rows.wpS_modify:=@PyProof.Rows.wpS_modify
theorem za1:type_of% @PySem.wpAny_attempt:=@PySem.wpAny_attempt
theorem za2:type_of% @PySem.plainId_quiet:=@PySem.plainId_quiet
theorem za3:type_of% @PySem.codeAny_mono:=@PySem.codeAny_mono
theorem za4:type_of% @if_true:=@if_true
theorem yaa:type_of% @List.length_map:=@List.length_map
theorem yac:type_of% @List.length_append:=@List.length_append
theorem yad:type_of% @Nat.le_refl:=@Nat.le_refl
theorem yae:type_of% @List.getElem?_eq_getElem:=@List.getElem?_eq_getElem
theorem yaf:type_of% @List.append_assoc:=@List.append_assoc
theorem yag:type_of% @Array.length_toList:=@Array.length_toList
theorem yah:type_of% @List.getElem?_append_right:=@List.getElem?_append_right
theorem yai:type_of% @List.mem_append:=@List.mem_append
theorem yaj:type_of% @List.mem_cons:=@List.mem_cons
theorem yak:type_of% @List.length_cons:=@List.length_cons
theorem yal:type_of% @List.mem_singleton:=@List.mem_singleton
theorem yam:type_of% @List.take_of_length_le:=@List.take_of_length_le
theorem yan:type_of% @List.pairwise_append:=@List.pairwise_append
theorem yao:type_of% @Int.toNat_natCast:=@Int.toNat_natCast
theorem yap:type_of% @decide_eq_true:=@decide_eq_true
theorem yaq:type_of% @List.mem_of_getElem?:=@List.mem_of_getElem?
theorem yas:type_of% @List.mem_filter:=@List.mem_filter
theorem yat:type_of% @List.take_append_drop:=@List.take_append_drop
theorem yau:type_of% @Nat.zero_le:=@Nat.zero_le
theorem yav:type_of% @List.size_toArray:=@List.size_toArray
theorem yaw:type_of% @List.getElem_mem:=@List.getElem_mem
theorem yax:type_of% @Nat.lt_of_lt_of_le:=@Nat.lt_of_lt_of_le
theorem yay:type_of% @List.getElem?_map:=@List.getElem?_map
theorem yaz:type_of% @List.mem_append_right:=@List.mem_append_right
theorem yaA:type_of% @Nat.ne_of_lt:=@Nat.ne_of_lt
theorem yaB:type_of% @List.length_take:=@List.length_take
theorem yaC:type_of% @List.getD_eq_getElem?_getD:=@List.getD_eq_getElem?_getD
theorem yaD:type_of% @List.mem_map:=@List.mem_map
theorem yaE:type_of% @Array.getElem?_toList:=@Array.getElem?_toList
theorem yaF:type_of% @List.map_cons:=@List.map_cons
theorem yaG:type_of% @Array.getElem?_eq_getElem:=@Array.getElem?_eq_getElem
theorem yaH:type_of% @List.append_nil:=@List.append_nil
theorem yaI:type_of% @decide_eq_false:=@decide_eq_false
theorem yaJ:type_of% @List.mem_cons_self:=@List.mem_cons_self
theorem yaK:type_of% @Bool.false_ne_true:=@Bool.false_ne_true
theorem yaL:type_of% @decide_eq_true_eq:=@decide_eq_true_eq
theorem yaM:type_of% @List.mem_cons_of_mem:=@List.mem_cons_of_mem
theorem yaN:type_of% @Nat.le_trans:=@Nat.le_trans
theorem yaO:type_of% @getElem?_pos:=@getElem?_pos
theorem yaP:type_of% @List.nil_append:=@List.nil_append
theorem yaQ:type_of% @List.map_append:=@List.map_append
theorem yaR:type_of% @Bool.false_eq_true:=@Bool.false_eq_true
theorem yaS:type_of% @of_decide_eq_true:=@of_decide_eq_true
theorem yaT:type_of% @List.getElem?_eq_some_iff:=@List.getElem?_eq_some_iff
theorem yaU:type_of% @List.getElem?_append_left:=@List.getElem?_append_left
theorem yaV:type_of% @Int.natCast_nonneg:=@Int.natCast_nonneg
theorem yaW:type_of% @List.mem_iff_getElem:=@List.mem_iff_getElem
theorem yaX:type_of% @List.length_drop:=@List.length_drop
theorem yaY:type_of% @Array.toList_append:=@Array.toList_append
theorem yaZ:type_of% @List.mem_append_left:=@List.mem_append_left
theorem yba:type_of% @List.filter_cons:=@List.filter_cons
theorem ybb:type_of% @List.drop_sublist:=@List.drop_sublist
theorem ybc:type_of% @List.filter_eq_nil_iff:=@List.filter_eq_nil_iff
theorem ybd:type_of% @List.not_mem_nil:=@List.not_mem_nil
theorem ybe:type_of% @List.mem_of_mem_take:=@List.mem_of_mem_take
theorem ybf:type_of% @List.eq_nil_or_concat:=@List.eq_nil_or_concat
theorem ybg:type_of% @List.concat_eq_append:=@List.concat_eq_append
theorem ybh:type_of% @List.map_map:=@List.map_map
theorem ybi:type_of% @List.drop_eq_getElem_cons:=@List.drop_eq_getElem_cons
theorem ybj:type_of% @List.take_sublist:=@List.take_sublist
theorem ybk:type_of% @List.lookup_cons:=@List.lookup_cons
theorem ybl:type_of% @Bool.and_eq_true:=@Bool.and_eq_true
theorem ybm:type_of% @Nat.testBit_two_pow_mul_add:=@Nat.testBit_two_pow_mul_add
theorem ybn:type_of% @List.drop_of_length_le:=@List.drop_of_length_le
theorem ybo:type_of% @List.take_succ:=@List.take_succ
theorem ybp:type_of% @List.length_filter_le:=@List.length_filter_le
theorem ybq:type_of% @List.mem_of_mem_drop:=@List.mem_of_mem_drop
theorem ybr:type_of% @Nat.lt_succ_self:=@Nat.lt_succ_self
theorem ybs:type_of% @Nat.lt_succ_of_lt:=@Nat.lt_succ_of_lt
theorem ybt:type_of% @Nat.lt_irrefl:=@Nat.lt_irrefl
theorem ybu:type_of% @List.length_reverse:=@List.length_reverse
theorem ybv:type_of% @List.length_nil:=@List.length_nil
theorem ybw:type_of% @List.flatten_cons:=@List.flatten_cons
theorem ybx:type_of% @Nat.pow_pos:=@Nat.pow_pos
theorem yby:type_of% @List.perm_append_comm:=@List.perm_append_comm
theorem ybz:type_of% @List.length_range:=@List.length_range
theorem ybA:type_of% @List.length_eq_zero_iff:=@List.length_eq_zero_iff
theorem ybB:type_of% @List.filter_cons_of_neg:=@List.filter_cons_of_neg
theorem ybC:type_of% @Nat.le_of_lt:=@Nat.le_of_lt
theorem ybD:type_of% @Nat.zero_add:=@Nat.zero_add
theorem ybE:type_of% @List.foldl_cons:=@List.foldl_cons
theorem ybF:type_of% @decide_eq_decide:=@decide_eq_decide
theorem ybG:type_of% @Nat.lt_of_le_of_lt:=@Nat.lt_of_le_of_lt
theorem ybH:type_of% @Nat.pow_le_pow_right:=@Nat.pow_le_pow_right
theorem ybI:type_of% @List.getLast?_concat:=@List.getLast?_concat
theorem ybJ:type_of% @Nat.ne_of_gt:=@Nat.ne_of_gt
theorem ybK:type_of% @List.cons_append:=@List.cons_append
theorem ybL:type_of% @Nat.add_zero:=@Nat.add_zero
theorem ybM:type_of% @Nat.lt_or_ge:=@Nat.lt_or_ge
theorem ybN:type_of% @Nat.mod_lt:=@Nat.mod_lt
theorem ybO:type_of% @List.filter_congr:=@List.filter_congr
theorem ybP:type_of% @List.filter_eq_self:=@List.filter_eq_self
theorem ybQ:type_of% @List.map_congr_left:=@List.map_congr_left
theorem ybR:type_of% @Bool.eq_iff_iff:=@Bool.eq_iff_iff
theorem ybS:type_of% @List.nodup_cons:=@List.nodup_cons
theorem ybT:type_of% @Nat.pow_succ:=@Nat.pow_succ
theorem ybU:type_of% @Nat.sub_self:=@Nat.sub_self
theorem ybV:type_of% @List.filter_append:=@List.filter_append
theorem ybW:type_of% @List.mem_range:=@List.mem_range
theorem ybX:type_of% @List.drop_zero:=@List.drop_zero
theorem ybY:type_of% @List.filter_map:=@List.filter_map
theorem ybZ:type_of% @List.flatten_append:=@List.flatten_append
theorem yca:type_of% @List.range'_succ:=@List.range'_succ
theorem ycb:type_of% @List.mem_reverse:=@List.mem_reverse
theorem ycc:type_of% @List.pairwise_cons:=@List.pairwise_cons
theorem ycd:type_of% @Nat.le_succ:=@Nat.le_succ
theorem yce:type_of% @Nat.add_mul_mod_self_left:=@Nat.add_mul_mod_self_left
theorem ycf:type_of% @List.nodup_nil:=@List.nodup_nil
theorem ycg:type_of% @Option.isSome_iff_exists:=@Option.isSome_iff_exists
theorem ych:type_of% @Array.toList_push:=@Array.toList_push
theorem yci:type_of% @List.getElem_append_left:=@List.getElem_append_left
theorem ycj:type_of% @Nat.add_comm:=@Nat.add_comm
theorem yck:type_of% @List.replicate_succ:=@List.replicate_succ
theorem ycl:type_of% @Bool.not_true:=@Bool.not_true
theorem ycm:type_of% @List.filter_cons_of_pos:=@List.filter_cons_of_pos
theorem ycn:type_of% @List.drop_drop:=@List.drop_drop
theorem yco:type_of% @List.find?_cons:=@List.find?_cons
theorem ycp:type_of% @Bool.or_eq_true:=@Bool.or_eq_true
theorem ycq:type_of% @Nat.not_lt_zero:=@Nat.not_lt_zero
theorem ycr:type_of% @Array.size_map:=@Array.size_map
theorem ycs:type_of% @Nat.mod_eq_of_lt:=@Nat.mod_eq_of_lt
theorem yct:type_of% @Nat.add_assoc:=@Nat.add_assoc
theorem ycu:type_of% @Nat.not_lt:=@Nat.not_lt
theorem ycv:type_of% @Int.one_mul:=@Int.one_mul
abbrev ZFr:=PySem.W.Frag
variable {us:List PySem.Value}{P prog:PySem.Program}{w:PySem.World}{h' base:PySem.Heap}{pins:List (PySem.Addr × PySem.Obj)}{s:PySem.Shared}{t' ep:Nat}{N:List PySem.Str}{A Ar:PySem.Around}{E Q:PySem.Value→PySem.Shared→Prop}{K:ZFr}{es:Array (Int × PySem.Value)}{tg:PySem.Expr}{pos':PySem.Pos}{fp:List PySem.Addr}{C CM:PySem.Addr}{g:Nat→List Nat}{ns ps ks caps:List Nat}{mg:PySem.Str→Option PySem.Value}{fd:PySem.FuncData}{sc scope:PySem.Scope}{qual:PySem.Str}{osl:Array (Option PySem.Value)}{rs:List (Nat × Nat)}{clos:List (PySem.Str × PySem.Addr)}{XP:(PySem.Str→Option PySem.Value)→PySem.Heap→Prop}
set_option Elab.async false
set_option linter.all false
set_option maxRecDepth 100000
namespace L2
open PySem PySem.Spec PyProof.Rows
abbrev Key:=Sum Int Str
def keyIs:Key→Value→Bool
 | .inl k,v=>Value.isInt k v
 | .inr x,v=>Value.isStrOf x v
def keyH (w:World):Key→Int
 | .inl k=>hashInt k
 | .inr x=>hashStr w x
theorem ZaG:∀ {k:Key} {v:Value},keyIs k v=true→(∃ i t,k=Sum.inl i∧v=Value.int i t)∨(∃ x t,k=Sum.inr x∧v=Value.str x t)
 | .inl i,v,h=>by
   obtain ⟨t,e⟩:=Value.isInt_shape (k:=i) (v:=v) h;exact .inl ⟨i,t,rfl,e⟩
 | .inr x,v,h=>by
   obtain ⟨t,e⟩:=Value.isStrOf_shape (x:=x) (v:=v) h;exact .inr ⟨x,t,rfl,e⟩
theorem ZjB (i:Int)(t:Tok):keyIs (.inl i) (.int i t)=true:=by simp [keyIs,Value.isInt]
theorem ZjK (x:Str)(t:Tok):keyIs (.inr x) (.str x t)=true:=by simp [keyIs,Value.isStrOf]
theorem key_ll (a b:Int):decide ((Sum.inl a:Key)=Sum.inl b)=(a==b):=by
 by_cases e:a=b
 · subst e;simp
 · have h:¬ (Sum.inl a:Key)=Sum.inl b:=fun q=>e (Sum.inl.inj q)
   rw [yaI h];exact (zaL.mpr e).symm
theorem key_rr (a b:Str):decide ((Sum.inr a:Key)=Sum.inr b)=decide (a=b):=by
 by_cases e:a=b
 · subst e;simp
 · have h:¬ (Sum.inr a:Key)=Sum.inr b:=fun q=>e (Sum.inr.inj q)
   rw [yaI h,yaI e]
theorem key_lr (a:Int)(b:Str):decide ((Sum.inl a:Key)=Sum.inr b)=false:=yaI (fun q=>nomatch q)
theorem key_rl (a:Str)(b:Int):decide ((Sum.inr a:Key)=Sum.inl b)=false:=yaI (fun q=>nomatch q)
def mixKind (prog:Program) (w:World):PySem.KeyKind prog w Key where
 is:=keyIs
 hash:=keyH w
 inj := fun v a b ha hb=>by
   rcases ZaG ha with ⟨i,t,rfl,rfl⟩ | ⟨x,t,rfl,rfl⟩
   · rcases ZaG hb with ⟨j,u,rfl,e⟩ | ⟨y,u,rfl,e⟩
     · injection e with e1 _;rw [e1]
     · exact nomatch e
   · rcases ZaG hb with ⟨j,u,rfl,e⟩ | ⟨y,u,rfl,e⟩
     · exact nomatch e
     · injection e with e1 _;rw [e1]
 byValue:=fun k v h=>by
   rcases ZaG h with ⟨i,t,rfl,rfl⟩ | ⟨x,t,rfl,rfl⟩<;>rfl
 pyHash:=fun hv h=>by
   rcases ZaG hv with ⟨i,t,rfl,rfl⟩ | ⟨x,t,rfl,rfl⟩
   · exact wpAny_pyHash_int h
   · exact wpAny_pyHash_str h
 eqBool:=fun hu hv h=>by
   rcases ZaG hu with ⟨i,t,rfl,rfl⟩ | ⟨x,t,rfl,rfl⟩
   · rcases ZaG hv with ⟨j,u,rfl,rfl⟩ | ⟨y,u,rfl,rfl⟩
     · rw [key_ll] at h;exact wpAny_eqBool_int h
     · rw [key_lr] at h;exact SeqAt.EqAt.int_str i t y u _ _ _ _ h
   · rcases ZaG hv with ⟨j,u,rfl,rfl⟩ | ⟨y,u,rfl,rfl⟩
     · rw [key_rl] at h;exact SeqAt.EqAt.str_int x t j u _ _ _ _ h
     · rw [key_rr] at h;exact wpAny_eqBool_str h
 «strs»:=fun k x t v h=>by
   rcases ZaG h with ⟨i,u,rfl,e⟩ | ⟨y,u,rfl,e⟩
   · exact nomatch e
   · injection e with e1 _
     subst e1;cases v<;>rfl
theorem ZhR (prog:Program)(w:World)(k:Key)(v:Value):(mixKind prog w).is k v=keyIs k v:=rfl
theorem ZgM (prog:Program)(w:World)(i:Int)(t:Tok):(mixKind prog w).is (.inl i) (.int i t)=true:=ZjB i t
theorem ZgE (prog:Program)(w:World)(x:Str)(t:Tok):(mixKind prog w).is (.inr x) (.str x t)=true:=ZjK x t
inductive V where
 | non | bl (b:Bool) | int (i:Int) | str (x:Str) | byt (b:Array UInt8) | flt (b:UInt64) | ref (a:Addr) | ty (n:String)
 deriving DecidableEq
def RelV:V→Value→Prop
 | .non,u=>u=Value.none
 | .bl b,u=>u=Value.bool b
 | .int i,u=>∃ t,u=Value.int i t
 | .str x,u=>∃ t,u=Value.str x t
 | .byt b,u=>∃ t,u=Value.bytes b t
 | .flt b,u=>∃ t,u=Value.float b t
 | .ref a,u=>u=Value.ref a
 | .ty n,u=>u=Value.type n
abbrev Vals:List V→List Value→Prop:=Paired RelV
theorem Vals.length {xs:List V}(r:Vals xs us):xs.length=us.length:=Paired.length r
theorem Vals.get:∀ {xs:List V} {us:List Value} {i:Nat} {x:V},Vals xs us→xs[i]?=some x→∃ u,us[i]?=some u∧RelV x u
 | _,_,_,_,.nil,e=>by simp at e
 | _,_,0,_,.cons r _,e=>by simp at e;subst e;exact ⟨_,rfl,r⟩
 | _,_,i+1,x,.cons _ t,e=>by
   obtain ⟨u,h1,h2⟩:=Vals.get (i:=i) (x:=x) t (by simpa using e);exact ⟨u,by simpa using h1,h2⟩
theorem Vals.set {x:V}{u:Value}(r:RelV x u):∀ {xs:List V} {us:List Value} (i:Nat),Vals xs us→Vals (xs.set i x) (us.set i u)
 | _,_,_,.nil=>.nil
 | _,_,0,.cons _ t=>.cons r t
 | _,_,i+1,.cons q t=>.cons q (Vals.set r i t)
theorem Vals.append:∀ {xs ys:List V} {us ws:List Value},Vals xs us→Vals ys ws→Vals (xs++ys) (us++ws)
 | _,_,_,_,.nil,s=>s
 | _,_,_,_,.cons r t,s=>.cons r (Vals.append t s)
theorem Vals.take:∀ {xs:List V} {us:List Value} (n:Nat),Vals xs us→Vals (xs.take n) (us.take n)
 | _,_,0,_=>.nil
 | _,_,_+1,.nil=>.nil
 | _,_,n+1,.cons r t=>.cons r (Vals.take n t)
theorem Vals.drop:∀ {xs:List V} {us:List Value} (n:Nat),Vals xs us→Vals (xs.drop n) (us.drop n)
 | _,_,0,r=>r
 | _,_,_+1,.nil=>.nil
 | _,_,n+1,.cons _ t=>Vals.drop n t
def RelO:Option V→Option Value→Prop
 | some v,some u=>RelV v u
 | none,none=>True
 | _,_=>False
def KV {κ:Type}:List (κ × V)→List (κ × Value)→Prop:=Paired fun (p:κ × V) (q:κ × Value)=>p.1=q.1∧RelV p.2 q.2
def kV:Key→V
 | .inl i=>.int i
 | .inr x=>.str x
inductive HO where
 | lst (xs:List V)
 | tup (xs:List V)
 | dK (kvs:List (Key × V)) | dT (kvs:List (List Key × V))
 | set (S:Int→Bool) (n:Nat)
 | ins (C dx:Addr) (fs:List (Str × V))
 | own (x:Addr)
 | xd (fs:List (Str × V))
 | met (f x:Addr)
 | rng (lo hi:Int)
 | frz (o:Obj) (u:HO)
 | tbl (ps:Array Value)
 | ext (φ:Heap→Prop)
abbrev Hp:=Addr→Option HO
def upd (H:Hp)(a:Addr)(o:HO):Hp:=fun b=>if b=a then some o else H b
theorem Zab {H:Hp}{a:Addr}{o:HO}:upd H a o a=some o:=by unfold upd;rw [if_pos rfl]
theorem Zai {H:Hp}{a b:Addr}{o:HO}(h:b≠a):upd H a o b=H b:=by unfold upd;rw [if_neg h]
theorem upd_upd {H:Hp}{a:Addr}{o u:HO}:upd (upd H a o) a u=upd H a u:=by funext b;unfold upd;split<;>rfl
theorem ne_of {H:Hp}{a b:Addr}{o u:HO}(h:H a=some o)(h':H b=some u)(d:o≠u):a≠b:=by intro e;subst e;rw [h] at h';exact d (Option.some.inj h')
theorem Zam {H:Hp}{a b:Addr}{o:HO}(h:H a=some o)(h':H b=none):a≠b:=by intro e;subst e;rw [h] at h';cases h'
section
variable (P:Program)(w:World)
def ObjOk (H:Hp)(h:Heap)(a:Addr):HO→Prop
 | .lst xs=>xs.length≤sizeLine∧∃ (its:List Value) (n:Nat),Vals xs its∧h.get? a=some { cls:=.type "list",data:=.seq its.toArray n }
 | .tup xs=>xs.length≤sizeLine∧∃ its:List Value,Vals xs its∧IsTup h a its.toArray
 | .dK kvs=>kvs.length≤sizeLine∧(a==sysModules)=false∧∃ vs,KV kvs vs∧h.DictOf (mixKind P w) a vs
 | .dT kvs=>kvs.length≤sizeLine∧(a==sysModules)=false∧∃ xs:List (List Key × Addr × Value),
     Paired (fun (p:List Key × V) (q:List Key × Addr × Value)=>p.1=q.1∧H q.2.1=some (.tup (p.1.map kV))∧RelV p.2 q.2.2) kvs xs ∧
     ∃ o es ep,h.get? a=some o∧o.ExactDict∧o.data=.dict es ep∧es.toList=xs.map (entryOfKey (tupleKind (mixKind P w)))∧(xs.map (·.1)).Nodup
 | .set S n=>h.SetOf (intKind P w) a S n
 | .ins C dx fs=>H dx=some (.own a)∧fs.length≤1000∧dx≠a∧h.get? a=some (PySem.W.instObj C dx) ∧
     ∃ mA,h.Ns1 dx mA∧(∀ f,RelO (fs.lookup f) (mA f))∧PySem.Within mA (fs.map (·.1))
 | .own _=>∃ o,h.get? a=some o
 | .xd fs=>∃ mA,h.Ns1 a mA∧∀ f,RelO (fs.lookup f) (mA f)
 | .rng lo hi=>∃ t u v,h.get? a=some { cls:=.type "range",data:=.fields #[.int lo t,.int hi u,.int 1 v] }
 | .frz o u=>h.get? a=some o∧ObjOk H h a u
 | .tbl ps=>h.get? a=some { cls:=.none,data:=.fields ps }
 | .met f x=>h.get? a=some (PySem.W.methodObj (.ref f) (.ref x))
 | .ext φ=>φ h∧(∃ o,h.get? a=some o)∧∀ h1 h2:Heap,φ h1→(∀ o,h1.get? a=some o→h2.get? a=some o)→φ h2
def HOk (H:Hp)(h:Heap):Prop:=∀ a o,H a=some o→ObjOk P w H h a o
end
section
variable {H H':Hp}{h:Heap}{a:Addr}{o:HO}
theorem ObjOk.lt (x:ObjOk P w H h a o):a<h.objs.size:=by
 cases o with
 | lst xs=>obtain ⟨_,_,_,_,e⟩:=x;exact zad e
 | tup xs=>obtain ⟨_,_,_,p⟩:=x;exact p.lt
 | dK kvs=>obtain ⟨_,_,_,_,o,_,_,e,_⟩:=x;exact zad e
 | dT kvs=>obtain ⟨_,_,_,_,o,_,_,e,_⟩:=x;exact zad e
 | set S n=>obtain ⟨o,_,_,_,e,_⟩:=x;exact zad e
 | ins C dx fs=>obtain ⟨_,_,_,e,_⟩:=x;exact zad e
 | own y=>obtain ⟨_,e⟩:=x;exact zad e
 | xd fs=>obtain ⟨_,⟨_,_,_,e,_⟩,_⟩:=x;exact zad e
 | rng lo hi=>obtain ⟨_,_,_,e⟩:=x;exact zad e
 | frz ob u=>obtain ⟨e,_⟩:=x;exact zad e
 | tbl ps=>exact zad (show h.get? a=some _ from x)
 | met f y=>exact zad (show h.get? a=some _ from x)
 | ext φ=>obtain ⟨_,⟨_,e⟩,_⟩:=x;exact zad e
theorem Paired.mapP {α β:Type}{F G:α→β→Prop}:∀ {l₁:List α} {l₂:List β},Paired F l₁ l₂→(∀ a b,F a b→G a b)→Paired G l₁ l₂
 | _,_,.nil,_=>.nil
 | _,_,.cons r t,f=>.cons (f _ _ r) (Paired.mapP t f)
theorem ObjOk.stay (x:ObjOk P w H h a o)(k:∀ b u,(b=a∨H b=some (.own a))→h.get? b=some u→h'.get? b=some u)
   (ho:∀ b,H b=some (.own a)→H' b=some (.own a)) (ht:∀ b xs,H b=some (.tup xs)→H' b=some (.tup xs)):ObjOk P w H' h' a o:=by
 induction o with
 | lst xs=>obtain ⟨z,its,n,r,e⟩:=x;exact ⟨z,its,n,r,k _ _ (.inl rfl) e⟩
 | tup xs=>obtain ⟨z,its,r,ob,e,c⟩:=x;exact ⟨z,its,r,ob,k _ _ (.inl rfl) e,c⟩
 | dK kvs=>obtain ⟨z,y,vs,r,ob,es,ep,e,c⟩:=x;exact ⟨z,y,vs,r,ob,es,ep,k _ _ (.inl rfl) e,c⟩
 | dT kvs =>
   obtain ⟨z,y,xs,r,ob,es,ep,e,c⟩:=x;exact ⟨z,y,xs,Paired.mapP r fun p q z=>⟨z.1,ht _ _ z.2.1,z.2.2⟩,ob,es,ep,k _ _ (.inl rfl) e,c⟩
 | set S n=>obtain ⟨ob,es,ep,t,e,c⟩:=x;exact ⟨ob,es,ep,t,k _ _ (.inl rfl) e,c⟩
 | ins C dx fs =>
   obtain ⟨d,z,ne,e,mA,⟨od,es,ep,e2,c⟩,r⟩:=x;exact ⟨ho _ d,z,ne,k _ _ (.inl rfl) e,mA,⟨od,es,ep,k _ _ (.inr d) e2,c⟩,r⟩
 | own y=>obtain ⟨ob,e⟩:=x;exact ⟨ob,k _ _ (.inl rfl) e⟩
 | xd fs=>obtain ⟨mA,⟨od,es,ep,e,c⟩,r⟩:=x;exact ⟨mA,⟨od,es,ep,k _ _ (.inl rfl) e,c⟩,r⟩
 | rng lo hi=>obtain ⟨t,u,v,e⟩:=x;exact ⟨t,u,v,k _ _ (.inl rfl) e⟩
 | frz ob u ih=>obtain ⟨e,q⟩:=x;exact ⟨k _ _ (.inl rfl) e,ih q⟩
 | tbl ps =>
   have e:h.get? a=some { cls:=.none,data:=.fields ps }:=x;show h'.get? a=some { cls:=.none,data:=.fields ps };exact k a _ (.inl rfl) e
 | met f y =>
   have e:h.get? a=some (PySem.W.methodObj (.ref f) (.ref y)):=x;show h'.get? a=some (PySem.W.methodObj (.ref f) (.ref y));exact k a _ (.inl rfl) e
 | ext φ=>obtain ⟨p,⟨o,e⟩,st⟩:=x;exact ⟨st _ _ p fun o q=>k _ _ (.inl rfl) q,⟨o,k _ _ (.inl rfl) e⟩,st⟩
theorem HOk.lt (x:HOk P w H h)(e:H a=some o):a<h.objs.size:=(x a o e).lt
theorem HOk.fresh (x:HOk P w H h)(e:h.objs.size≤a):H a=none:=by
 cases q:H a with
 | none=>rfl
 | some u=>exact absurd (yax (x.lt q) e) (ybt _)
theorem HOk.kept (x:HOk P w H h)(k:∀ b u,h.get? b=some u→h'.get? b=some u):HOk P w H h':=fun a o e =>
 (x a o e).stay (fun b u _ q=>k b u q) (fun _ q=>q) fun _ _ q=>q
theorem HOk.laid (x:HOk P w H h)(k:∀ b u,h.get? b=some u→h'.get? b=some u)(hp:h.objs.size≤a)(new:ObjOk P w (upd H a o) h' a o):HOk P w (upd H a o) h':=fun b u e=>by
 have hn:=x.fresh hp;by_cases hb:b=a
 · subst hb;rw [Zab] at e;cases e;exact new
 · rw [Zai hb] at e
   exact (x b u e).stay (fun c v _ q=>k c v q) (fun c q=>by rw [Zai (Zam q hn)];exact q) fun c xs q=>by rw [Zai (Zam q hn)];exact q
end
def Rd (H:Hp)(a:Addr)(u:HO):Prop:=H a=some u∨∃ o,H a=some (.frz o u)
theorem Rd.ok {H:Hp}{h:Heap}{a:Addr}{u:HO}(r:Rd H a u)(x:HOk P w H h):ObjOk P w H h a u:=by
 rcases r with r | ⟨o,r⟩
 · exact x a u r
 · obtain ⟨_,q⟩:=x a _ r
   exact q
def Mut:Option HO→Prop
 | some (.lst _)=>True
 | some (.dK _)=>True
 | some (.dT _)=>True
 | some (.set _ _)=>True
 | some (.ins _ _ _)=>True
 | some (.ext _)=>True
 | _=>False
section
variable {H:Hp}{h:Heap}{x e:Addr}{o':HO}
theorem HOk.write (ok:HOk P w H h) (mu:Mut (H x)) (he:e=x∨H e=some (.own x)) (k:∀ b u,b≠e→h.get? b=some u→h'.get? b=some u) (heo:∃ u,h'.get? e=some u)
   (new:ObjOk P w (upd H x o') h' x o'):HOk P w (upd H x o') h':=fun b u q=>by
 have nown:∀ c y,H c=some (.own y)→c≠x:=fun c y r z=>by subst z;rw [r] at mu;exact mu
 have ntup:∀ c xs,H c=some (.tup xs)→c≠x:=fun c xs r z=>by subst z;rw [r] at mu;exact mu
 by_cases hb:b=x
 · subst hb;rw [Zab] at q;cases q;exact new
 · rw [Zai hb] at q
   by_cases hbe:b=e
   · have q':H b=some (.own x):=by
       rcases he with z | z
       · exact absurd (hbe.trans z) hb
       · rw [hbe];exact z
     rw [q] at q';cases q';obtain ⟨v,hv⟩:=heo;exact ⟨v,by rw [hbe];exact hv⟩
   · refine (ok b u q).stay (fun c v hc r=>k c v ?_ r) (fun c r=>by rw [Zai (nown c b r)];exact r) fun c xs r=>by rw [Zai (ntup c xs r)];exact r
     rcases hc with rfl | hc
     · exact hbe
     · rintro rfl
       rcases he with z | z
       · exact nown c b hc z
       · rw [hc] at z;cases z;exact hb rfl
end
structure Un (fs ex:List Addr)(H H':Hp)(h h':Heap):Prop where
 keep:∀ b o,h.get? b=some o→H b=none→b∉fs→b∉ex→h'.get? b=some o
 slot:∀ b o,h.get? b=some o→H b=none→b∈fs→b∉ex→∃ sl,h'.get? b=some { o with slots:=sl }
 free:∀ b o,h.get? b=some o→H b=none→b∉ex→H' b=none
 there:∀ b o,h.get? b=some o→b∉ex→∃ o',h'.get? b=some o'
 tups:∀ b xs,H b=some (.tup xs)→H' b=some (.tup xs)
 frzs:∀ b o u,H b=some (.frz o u)→H' b=some (.frz o u)
 tbls:∀ b ps,H b=some (.tbl ps)→∃ more,H' b=some (.tbl (ps++more))
section
variable {fs fs' ex ex':List Addr}{H H1 H2:Hp}{h h1 h2:Heap}{a x e:Addr}{o:HO}
theorem Un.any (u:Un fs ex H H1 h h1){b:Addr}{ob:Obj}(q:h.get? b=some ob)(n:H b=none)(hx:b∉ex):∃ sl,h1.get? b=some { ob with slots:=sl }:=by
 by_cases hb:b∈fs
 · exact u.slot b ob q n hb hx
 · exact ⟨ob.slots,u.keep b ob q n hb hx⟩
theorem Un.trans (a:Un fs ex H H1 h h1)(b:Un fs ex H1 H2 h1 h2):Un fs ex H H2 h h2 where
 keep:=fun c ob q n hc hx=>b.keep c ob (a.keep c ob q n hc hx) (a.free c ob q n hx) hc hx
 slot:=fun c ob q n hc hx=>by
   obtain ⟨sl,e1⟩:=a.slot c ob q n hc hx;obtain ⟨sl',e2⟩:=b.slot c _ e1 (a.free c ob q n hx) hc hx;exact ⟨sl',e2⟩
 free:=fun c ob q n hx=>by
   obtain ⟨o',e1⟩:=a.there c ob q hx;exact b.free c o' e1 (a.free c ob q n hx) hx
 there:=fun c ob q hx=>by
   obtain ⟨o',e1⟩:=a.there c ob q hx;exact b.there c o' e1 hx
 tups:=fun c xs q=>b.tups c xs (a.tups c xs q)
 frzs:=fun c ob xs q=>b.frzs c ob xs (a.frzs c ob xs q)
 tbls:=fun c ps q=>by
   obtain ⟨m1,e1⟩:=a.tbls c ps q;obtain ⟨m2,e2⟩:=b.tbls c _ e1;exact ⟨m1++m2,by rw [e2,Array.append_assoc]⟩
theorem Un.kept (k:∀ b u,h.get? b=some u→h'.get? b=some u):Un fs ex H H h h' :=
 ⟨fun b ob q _ _ _=>k b ob q,fun b ob q _ _ _=>⟨ob.slots,k b ob q⟩,fun _ _ _ n _=>n,fun b ob q _=>⟨ob,k b ob q⟩,fun _ _ q=>q,fun _ _ _ q=>q,fun _ ps q=>⟨#[],by rw [q];simp⟩⟩
theorem Un.refl:Un fs ex H H h h:=Un.kept fun _ _ q=>q
theorem Un.laid (k:∀ b u,h.get? b=some u→h'.get? b=some u)(hp:h.objs.size≤a)(hn:H a=none):Un fs ex H (upd H a o) h h' where
 keep:=fun b u q _ _ _=>k b u q
 slot:=fun b u q _ _ _=>⟨u.slots,k b u q⟩
 free:=fun b u q n _=>by rw [Zai (yaA (yax (zad q) hp))];exact n
 there:=fun b u q _=>⟨u,k b u q⟩
 tups:=fun b xs q=>by rw [Zai (Zam q hn)];exact q
 frzs:=fun b u xs q=>by rw [Zai (Zam q hn)];exact q
 tbls:=fun b ps q=>⟨#[],by rw [Zai (Zam q hn),q];simp⟩
theorem Un.write (mu:Mut (H x))(he:e=x∨H e=some (.own x))(k:∀ b u,b≠e→h.get? b=some u→h'.get? b=some u)(heo:∃ u,h'.get? e=some u):Un fs ex H (upd H x o) h h':=by
 have hx:∀ b,H b=none→b≠x:=fun b n z=>by subst z;rw [n] at mu;exact mu
 have hb:∀ b,H b=none→b≠e:=fun b n z=>by
   subst z;rcases he with r | r
   · exact hx b n r
   · rw [n] at r;cases r
 have hm:∀ b u,H b=some u→¬ Mut (some u)→b≠x:=fun b u q nm z=>by subst z;rw [q] at mu;exact nm mu
 refine ⟨fun b u q n _ _=>k b u (hb b n) q,fun b u q n _ _=>⟨u.slots,k b u (hb b n) q⟩,fun b u q n _=>by rw [Zai (hx b n)];exact n,fun b u q _=>?_,
   fun b xs q=>by rw [Zai (hm b _ q fun z=>z)];exact q,fun b u xs q=>by rw [Zai (hm b _ q fun z=>z)];exact q,fun b ps q=>⟨#[],by rw [Zai (hm b _ q fun z=>z),q];simp⟩⟩
 by_cases hbe:b=e
 · subst hbe;exact heo
 · exact ⟨u,k b u hbe q⟩
end
def trk (h:Heap)(H:Hp):List Addr:=(List.range h.objs.size).filter fun a=>(H a).isSome
def hidT (h:Heap)(H:Hp):Heap:=PySem.W.hideAll h (trk h H)
theorem ZfK (h:Heap)(H:Hp):(hidT h H).objs.size=h.objs.size:=PySem.W.hideAll_size _ _
theorem Zhn {h:Heap}{H:Hp}{b:Addr}{o:Obj}(e:h.get? b=some o)(n:H b=none):(hidT h H).get? b=some o :=
 PySem.W.hideAll_get _ e fun hm=>by
   have q:(H b).isSome=true:=(yas.mp hm).2;rw [n] at q;simp at q
theorem ZiH {h:Heap}{H:Hp}{b:Addr}{o:Obj}(e:(hidT h H).get? b=some o):h.get? b=some o∧H b=none:=by
 have e':h.get? b=some o:=PySem.W.of_hideAll (trk h H) e;refine ⟨e',?_⟩;cases q:H b with
 | none=>rfl
 | some x =>
   have hm:b∈trk h H:=yas.mpr ⟨ybW.mpr (zad e'),by simp [q]⟩;have z:(hidT h H).get? b=none:=PySem.W.hideAll_none (trk h H) hm;rw [z] at e;cases e
def allNews (g h:Heap)(L:Addr):List (Addr × Obj):=(List.range h.objs.size).filterMap fun a=>if a=L∨(g.get? a).isSome=true then none else (h.get? a).map fun o=>(a,o)
def rest (g h:Heap)(L d:Addr):List (Addr × Obj):=(allNews g h L).filter fun p=>decide (p.1≠d)
structure Mod (K:ZFr)(mg:Str→Option Value)(base:Heap):Prop where
 kin:K.In base
 glob:base.Ns mainGlobals mg
 blt:∃ mb,base.Ns builtinsNs mb∧∀ x:Str,x≠"__name__"→mb x=bootBuiltins x
 nolimit:base.NoLimit
structure Cx where
 prog:Program
 w:World
 K:ZFr
 mg:Str→Option Value
 base:Heap
 A:Around
 N:List Str
 s₀:Shared
 H₀:Hp
 env:Env
 outer:List Env
 stack:List Env
 ex:List Addr
 fn:Str→Bool
 calm:Bool
 pn:List (Addr × Obj)
 xe:Value→Shared→Prop
def frs (l:List Env):List Addr:=l.filterMap (·.frame)
abbrev Cx.fs (X:Cx):List Addr:=frs X.outer
def Vis (sc:Scope)(x:Str):Prop:=sc.names.lookup x=some .local∨sc.names.lookup x=some .cell∨sc.names.lookup x=some .free
def Loc (sc:Scope)(x:Str):Prop:=sc.names.lookup x=some .local∨sc.names.lookup x=some .cell
def Look (env:Env)(h:Heap)(m:Str→Option Value)(x:Str)(u:Value):Prop :=
 (env.kindOf x=some .local∧m x=some u)∨((env.kindOf x=some .cell∨env.kindOf x=some .free)∧∃ c,env.cells.lookup x=some c∧h.IsCell c (some u))
structure Cx.Ok (X:Cx):Prop where
 mod:Mod X.K X.mg X.base
 kind:X.env.scope.kind=.function
 glob:X.env.globals=mainGlobals
 blt:X.env.builtins=builtinsNs
 above:X.s₀.heap.objs.size≤X.env.locals
 inj:∀ x y c,X.env.cells.lookup x=some c→X.env.cells.lookup y=some c→x=y
 has:∀ x,(X.env.kindOf x=some .cell∨X.env.kindOf x=some .free)→∃ c,X.env.cells.lookup x=some c
 cab:∀ x c,X.fn x=true→X.env.cells.lookup x=some c→X.s₀.heap.objs.size≤c
 hd:X.calm=true→X.A.handled=none
 frames:X.A.frames=some X.stack
 stk:X.stack=X.outer∨(X.stack=X.env::X.outer∧X.env.frame=some X.env.locals)
 exf:∀ b∈X.ex,b≠X.env.locals∧∀ x c,X.env.cells.lookup x=some c→c≠b
 bs:∀ b o,X.base.get? b=some o→X.s₀.heap.get? b=some o∧X.H₀ b=none
 bsz:X.base.objs.size≤X.s₀.heap.objs.size
 noex:∀ b o,X.base.get? b=some o→b∉X.ex
 exfs:∀ b∈X.ex,b∉X.fs
 funs:X.s₀.heap.FunFrames X.base X.outer
 frf:∀ b∈X.fs,X.H₀ b=none
structure Inv (X:Cx)(pins:List (Addr × Obj))(σ:List (Option V))(H:Hp)(s:Shared):Prop where
 ok:X.Ok
 os:s.os=X.s₀.os
 bare:AllBare s.gens
 base:Un X.fs X.ex X.H₀ H X.s₀.heap s.heap
 loc:∃ m,s.heap.Ns X.env.locals m∧∀ (i:Nat) (x:Str) (v:V),X.N[i]?=some x→σ[i]?=some (some v)→Vis X.env.scope x→∃ u,RelV v u∧Look X.env s.heap m x u
 cell:∀ x c,X.env.cells.lookup x=some c→∃ v,s.heap.IsCell c v
 free:H X.env.locals=none
 freeC:∀ x c,X.env.cells.lookup x=some c→H c=none
 pin:∀ p∈X.pn++pins,s.heap.get? p.1=some p.2∧H p.1=none∧p.1≠X.env.locals∧p.1∉X.fs∧∀ v,p.2.data≠.cell v
 hok:HOk X.prog X.w H s.heap
 len:σ.length=X.N.length
section
variable {X:Cx}{σ:List (Option V)}{H H':Hp}
theorem Cx.Ok.nofr (ok:X.Ok){b:Addr}{o:Obj}(e:X.base.get? b=some o):b∉X.fs:=fun hb=>by
 have:=(ok.funs.mem hb).1;rw [e] at this;cases this
theorem Inv.bs (I:Inv X pins σ H s):∀ b o,X.base.get? b=some o→s.heap.get? b=some o∧H b=none:=fun b o e =>
 ⟨I.base.keep b o (I.ok.bs b o e).1 (I.ok.bs b o e).2 (I.ok.nofr e) (I.ok.noex b o e),I.base.free b o (I.ok.bs b o e).1 (I.ok.bs b o e).2 (I.ok.noex b o e)⟩
theorem Inv.bk (I:Inv X pins σ H s):∀ b o,X.base.get? b=some o→s.heap.get? b=some o:=fun b o e=>(I.bs b o e).1
theorem Inv.mod (I:Inv X pins σ H s):Mod X.K X.mg X.base:=I.ok.mod
theorem Inv.kIn (I:Inv X pins σ H s):X.K.In s.heap:=I.ok.mod.kin.keeps I.bk
theorem Inv.lt (I:Inv X pins σ H s):X.env.locals<s.heap.objs.size:=let ⟨_,hn,_⟩:=I.loc;hn.lt
theorem Inv.sz (I:Inv X pins σ H s):X.s₀.heap.objs.size≤s.heap.objs.size:=yaN I.ok.above (ybC I.lt)
theorem Inv.nofs (I:Inv X pins σ H s){a:Addr}(h:s.heap.objs.size≤a):a∉X.fs:=fun hb=>by
 obtain ⟨_,o,ho,_⟩:=I.ok.funs.mem hb;exact absurd (yax (zad ho) (yaN I.sz h)) (ybt _)
theorem Inv.cne (I:Inv X pins σ H s):∀ x c,X.env.cells.lookup x=some c→c≠X.env.locals:=fun x c e z=>by
 obtain ⟨v,o,ho,hd⟩:=I.cell x c e;obtain ⟨m,⟨o',es,ep,ho',hd',_⟩,_⟩:=I.loc;rw [z,ho'] at ho;cases ho;rw [hd'] at hd;cases hd
theorem Inv.funs (I:Inv X pins σ H s):s.heap.FunFrames X.base X.outer:=by
 have all:∀ (l:List Env),(∀ b∈frs l,b∈X.fs)→X.s₀.heap.FunFrames X.base l→s.heap.FunFrames X.base l:=by
   intro l;induction l with
   | nil=>intro _ _;trivial
   | cons env r ih =>
     intro hs hl;obtain ⟨hk,⟨L,o,hf,hn,ho,hd⟩,hr⟩:=hl;have hL:L∈X.fs:=hs L (by unfold frs;rw [List.filterMap_cons,hf];exact yaJ);obtain ⟨sl,e⟩:=I.base.slot L o ho (I.ok.frf L hL) hL fun z=>I.ok.exfs L z hL
     exact ⟨hk,⟨L,_,hf,hn,e,hd⟩,ih (fun b hb=>hs b (by unfold frs;rw [List.filterMap_cons,hf];exact yaM _ hb)) hr⟩
 exact all X.outer (fun _ hb=>hb) I.ok.funs
theorem Inv.stack (I:Inv X pins σ H s):s.heap.FunFrames X.base X.stack:=by
 rcases I.ok.stk with e | ⟨e,hf⟩
 · rw [e];exact I.funs
 · rw [e]
   obtain ⟨m,hn,_⟩:=I.loc;refine .cons (by rw [I.ok.kind];decide) hf hn ?_ I.funs;exact Heap.get?_none_of_le (yaN I.ok.bsz I.ok.above)
theorem Inv.stkSub (I:Inv X pins σ H s):∀ b∈frs X.stack,b∈X.env.locals::X.fs:=fun b hb=>by
 rcases I.ok.stk with e | ⟨e,hf⟩
 · rw [e] at hb;exact yaM _ hb
 · rw [e] at hb
   unfold frs at hb;rw [List.filterMap_cons,hf] at hb;exact hb
theorem Inv.stkFree (I:Inv X pins σ H s):∀ b∈frs X.stack,H b=none:=fun b hb=>by
 rcases yaj.mp (I.stkSub b hb) with e | hb
 · rw [e];exact I.free
 · obtain ⟨_,o,ho,_⟩:=I.ok.funs.mem hb
   exact I.base.free b o ho (I.ok.frf b hb) fun z=>I.ok.exfs b z hb
theorem Inv.step {g':Array GenState}{d':Drawn}{ch:List Addr}(I:Inv X pins σ H s)
   (hch:∀ b∈ch,(b∈X.ex∨X.s₀.heap.objs.size≤b)∧b≠X.env.locals∧(∀ x c,X.env.cells.lookup x=some c→c≠b)∧∀ p∈X.pn++pins,p.1≠b)
   (keep:∀ b o,b≠X.env.locals→b∉X.fs→b∉ch→s.heap.get? b=some o→H b=none→h'.get? b=some o)
   (slot:∀ b o,b≠X.env.locals→b∈X.fs→b∉ch→s.heap.get? b=some o→H b=none→∃ sl,h'.get? b=some { o with slots:=sl }) (free:∀ b o,b∉ch→s.heap.get? b=some o→H b=none→H' b=none)
   (there:∀ b o,b∉ch→s.heap.get? b=some o→∃ o',h'.get? b=some o')
   (tups:∀ b xs,H b=some (.tup xs)→H' b=some (.tup xs)) (frzs:∀ b o u,H b=some (.frz o u)→H' b=some (.frz o u)) (tbls:∀ b ps,H b=some (.tbl ps)→∃ more,H' b=some (.tbl (ps++more)))
   (ns:∀ m,s.heap.Ns X.env.locals m→h'.Ns X.env.locals m) (hok:HOk X.prog X.w H' h') (hg:AllBare g') :
   Inv X pins σ H' { s with heap:=h',gens:=g',drawn:=d',toks:=t' }:=by
 have neL:∀ b o,X.s₀.heap.get? b=some o→b≠X.env.locals:=fun b o e=>yaA (yax (zad e) I.ok.above)
 have neC:∀ b o,X.s₀.heap.get? b=some o→b∉X.ex→b∉ch:=fun b o e hx hb=>by
   rcases (hch b hb).1 with z | z
   · exact hx z
   · exact absurd (yax (zad e) z) (ybt _)
 have cellK:∀ x c,X.env.cells.lookup x=some c→∀ v,s.heap.IsCell c v→h'.IsCell c v:=fun x c e v ⟨o,ho,hd⟩=>by
   have nch:c∉ch:=fun z=>(hch c z).2.2.1 x c e rfl
   by_cases hc:c∈X.fs
   · obtain ⟨sl,q⟩:=slot c o (I.cne x c e) hc nch ho (I.freeC x c e)
     exact ⟨_,q,hd⟩
   · exact ⟨o,keep c o (I.cne x c e) hc nch ho (I.freeC x c e),hd⟩
 refine ⟨I.ok,I.os,hg,⟨fun b o e n hb hx=>?_,fun b o e n hb hx=>?_,fun b o e n hx=>?_,fun b o e hx=>?_,fun b xs e=>tups b xs (I.base.tups b xs e),fun b o xs e=>frzs b o xs (I.base.frzs b o xs e),fun b ps e=>?_⟩,?_,fun x c e=>?_,?_,fun x c e=>?_,fun p hp=>?_,hok,I.len⟩
 · exact keep b o (neL b o e) hb (neC b o e hx) (I.base.keep b o e n hb hx) (I.base.free b o e n hx)
 · obtain ⟨sl,e1⟩:=I.base.slot b o e n hb hx
   obtain ⟨sl',e2⟩:=slot b _ (neL b o e) hb (neC b o e hx) e1 (I.base.free b o e n hx);exact ⟨sl',e2⟩
 · obtain ⟨o',e1⟩:=I.base.there b o e hx
   exact free b o' (neC b o e hx) e1 (I.base.free b o e n hx)
 · obtain ⟨o',e1⟩:=I.base.there b o e hx
   exact there b o' (neC b o e hx) e1
 · obtain ⟨m1,e1⟩:=I.base.tbls b ps e
   obtain ⟨m2,e2⟩:=tbls b _ e1;exact ⟨m1++m2,by rw [e2,Array.append_assoc]⟩
 · obtain ⟨m,hn,hl⟩:=I.loc
   refine ⟨m,ns m hn,fun i x v e1 e2 e3=>?_⟩;obtain ⟨u,r,l⟩:=hl i x v e1 e2 e3;refine ⟨u,r,?_⟩;rcases l with l | ⟨k,c,e,z⟩
   · exact .inl l
   · exact .inr ⟨k,c,e,cellK x c e _ z⟩
 · obtain ⟨v,z⟩:=I.cell x c e
   exact ⟨v,cellK x c e v z⟩
 · obtain ⟨m,⟨o,_,_,ho,_⟩,_⟩:=I.loc
   exact free _ o (fun z=>(hch _ z).2.1 rfl) ho I.free
 · obtain ⟨v,o,ho,hd⟩:=I.cell x c e
   exact free c o (fun z=>(hch c z).2.2.1 x c e rfl) ho (I.freeC x c e)
 · obtain ⟨e,n,ne,nf,d⟩:=I.pin p hp
   have nch:p.1∉ch:=fun z=>(hch p.1 z).2.2.2 p hp rfl
   exact ⟨keep p.1 p.2 ne nf nch e n,free p.1 p.2 nch e n,ne,nf,d⟩
theorem Inv.un (I:Inv X pins σ H s)(u:Un X.fs [] H H' s.heap h')(hok:HOk X.prog X.w H' h'):Inv X pins σ H' { s with heap:=h',toks:=t' }:=by
 obtain ⟨m,⟨o,es,ep,ho,r⟩,_⟩:=id I.loc;obtain ⟨sl,hL⟩:=u.any ho I.free (by simp);exact I.step (g':=s.gens) (d':=s.drawn) (ch:=[]) (fun _ z=>nomatch z) (fun b o _ hb _ e n=>u.keep b o e n hb (by simp)) (fun b o _ hb _ e n=>u.slot b o e n hb (by simp)) (fun b o _ e n=>u.free b o e n (by simp)) (fun b o _ e=>u.there b o e (by simp)) u.tups u.frzs u.tbls (fun m' hm=>by
   obtain ⟨o',es',ep',ho',r'⟩:=hm;rw [ho] at ho';cases ho';exact ⟨_,es',ep',hL,r'⟩) hok I.bare
theorem Inv.call {g':Array GenState}{d':Drawn}{ch:List Addr}(I:Inv X pins σ H s)(u:Un (frs X.stack) ch H H' s.heap h')(hok:HOk X.prog X.w H' h')(hg:AllBare g')
   (hch:∀ b∈ch,(b∈X.ex∨X.s₀.heap.objs.size≤b)∧b≠X.env.locals∧(∀ x c,X.env.cells.lookup x=some c→c≠b)∧∀ p∈X.pn++pins,p.1≠b) :
   Inv X pins σ H' { s with heap:=h',gens:=g',drawn:=d',toks:=t' }:=by
 obtain ⟨m,⟨o,es,ep,ho,r⟩,_⟩:=id I.loc;obtain ⟨sl,hL⟩:=u.any ho I.free fun z=>(hch _ z).2.1 rfl
 exact I.step (ch:=ch) hch (fun b o hL hb hc e n=>u.keep b o e n (fun z=>(yaj.mp (I.stkSub b z)).elim hL hb) hc) (fun b o _ _ hc e n=>u.any e n hc) (fun b o hc e n=>u.free b o e n hc) (fun b o hc e=>u.there b o e hc) u.tups u.frzs u.tbls (fun m' hm=>by
   obtain ⟨o',es',ep',ho',r'⟩:=hm;rw [ho] at ho';cases ho';exact ⟨_,es',ep',hL,r'⟩) hok hg
theorem Inv.turned {it:Addr}(I:Inv X pins σ H s)(k:∀ b o,b≠it→s.heap.get? b=some o→h'.get? b=some o)(hn:H it=none)(hL:it≠X.env.locals)
   (h1:it∈X.ex∨X.s₀.heap.objs.size≤it) (h2:∀ x c,X.env.cells.lookup x=some c→c≠it) (h3:∀ p∈X.pn++pins,p.1≠it):Inv X pins σ H { s with heap:=h',toks:=t' }:=by
 have nit:∀ b u,H b=some u→b≠it:=fun b u e z=>by rw [z,hn] at e;cases e
 refine I.step (g':=s.gens) (d':=s.drawn) (ch:=[it]) (fun b hb=>?_) (fun b o _ _ hc e _=>k b o (fun z=>hc (by simp [z])) e) (fun b o _ _ hc e _=>⟨o.slots,k b o (fun z=>hc (by simp [z])) e⟩) (fun _ _ _ _ n=>n)
   (fun b o hc e=>⟨o,k b o (fun z=>hc (by simp [z])) e⟩) (fun _ _ e=>e) (fun _ _ _ e=>e) (fun b ps e=>⟨#[],by rw [e];simp⟩) (fun m hm=>?_) (fun b u e=>?_) I.bare
 · have e:b=it:=by simpa using hb
   subst e;exact ⟨h1,hL,h2,h3⟩
 · obtain ⟨o,es,ep,ho,r⟩:=hm
   exact ⟨o,es,ep,k _ o (Ne.symm hL) ho,r⟩
 · refine (I.hok b u e).stay (fun c v hc q=>k c v ?_ q) (fun _ q=>q) fun _ _ q=>q
   rcases hc with z | z
   · rw [z];exact nit b u e
   · exact nit c _ z
theorem Inv.tok (I:Inv X pins σ H s)(t:Nat):Inv X pins σ H { s with toks:=t }:=I.un (h':=s.heap) (t':=t) Un.refl I.hok
theorem Inv.kept (I:Inv X pins σ H s)(k:∀ b u,s.heap.get? b=some u→h'.get? b=some u):Inv X pins σ H { s with heap:=h',toks:=t' }:=I.un (Un.kept k) (I.hok.kept k)
theorem Inv.laid {a:Addr}{o:HO}(I:Inv X pins σ H s)(k:∀ b u,s.heap.get? b=some u→h'.get? b=some u)(hp:s.heap.objs.size≤a)(new:ObjOk X.prog X.w (upd H a o) h' a o) :
   Inv X pins σ (upd H a o) { s with heap:=h',toks:=t' }:=I.un (Un.laid k hp (I.hok.fresh hp)) (I.hok.laid k hp new)
theorem Inv.write {x e:Addr}{o:HO}(I:Inv X pins σ H s)(mu:Mut (H x))(he:e=x∨H e=some (.own x))(k:∀ b u,b≠e→s.heap.get? b=some u→h'.get? b=some u)(heo:∃ u,h'.get? e=some u)
   (new:ObjOk X.prog X.w (upd H x o) h' x o):Inv X pins σ (upd H x o) { s with heap:=h',toks:=t' }:=I.un (Un.write mu he k heo) (I.hok.write mu he k heo new)
theorem Inv.weak {σ':List (Option V)}(I:Inv X pins σ H s)(hl:σ'.length=σ.length)(w:∀ (i:Nat) v,σ'[i]?=some (some v)→σ[i]?=some (some v)):Inv X pins σ' H s :=
 ⟨I.ok,I.os,I.bare,I.base,let ⟨m,hn,hl'⟩:=I.loc;⟨m,hn,fun i x v e1 e2 e3=>hl' i x v e1 (w i v e2) e3⟩,I.cell,I.free,I.freeC,I.pin,I.hok,hl.trans I.len⟩
theorem Inv.pins_of {pins':List (Addr × Obj)}(I:Inv X pins σ H s)(h:∀ p∈pins',s.heap.get? p.1=some p.2∧H p.1=none∧p.1≠X.env.locals∧p.1∉X.fs∧∀ v,p.2.data≠.cell v):Inv X pins' σ H s :=
 ⟨I.ok,I.os,I.bare,I.base,I.loc,I.cell,I.free,I.freeC,fun p hp=>(yai.mp hp).elim (fun z=>I.pin p (yaZ _ z)) (h p),I.hok,I.len⟩
theorem ZgU (hN:N.Nodup){i j:Nat}{x:Str}(a:N[i]?=some x)(b:N[j]?=some x):i=j:=by obtain ⟨h1,e1⟩:=yaT.mp a;obtain ⟨h2,e2⟩:=yaT.mp b;exact (List.getElem_inj hN).mp (e1.trans e2.symm)
theorem Zi5 {M:Model} {i:Nat} {x:Str} {v:V} {u:Value} {Q:Unit→Shared→Prop} (I:Inv X pins σ H s) (hN:X.N.Nodup) (hi:X.N[i]?=some x) (hx:Loc X.env.scope x) (r:RelV v u)
   (h:∀ s',Inv X pins (σ.set i (some v)) H s'→(∃ a,Heap.SameBut a s.heap s'.heap∧(a=X.env.locals∨X.env.cells.lookup x=some a))→Q () s') (hf:X.fn x=true∨X.env.scope.names.lookup x=some .local:=by first | exact .inl rfl | exact .inr rfl | assumption):wpAny M A (storeName X.env x u) Q E s:=by
 obtain ⟨m,hn,hl⟩:=id I.loc;have hcls:(X.env.scope.kind==.class||(X.env.scope.kind==.module&&X.env.locals != X.env.globals))=false:=by rw [I.ok.kind];rfl
 have hiσ:i<σ.length:=by rw [I.len];exact (yaT.mp hi).1
 have cne:=I.cne;have tracked:∀ {a:Addr} {h':Heap},(∃ o,s.heap.get? a=some o∧H a=none)→Heap.SameBut a s.heap h'→HOk X.prog X.w H h':=fun {a h'} ha hs b ob e=>by
   obtain ⟨_,_,hfree⟩:=ha;refine (I.hok b ob e).stay (fun c w' hc q=>(hs.2 c ?_).trans q) (fun _ q=>q) fun _ _ q=>q
   rintro rfl;rcases hc with rfl | hc
   · rw [hfree] at e;cases e
   · rw [hfree] at hc;cases hc
 rcases hx with hk | hk
 · refine wpAny_storeName_local hk hn (fun h' hn' hs=>?_) hcls
   obtain ⟨oL,_,_,hoL,_⟩:=id hn;refine h _ ⟨I.ok,I.os,I.bare,⟨fun b o e n hb hx=>?_,fun b o e n hb hx=>?_,I.base.free,fun b o e hx=>?_,I.base.tups,I.base.frzs,I.base.tbls⟩,⟨_,hn',fun j y v' e1 e2 e3=>?_⟩,fun y c e=>?_,I.free,I.freeC,fun p hp=>?_,tracked ⟨oL,hoL,I.free⟩ hs,by simpa using I.len⟩ ⟨_,hs,.inl rfl⟩
   · exact (hs.2 b (yaA (yax (zad e) I.ok.above))).trans (I.base.keep b o e n hb hx)
   · obtain ⟨sl,e1⟩:=I.base.slot b o e n hb hx
     exact ⟨sl,(hs.2 b (yaA (yax (zad e) I.ok.above))).trans e1⟩
   · obtain ⟨o',e1⟩:=I.base.there b o e hx
     exact ⟨o',(hs.2 b (yaA (yax (zad e) I.ok.above))).trans e1⟩
   · by_cases hj:j=i
     · subst hj
       rw [hi] at e1;cases e1;rw [List.getElem?_set_self hiσ] at e2;cases e2;exact ⟨u,r,.inl ⟨hk,by simp⟩⟩
     · rw [List.getElem?_set_ne (Ne.symm hj)] at e2
       obtain ⟨u',r',q⟩:=hl j y v' e1 e2 e3;refine ⟨u',r',?_⟩;rcases q with ⟨k,e⟩ | ⟨k,c,e,z⟩
       · refine .inl ⟨k,?_⟩
         have:y≠x:=fun e=>hj (ZgU hN e1 (e ▸ hi))
         simp [this,e]
       · exact .inr ⟨k,c,e,z.sameBut hs (cne y c e)⟩
   · obtain ⟨w',z⟩:=I.cell y c e
     exact ⟨w',z.sameBut hs (cne y c e)⟩
   · obtain ⟨e,n,ne,nf,d⟩:=I.pin p hp
     exact ⟨(hs.2 p.1 ne).trans e,n,ne,nf,d⟩
 · have hfn:X.fn x=true:=by
     rcases hf with z | z
     · exact z
     · rw [z] at hk;cases hk
   obtain ⟨c,hc⟩:=I.ok.has x (.inl hk);obtain ⟨w',z⟩:=I.cell x c hc;refine wpAny_storeName_cell I.ok.kind hk hc z (fun h' hc' hs=>?_);obtain ⟨oc,hoc,hocd⟩:=id z;refine h { s with heap:=h' } ⟨I.ok,I.os,I.bare,⟨fun b o e n hb hx=>?_,fun b o e n hb hx=>?_,I.base.free,fun b o e hx=>?_,I.base.tups,I.base.frzs,I.base.tbls⟩,⟨m,hn.sameBut hs (Ne.symm (cne x c hc)),fun j y v' e1 e2 e3=>?_⟩,fun y c' e=>?_,I.free,I.freeC,fun p hp=>?_,tracked ⟨oc,hoc,I.freeC x c hc⟩ hs,by simpa using I.len⟩ ⟨c,hs,.inr hc⟩
   · exact (hs.2 b (yaA (yax (zad e) (I.ok.cab x c hfn hc)))).trans (I.base.keep b o e n hb hx)
   · obtain ⟨sl,e1⟩:=I.base.slot b o e n hb hx
     exact ⟨sl,(hs.2 b (yaA (yax (zad e) (I.ok.cab x c hfn hc)))).trans e1⟩
   · obtain ⟨o',e1⟩:=I.base.there b o e hx
     exact ⟨o',(hs.2 b (yaA (yax (zad e) (I.ok.cab x c hfn hc)))).trans e1⟩
   · by_cases hj:j=i
     · subst hj
       rw [hi] at e1;cases e1;rw [List.getElem?_set_self hiσ] at e2;cases e2;exact ⟨u,r,.inr ⟨.inl hk,c,hc,hc'⟩⟩
     · rw [List.getElem?_set_ne (Ne.symm hj)] at e2
       obtain ⟨u',r',q⟩:=hl j y v' e1 e2 e3;refine ⟨u',r',?_⟩;rcases q with q | ⟨k,c',e,z'⟩
       · exact .inl q
       · refine .inr ⟨k,c',e,z'.sameBut hs ?_⟩
         rintro rfl;exact hj (ZgU hN e1 (I.ok.inj _ _ _ e hc ▸ hi))
   · by_cases hcc:c'=c
     · subst hcc;exact ⟨_,hc'⟩
     · obtain ⟨w2,z2⟩:=I.cell y c' e
       exact ⟨w2,z2.sameBut hs hcc⟩
   · obtain ⟨e,n,ne,nf,d⟩:=I.pin p hp
     refine ⟨(hs.2 p.1 ?_).trans e,n,ne,nf,d⟩;intro q;rw [q,hoc] at e;have q':oc=p.2:=Option.some.inj e;exact d w' (by rw [← q'];exact hocd)
theorem ZgI {M:Model}{i:Nat}{x:Str}{v:V}{u:Value}{Q:Unit→Shared→Prop}(I:Inv X pins σ H s)(hN:X.N.Nodup)(hi:X.N[i]?=some x)(hx:Loc X.env.scope x)(r:RelV v u)
   (h:∀ s',Inv X pins (σ.set i (some v)) H s'→Q () s') (hf:X.fn x=true∨X.env.scope.names.lookup x=some .local:=by first | exact .inl rfl | exact .inr rfl | assumption):wpAny M A (storeName X.env x u) Q E s :=
 Zi5 I hN hi hx r (fun s' I' _=>h s' I') hf
theorem Inv.call' {s':Shared}{ch:List Addr}(I:Inv X pins σ H s)(ho:s'.os=s.os)(u:Un (frs X.stack) ch H H' s.heap s'.heap)(hok:HOk X.prog X.w H' s'.heap)(hg:AllBare s'.gens)
   (hch:∀ b∈ch,(b∈X.ex∨X.s₀.heap.objs.size≤b)∧b≠X.env.locals∧(∀ x c,X.env.cells.lookup x=some c→c≠b)∧∀ p∈X.pn++pins,p.1≠b):Inv X pins σ H' s':=by
 obtain ⟨h',g',d',t',o'⟩:=s';have e:o'=s.os:=ho;subst e;exact I.call (g':=g') (t':=t') (d':=d') u hok hg hch
end
abbrev XK:=Value→Option Addr→Hp→Prop
abbrev St:=List (Option V)
abbrev VK:=V→Hp→Prop
abbrev TE:=St→Hp→VK→Prop
abbrev TT:=St→Hp→(Bool→Hp→Prop)→Prop
abbrev TA:=St→Hp→(List V→Hp→Prop)→Prop
structure Ends where
 nx:St→Hp→Prop
 rt:VK
 bk:St→Hp→Prop:=fun _ _=>False
 ct:St→Hp→Prop:=fun _ _=>False
abbrev TS:=Ends→St→Hp→Prop
def EP (X:Cx)(pins:List (Addr × Obj))(σ:St)(Q:VK)(u:Value)(s':Shared):Prop:=∃ v H',Inv X pins σ H' s'∧RelV v u∧Q v H'
def TP (X:Cx)(pins:List (Addr × Obj))(σ:St)(Q:Bool→Hp→Prop)(b:Bool)(s':Shared):Prop:=∃ H',Inv X pins σ H' s'∧Q b H'
def AP (X:Cx)(pins:List (Addr × Obj))(σ:St)(Q:List V→Hp→Prop)(us:List Value)(s':Shared):Prop:=∃ vs H',Inv X pins σ H' s'∧Vals vs us∧Q vs H'
def SP (X:Cx)(pins:List (Addr × Obj))(D:Ends)(f:Flow)(s':Shared):Prop :=
 match f with
 | .next=>∃ σ' H',Inv X pins σ' H' s'∧D.nx σ' H'
 | .brk=>∃ σ' H',Inv X pins σ' H' s'∧D.bk σ' H'
 | .cont=>∃ σ' H',Inv X pins σ' H' s'∧D.ct σ' H'
 | .ret u=>∃ v σ' H',Inv X pins σ' H' s'∧RelV v u∧D.rt v H'
def PE (X:Cx)(e:Expr)(t:TE):Prop :=
 ∀ (pins:List (Addr × Obj)) (s:Shared) (σ:St) (H:Hp) (Q:VK),Inv X pins σ H s→t σ H Q→wpAny (model X.prog X.w) X.A (eval e X.env) (EP X pins σ Q) X.xe s
def PT (X:Cx)(e:Expr)(t:TT):Prop :=
 ∀ (pins:List (Addr × Obj)) (s:Shared) (σ:St) (H:Hp) (Q:Bool→Hp→Prop),Inv X pins σ H s→t σ H Q→wpAny (model X.prog X.w) X.A (isTrue e X.env (eval e X.env)) (TP X pins σ Q) X.xe s
def PW (X:Cx)(e:Expr)(t:TT):Prop :=
 ∀ (whole:Sem Value) (pins:List (Addr × Obj)) (s:Shared) (σ:St) (H:Hp) (Q:Bool→Hp→Prop),Inv X pins σ H s→t σ H Q→wpAny (model X.prog X.w) X.A (isTrue e X.env whole) (TP X pins σ Q) X.xe s
theorem PW.pt {X:Cx}{e:Expr}{t:TT}(h:PW X e t):PT X e t:=h _
def PA (X:Cx)(es:List Expr)(t:TA):Prop :=
 ∀ (pos:Pos) (pins:List (Addr × Obj)) (s:Shared) (σ:St) (H:Hp) (Q:List V→Hp→Prop),Inv X pins σ H s→t σ H Q→wpAny (model X.prog X.w) X.A (spliced (backTo pos (starEach es X.env))) (AP X pins σ Q) X.xe s
def PS (X:Cx)(st:Stmt)(t:TS):Prop :=
 ∀ (pins:List (Addr × Obj)) (s:Shared) (σ:St) (H:Hp) (D:Ends),Inv X pins σ H s→t D σ H→wpAny (model X.prog X.w) X.A (exec st X.env) (SP X pins D) X.xe s
def PSs (X:Cx)(st:List Stmt)(t:TS):Prop :=
 ∀ (pins:List (Addr × Obj)) (s:Shared) (σ:St) (H:Hp) (D:Ends),Inv X pins σ H s→t D σ H→wpAny (model X.prog X.w) X.A (execs st X.env) (SP X pins D) X.xe s
theorem thn {α:Type}{t:Sem α}{Q Q':α→Shared→Prop}{M:Model}(h:wpAny M A t Q E s)(hQ:∀ a s,Q a s→Q' a s):wpAny M A t Q' E s:=zaF h hQ fun _ _ x=>x
section
variable {X:Cx}
def tVar (i:Nat):TE:=fun σ H Q=>∃ v,σ[i]?=some (some v)∧Q v H
def tC (v:V):TE:=fun _ H Q=>Q v H
theorem pe_var {i:Nat}{x:Str}{pos:Pos}(hN:X.N[i]?=some x)(hv:Vis X.env.scope x)(hd:(x==("__debug__":Str))=false:=by decide)(hcd:(x==("__classdict__":Str))=false:=by decide):PE X (.Name x pos) (tVar i):=by
 intro pins s σ H Q I h;obtain ⟨v,e,h⟩:=h;obtain ⟨m,hn,hl⟩:=I.loc;obtain ⟨u,r,l⟩:=hl i x v hN e hv;have fin:EP X pins σ Q u s:=⟨v,H,I,r,h⟩
 rcases l with ⟨hk,hm⟩ | ⟨hk,c,hc,hcell⟩
 · exact wpAny_Name (wpAny_loadName_local I.ok.kind hk hn hm fin) hd
 · rcases hk with hk | hk
   · exact wpAny_Name (wpAny_loadName_cell I.ok.kind hk hc hcell fin) hd
   · exact wpAny_Name (wpAny_loadName_free I.ok.kind hk hc hcell fin hcd) hd
theorem Zad {i j pos}:PE X (.Constant (.int i) j pos) (tC (.int i)):=fun _ _ _ H _ I h=>wpAny_Constant_int ⟨.int i,H,I.tok _,⟨_,rfl⟩,h⟩
theorem ZcL {b j pos}:PE X (.Constant (.bool b) j pos) (tC (.bl b)):=fun _ _ _ H _ I h=>Constant_bool ⟨.bl b,H,I,rfl,h⟩
theorem Zbv {j pos}:PE X (.Constant .none j pos) (tC .non):=fun _ _ _ H _ I h=>Constant_none ⟨.non,H,I,rfl,h⟩
theorem ZdX {x j pos}:PE X (.Constant (.str x) j pos) (tC (.str x)):=fun _ _ _ H _ I h=>Calls.Constant_str ⟨.str x,H,I.tok _,⟨_,rfl⟩,h⟩
def Gl (X:Cx)(x:Str):Prop:=X.env.kindOf x=some .globalImplicit
theorem Zdw {σ:St}{H:Hp}{x:Str}{u:Value}{pos:Pos}(I:Inv X pins σ H s)(hg:Gl X x)(hm:X.mg x=some u)(h:Q u s)
   (hd:(x==("__debug__":Str))=false:=by decide):wpAny (model X.prog X.w) X.A (eval (.Name x pos) X.env) Q E s :=
 Calls.Name_function_global I.ok.kind hg (Calls.loadGlobal_global (by rw [I.ok.glob];exact I.mod.glob.keeps I.bk) hm h) hd
theorem Zcb {σ:St}{H:Hp}{x:Str}{u:Value}{pos:Pos}(I:Inv X pins σ H s)(hg:Gl X x)(hm:X.mg x=none)(hv:bootBuiltins x=some u)(h:Q u s)
   (hn:x≠"__name__":=by decide) (hd:(x==("__debug__":Str))=false:=by decide):wpAny (model X.prog X.w) X.A (eval (.Name x pos) X.env) Q E s:=by
 obtain ⟨mb,h1,h2⟩:=I.mod.blt;exact Calls.Name_function_global I.ok.kind hg (Calls.loadGlobal_builtin (by rw [I.ok.glob];exact I.mod.glob.keeps I.bk) hm (by rw [I.ok.blt];exact h1.keeps I.bk) ((h2 x hn).trans hv) h) hd
theorem ZiP {x:Str}{v:V}{u:Value}{pos:Pos}(hg:Gl X x)(hm:X.mg x=some u)(r:RelV v u)(hd:(x==("__debug__":Str))=false:=by decide):PE X (.Name x pos) (tC v) :=
 fun _ _ _ H _ I h=>Zdw I hg hm ⟨v,H,I,r,h⟩ hd
theorem Zel {x:Str}{v:V}{u:Value}{pos:Pos}(hg:Gl X x)(hm:X.mg x=none)(hv:bootBuiltins x=some u)(r:RelV v u)(hn:x≠"__name__":=by decide)(hd:(x==("__debug__":Str))=false:=by decide):PE X (.Name x pos) (tC v) :=
 fun _ _ _ H _ I h=>Zcb I hg hm hv ⟨v,H,I,r,h⟩ hn hd
variable {a b:Expr}{ta tb:TE}{pos:Pos}
def tB (t:TE):TT:=fun σ H Q=>t σ H fun x H1=>∃ c,x=.bl c∧Q c H1
theorem Zbx {e:Expr}{t:TE}(h:PE X e t)(he:∀ whole,isTrue e X.env whole=(do let v ← whole;standAt e.pos;holding [v] (truthy v)):=by intro _;rfl):PT X e (tB t):=by intro pins s σ H Q I hw;refine isTrue_plain (thn (h pins s σ H _ I hw) fun v s1 ⟨x,H1,I1,r1,q1⟩=>?_) (he _);obtain ⟨d,rfl,q⟩:=q1;cases r1;exact zaO ⟨H1,I1,q⟩
variable {tA tB':TT}{rest:List Expr}
def tAnd (t u:TT):TT:=fun σ H Q=>t σ H fun c H1=>if c=true then u σ H1 Q else Q false H1
def tOr (t u:TT):TT:=fun σ H Q=>t σ H fun c H1=>if c=true then Q true H1 else u σ H1 Q
def tNot (t:TT):TT:=fun σ H Q=>t σ H fun c H1=>Q (!c) H1
theorem Zf6 (ha:PT X a tA):PW X (.BoolOp .And [a] pos) tA:=by
 intro wh pins s σ H Q I h;refine isTrue_and (thn (ha pins s σ H Q I h) fun c s1 e=>?_);cases c with
 | true=>exact isTrue_and_nil e
 | false=>exact e
theorem ZdY (ha:PT X a tA):PW X (.BoolOp .Or [a] pos) tA:=by
 intro wh pins s σ H Q I h;refine isTrue_or (thn (ha pins s σ H Q I h) fun c s1 e=>?_);cases c with
 | false=>exact isTrue_or_nil e
 | true=>exact e
theorem Zig (ha:PT X a tA)(hb:PW X (.BoolOp .And (b::rest) pos) tB'):PW X (.BoolOp .And (a::b::rest) pos) (tAnd tA tB'):=by
 intro wh pins s σ H Q I h;refine isTrue_and (thn (ha pins s σ H _ I h) fun c s1 ⟨H1,I1,q1⟩=>?_);cases c with
 | true=>exact hb wh pins s1 σ H1 Q I1 q1
 | false=>exact ⟨H1,I1,q1⟩
theorem Zew (ha:PT X a tA)(hb:PW X (.BoolOp .Or (b::rest) pos) tB'):PW X (.BoolOp .Or (a::b::rest) pos) (tOr tA tB'):=by
 intro wh pins s σ H Q I h;refine isTrue_or (thn (ha pins s σ H _ I h) fun c s1 ⟨H1,I1,q1⟩=>?_);cases c with
 | true=>exact ⟨H1,I1,q1⟩
 | false=>exact hb wh pins s1 σ H1 Q I1 q1
theorem ZcS (ha:PT X a tA):PT X (.UnaryOp .Not a pos) (tNot tA):=by intro pins s σ H Q I h;exact isTrue_not (ha pins s σ H (fun c H1=>Q (!c) H1) I h)
def tAndV (ta tb:TE):TE:=fun σ H Q=>ta σ H fun x H1=>∃ c,x=.bl c∧if c=true then tb σ H1 Q else Q (.bl false) H1
def tNotV (ta:TE):TE:=fun σ H Q=>ta σ H fun x H1=>∃ c,x=.bl c∧Q (.bl (!c)) H1
theorem ZcO {op}{t:TE}(h:PE X a t):PE X (.BoolOp op [a] pos) t:=fun pins s σ H Q I hw=>BoolOp_one (h pins s σ H Q I hw)
theorem ZcR (ha:PE X a ta)(hb:PE X (.BoolOp .And (b::rest) pos) tb):PE X (.BoolOp .And (a::b::rest) pos) (tAndV ta tb):=by
 intro pins s σ H Q I h;refine BoolOp_and (thn (ha pins s σ H _ I h) fun v s1 ⟨x,H1,I1,r1,q1⟩=>?_);obtain ⟨c,rfl,q1⟩:=q1;cases r1;refine zaO ?_;cases c with
 | true=>exact hb pins s1 σ H1 Q I1 q1
 | false=>exact ⟨.bl false,H1,I1,rfl,q1⟩
theorem pe_not (ha:PE X a ta):PE X (.UnaryOp .Not a pos) (tNotV ta):=by intro pins s σ H Q I h;refine UnaryOp_ (thn (ha pins s σ H _ I h) fun v s1 ⟨x,H1,I1,r1,q1⟩=>?_);obtain ⟨c,rfl,q1⟩:=q1;cases r1;exact not_of (zaO ⟨.bl (!c),H1,I1,rfl,q1⟩)
def tIf (t:TT)(ta tb:TE):TE:=fun σ H Q=>t σ H fun c H1=>if c=true then ta σ H1 Q else tb σ H1 Q
theorem Zbe {c:Expr}(hc:PT X c tA)(ha:PE X a ta)(hb:PE X b tb):PE X (.IfExp c a b pos) (tIf tA ta tb):=by
 intro pins s σ H Q I h;refine wpAny_IfExp (thn (hc pins s σ H _ I h) fun d s1 ⟨H1,I1,q1⟩=>?_);cases d with
 | true=>exact ha pins s1 σ H1 Q I1 q1
 | false=>exact hb pins s1 σ H1 Q I1 q1
end
def SqL (K:ZFr) (H:Hp) (a:Addr) (xs:List V):Prop :=
 Rd H a (.lst xs) ∨
   ∃ (o:Obj) (its:Array Value) (n:Nat),K.lookup a=some o∧o.cls=.type "list"∧o.dict=none∧o.data=.seq its n∧its.size≤sizeLine∧Vals xs its.toList
def SqT (K:ZFr) (H:Hp) (a:Addr) (xs:List V):Prop :=
 Rd H a (.tup xs) ∨
   ∃ (o:Obj) (its:Array Value) (n:Nat),K.lookup a=some o∧o.cls=.type "tuple"∧o.data=.seq its n∧its.size≤sizeLine∧Vals xs its.toList
def absV:Value→Option V
 | .none=>some .non
 | .bool b=>some (.bl b)
 | .int i _=>some (.int i)
 | .str x _=>some (.str x)
 | .bytes b _=>some (.byt b)
 | .float b _=>some (.flt b)
 | .ref a=>some (.ref a)
 | .type n=>some (.ty n)
 | _=>none
theorem RelV.abs {x:V}{u:Value}(r:RelV x u):absV u=some x:=by
 cases x with
 | non=>cases r;rfl
 | bl _=>cases r;rfl
 | int _=>obtain ⟨t,rfl⟩:=r;rfl
 | str _=>obtain ⟨t,rfl⟩:=r;rfl
 | byt _=>obtain ⟨t,rfl⟩:=r;rfl
 | flt _=>obtain ⟨t,rfl⟩:=r;rfl
 | ref _=>cases r;rfl
 | ty _=>cases r;rfl
theorem RelV.inj {x y:V}{u:Value}(r:RelV x u)(q:RelV y u):x=y:=Option.some.inj (r.abs.symm.trans q.abs)
theorem Vals.inj:∀ {xs ys:List V} {us:List Value},Vals xs us→Vals ys us→xs=ys
 | _,_,_,.nil,.nil=>rfl
 | _,_,_,.cons r t,.cons r' t'=>by rw [r.inj r',Vals.inj t t']
section
variable {X:Cx}{σ:St}{H:Hp}{a:Addr}{xs ys:List V}
theorem SqL.of (h:H a=some (.lst xs)):SqL K H a xs:=.inl (.inl h)
theorem SqT.of (h:H a=some (.tup xs)):SqT K H a xs:=.inl (.inl h)
theorem Inv.list (I:Inv X pins σ H s)(h:SqL X.K H a xs):∃ its:List Value,Vals xs its∧PlainL s.heap a its.toArray∧xs.length≤sizeLine:=by
 rcases h with h | ⟨o,its,n,hk,hc,hd,hs,hz,r⟩
 · obtain ⟨z,its,n,r,e⟩:=h.ok I.hok
   exact ⟨its,r,⟨_,n,e,rfl,rfl,rfl⟩,z⟩
 · refine ⟨its.toList,r,⟨o,n,I.kIn a o hk,hc,hd,by simpa using hs⟩,?_⟩
   have e:=r.length;simp only [yag] at e;omega
theorem Inv.tuple (I:Inv X pins σ H s)(h:SqT X.K H a xs):∃ its:List Value,Vals xs its∧IsTup s.heap a its.toArray∧xs.length≤sizeLine:=by
 rcases h with h | ⟨o,its,n,hk,hc,hs,hz,r⟩
 · obtain ⟨z,its,r,p⟩:=h.ok I.hok
   exact ⟨its,r,p,z⟩
 · refine ⟨its.toList,r,⟨o,I.kIn a o hk,hc,n,by simpa using hs⟩,?_⟩
   have e:=r.length;simp only [yag] at e;omega
theorem Inv.list_inj (I:Inv X pins σ H s)(h:SqL X.K H a xs)(h':SqL X.K H a ys):xs=ys:=by
 obtain ⟨its,r,⟨o,n,e,_,_,d⟩,_⟩:=I.list h;obtain ⟨its',r',⟨o',n',e',_,_,d'⟩,_⟩:=I.list h';rw [e] at e';cases e';rw [d] at d';injection d' with d1 _
 have:its=its':=by simpa using congrArg Array.toList d1
 subst this;exact r.inj r'
theorem Inv.tuple_inj (I:Inv X pins σ H s)(h:SqT X.K H a xs)(h':SqT X.K H a ys):xs=ys:=by
 obtain ⟨its,r,⟨o,e,_,n,d⟩,_⟩:=I.tuple h;obtain ⟨its',r',⟨o',e',_,n',d'⟩,_⟩:=I.tuple h';rw [e] at e';cases e';rw [d] at d';injection d' with d1 _
 have:its=its':=by simpa using congrArg Array.toList d1
 subst this;exact r.inj r'
end
abbrev Cx.wish (X:Cx)(E:Value→Shared→Prop):Cx:={ X with xe:=E }
abbrev Cx.nox (X:Cx):Cx:=X.wish fun _ _=>False
theorem Cx.Ok.wish {X:Cx}(ok:X.Ok)(E:Value→Shared→Prop):(X.wish E).Ok :=
 ⟨ok.mod,ok.kind,ok.glob,ok.blt,ok.above,ok.inj,ok.has,ok.cab,ok.hd,ok.frames,ok.stk,ok.exf,ok.bs,ok.bsz,ok.noex,ok.exfs,ok.funs,ok.frf⟩
theorem Cx.Ok.unwish {X:Cx}(ok:(X.wish E).Ok):X.Ok :=
 ⟨ok.mod,ok.kind,ok.glob,ok.blt,ok.above,ok.inj,ok.has,ok.cab,ok.hd,ok.frames,ok.stk,ok.exf,ok.bs,ok.bsz,ok.noex,ok.exfs,ok.funs,ok.frf⟩
section
variable {X:Cx}{σ:St}{H:Hp}
theorem Inv.wish (I:Inv X pins σ H s)(E:Value→Shared→Prop):Inv (X.wish E) pins σ H s:=⟨I.ok.wish E,I.os,I.bare,I.base,I.loc,I.cell,I.free,I.freeC,I.pin,I.hok,I.len⟩
theorem Inv.unwish (I:Inv (X.wish E) pins σ H s):Inv X pins σ H s:=⟨I.ok.unwish,I.os,I.bare,I.base,I.loc,I.cell,I.free,I.freeC,I.pin,I.hok,I.len⟩
theorem SP.unwish {D:Ends}{f:Flow}{s':Shared}(h:SP (X.wish E) pins D f s'):SP X pins D f s':=by
 cases f with
 | next=>obtain ⟨σ',H',I,q⟩:=h;exact ⟨σ',H',I.unwish,q⟩
 | brk=>obtain ⟨σ',H',I,q⟩:=h;exact ⟨σ',H',I.unwish,q⟩
 | cont=>obtain ⟨σ',H',I,q⟩:=h;exact ⟨σ',H',I.unwish,q⟩
 | ret u=>obtain ⟨v,σ',H',I,r,q⟩:=h;exact ⟨v,σ',H',I.unwish,r,q⟩
theorem PSs.nox {st:List Stmt}{t:TS}(h:PSs X.nox st t):PSs X st t:=fun pins s σ H D I hw =>
 zaF (h pins s σ H D (I.wish _) hw) (fun _ _ q=>q.unwish) fun _ _ z=>False.elim z
end
section
variable {X:Cx}{st:Stmt}{rest:List Stmt}{t u:TS}{e:Expr}{te:TE}{pos:Pos}
def tNext:TS:=fun D σ H=>D.nx σ H
def tSeq (t u:TS):TS:=fun D σ H=>t { D with nx:=u D } σ H
theorem Zao:PSs X [] tNext:=fun _ _ σ H _ I h=>wpAny_execs_nil ⟨σ,H,I,h⟩
theorem Zaf (h1:PS X st t)(h2:PSs X rest u):PSs X (st::rest) (tSeq t u):=by
 intro pins s σ H D I h;refine wpAny_execs_cons (thn (h1 pins s σ H { D with nx:=u D } I h) fun f s1 q=>?_);cases f with
 | next =>
   obtain ⟨σ',H',I',q⟩:=q;exact h2 pins s1 σ' H' D I' q
 | ret v=>exact q
 | brk=>exact q
 | cont=>exact q
theorem Zae (h1:PS X st t):PSs X [st] t:=by
 intro pins s σ H D I h;refine wpAny_execs_cons (thn (h1 pins s σ H D I h) fun f s1 q=>?_);cases f with
 | next=>exact wpAny_execs_nil q
 | ret v=>exact q
 | brk=>exact q
 | cont=>exact q
theorem Inv.quiet {σ:St}{H:Hp}(I:Inv X pins σ H s):interactive X.env=false:=by simp [interactive,I.ok.kind]
def tDrop (te:TE):TS:=fun D σ H=>te σ H fun _ H1=>D.nx σ H1
theorem ZaM (he:PE X e te)(hs:swapsWith e none pos.line X.env=pure false:=by rfl):PS X (.Expr e pos) (tDrop te):=by intro pins s σ H D I h;exact wpAny_Expr_any (thn (he pins s σ H _ I h) fun v s1 ⟨x,H1,I1,r1,q1⟩=>⟨σ,H1,I1,q1⟩) I.quiet hs
def tRet (te:TE):TS:=fun D σ H=>te σ H D.rt
theorem Zak (he:PE X e te):PS X (.Return (some e) pos) (tRet te):=by intro pins s σ H D I h;exact wpAny_Return_some (thn (he pins s σ H _ I h) fun v s1 ⟨x,H1,I1,r1,q1⟩=>⟨x,σ,H1,I1,r1,q1⟩)
def tIfS (c:TT)(t u:TS):TS:=fun D σ H=>c σ H fun b H1=>if b=true then t D σ H1 else u D σ H1
theorem ZaC {c:Expr}{a b:List Stmt}{tc:TT}(hc:PT X c tc)(ha:PSs X a t)(hb:PSs X b u):PS X (.If c a b pos) (tIfS tc t u):=by
 intro pins s σ H D I h;refine wpAny_If (thn (hc pins s σ H _ I h) fun d s1 ⟨H1,I1,q1⟩=>?_);cases d with
 | true=>exact ha pins s1 σ H1 D I1 q1
 | false=>exact hb pins s1 σ H1 D I1 q1
def tNever:TS:=fun _ _ _=>False
theorem Zhk:PS X st tNever:=fun _ _ _ _ _ _ h=>h.elim
end
abbrev TG:=V→St→Hp→(St→Hp→Prop)→Prop
abbrev TGs:=List V→St→Hp→(St→Hp→Prop)→Prop
def PG (X:Cx) (target:Expr) (t:TG):Prop :=
 ∀ (pins:List (Addr × Obj)) (s:Shared) (σ:St) (H:Hp) (v:V) (u:Value) (Q:St→Hp→Prop),Inv X pins σ H s→RelV v u→t v σ H Q →
   wpAny (model X.prog X.w) X.A (assign target X.env u) (fun _ s'=>∃ σ' H',Inv X pins σ' H' s'∧Q σ' H') X.xe s
def PGs (X:Cx) (ts:List Expr) (t:TGs):Prop :=
 ∀ (pins:List (Addr × Obj)) (s:Shared) (σ:St) (H:Hp) (vs:List V) (us:List Value) (Q:St→Hp→Prop),Inv X pins σ H s→Vals vs us→t vs σ H Q →
   wpAny (model X.prog X.w) X.A (assignInOrder ((assignEach ts X.env).map (·.2)) us) (fun _ s'=>∃ σ' H',Inv X pins σ' H' s'∧Q σ' H') X.xe s
abbrev TSet:=V→V→V→Hp→(Hp→Prop)→Prop
def PSet (X:Cx) (t:TSet):Prop :=
 ∀ (pins:List (Addr × Obj)) (s:Shared) (σ:St) (H:Hp) (o i v:V) (ov iv u:Value) (Q:Hp→Prop),Inv X pins σ H s→RelV o ov→RelV i iv→RelV v u→t o i v H Q →
   wpAny (model X.prog X.w) X.A (setItem ov iv u) (fun _ s'=>∃ H',Inv X pins σ H' s'∧Q H') X.xe s
section
variable {X:Cx}{pos:Pos}
def gName (i:Nat):TG:=fun v σ H Q=>Q (σ.set i (some v)) H
theorem ZaS {i:Nat}{x:Str}(hN:X.N.Nodup)(hi:X.N[i]?=some x)(hx:Loc X.env.scope x)(hf:X.fn x=true∨X.env.scope.names.lookup x=some .local:=by first | exact .inl rfl | exact .inr rfl | assumption):PG X (.Name x pos) (gName i):=by intro pins s σ H v u Q I r h;exact wpAny_assign_Name (ZgI I hN hi hx r (fun s' I'=>⟨_,H,I',h⟩) hf)
def gNil:TGs:=fun vs σ H Q=>vs=[]∧Q σ H
def gCons (t:TG)(u:TGs):TGs:=fun vs σ H Q=>∃ v r,vs=v::r∧t v σ H fun σ' H'=>u r σ' H' Q
theorem Zbp:PGs X [] gNil:=by intro pins s σ H vs us Q I r h;obtain ⟨e,h⟩:=h;subst e;cases r;exact assignInOrder_nil ⟨σ,H,I,h⟩
theorem ZaA {e:Expr}{es:List Expr}{t:TG}{u:TGs}(h1:PG X e t)(h2:PGs X es u)
   (hs:(assignEach (e::es) X.env).map (·.2)=assign e X.env::(assignEach es X.env).map (·.2):=by rfl):PGs X (e::es) (gCons t u):=by
 intro pins s σ H vs us Q I r h;obtain ⟨v,vr,e1,h⟩:=h;subst e1;cases r with
 | cons r rr =>
   rw [hs];refine assignInOrder_cons (thn (h1 pins s σ H _ _ _ I r h) fun _ s1 ⟨σ1,H1,I1,q1⟩=>?_);exact h2 pins s1 σ1 H1 _ _ Q I1 rr q1
def gTup (K:ZFr)(n:Nat)(t:TGs):TG:=fun v σ H Q=>∃ a xs,v=.ref a∧SqT K H a xs∧xs.length=n∧t xs σ H Q
theorem pg_tup {es:List Expr}{k:Nat}{t:TGs}{n:Nat}(hc:X.calm=true)(h:PGs X es t)
   (hn:(assignEach es X.env).length=n:=by rfl) (hst:(assignEach es X.env).findIdx? (·.1)=none:=by rfl):PG X (.Tuple es k pos) (gTup X.K n t):=by
 intro pins s σ H v u Q I r hw;obtain ⟨a,xs,e1,hq,hl,hw⟩:=hw;subst e1;cases r;obtain ⟨its,rv,ht,hz⟩:=I.tuple hq;refine assign_Tuple_tuple (I.ok.hd hc) ht (by simp [hn,← hl,rv.length]) hst fun h' hx=>?_
 have I1:Inv X pins σ H { s with heap:=h' }:=I.kept (t':=s.toks) fun b o e=>hx b o (yaA (zad e)) e
 exact h pins _ σ H xs _ Q I1 (by simpa using rv) hw
def gSub (to ti:TE)(t:TSet):TG:=fun v σ H Q=>to σ H fun o H1=>ti σ H1 fun i H2=>t o i v H2 fun H3=>Q σ H3
theorem pg_sub {o i:Expr}{to ti:TE}{t:TSet}(ho:PE X o to)(hi:PE X i ti)(hs:PSet X t)
   (ha:∀ v,assign (.Subscript o i pos) X.env v=(do
     let ov ← holding [v] (eval o X.env)
     let iv ← holding [v,ov] (eval i X.env)
     standAt pos
     holding [v,ov,iv] (setItem ov iv v)
     release [v,ov,iv] []):=by intro _;rfl):PG X (.Subscript o i pos) (gSub to ti t):=by
 intro pins s σ H v u Q I r h;rw [ha];refine zaa (zaj (thn (ho pins s σ H _ I h) fun ov s1 ⟨x,H1,I1,r1,q1⟩=>?_));refine zaa (zaj (thn (hi pins s1 σ H1 _ I1 q1) fun iv s2 ⟨y,H2,I2,r2,q2⟩=>?_));refine zaa (wpAny_standAt (zaa (zaj (thn (hs pins s2 σ H2 x y v ov iv u _ I2 r1 r2 r q2) fun _ s3 ⟨H3,I3,q3⟩=>?_))));exact wpAny_release ⟨σ,H3,I3,q3⟩
def tAsg (te:TE)(g:TG):TS:=fun D σ H=>te σ H fun x H1=>g x σ H1 D.nx
theorem ZdQ {e:Expr}{te:TE}{g:TG}(he:PE X e te)(hg:PG X tg g)(hs:swapsWithSole [tg] e pos.line X.env=pure false:=by rfl)(hw:swappedStores [tg] e X.env=pure none:=by rfl)
   (h1:(assignEach [tg] X.env).map (·.2)=[assign tg X.env]:=by rfl):PS X (.Assign [tg] e pos) (tAsg te g):=by
 intro pins s σ H D I h;refine wpAny_Assign_stores (thn (he pins s σ H _ I h) fun v s1 ⟨x,H1,I1,r1,q1⟩=>?_) hs hw;rw [h1];exact thn (hg pins s1 σ H1 x v _ I1 r1 q1) fun _ s2 q=>q
theorem ps_set {i:Nat}{x:Str}{e:Expr}{te:TE}(hN:X.N.Nodup)(hi:X.N[i]?=some x)(hx:Loc X.env.scope x)(he:PE X e te)(hs:swapsWith e (some (.Name x pos')) pos.line X.env=pure false:=by rfl)(hf:X.fn x=true∨X.env.scope.names.lookup x=some .local:=by first | exact .inl rfl | exact .inr rfl | assumption) :
   PS X (.Assign [.Name x pos'] e pos) (tAsg te (gName i)):=by
 intro pins s σ H D I h;refine wpAny_Assign_Name (thn (he pins s σ H _ I h) fun v s1 ⟨y,H1,I1,r1,q1⟩=>?_) hs;exact ZgI I1 hN hi hx r1 (fun s2 I2=>⟨_,H1,I2,q1⟩) hf
end
section
variable {X:Cx}{pos:Pos}
def tWhile (c:TT)(tb:TS):TS:=fun D σ H=>∃ W:Nat→St→Hp→Prop,(∃ m,W m σ H)∧∀ m σ H,W m σ H →
 c σ H fun b H1=>if b=true then ∃ N:St→Hp→Prop,(∀ σ' H',N σ' H'→∃ m',m'<m∧W m' σ' H')∧tb { D with nx:=N,ct:=N,bk:=D.nx } σ H1 else D.nx σ H1
theorem ZeY {c:Expr}{body:List Stmt}{tc:TT}{tb:TS}(hp:PassesOwn (model X.prog X.w) X.A X.env X.xe)(hc:PT X c tc)(hb:PSs X body tb):PS X (.While c body [] pos) (tWhile tc tb):=by
 intro pins s σ H D I h;obtain ⟨W,⟨m0,w0⟩,turn⟩:=h;refine wpAny_While (codeAny_whileLoop (fun n s'=>∃ σ' H',Inv X pins σ' H' s'∧W n σ' H') ?_ m0 ⟨σ,H,I,w0⟩);rintro n s1 ⟨σ1,H1,I1,w1⟩;refine zaP hp (thn (hc pins s1 σ1 H1 _ I1 (turn n σ1 H1 w1)) fun b s2 ⟨H2,I2,q2⟩=>?_);cases b with
 | true =>
   obtain ⟨N,hN,q2⟩:=q2;rw [if_pos rfl];refine zaP hp (thn (hb pins s2 σ1 H2 _ I2 q2) fun f s3 q3=>?_);cases f with
   | next =>
     obtain ⟨σ3,H3,I3,n3⟩:=q3;obtain ⟨m',hm,w3⟩:=hN σ3 H3 n3;exact ⟨m',hm,σ3,H3,I3,w3⟩
   | cont =>
     obtain ⟨σ3,H3,I3,n3⟩:=q3;obtain ⟨m',hm,w3⟩:=hN σ3 H3 n3;exact ⟨m',hm,σ3,H3,I3,w3⟩
   | brk=>exact q3
   | ret v=>exact q3
 | false =>
   rw [if_neg yaK];exact wpAny_execs_nil ⟨σ1,H2,I2,q2⟩
end
structure It where
 go:Nat→Hp→Prop
 yld:Nat→Hp→V→Hp→Prop
 stop:Nat→Hp→Prop
def FpOk (X:Cx)(pins:List (Addr × Obj))(H:Hp)(b:Addr):Prop :=
 H b=none∧b≠X.env.locals∧b∉X.fs∧(b∈X.ex∨X.s₀.heap.objs.size≤b)∧(∀ x c,X.env.cells.lookup x=some c→c≠b)∧∀ p∈X.pn++pins,p.1≠b
theorem Inv.fpOk {X:Cx}{σ:St}{H H':Hp}{b:Addr}(I:Inv X pins σ H s)(hb:s.heap.objs.size≤b)(hn:H' b=none):FpOk X pins H' b:=by
 refine ⟨hn,ybJ (yax I.lt hb),I.nofs hb,.inr (yaN I.sz hb),fun x c e z=>?_,fun p hp z=>?_⟩
 · obtain ⟨v,q⟩:=I.cell x c e
   exact absurd (yax q.lt (by rw [z];exact hb)) (ybt _)
 · exact absurd (yax (zad (I.pin p hp).1) (by rw [z];exact hb)) (ybt _)
structure Turn (P:Program)(w:World)(K:ZFr)(tg:Expr)(J:It)(fp:List Addr)(it:Addr)(tn:Nat→Heap→Prop):Prop where
 mem:it∈fp
 obj:∀ i h,tn i h→∀ b∈fp,∃ o,h.get? b=some o∧∀ v,o.data≠.cell v
 keep:∀ i h h',tn i h→(∀ b∈fp,∀ o,h.get? b=some o→h'.get? b=some o)→tn i h'
 item:∀ (X:Cx),X.prog=P→X.w=w→X.K=K→X.calm=true→∀ (i:Nat) (pins:List (Addr × Obj)) (s:Shared) (σ:St) (H:Hp) (E:Value→Shared→Prop),Inv X pins σ H s→(∀ b∈fp,FpOk X pins H b)→tn i s.heap→J.go i H →
   wpAny (model P w) X.A (pyNext (.ref it)) (fun r s1=>∃ u,r=some u ∧
     wpAny (model P w) X.A (letOwnedTupleGo tg (.ref it) u) (fun _ s2=>∃ x H',Inv X pins σ H' s2∧RelV x u∧J.yld i H x H'∧tn (i+1) s2.heap∧∀ b∈fp,H' b=none) E s1) E s
 done:∀ (X:Cx),X.prog=P→X.w=w→X.K=K→X.calm=true→∀ (i:Nat) (pins:List (Addr × Obj)) (s:Shared) (σ:St) (H:Hp) (E:Value→Shared→Prop),Inv X pins σ H s→(∀ b∈fp,FpOk X pins H b)→tn i s.heap→J.stop i H →
   wpAny (model P w) X.A (pyNext (.ref it)) (fun r s1=>r=none∧Inv X pins σ H s1) E s
 self:∀ (A:Around) (i:Nat) (s:Shared) (Q:Value→Shared→Prop) (E:Value→Shared→Prop),tn i s.heap→Q (.ref it) s→wpAny (model P w) A (pyIter (.ref it)) Q E s
abbrev TI:=St→Hp→(It→Hp→Prop)→Prop
def PIE (X:Cx)(pins:List (Addr × Obj))(σ:St)(tg:Expr)(R:It→Hp→Prop)(itv:Value)(s2:Shared):Prop :=
 ∃ (it:Addr) (fp:List Addr) (tn:Nat→Heap→Prop) (J:It) (H':Hp),itv=.ref it∧Inv X pins σ H' s2∧Turn X.prog X.w X.K tg J fp it tn∧tn 0 s2.heap∧(∀ b∈fp,FpOk X pins H' b)∧R J H'
def PI (X:Cx) (tg iter:Expr) (wi:TI):Prop :=
 ∀ (pins:List (Addr × Obj)) (s:Shared) (σ:St) (H:Hp) (R:It→Hp→Prop),Inv X pins σ H s→wi σ H R →
   wpAny (model X.prog X.w) X.A (eval iter X.env) (fun v s1=>wpAny (model X.prog X.w) X.A (pyIter v) (PIE X pins σ tg R) X.xe s1) X.xe s
theorem go_of {M:Model} {it:Addr} {u:Value} {o:Obj} {n:String} {vs:Array Value} {Q:Unit→Shared→Prop} (ho:s.heap.get? it=some o) (hc:o.cls=.type n) (hd:o.data=.fields vs)
   (hn:["enumerate","zip","dict_itemiterator","dict_reverseitemiterator","odict_iterator","itertools.zip_longest","itertools.pairwise"].contains n=false) (hQ:Q () s):wpAny M A (letOwnedTupleGo tg (.ref it) u) Q E s:=by
 unfold letOwnedTupleGo
 cases tg <;> first
   | exact zab hQ
   | (cases u<;>first
       | exact zab hQ
       | (refine zaa (wpAny_load ho ?_)
          rw [hc,hd];show wpAny M A (if (["enumerate","zip","dict_itemiterator","dict_reverseitemiterator","odict_iterator","itertools.zip_longest","itertools.pairwise"].contains n&&vs[0]?==some (rawInt _))=true then _ else _) Q E s;rw [if_neg (by intro h;rw [hn,Bool.false_and] at h;cases h)];exact zab hQ))
def Itl (K:ZFr)(a:Addr):It :=
 ⟨fun i H=>∃ xs x,SqL K H a xs∧xs[i]?=some x,fun i H x H'=>H'=H∧∀ xs,SqL K H a xs→xs[i]?=some x,fun i H=>∃ xs,SqL K H a xs∧xs.length≤i⟩
def Itt (K:ZFr)(a:Addr):It :=
 ⟨fun i H=>∃ xs x,SqT K H a xs∧xs[i]?=some x,fun i H x H'=>H'=H∧∀ xs,SqT K H a xs→xs[i]?=some x,fun i H=>∃ xs,SqT K H a xs∧xs.length≤i⟩
def Itr (lo:Int)(n:Nat):It:=⟨fun i _=>i<n,fun i H x H'=>H'=H∧x=.int (lo+i),fun i _=>n≤i⟩
theorem Zjh (a it:Addr):Turn P w K tg (Itl K a) [it] it (fun i h=>h.IsListIter it a i) where
 mem:=by simp
 obj:=fun i h st b hb=>by
   have e:b=it:=by simpa using hb
   subst e;obtain ⟨o,e,c,d⟩:=st;exact ⟨o,e,fun v z=>by rw [d] at z;cases z⟩
 keep:=fun i h h' st k=>st.at fun o e=>k it (by simp) o e
 item:=by
   intro X hP hw hK hc i pins s σ H E I hf st hg;subst hP hw hK;obtain ⟨xs,x,hq,hx⟩:=hg;obtain ⟨its,rv,p,hz⟩:=I.list hq;obtain ⟨u,hu,ru⟩:=rv.get hx;obtain ⟨f0,f1,f2,f3,f4,f5⟩:=hf it (by simp);refine wpAny_pyNext_list_item st p.isList (x:=u) (by simpa using hu) fun h' st' sb=>?_
   have I1:Inv X pins σ H { s with heap:=h' }:=I.turned (t':=s.toks) (fun b o hb e=>(sb.2 b hb).trans e) f0 f1 f3 f4 f5;obtain ⟨o,e,c,d⟩:=id st';exact ⟨u,rfl,go_of (s:={ s with heap:=h' }) e c d (by decide) ⟨x,H,I1,ru,⟨rfl,fun ys hy=>by rw [I.list_inj hy hq];exact hx⟩,st',fun b hb=>(hf b hb).1⟩⟩
 done:=by intro X hP hw hK hc i pins s σ H E I hf st hg;subst hP hw hK;obtain ⟨xs,hq,hx⟩:=hg;obtain ⟨its,rv,p,hz⟩:=I.list hq;obtain ⟨f0,f1,f2,f3,f4,f5⟩:=hf it (by simp);have hl:=rv.length;exact wpAny_pyNext_list_end (I.ok.hd hc) st p.isList (by simp;omega) fun h' eb=>⟨rfl,I.turned (t':=s.toks) (fun b o hb e=>eb b o hb e) f0 f1 f3 f4 f5⟩
 self:=fun _ _ _ _ _ st h=>wpAny_pyIter_listiter st h
theorem Zia (a it:Addr):Turn P w K tg (Itt K a) [it] it (fun i h=>h.IsTupleIter it a i) where
 mem:=by simp
 obj:=fun i h st b hb=>by
   have e:b=it:=by simpa using hb
   subst e;obtain ⟨o,e,c,d⟩:=st;exact ⟨o,e,fun v z=>by rw [d] at z;cases z⟩
 keep:=fun i h h' st k=>st.at fun o e=>k it (by simp) o e
 item:=by
   intro X hP hw hK hc i pins s σ H E I hf st hg;subst hP hw hK;obtain ⟨xs,x,hq,hx⟩:=hg;obtain ⟨its,rv,p,hz⟩:=I.tuple hq;obtain ⟨u,hu,ru⟩:=rv.get hx;obtain ⟨f0,f1,f2,f3,f4,f5⟩:=hf it (by simp);refine wpAny_pyNext_tuple_item st (show s.heap.IsTuple a its.toArray from p) (x:=u) (by simpa using hu) fun h' st' sb=>?_
   have I1:Inv X pins σ H { s with heap:=h' }:=I.turned (t':=s.toks) (fun b o hb e=>(sb.2 b hb).trans e) f0 f1 f3 f4 f5;obtain ⟨o,e,c,d⟩:=id st';exact ⟨u,rfl,go_of (s:={ s with heap:=h' }) e c d (by decide) ⟨x,H,I1,ru,⟨rfl,fun ys hy=>by rw [I.tuple_inj hy hq];exact hx⟩,st',fun b hb=>(hf b hb).1⟩⟩
 done:=by intro X hP hw hK hc i pins s σ H E I hf st hg;subst hP hw hK;obtain ⟨xs,hq,hx⟩:=hg;obtain ⟨its,rv,p,hz⟩:=I.tuple hq;obtain ⟨f0,f1,f2,f3,f4,f5⟩:=hf it (by simp);have hl:=rv.length;exact wpAny_pyNext_tuple_end (I.ok.hd hc) st (show s.heap.IsTuple a its.toArray from p) (by simp;omega) fun h' eb=>⟨rfl,I.turned (t':=s.toks) (fun b o hb e=>eb b o hb e) f0 f1 f3 f4 f5⟩
 self:=fun _ _ _ _ _ st h=>wpAny_pyIter_tupleiter st h
theorem ZhG (it:Addr)(lo:Int)(n:Nat):Turn P w K tg (Itr lo n) [it] it (fun i h=>IsRangeIter h it (lo+(i:Nat)*1) ((n:Int)-(i:Nat)) 1) where
 mem:=by simp
 obj := fun i h st b hb=>by
   have e:b=it:=by simpa using hb
   subst e;exact ⟨_,st,fun v z=>by
     have z':Data.fields _=Data.cell v:=z;cases z'⟩
 keep:=fun i h h' st k=>k it (by simp) _ st
 item:=by
   intro X hP hw hK hc i pins s σ H E I hf st hg;subst hP hw hK;obtain ⟨f0,f1,f2,f3,f4,f5⟩:=hf it (by simp);have W:=Walks.range (prog:=X.prog) (w:=X.w) (I.ok.hd hc) it lo 1 n;refine W.item i s _ _ hg st fun v h' tk hv st' kk=>?_
   obtain ⟨t,rfl⟩:=hv;have I1:Inv X pins σ H { s with heap:=h',toks:=tk }:=I.turned (fun b o hb e=>kk b o (by simpa using hb) e) f0 f1 f3 f4 f5;refine ⟨_,rfl,go_of (s:={ s with heap:=h',toks:=tk }) (n:="range_iterator") st' rfl rfl (by decide) ⟨.int (lo+i),H,I1,⟨t,?_⟩,⟨rfl,rfl⟩,st',fun b hb=>(hf b hb).1⟩⟩;rw [Int.mul_one]
 done:=by intro X hP hw hK hc i pins s σ H E I hf st hg;subst hP hw hK;obtain ⟨f0,f1,f2,f3,f4,f5⟩:=hf it (by simp);exact wpAny_pyNext_range_end (I.ok.hd hc) st (by have:n≤i:=hg;omega) fun h' eb=>⟨rfl,I.turned (t':=s.toks) (fun b o hb e=>eb b o hb e) f0 f1 f3 f4 f5⟩
 self:=fun _ _ _ _ _ st h=>wpAny_pyIter_rangeiter st h
section
variable {X:Cx}
def iList (K:ZFr)(tl:TE):TI:=fun σ H R=>tl σ H fun x H1=>∃ a,x=.ref a∧(∃ xs,SqL K H1 a xs)∧R (Itl K a) H1
def iTup (K:ZFr)(tl:TE):TI:=fun σ H R=>tl σ H fun x H1=>∃ a,x=.ref a∧(∃ xs,SqT K H1 a xs)∧R (Itt K a) H1
theorem pi_list {l:Expr}{tl:TE}(hl:PE X l tl):PI X tg l (iList X.K tl):=by
 intro pins s σ H R I h;refine thn (hl pins s σ H _ I h) fun v s1 ⟨x,H1,I1,r1,q1⟩=>?_
 obtain ⟨a,e,⟨xs,hq⟩,q⟩:=q1;subst e;cases r1;obtain ⟨its,rv,p,hz⟩:=I1.list hq;refine wpAny_pyIter_list p.isList ?_;refine ⟨s1.heap.objs.size,[s1.heap.objs.size],_,_,H1,rfl,I1.kept (t':=s1.toks) fun b o e=>zac _ e,Zjh a _,⟨_,zag _ rfl,rfl,rfl⟩,fun b hb=>?_,q⟩;have e:b=s1.heap.objs.size:=by simpa using hb
 subst e;exact I1.fpOk (yad _) (I1.hok.fresh (yad _))
theorem pi_tup {l:Expr}{tl:TE}(hl:PE X l tl):PI X tg l (iTup X.K tl):=by
 intro pins s σ H R I h;refine thn (hl pins s σ H _ I h) fun v s1 ⟨x,H1,I1,r1,q1⟩=>?_
 obtain ⟨a,e,⟨xs,hq⟩,q⟩:=q1;subst e;cases r1;obtain ⟨its,rv,p,hz⟩:=I1.tuple hq;refine wpAny_pyIter_tuple (show s1.heap.IsTuple a its.toArray from p) ?_;refine ⟨s1.heap.objs.size,[s1.heap.objs.size],_,_,H1,rfl,I1.kept (t':=s1.toks) fun b o e=>zac _ e,Zia a _,⟨_,zag _ rfl,rfl,rfl⟩,fun b hb=>?_,q⟩;have e:b=s1.heap.objs.size:=by simpa using hb
 subst e;exact I1.fpOk (yad _) (I1.hok.fresh (yad _))
theorem range_it {σ:St}{H:Hp}{R:It→Hp→Prop}{lo hi:Int}{t u v:Tok}{tk:Nat}(I:Inv X pins σ H s)(h1:-(2^62)≤lo)(h2:lo<2^62)(h3:-(2^62)≤hi)(h4:hi<2^62)
   (q:R (Itr lo (hi-lo).toNat) H):wpAny (model X.prog X.w) X.A (pyIter (.ref s.heap.objs.size)) (PIE X pins σ tg R) E { s with heap:=s.heap.push { cls:=.type "range",data:=.fields #[.int lo t,.int hi u,.int 1 v] },toks:=tk }:=by
 refine wpAny_pyIter_range (IsRange.new ..) (small_one h1 h2 h3 h4) ?_;have I1:Inv X pins σ H { s with heap:=s.heap.push { cls:=.type "range",data:=.fields #[.int lo t,.int hi u,.int 1 v] },toks:=tk }:=I.kept fun b o e=>zac _ e
 refine ⟨(s.heap.push { cls:=.type "range",data:=.fields #[.int lo t,.int hi u,.int 1 v] }).objs.size,[(s.heap.push { cls:=.type "range",data:=.fields #[.int lo t,.int hi u,.int 1 v] }).objs.size],_,_,H,rfl,
   I1.kept (t':=tk) fun b o e=>zac _ e,ZhG _ lo (hi-lo).toNat,?_,fun b hb=>?_,q⟩
 · have e1:lo+((0:Nat):Int)*1=lo:=by simp
   have e2:(((hi-lo).toNat:Nat):Int)-((0:Nat):Int)=Builtin.Range.rangeSize lo hi 1:=by rw [rangeSize_one];split<;>omega
   show IsRangeIter _ _ (lo+((0:Nat):Int)*1) ((((hi-lo).toNat:Nat):Int)-((0:Nat):Int)) 1;rw [e1,e2];exact zag _ rfl
 · have e:b=(s.heap.push { cls:=.type "range",data:=.fields #[.int lo t,.int hi u,.int 1 v] }).objs.size:=by simpa using hb
   subst e;exact I1.fpOk (yad _) (I1.hok.fresh (yad _))
def iRng1 (ta:TA):TI:=fun σ H R=>ta σ H fun vs H1=>∃ j:Int,vs=[.int j]∧-(2^62)≤j∧j<2^62∧R (Itr 0 j.toNat) H1
theorem ZbK {a:Expr}{ta:TA}{p pos:Pos}(hg:Gl X "range")(hm:X.mg "range"=none)(ha:PA X [a] ta)(hs:starEach [a] X.env=[(false,eval a X.env)]:=by rfl):PI X tg (.Call (.Name "range" p) [a] [] pos) (iRng1 ta):=by
 intro pins s σ H R I h;refine Call_ (Zcb I hg hm boot_range (zam (thn (ha pos pins s σ H _ I h) fun us s1 ⟨vs,H1,I1,r1,q1⟩=>?_) hs rfl));obtain ⟨j,e,q1,q2,q⟩:=q1;subst e;cases r1 with
 | cons r rr =>
   cases rr;obtain ⟨t,rfl⟩:=r;exact call_range_1 (range_it I1 (by omega) (by omega) q1 q2 (by simpa using q))
def tFor (wi:TI)(g:TG)(tb:TS):TS:=fun D σ H=>wi σ H fun J H1=>∃ W:Nat→Nat→St→Hp→Prop,(∃ m,W 0 m σ H1)∧∀ i m σ H,W i m σ H →
 (J.stop i H∧D.nx σ H)∨(J.go i H∧∃ N:St→Hp→Prop,(∀ σ' H',N σ' H'→∃ m',m'<m∧W (i+1) m' σ' H')∧∀ x H',J.yld i H x H'→g x σ H' fun σ2 H2=>tb { D with nx:=N,ct:=N,bk:=D.nx } σ2 H2)
def pinsAt (fp:List Addr)(h:Heap):List (Addr × Obj):=fp.filterMap fun b=>(h.get? b).map fun o=>(b,o)
theorem Zc9 {h:Heap}{b:Addr}{o:Obj}(hb:b∈fp)(e:h.get? b=some o):(b,o)∈pinsAt fp h:=List.mem_filterMap.mpr ⟨b,hb,by rw [e];rfl⟩
theorem Zjw {h:Heap}{p:Addr × Obj}(hp:p∈pinsAt fp h):p.1∈fp∧h.get? p.1=some p.2:=by
 obtain ⟨b,hb,e⟩:=List.mem_filterMap.mp hp;cases q:h.get? b with
 | none=>rw [q] at e;cases e
 | some o =>
   rw [q] at e;have e':(b,o)=p:=Option.some.inj e;subst e';exact ⟨hb,q⟩
theorem Inv.pinned {σ:St}{H:Hp}(I:Inv X pins σ H s)(hf:∀ b∈fp,FpOk X pins H b)(ho:∀ b∈fp,∃ o,s.heap.get? b=some o∧∀ v,o.data≠.cell v):Inv X (pins++pinsAt fp s.heap) σ H s :=
 I.pins_of fun p hp=>(yai.mp hp).elim (fun z=>I.pin p (yaz _ z)) fun z=>by
   obtain ⟨hb,e⟩:=Zjw z;obtain ⟨f0,f1,f2,_⟩:=hf p.1 hb;obtain ⟨o,e',d⟩:=ho p.1 hb;rw [e] at e';cases e';exact ⟨e,f0,f1,f2,d⟩
theorem Inv.unpinned {pl:List (Addr × Obj)}{σ:St}{H:Hp}(I:Inv X (pins++pl) σ H s):Inv X pins σ H s:=I.pins_of fun p hp=>I.pin p (yaz _ (yaZ _ hp))
theorem Za0 {iter:Expr}{body:List Stmt}{wi:TI}{g:TG}{tb:TS}{pos:Pos}(hp:PassesOwn (model X.prog X.w) X.A X.env X.xe)(hc:X.calm=true)(hi:PI X tg iter wi)(hg:PG X tg g)(hb:PSs X body tb)
   (hs:∀ x,foldedSetIterable iter X.env x=pure x:=by intro _;rfl):PS X (.For tg iter body [] pos) (tFor wi g tb):=by
 intro pins s σ H D I h;refine wpAny_For (thn (hi pins s σ H _ I h) fun v s1 h1=>thn h1 fun itv s2 h2=>?_) hs;obtain ⟨it,fp,tn,J,H2,e,I2,T,st2,f2,W,⟨m0,w0⟩,turn⟩:=h2;subst e;have stat:∀ {H':Hp},(∀ b∈fp,H' b=none)→∀ b∈fp,FpOk X pins H' b:=fun hn b hb=>⟨hn b hb,(f2 b hb).2⟩
 refine codeAny_forLoop_any (fun n s'=>∃ i σ' H',Inv X pins σ' H' s'∧tn i s'.heap∧(∀ b∈fp,H' b=none)∧W i n σ' H') ?_ m0 ⟨0,σ,H2,I2,st2,fun b hb=>(f2 b hb).1,w0⟩;rintro n s3 ⟨i,σ3,H3,I3,st3,fr3,w3⟩;rcases turn i n σ3 H3 w3 with ⟨stop,qn⟩ | ⟨go,N,hN,step⟩
 · refine zaP hp (thn (T.done X rfl rfl rfl hc i pins s3 σ3 H3 X.xe I3 (stat fr3) st3 stop) fun r s4 ⟨hr,I4⟩=>?_)
   subst hr;exact wpAny_execs_nil ⟨σ3,H3,I4,qn⟩
 · refine zaP hp (thn (T.item X rfl rfl rfl hc i pins s3 σ3 H3 X.xe I3 (stat fr3) st3 go) fun r s4 ⟨u,hr,h4⟩=>?_)
   subst hr;refine zaP hp (thn h4 fun _ s5 ⟨x,H5,I5,r5,y5,st5,fr5⟩=>?_);have I5':=I5.pinned (stat fr5) (T.obj _ _ st5);refine zaP hp (thn (hg _ s5 σ3 H5 x u _ I5' r5 (step x H5 y5)) fun _ s6 ⟨σ6,H6,I6,q6⟩=>?_);refine zaP hp (thn (hb _ s6 σ6 H6 _ I6 q6) fun f s7 q7=>?_);have again:∀ {σ7:St} {H7:Hp},Inv X (pins++pinsAt fp s5.heap) σ7 H7 s7→N σ7 H7→∃ m,m<n∧∃ i σ' H',Inv X pins σ' H' s7∧tn i s7.heap∧(∀ b∈fp,H' b=none)∧W i m σ' H':=fun {σ7 H7} I7 n7=>by
     obtain ⟨m',hm,w7⟩:=hN σ7 H7 n7;refine ⟨m',hm,i+1,σ7,H7,I7.unpinned,T.keep _ _ _ st5 fun b hb o e=>(I7.pin (b,o) (yaz _ (yaz _ (Zc9 hb e)))).1,fun b hb=>?_,w7⟩;obtain ⟨o,e,d⟩:=T.obj _ _ st5 b hb;exact (I7.pin (b,o) (yaz _ (yaz _ (Zc9 hb e)))).2.1
   cases f with
   | next=>obtain ⟨σ7,H7,I7,n7⟩:=q7;exact again I7 n7
   | cont=>obtain ⟨σ7,H7,I7,n7⟩:=q7;exact again I7 n7
   | brk=>obtain ⟨σ7,H7,I7,q7⟩:=q7;exact ⟨σ7,H7,I7.unpinned,q7⟩
   | ret v=>obtain ⟨x7,σ7,H7,I7,r7,q7⟩:=q7;exact ⟨x7,σ7,H7,I7.unpinned,r7,q7⟩
end
theorem for_list {a:Addr}{xs:List V}{g:TG}{tb:TS}{D:Ends}{σ:St}{H:Hp}(Pv:Nat→St→Hp→Prop)(h0:Pv 0 σ H)(hl:∀ i σ H,i≤xs.length→Pv i σ H→SqL K H a xs)
   (hs:∀ i x σ H,xs[i]?=some x→Pv i σ H→g x σ H fun σ2 H2=>tb { D with nx:=Pv (i+1),ct:=Pv (i+1),bk:=D.nx } σ2 H2) (hd:∀ σ H,Pv xs.length σ H→D.nx σ H) :
   ∃ W:Nat→Nat→St→Hp→Prop,(∃ m,W 0 m σ H)∧∀ i m σ H,W i m σ H →
     ((Itl K a).stop i H∧D.nx σ H)∨((Itl K a).go i H∧∃ N:St→Hp→Prop,(∀ σ' H',N σ' H'→∃ m',m'<m∧W (i+1) m' σ' H')∧∀ x H',(Itl K a).yld i H x H'→g x σ H' fun σ2 H2=>tb { D with nx:=N,ct:=N,bk:=D.nx } σ2 H2):=by
 refine ⟨fun i m σ H=>m=xs.length-i∧i≤xs.length∧Pv i σ H,⟨xs.length,by simp,yau _,h0⟩,?_⟩;rintro i m σ H ⟨rfl,hi,p⟩;have q:=hl i σ H hi p;by_cases hlt:i<xs.length
 · refine .inr ⟨⟨xs,xs[i],q,by simp [hlt]⟩,Pv (i+1),fun σ' H' p'=>⟨xs.length-(i+1),by omega,rfl,hlt,p'⟩,fun x H' y=>?_⟩
   obtain ⟨e,y⟩:=y;subst e;exact hs i x σ _ (y xs q) p
 · have e:i=xs.length:=by omega
   subst e;exact .inl ⟨⟨xs,q,yad _⟩,hd σ H p⟩
theorem for_tup {a:Addr}{xs:List V}{g:TG}{tb:TS}{D:Ends}{σ:St}{H:Hp}(Pv:Nat→St→Hp→Prop)(h0:Pv 0 σ H)(hl:∀ i σ H,i≤xs.length→Pv i σ H→SqT K H a xs)
   (hs:∀ i x σ H,xs[i]?=some x→Pv i σ H→g x σ H fun σ2 H2=>tb { D with nx:=Pv (i+1),ct:=Pv (i+1),bk:=D.nx } σ2 H2) (hd:∀ σ H,Pv xs.length σ H→D.nx σ H) :
   ∃ W:Nat→Nat→St→Hp→Prop,(∃ m,W 0 m σ H)∧∀ i m σ H,W i m σ H →
     ((Itt K a).stop i H∧D.nx σ H)∨((Itt K a).go i H∧∃ N:St→Hp→Prop,(∀ σ' H',N σ' H'→∃ m',m'<m∧W (i+1) m' σ' H')∧∀ x H',(Itt K a).yld i H x H'→g x σ H' fun σ2 H2=>tb { D with nx:=N,ct:=N,bk:=D.nx } σ2 H2):=by
 refine ⟨fun i m σ H=>m=xs.length-i∧i≤xs.length∧Pv i σ H,⟨xs.length,by simp,yau _,h0⟩,?_⟩;rintro i m σ H ⟨rfl,hi,p⟩;have q:=hl i σ H hi p;by_cases hlt:i<xs.length
 · refine .inr ⟨⟨xs,xs[i],q,by simp [hlt]⟩,Pv (i+1),fun σ' H' p'=>⟨xs.length-(i+1),by omega,rfl,hlt,p'⟩,fun x H' y=>?_⟩
   obtain ⟨e,y⟩:=y;subst e;exact hs i x σ _ (y xs q) p
 · have e:i=xs.length:=by omega
   subst e;exact .inl ⟨⟨xs,q,yad _⟩,hd σ H p⟩
theorem Zi6 {lo:Int}{n:Nat}{g:TG}{tb:TS}{D:Ends}{σ:St}{H:Hp}(Pv:Nat→St→Hp→Prop)(h0:Pv 0 σ H)
   (hs:∀ i σ H,i<n→Pv i σ H→g (.int (lo+i)) σ H fun σ2 H2=>tb { D with nx:=Pv (i+1),ct:=Pv (i+1),bk:=D.nx } σ2 H2) (hd:∀ σ H,Pv n σ H→D.nx σ H) :
   ∃ W:Nat→Nat→St→Hp→Prop,(∃ m,W 0 m σ H)∧∀ i m σ H,W i m σ H →
     ((Itr lo n).stop i H∧D.nx σ H)∨((Itr lo n).go i H∧∃ N:St→Hp→Prop,(∀ σ' H',N σ' H'→∃ m',m'<m∧W (i+1) m' σ' H')∧∀ x H',(Itr lo n).yld i H x H'→g x σ H' fun σ2 H2=>tb { D with nx:=N,ct:=N,bk:=D.nx } σ2 H2):=by
 refine ⟨fun i m σ H=>m=n-i∧i≤n∧Pv i σ H,⟨n,by simp,yau _,h0⟩,?_⟩;rintro i m σ H ⟨rfl,hi,p⟩;by_cases hlt:i<n
 · refine .inr ⟨hlt,Pv (i+1),fun σ' H' p'=>⟨n-(i+1),by omega,rfl,hlt,p'⟩,fun x H' y=>?_⟩
   obtain ⟨e,y⟩:=y;subst e y;exact hs i σ _ hlt p
 · have e:i=n:=by omega
   subst e;exact .inl ⟨yad _,hd σ H p⟩
theorem ZeB {c:TT}{tb:TS}{D:Ends}{σ:St}{H:Hp}(Pv:St→Hp→Prop)(μ:St→Hp→Nat)(h0:Pv σ H)
   (hs:∀ σ H,Pv σ H→c σ H fun b H1=>if b=true then tb { D with nx:=fun σ' H'=>Pv σ' H'∧μ σ' H'<μ σ H,ct:=fun σ' H'=>Pv σ' H'∧μ σ' H'<μ σ H,bk:=D.nx } σ H1 else D.nx σ H1)
   (mono:∀ σ H Q Q',(∀ b H1,Q b H1→Q' b H1)→c σ H Q→c σ H Q'):tWhile c tb D σ H:=by
 refine ⟨fun m σ H=>m=μ σ H∧Pv σ H,⟨_,rfl,h0⟩,?_⟩;rintro m σ H ⟨rfl,p⟩;refine mono σ H _ _ (fun b H1 q=>?_) (hs σ H p);cases b with
 | true=>exact ⟨_,fun σ' H' ⟨p',l⟩=>⟨_,l,rfl,p'⟩,q⟩
 | false=>exact q
abbrev R2:=V→V→Hp→VK→Prop
def OpR (X:Cx) (f:Value→Value→Sem Value) (r:R2):Prop :=
 ∀ (pins:List (Addr × Obj)) (s:Shared) (σ:St) (H:Hp) (x y:V) (v u:Value) (Q:VK),Inv X pins σ H s→RelV x v→RelV y u→r x y H Q →
   wpAny (model X.prog X.w) X.A (f v u) (EP X pins σ Q) X.xe s
def UnR (X:Cx) (f:Value→Sem Value) (r:V→Hp→VK→Prop):Prop :=
 ∀ (pins:List (Addr × Obj)) (s:Shared) (σ:St) (H:Hp) (x:V) (v:Value) (Q:VK),Inv X pins σ H s→RelV x v→r x H Q →
   wpAny (model X.prog X.w) X.A (f v) (EP X pins σ Q) X.xe s
def CallR (X:Cx) (f:Value) (r:List V→Hp→VK→Prop):Prop :=
 ∀ (pins:List (Addr × Obj)) (s:Shared) (σ:St) (H:Hp) (xs:List V) (us:List Value) (Q:VK),Inv X pins σ H s→Vals xs us→r xs H Q →
   wpAny (model X.prog X.w) X.A (call f us) (EP X pins σ Q) X.xe s
def tOp (r:R2)(ta tb:TE):TE:=fun σ H Q=>ta σ H fun x H1=>tb σ H1 fun y H2=>r x y H2 Q
def tUn (r:V→Hp→VK→Prop)(ta:TE):TE:=fun σ H Q=>ta σ H fun x H1=>r x H1 Q
def rI (C:Int→Int→Prop)(g:Int→Int→V):R2:=fun x y H Q=>∃ i j,x=.int i∧y=.int j∧C i j∧Q (g i j) H
def rI0 (g:Int→Int→V):R2:=fun x y H Q=>∃ i j,x=.int i∧y=.int j∧Q (g i j) H
def rU (g:Int→V):V→Hp→VK→Prop:=fun x H Q=>∃ i,x=.int i∧Q (g i) H
section
variable {X:Cx}{a b c:Expr}{ta tb tc:TE}{pos:Pos}
theorem binT (ha:PE X a ta)(hb:PE X b tb){σ:St}{H:Hp}{R:V→V→Hp→Prop}(I:Inv X pins σ H s)
   (h:ta σ H fun x H1=>tb σ H1 fun y H2=>R x y H2) {f:Value→Value→Sem Value}
   (hf:∀ v u s2 x y H2,Inv X pins σ H2 s2→RelV x v→RelV y u→R x y H2→wpAny (model X.prog X.w) X.A (f v u) Q X.xe s2) :
   wpAny (model X.prog X.w) X.A (eval a X.env) (fun v s₁=>wpAny (model X.prog X.w) X.A (eval b X.env) (fun u s₂=>wpAny (model X.prog X.w) X.A (f v u) Q X.xe s₂) X.xe s₁) X.xe s:=by
 refine thn (ha pins s σ H _ I h) fun v s1 ⟨x,H1,I1,r1,q1⟩=>?_
 refine thn (hb pins s1 σ H1 _ I1 q1) fun u s2 ⟨y,H2,I2,r2,q2⟩=>?_
 exact hf v u s2 x y H2 I2 r1 r2 q2
theorem Zah {op:Operator}{r:R2}(ho:OpR X (binaryOp op) r)(ha:PE X a ta)(hb:PE X b tb):PE X (.BinOp a op b pos) (tOp r ta tb):=by intro pins s σ H Q I h;exact wpAny_BinOp (binT ha hb I h fun v u s2 x y H2 I2 rx ry q=>ho pins s2 σ H2 x y v u Q I2 rx ry q)
theorem Zfu {op:UnaryOp}{r:V→Hp→VK→Prop}(ho:UnR X (unaryOp op) r)(ha:PE X a ta):PE X (.UnaryOp op a pos) (tUn r ta):=by intro pins s σ H Q I h;exact UnaryOp_ (thn (ha pins s σ H _ I h) fun v s1 ⟨x,H1,I1,r1,q1⟩=>ho pins s1 σ H1 x v Q I1 r1 q1)
theorem opI {f:Value→Value→Sem Value}{C:Int→Int→Prop}{g:Int→Int→Int}
   (rule:∀ (i j:Int) (t u:Tok) (s:Shared) (Q:Value→Shared→Prop) (E:Value→Shared→Prop),C i j→Q (.int (g i j) s.toks) { s with toks:=s.toks+1 }→wpAny (model X.prog X.w) X.A (f (.int i t) (.int j u)) Q E s) :
   OpR X f (rI C fun i j=>.int (g i j)):=by
 intro pins s σ H x y v u Q I rx ry h;obtain ⟨i,j,rfl,rfl,hc,q⟩:=h;obtain ⟨t,rfl⟩:=rx;obtain ⟨t',rfl⟩:=ry;exact rule i j t t' s _ _ hc ⟨.int (g i j),H,I.tok _,⟨_,rfl⟩,q⟩
theorem opI0 {f:Value→Value→Sem Value}{g:Int→Int→Int}
   (rule:∀ (i j:Int) (t u:Tok) (s:Shared) (Q:Value→Shared→Prop) (E:Value→Shared→Prop),Q (.int (g i j) s.toks) { s with toks:=s.toks+1 }→wpAny (model X.prog X.w) X.A (f (.int i t) (.int j u)) Q E s) :
   OpR X f (rI0 fun i j=>.int (g i j)):=by
 intro pins s σ H x y v u Q I rx ry h;obtain ⟨i,j,rfl,rfl,q⟩:=h;obtain ⟨t,rfl⟩:=rx;obtain ⟨t',rfl⟩:=ry;exact rule i j t t' s _ _ ⟨.int (g i j),H,I.tok _,⟨_,rfl⟩,q⟩
theorem opB0 {f:Value→Value→Sem Value}{g:Int→Int→Bool}
   (rule:∀ (i j:Int) (t u:Tok) (s:Shared) (Q:Value→Shared→Prop) (E:Value→Shared→Prop),Q (.bool (g i j)) s→wpAny (model X.prog X.w) X.A (f (.int i t) (.int j u)) Q E s) :
   OpR X f (rI0 fun i j=>.bl (g i j)):=by
 intro pins s σ H x y v u Q I rx ry h;obtain ⟨i,j,rfl,rfl,q⟩:=h;obtain ⟨t,rfl⟩:=rx;obtain ⟨t',rfl⟩:=ry;exact rule i j t t' s _ _ ⟨.bl (g i j),H,I,rfl,q⟩
def CDiv (i j:Int):Prop:=0<j∧j<1073741824
def CPow (i j:Int):Prop:=0≤j∧j≤1000000∧i.natAbs<2^64
def CMul (i j:Int):Prop:=(-(2^64)<i∧i<2^64)∨(-(2^64)<j∧j<2^64)
theorem CMul.ok {i j:Int}(h:CMul i j):IntMulOk i j:=by
 rcases h with ⟨h1,h2⟩ | ⟨h1,h2⟩
 · exact .of_left (intBits_le_64 h1 h2)
 · exact .of_right (intBits_le_64 h1 h2)
theorem Zdj (k:Nat):(0:Int)≤2^k:=by rw [two_pow_cast];exact yaV _
theorem Zay:OpR X (binaryOp .Add) (rI0 fun i j=>.int (i+j)):=opI0 fun _ _ _ _ _ _ _ q=>add_int q
theorem ZaX:OpR X (binaryOp .Sub) (rI0 fun i j=>.int (i-j)):=opI0 fun _ _ _ _ _ _ _ q=>sub_int q
theorem ZaZ:OpR X (binaryOp .Mult) (rI CMul fun i j=>.int (i*j)):=opI fun _ _ _ _ _ _ _ hc q=>mul_int q hc.ok
theorem Zaq:OpR X (binaryOp .FloorDiv) (rI CDiv fun i j=>.int (i/j)):=opI fun i j _ _ _ _ _ hc q=>by
 have h1:(0:Int)<j:=hc.1;have h2:j<1073741824:=hc.2;exact floordiv_int (by omega) (by rw [Int.fdiv_eq_ediv_of_nonneg i (by omega)];exact q) (.inl (PyProof.noPylong_small (by omega)))
theorem Zau:OpR X (binaryOp .Mod) (rI (fun _ j=>0<j) fun i j=>.int (i%j)):=opI fun i j _ _ _ _ _ hc q=>by
 have h1:(0:Int)<j:=hc;exact mod_int' (by omega) (by rw [Int.fmod_eq_emod_of_nonneg i (by omega)];exact q)
theorem op_pow:OpR X (binaryOp .Pow) (rI CPow fun i j=>.int (i^j.toNat)):=opI fun _ _ _ _ _ _ _ hc q=>pow_int_small hc.1 hc.2.1 hc.2.2 q
theorem ZdP:OpR X (binaryOp .RShift) (rI (fun _ j=>0≤j) fun i j=>.int (i/2^j.toNat)):=opI fun i j _ _ _ _ _ hc q =>
 rshift_int hc (by rw [Int.fdiv_eq_ediv_of_nonneg i (Zdj _)];exact q)
theorem Zbc:OpR X (binaryOp .BitAnd) (rI0 fun i j=>.int (Builtin.bitAnd i j)):=opI0 fun _ _ _ _ _ _ _ q=>and_int q
theorem ZeX:OpR X (binaryOp .BitOr) (rI0 fun i j=>.int (Builtin.bitOr i j)):=opI0 fun _ _ _ _ _ _ _ q=>or_int q
theorem unI {f:Value→Sem Value}{g:Int→Int}
   (rule:∀ (i:Int) (t:Tok) (s:Shared) (Q:Value→Shared→Prop) (E:Value→Shared→Prop),Q (.int (g i) s.toks) { s with toks:=s.toks+1 }→wpAny (model X.prog X.w) X.A (f (.int i t)) Q E s) :
   UnR X f (rU fun i=>.int (g i)):=by
 intro pins s σ H x v Q I rx h;obtain ⟨i,rfl,q⟩:=h;obtain ⟨t,rfl⟩:=rx;exact rule i t s _ _ ⟨.int (g i),H,I.tok _,⟨_,rfl⟩,q⟩
theorem ZeJ:UnR X (unaryOp .USub) (rU fun i=>.int (-i)):=unI fun _ _ _ _ _ q=>neg_int q
theorem un_inv:UnR X (unaryOp .Invert) (rU fun i=>.int (Builtin.bitNot i)):=unI fun _ _ _ _ _ q=>invert_int q
end
def scal:V→V→Bool
 | .non,.non=>true | .non,.int _=>true | .int _,.non=>true | .non,.bl _=>true | .bl _,.non=>true | .non,.str _=>true | .str _,.non=>true
 | .int _,.int _=>true | .bl _,.bl _=>true | .str _,.str _=>true | .byt _,.byt _=>true
 | .int _,.str _=>true | .str _,.int _=>true | .bl _,.str _=>true | .str _,.bl _=>true
 | _,_=>false
def rEq:R2:=fun x y H Q=>scal x y=true∧Q (.bl (decide (x=y))) H
def rNe:R2:=fun x y H Q=>scal x y=true∧Q (.bl (!decide (x=y))) H
theorem Zir {i j:Int}:decide (V.int i=V.int j)=(i==j):=by rw [ybR];simp
theorem dec_bl {i j:Bool}:decide (V.bl i=V.bl j)=(i==j):=by rw [ybR];simp
theorem ZiN {i j:Str}:decide (V.str i=V.str j)=(i==j):=by rw [ybR];simp
theorem ZiJ {i j:Array UInt8}:decide (V.byt i=V.byt j)=(i.toList==j.toList):=by rw [ybR];cases i;cases j;simp
section
variable {X:Cx}{a b c:Expr}{ta tb tc:TE}{pos:Pos}
theorem ZaB {σ:St}{H:Hp}{Q:VK}{k k':Bool}(I:Inv X pins σ H s)(q:Q (.bl k) H)(e:k=k'):EP X pins σ Q (.bool k') s:=by subst e;exact ⟨.bl k,H,I,rfl,q⟩
theorem Zbd:OpR X (compareOp .Eq) rEq:=by
 intro pins s σ H x y v u Q I rx ry h;obtain ⟨hs,q⟩:=h;cases x with
 | non =>
   cases rx;cases y with
   | non=>cases ry;exact PySem.EqNone.eq_none_none (ZaB I q (by simp))
   | bl j=>cases ry;exact PySem.EqNone.eq_none_bool (ZaB I q (by simp))
   | int j=>obtain ⟨t',rfl⟩:=ry;exact PySem.EqNone.eq_none_int (ZaB I q (by simp))
   | str j=>obtain ⟨t',rfl⟩:=ry;exact PySem.EqNone.eq_none_str (ZaB I q (by simp))
   | _=>exact absurd (show false=true from hs) yaK
 | bl i =>
   cases rx;cases y with
   | non=>cases ry;exact PySem.EqNone.eq_bool_none (ZaB I q (by simp))
   | bl j=>cases ry;exact eq_bool (ZaB I q dec_bl)
   | str j=>obtain ⟨t',rfl⟩:=ry;exact PySem.EqMixed.eq_bool_str (ZaB I q (by simp))
   | _=>exact absurd (show false=true from hs) yaK
 | int i =>
   obtain ⟨t,rfl⟩:=rx;cases y with
   | non=>cases ry;exact PySem.EqNone.eq_int_none (ZaB I q (by simp))
   | int j=>obtain ⟨t',rfl⟩:=ry;exact eq_int (ZaB I q Zir)
   | str j=>obtain ⟨t',rfl⟩:=ry;exact PySem.EqMixed.eq_int_str (ZaB I q (by simp))
   | _=>exact absurd (show false=true from hs) yaK
 | str i =>
   obtain ⟨t,rfl⟩:=rx;cases y with
   | non=>cases ry;exact PySem.EqNone.eq_str_none (ZaB I q (by simp))
   | bl j=>cases ry;exact PySem.EqMixed.eq_str_bool (ZaB I q (by simp))
   | int j=>obtain ⟨t',rfl⟩:=ry;exact PySem.EqMixed.eq_str_int (ZaB I q (by simp))
   | str j=>obtain ⟨t',rfl⟩:=ry;exact eq_str (ZaB I q ZiN)
   | _=>exact absurd (show false=true from hs) yaK
 | byt i =>
   obtain ⟨t,rfl⟩:=rx;cases y with
   | byt j=>obtain ⟨t',rfl⟩:=ry;exact PySem.W.eq_bytes (ZaB I q ZiJ)
   | _=>exact absurd (show false=true from hs) yaK
 | _=>cases y<;>exact absurd (show false=true from hs) yaK
theorem Zfv:OpR X (compareOp .NotEq) rNe:=by
 intro pins s σ H x y v u Q I rx ry h;obtain ⟨hs,q⟩:=h;cases x with
 | non =>
   cases rx;cases y with
   | non=>cases ry;exact PySem.EqNone.ne_none_none (ZaB I q (by simp))
   | bl j=>cases ry;exact PySem.EqNone.ne_none_bool (ZaB I q (by simp))
   | int j=>obtain ⟨t',rfl⟩:=ry;exact PySem.EqNone.ne_none_int (ZaB I q (by simp))
   | str j=>obtain ⟨t',rfl⟩:=ry;exact PySem.EqNone.ne_none_str (ZaB I q (by simp))
   | _=>exact absurd (show false=true from hs) yaK
 | bl i =>
   cases rx;cases y with
   | non=>cases ry;exact PySem.EqNone.ne_bool_none (ZaB I q (by simp))
   | bl j=>cases ry;exact ne_bool (ZaB I q (congrArg not dec_bl))
   | str j=>obtain ⟨t',rfl⟩:=ry;exact PySem.EqMixed.ne_bool_str (ZaB I q (by simp))
   | _=>exact absurd (show false=true from hs) yaK
 | int i =>
   obtain ⟨t,rfl⟩:=rx;cases y with
   | non=>cases ry;exact PySem.EqNone.ne_int_none (ZaB I q (by simp))
   | int j=>obtain ⟨t',rfl⟩:=ry;exact ne_int (ZaB I q (congrArg not Zir))
   | str j=>obtain ⟨t',rfl⟩:=ry;exact PySem.EqMixed.ne_int_str (ZaB I q (by simp))
   | _=>exact absurd (show false=true from hs) yaK
 | str i =>
   obtain ⟨t,rfl⟩:=rx;cases y with
   | non=>cases ry;exact PySem.EqNone.ne_str_none (ZaB I q (by simp))
   | bl j=>cases ry;exact PySem.EqMixed.ne_str_bool (ZaB I q (by simp))
   | int j=>obtain ⟨t',rfl⟩:=ry;exact PySem.EqMixed.ne_str_int (ZaB I q (by simp))
   | str j=>obtain ⟨t',rfl⟩:=ry;exact ne_str (ZaB I q (congrArg not ZiN))
   | _=>exact absurd (show false=true from hs) yaK
 | byt i =>
   obtain ⟨t,rfl⟩:=rx;cases y with
   | byt j=>obtain ⟨t',rfl⟩:=ry;exact PySem.W.ne_bytes (ZaB I q (congrArg not ZiJ))
   | _=>exact absurd (show false=true from hs) yaK
 | _=>cases y<;>exact absurd (show false=true from hs) yaK
theorem Zc6:OpR X (compareOp .Lt) (rI0 fun i j=>.bl (decide (i<j))):=opB0 fun _ _ _ _ _ _ _ q=>lt_int q
theorem ZcK:OpR X (compareOp .LtE) (rI0 fun i j=>.bl (decide (i≤j))):=opB0 fun _ _ _ _ _ _ _ q=>le_int q
theorem op_gt:OpR X (compareOp .Gt) (rI0 fun i j=>.bl (decide (j<i))):=opB0 fun _ _ _ _ _ _ _ q=>gt_int q
theorem op_ge:OpR X (compareOp .GtE) (rI0 fun i j=>.bl (decide (j≤i))):=opB0 fun _ _ _ _ _ _ _ q=>ge_int q
theorem ZeF:OpR X (compareOp .Is) (fun x y H Q=>y=.non∧Q (.bl (decide (x=.non))) H):=by
 intro pins s σ H x y v u Q I rx ry h;obtain ⟨rfl,q⟩:=h;cases ry;refine is_none_gen (ZaB I q ?_);cases x<;>first
   | (cases rx;rfl)
   | (obtain ⟨t,rfl⟩:=rx;rfl)
theorem Zim:OpR X (compareOp .IsNot) (fun x y H Q=>y=.non∧Q (.bl (!decide (x=.non))) H):=by
 intro pins s σ H x y v u Q I rx ry h;obtain ⟨rfl,q⟩:=h;cases ry;refine isnot_none_gen (ZaB I q ?_);cases x<;>first
   | (cases rx;rfl)
   | (obtain ⟨t,rfl⟩:=rx;rfl)
theorem nomark (b:Expr){op:CmpOp}(h:op≠.In:=by decide)(h2:op≠.NotIn:=by decide):behindInMarks op b=false:=by
 have e1:(op==CmpOp.In)=false:=by cases op<;>first | rfl | exact absurd rfl h
 have e2:(op==CmpOp.NotIn)=false:=by cases op<;>first | rfl | exact absurd rfl h2
 cases b<;>simp [behindInMarks,e1,e2]
theorem pe_cmpR {op:CmpOp}{r:R2}(ho:OpR X (compareOp op) r)(ha:PE X a ta)(hb:PE X b tb)(hm:behindInMarks op b=false):PE X (.Compare a [op] [b] pos) (tOp r ta tb):=by intro pins s σ H Q I h;exact wpAny_Compare1 (binT ha hb I h fun v u s2 x y H2 I2 rx ry q=>ho pins s2 σ H2 x y v u Q I2 rx ry q) hm
def tTest (t:TE):TT:=fun σ H Q=>t σ H fun x H'=>∃ k,x=.bl k∧Q k H'
theorem pt_cmpR {op:CmpOp}{r:R2}(ho:OpR X (compareOp op) r)(ha:PE X a ta)(hb:PE X b tb)(hm:behindInMarks op b=false):PT X (.Compare a [op] [b] pos) (tTest (tOp r ta tb)):=by
 intro pins s σ H Q I h;refine wpAny_isTrue_Compare1 (thn (ha pins s σ H _ I h) fun v s1 ⟨x,H1,I1,r1,q1⟩=>thn (hb pins s1 σ H1 _ I1 q1) fun u s2 ⟨y,H2,I2,r2,q2⟩ =>
   thn (ho pins s2 σ H2 x y v u _ I2 r1 r2 q2) fun c s3 ⟨z,H3,I3,r3,k,e,q3⟩=>?_) hm
 subst e;cases r3;exact zaO ⟨H3,I3,q3⟩
def tChain (r r':R2)(ta tb tc:TE):TE:=fun σ H Q=>ta σ H fun x H1=>tb σ H1 fun y H2=>r x y H2 fun z H3=>∃ k,z=.bl k ∧
 (if k=true then tc σ H3 fun w' H4=>r' y w' H4 Q else Q (.bl false) H3)
theorem ZdF {op op':CmpOp}{r r':R2}(ho:OpR X (compareOp op) r)(ho':OpR X (compareOp op') r')(ha:PE X a ta)(hb:PE X b tb)(hc:PE X c tc)
   (hm:lastMarks [op,op'] [b,c]=false:=by with_unfolding_all rfl):PT X (.Compare a [op,op'] [b,c] pos) (tTest (tChain r r' ta tb tc)):=by
 intro pins s σ H Q I h;refine isTrue_chain (thn (ha pins s σ H _ I h) fun v s1 ⟨x,H1,I1,r1,q1⟩=>test_link (thn (hb pins s1 σ H1 _ I1 q1) fun u s2 ⟨y,H2,I2,r2,q2⟩ =>
   thn (ho pins s2 σ H2 x y v u _ I2 r1 r2 q2) fun d s3 ⟨z,H3,I3,r3,k,e,q3⟩=>?_)) hm
 subst e;cases r3;refine zaO ?_;cases k with
 | false =>
   obtain ⟨k',e',q'⟩:=q3;cases e';exact ite_ff ⟨H3,I3,q'⟩
 | true =>
   refine ite_tt (test_last (thn (hc pins s3 σ H3 _ I3 q3) fun w' s4 ⟨z',H4,I4,r4,q4⟩=>thn (ho' pins s4 σ H4 y z' u w' _ I4 r2 r4 q4) fun d' s5 ⟨z2,H5,I5,r5,k2,e2,q5⟩=>?_));subst e2;cases r5;exact zaO ⟨H5,I5,q5⟩
theorem line63:(sizeLine:Nat)<2^63:=by rw [sizeLine_eq];decide
theorem vals1 {x:V}(r:Vals [x] us):∃ u,us=[u]∧RelV x u:=by
 cases r with
 | cons r1 r2=>cases r2;exact ⟨_,rfl,r1⟩
end
structure ObjM (h:Heap)(x dx C:Addr)(mA:Str→Option Value):Prop where
 obj:h.get? x=some (PySem.W.instObj C dx)
 ns:h.Ns1 dx mA
 ne:dx≠x
theorem ZjD {h:Heap}{dx:Addr}{mA:Str→Option Value}(n:h.Ns1 dx mA):∃ od,h.get? dx=some od∧∀ name,PySem.W.lookIn name od=some (mA name):=by
 obtain ⟨o,es,ep,ho,hd,hk,_,hm⟩:=n;refine ⟨o,ho,fun name=>?_⟩;have e:=hm name;unfold nsFind findBy at e;rw [← Array.find?_toList] at e;unfold PySem.W.lookIn;rw [hd];dsimp only;split
 · rename_i y q
   rw [q] at e;exact congrArg some e
 · rename_i q
   rw [q] at e;have a:es.toList.any (·.refKey)=false:=by rw [List.any_eq_false];intro y hy;obtain ⟨z,t,hkey⟩:=hk y (Array.mem_toList_iff.mp hy);simp [DictEntry.refKey,hkey]
   have a':¬ es.toList.any (·.refKey)=true:=by rw [a];exact yaK
   rw [if_neg a'];exact congrArg some e
theorem ObjM.look {h:Heap}{x dx:Addr}{mA:Str→Option Value}(I:ObjM h x dx C mA):∃ od,PySem.W.InstAt h x (PySem.W.instObj C dx) C (some od)∧∀ name,PySem.W.lookIn name od=some (mA name) :=
 let ⟨od,ho,hl⟩:=ZjD I.ns
 ⟨od,⟨I.obj,rfl,rfl,ho⟩,hl⟩
section
variable {x dx f:Addr}{mA:Str→Option Value}{name:Str}{v:Value}
theorem get_map {expr:Bool}(X:K.In s.heap)(I:ObjM s.heap x dx C mA)(hg:PySem.W.plainGet K C name=true)(hh:PySem.W.hasDictIn K C=true)
   (ha:PySem.W.findIn K (.ref C) name=some none) (hv:mA name=some v) (hv':PySem.W.handedIn v=true) (h:Q v { s with toks:=s.toks+1 }) :
   wpAny (model prog w) A (getAttr (.ref x) name expr) Q E s:=by
 obtain ⟨od,J,hl⟩:=I.look;exact PySem.W.get_value X J (PySem.W.plainGet_of hg).1 (PySem.W.findObj_own hh ha rfl (by rw [hl,hv])) hv' h
theorem get_meth {pl:Sem Bool}{Q:Value × List Value→Shared→Prop}(X:K.In s.heap)(I:ObjM s.heap x dx C mA)(hg:PySem.W.plainGet K C name=true)
   (hf:PySem.W.findIn K (.ref C) name=some (some (.ref f))) (ht:PySem.W.isFn K (.ref f)=true) (hv:mA name=none) (h:Q (.ref f,[.ref x]) s) :
   wpAny (model prog w) A (getMethod (.ref x) name pl) Q E s:=by
 obtain ⟨od,J,hl⟩:=I.look;exact PySem.W.method_fn X J (PySem.W.plainGet_of hg).1 (PySem.W.plainGet_of hg).2 hf (zaG.mp ht) (by show (PySem.W.lookIn name od).map (·.isSome)=some false;rw [hl,hv];rfl) h
theorem set_map {ns:List Str}{Q:Unit→Shared→Prop}(X:K.In s.heap)(I:ObjM s.heap x dx C mA)
   (hs:PySem.W.findIn K (.ref C) "__setattr__"=some (some (.builtin "object.__setattr__"))) (hp:PySem.W.plainOver K C=true) (ht:PySem.W.takerIn K C name=some none) (hh:PySem.W.hasDictIn K C=true)
   (hw:PySem.Within mA ns) (hsz:ns.length≤sizeLine)
   (h:∀ h',ObjM h' x dx C (fun y=>if y=name then some v else mA y)→Heap.SameBut dx s.heap h'→Q () { s with heap:=h',toks:=s.toks+2 }) :
   wpAny (model prog w) A (setAttr (.ref x) name v) Q E s:=by
 obtain ⟨od,J,hl⟩:=I.look;refine PySem.W.set_plain X J hs (PySem.W.osa_open (s:={ s with toks:=s.toks+1 }) (r:=none) X J hp ht fun b=>?_);obtain ⟨cd,hc,hd'⟩:=PySem.W.any_some hh;have hx:s.heap.get? x=some ⟨.ref C,some dx,.plain,#[]⟩:=I.obj;refine zaa (zab (zaa (zaa (wpAny_loadPart hx (zaa (PySem.W.Looks.here (s:={ s with toks:=s.toks+1 }) (PySem.W.looks_clsIn X hc) ?_))))));rw [hd'];refine zab (a:=some dx) (zaa (zab (zaa ?_)));refine wpAny_nsSet1 (s:={ s with toks:=s.toks+1 }) I.ns fun h' hn2 hs2=>?_
 obtain ⟨oD,esD,epD,hoD,hdD,hcD⟩:=hn2.count (PySem.Within.cons name v hw);refine zaa (wpAny_lookBehind hoD (by rw [hdD];exact pastItsLine_dict (yaN hcD (by rw [yak];omega))) ?_);exact zab (h _ ⟨(hs2.2 _ (Ne.symm I.ne)).trans I.obj,hn2,I.ne⟩ hs2)
theorem make_map {R:Result→Shared→Prop}{vs:List Value}{kw:List (Str × Value)}(X:K.In s.heap)(hm:PySem.W.makesIn K C=true)
   (hi:PySem.W.findIn K (.ref C) "__init__"=some (some (.ref f))) (hf:PySem.W.typeIn K (.ref f)=some (.type "function"))
   (h:codeAny (model prog w) (A.under (.builtin "type.__call__" ⟨.ref C::vs,kw⟩)) (.call (.ref f) ⟨.ref (s.heap.objs.size+1)::vs,kw⟩) (PySem.W.InitBack (s.heap.objs.size+1) R)
     { s with heap:=(s.heap.push PySem.W.emptyDict).push (PySem.W.instObj C s.heap.objs.size) }) :
   codeAny (model prog w) A (.call (.ref C) ⟨vs,kw⟩) R s:=by
 obtain ⟨hh,g,d,t,os⟩:=s;exact PySem.W.make_core (PySem.W.makes_of X hm) (PySem.W.looks_findIn X hi) (fun self=>PySem.W.bind_fn X self hf) (.inl rfl) h
end
def putF (f:Str)(v:V):List (Str × V)→List (Str × V)
 | []=>[(f,v)]
 | (g,x)::r=>if g=f then (g,v)::r else (g,x)::putF f v r
theorem Zd9 (f g:Str) (v:V):∀ fs:List (Str × V),(putF f v fs).lookup g=if g=f then some v else fs.lookup g
 | []=>by
   show List.lookup g [(f,v)]=_;by_cases h:g=f
   · have hb:(g==f)=true:=zaG.mpr h
     simp only [List.lookup,hb,if_pos h]
   · have hb:(g==f)=false:=zaL.mpr h
     simp only [List.lookup,hb,if_neg h]
 | (k, x)::r=>by
   have ih:=Zd9 f g v r;rw [show putF f v ((k,x)::r)=(if k=f then (k,v)::r else (k,x)::putF f v r) from rfl];by_cases hk:k=f
   · rw [if_pos hk]
     by_cases h:g=k
     · have hb:(g==k)=true:=zaG.mpr h
       simp only [List.lookup,hb,if_pos (h.trans hk)]
     · have hb:(g==k)=false:=zaL.mpr h
       simp only [List.lookup,hb,if_neg (fun e:g=f=>h (e.trans hk.symm))]
   · rw [if_neg hk]
     by_cases h:g=k
     · have hb:(g==k)=true:=zaG.mpr h
       simp only [List.lookup,hb,if_neg (fun e:g=f=>hk (h.symm.trans e))]
     · have hb:(g==k)=false:=zaL.mpr h
       simp only [List.lookup,hb];exact ih
theorem ZdJ (f:Str) (v:V):∀ fs:List (Str × V),f∈(putF f v fs).map (·.1)∧∀ g,g∈fs.map (·.1)→g∈(putF f v fs).map (·.1)
 | []=>⟨by simp [putF],fun g h=>by simp at h⟩
 | (k, x)::r=>by
   obtain ⟨i1,i2⟩:=ZdJ f v r;rw [show putF f v ((k,x)::r)=(if k=f then (k,v)::r else (k,x)::putF f v r) from rfl];by_cases hk:k=f
   · rw [if_pos hk]
     subst hk;exact ⟨by simp,fun g h=>by simpa using h⟩
   · rw [if_neg hk]
     refine ⟨?_,fun g h=>?_⟩
     · rw [yaF]
       exact yaM _ i1
     · rw [yaF] at h ⊢
       rcases yaj.mp h with e | e
       · exact yaj.mpr (.inl e)
       · exact yaM _ (i2 g e)
theorem Zee (f:Str)(v:V):∀ fs:List (Str × V),(putF f v fs).length≤fs.length+1
 | []=>by simp [putF]
 | (k,x)::r=>by
   have ih:=Zee f v r;rw [show putF f v ((k,x)::r)=(if k=f then (k,v)::r else (k,x)::putF f v r) from rfl];by_cases hk:k=f
   · rw [if_pos hk,yak,yak];omega
   · rw [if_neg hk,yak,yak];omega
theorem RelO.some_of {v:V}{o:Option Value}(r:RelO (some v) o):∃ u,o=some u∧RelV v u:=by
 cases o with
 | none=>exact (show False from r).elim
 | some u=>exact ⟨u,rfl,r⟩
theorem RelO.none_of {o:Option Value}(r:RelO none o):o=none:=by
 cases o with
 | none=>rfl
 | some u=>exact (show False from r).elim
theorem Zjv {v:V}{u:Value}(r:RelV v u):PySem.W.handedIn u=true:=by
 cases v with
 | non=>cases (show u=Value.none from r);rfl
 | bl b=>cases (show u=Value.bool b from r);rfl
 | int i=>obtain ⟨t,e⟩:=(show ∃ t,u=Value.int i t from r);cases e;rfl
 | str x=>obtain ⟨t,e⟩:=(show ∃ t,u=Value.str x t from r);cases e;rfl
 | byt b=>obtain ⟨t,e⟩:=(show ∃ t,u=Value.bytes b t from r);cases e;rfl
 | flt b=>obtain ⟨t,e⟩:=(show ∃ t,u=Value.float b t from r);cases e;rfl
 | ref a=>cases (show u=Value.ref a from r);rfl
 | ty n=>cases (show u=Value.type n from r);rfl
section
variable {H H':Hp}{h:Heap}{a dx:Addr}{fs fs':List (Str × V)}
theorem Zet (hok:HOk P w H h)(e:H a=some (.ins C dx fs)):∃ mA,ObjM h a dx C mA∧(∀ f,RelO (fs.lookup f) (mA f))∧PySem.Within mA (fs.map (·.1))∧fs.length≤1000∧H dx=some (.own a):=by
 obtain ⟨d,z,ne,ob,mA,n,r,q⟩:=(show ObjOk P w H h a (.ins C dx fs) from hok a _ e)
 exact ⟨mA,⟨ob,n,ne⟩,r,q,z,d⟩
end
structure Cls (K:ZFr)(C:Addr):Prop where
 pg:PySem.W.plainGet K C Str.empty=true
 hd:PySem.W.hasDictIn K C=true
 po:PySem.W.plainOver K C=true
 sa:PySem.W.findIn K (.ref C) "__setattr__"=some (some (.builtin "object.__setattr__"))
theorem Cls.get (c:Cls K C)(f:Str):PySem.W.plainGet K C f=true:=c.pg
def NoAttr (K:ZFr)(C:Addr)(f:Str):Prop:=PySem.W.findIn K (.ref C) f=some none
theorem NoAttr.taker {f:Str}(n:NoAttr K C f):PySem.W.takerIn K C f=some none:=by unfold PySem.W.takerIn;rw [show PySem.W.findIn K (.ref C) f=some none from n];rfl
structure Con (K:ZFr)(C:Addr)(f:Str)(v:V)(u:Value):Prop where
 at_:PySem.W.findIn K (.ref C) f=some (some u)
 rel:RelV v u
 get:PySem.W.specialIn K u "__get__"=some none
 cp:PySem.W.copiedNames.contains f=false
structure Meth (K:ZFr)(C:Addr)(m:Str)(f:Addr):Prop where
 at_:PySem.W.findIn K (.ref C) m=some (some (.ref f))
 fn:PySem.W.isFn K (.ref f)=true
 kp:PySem.W.keepIn K (.ref f)=true
section
variable {X:Cx}{σ:St}{H:Hp}{a dx:Addr}{fs:List (Str × V)}{f:Str}{v:V}
theorem ZhT {b:Bool}(I:Inv X pins σ H s)(e:H a=some (.ins C dx fs))(c:Cls X.K C)(n:NoAttr X.K C f)(l:fs.lookup f=some v)
   (h:∀ u s',Inv X pins σ H s'→RelV v u→Q u s'):wpAny (model X.prog X.w) A (getAttr (.ref a) f b) Q E s:=by
 obtain ⟨mA,O,r,_,_,_⟩:=Zet I.hok e;obtain ⟨u,hu,ru⟩:=RelO.some_of (v:=v) (o:=mA f) (by rw [← l];exact r f);exact get_map I.kIn O (c.get f) c.hd n hu (Zjv ru) (h u _ (I.tok _) ru)
theorem ZeE {m:Str}{g:Addr}{pl:Sem Bool}{Q:Value × List Value→Shared→Prop}(I:Inv X pins σ H s)(e:H a=some (.ins C dx fs))(c:Cls X.K C)(k:Meth X.K C m g)(l:fs.lookup m=none)
   (h:Q (.ref g,[.ref a]) s):wpAny (model X.prog X.w) A (getMethod (.ref a) m pl) Q E s:=by
 obtain ⟨mA,O,r,_,_,_⟩:=Zet I.hok e;have hn:mA m=none:=RelO.none_of (by rw [← l];exact r m);exact get_meth I.kIn O (c.get m) k.at_ k.fn hn h
theorem Zii {y:V}{u:Value}{Q:Unit→Shared→Prop}(I:Inv X pins σ H s)(e:H a=some (.ins C dx fs))(c:Cls X.K C)(n:NoAttr X.K C f)(hl:fs.length<1000)(ry:RelV y u)
   (h:∀ s',Inv X pins σ (upd H a (.ins C dx (putF f y fs))) s'→Q () s'):wpAny (model X.prog X.w) A (setAttr (.ref a) f u) Q E s:=by
 obtain ⟨mA,O,r,wi,_,ho⟩:=Zet I.hok e;have hz:(fs.map (·.1)).length≤sizeLine:=by rw [yaa,sizeLine_eq];omega
 refine set_map I.kIn O c.sa c.po n.taker c.hd wi hz fun h' O' sb=>h _ ?_
 have hd:∃ o,h'.get? dx=some o:=let ⟨o,_,_,e',_⟩:=O'.ns;⟨o,e'⟩
 refine I.write (x:=a) (e:=dx) (by rw [e];exact True.intro) (.inr ho) (fun b q hb z=>(sb.2 b hb).trans z) hd ?_;refine ⟨by rw [Zai O.ne];exact ho,?_,O.ne,O'.obj,_,O'.ns,fun g=>?_,fun g hg=>?_⟩
 · have:=Zee f y fs;omega
 · show RelO ((putF f y fs).lookup g) (if g=f then some u else mA g)
   rw [Zd9];by_cases q:g=f
   · rw [if_pos q,if_pos q];exact ry
   · rw [if_neg q,if_neg q];exact r g
 · by_cases q:g=f
   · rw [q];exact (ZdJ f y fs).1
   · refine (ZdJ f y fs).2 g (wi g fun z=>hg ?_)
     show (if g=f then some u else mA g)=none;rw [if_neg q];exact z
theorem Inv.made (I:Inv X pins σ H s):Inv X pins σ (upd (upd H s.heap.objs.size (.own (s.heap.objs.size+1))) (s.heap.objs.size+1) (.ins C s.heap.objs.size []))
   { s with heap:=(s.heap.push PySem.W.emptyDict).push (PySem.W.instObj C s.heap.objs.size) }:=by
 have e1:(s.heap.push PySem.W.emptyDict).get? s.heap.objs.size=some PySem.W.emptyDict:=zag s.heap rfl;have e2:((s.heap.push PySem.W.emptyDict).push (PySem.W.instObj C s.heap.objs.size)).get? (s.heap.objs.size+1)=some (PySem.W.instObj C s.heap.objs.size):=by
   have:=zag (s.heap.push PySem.W.emptyDict) (o:=PySem.W.instObj C s.heap.objs.size) rfl
   rwa [zaN] at this
 have e3:(s.heap.push PySem.W.emptyDict).Ns s.heap.objs.size (fun _=>none):=⟨PySem.W.emptyDict,#[],_,e1,rfl,(fun e he=>absurd he (by simp)),fun _=>rfl⟩
 have I1:=I.laid (a:=s.heap.objs.size) (o:=.own (s.heap.objs.size+1)) (h':=s.heap.push PySem.W.emptyDict) (t':=s.toks) (fun b u q=>zac _ q) (yad _) ⟨_,e1⟩;refine I1.laid (a:=s.heap.objs.size+1) (o:=.ins C s.heap.objs.size []) (t':=s.toks) (fun b u q=>zac _ q) (Nat.le_of_eq (zaN _ _)) ?_;have ne:s.heap.objs.size≠s.heap.objs.size+1:=yaA (ybr _);refine ⟨by rw [Zai ne,Zab],yau _,ne,e2,fun _=>none,(Heap.Ns1.of_empty e3).at fun o q=>zac _ q,fun _=>True.intro,fun y hy=>absurd rfl hy⟩
theorem attr_of {env:Env}{e:Expr}{f:Str}{pos:Pos}(hb:attributeBase e f env (eval e env)=eval e env)
   (h:wpAny (model prog w) A (eval e env) (fun o s₁=>wpAny (model prog w) A (getAttr o f true) Q E s₁) E s):wpAny (model prog w) A (eval (.Attribute e f pos) env) Q E s :=
 Attribute_any_ h (by rw [arm_eval_Attribute,hb])
end
def tFld (K:ZFr)(ta:TE)(f:Str):TE:=fun σ H Q=>ta σ H fun x H1=>∃ a C dx fs v,x=.ref a∧H1 a=some (.ins C dx fs)∧Cls K C∧NoAttr K C f∧fs.lookup f=some v∧Q v H1
def sFld (K:ZFr)(ta tv:TE)(f:Str):TS:=fun D σ H=>tv σ H fun y H1=>ta σ H1 fun x H2=>∃ a C dx fs,x=.ref a∧H2 a=some (.ins C dx fs)∧Cls K C∧NoAttr K C f∧fs.length<1000 ∧
 D.nx σ (upd H2 a (.ins C dx (putF f y fs)))
section
variable {X:Cx}{o e value:Expr}{f:Str}{pos tpos:Pos}{ta tv:TE}
theorem pe_fld (he:PE X e ta)(hb:attributeBase e f X.env (eval e X.env)=eval e X.env):PE X (.Attribute e f pos) (tFld X.K ta f):=by intro pins s σ H Q I h;refine attr_of hb (thn (he pins s σ H _ I h) fun u s1 ⟨x,H1,I1,rx,a,C,dx,fs,v,ex,ea,c,n,l,q⟩=>?_);subst ex;obtain rfl:u=Value.ref a:=rx;exact ZhT I1 ea c n l fun u' s2 I2 ru=>⟨v,H1,I2,ru,q⟩
theorem ps_fld (ha:PE X o ta)(hv:PE X value tv)(hs:swapsWith value (some (.Attribute o f pos')) pos.line X.env=pure false):PS X (.Assign [.Attribute o f pos'] value pos) (sFld X.K ta tv f):=by intro pins s σ H D I h;refine plainObj_wpAny_Assign_Attribute (thn (hv pins s σ H _ I h) fun u s1 ⟨y,H1,I1,ry,q⟩=>thn (ha pins s1 σ H1 _ I1 q) fun ov s2 ⟨x,H2,I2,rx,a,C,dx,fs,ex,ea,c,n,l,q2⟩=>?_) hs;subst ex;obtain rfl:ov=Value.ref a:=rx;exact Zii I2 ea c n l ry fun s3 I3=>⟨σ,_,I3,q2⟩
end
section
variable {X:Cx}{σ:St}{H:Hp}{c:Value}{b:Bool}
inductive TyOf (K:ZFr) (H:Hp):V→Value→Prop where
 | non:TyOf K H .non (.type "NoneType")
 | bl (x:Bool):TyOf K H (.bl x) (.type "bool")
 | int (i:Int):TyOf K H (.int i) (.type "int")
 | str (x:Str):TyOf K H (.str x) (.type "str")
 | flt (x:UInt64):TyOf K H (.flt x) (.type "float")
 | lst {a:Addr} {xs:List V} (e:H a=some (.lst xs)):TyOf K H (.ref a) (.type "list")
 | frz {a:Addr} {o:Obj} {xs:List V} (e:H a=some (.frz o (.lst xs))):TyOf K H (.ref a) (.type "list")
 | tup {a:Addr} {xs:List V} (e:H a=some (.tup xs)):TyOf K H (.ref a) (.type "tuple")
 | dK {a:Addr} {kvs:List (Key × V)} (e:H a=some (.dK kvs)):TyOf K H (.ref a) (.type "dict")
 | dT {a:Addr} {kvs:List (List Key × V)} (e:H a=some (.dT kvs)):TyOf K H (.ref a) (.type "dict")
 | ins {a C dx:Addr} {fs:List (Str × V)} (e:H a=some (.ins C dx fs)) (cl:Cls K C) (ha:PySem.W.findIn K (.ref C) "__class__"=some (some (.builtin "object.__class__")))
     (hn:PySem.W.specialIn K (.builtin "object.__class__") "__get__"=some (some (.builtin "getset_descriptor.__get__"))) (htk:PySem.W.takesIn K (.builtin "object.__class__")=some true)
     (hm:PySem.W.mroIn K C (.type "object")=some true):TyOf K H (.ref a) (.ref C)
theorem ZjJ {x:V}{u t:Value}(I:Inv X pins σ H s)(rx:RelV x u)(ty:TyOf X.K H x t)(e:PySem.W.kitOne X.K t c=some b)(h:∀ tk,Q (.bool b) { s with toks:=tk }) :
   wpAny (model X.prog X.w) A (call (.builtin "isinstance") [u,c]) Q E s:=by
 cases ty with
 | non=>cases (show u=Value.none from rx);exact zay PySem.W.kitx_none I.kIn True.intro e (fun z=>nomatch z) h
 | bl y=>cases (show u=Value.bool y from rx);exact zay PySem.W.kitx_bool I.kIn True.intro e (fun z=>nomatch z) h
 | int i=>obtain ⟨t,q⟩:=(show ∃ t,u=Value.int i t from rx);cases q;exact zay PySem.W.kitx_int I.kIn True.intro e (fun z=>nomatch z) h
 | str y=>obtain ⟨t,q⟩:=(show ∃ t,u=Value.str y t from rx);cases q;exact zay PySem.W.kitx_str I.kIn True.intro e (fun z=>nomatch z) h
 | flt y=>obtain ⟨t,q⟩:=(show ∃ t,u=Value.float y t from rx);cases q;exact zay PySem.W.kitx_float I.kIn True.intro e (fun z=>nomatch z) h
 | @lst a xs ea =>
   cases (show u=Value.ref a from rx);obtain ⟨_,_,n,_,h1⟩:=(show ObjOk X.prog X.w H s.heap a (.lst xs) from I.hok a _ ea)
   exact zay PySem.W.kitx_list I.kIn ⟨_,h1,rfl⟩ e (fun z=>nomatch z) h
 | @frz a ob xs ea =>
   cases (show u=Value.ref a from rx);obtain ⟨_,_,_,n,_,h1⟩:=(show ObjOk X.prog X.w H s.heap a (.frz ob (.lst xs)) from I.hok a _ ea)
   exact zay PySem.W.kitx_list I.kIn ⟨_,h1,rfl⟩ e (fun z=>nomatch z) h
 | @tup a xs ea =>
   cases (show u=Value.ref a from rx);obtain ⟨_,_,_,p⟩:=(show ObjOk X.prog X.w H s.heap a (.tup xs) from I.hok a _ ea)
   obtain ⟨o,h1,h2,_⟩:=p;exact zay PySem.W.kitx_tuple I.kIn ⟨o,h1,h2⟩ e (fun z=>nomatch z) h
 | @dK a kvs ea =>
   cases (show u=Value.ref a from rx);obtain ⟨_,_,vs,_,p⟩:=(show ObjOk X.prog X.w H s.heap a (.dK kvs) from I.hok a _ ea)
   obtain ⟨o,es,ep,h1,h2,_⟩:=p;exact zay PySem.W.kitx_dict I.kIn ⟨o,h1,h2.1⟩ e (fun z=>nomatch z) h
 | @dT a kvs ea =>
   cases (show u=Value.ref a from rx);obtain ⟨_,_,xs,_,o,es,ep,h1,h2,_⟩:=(show ObjOk X.prog X.w H s.heap a (.dT kvs) from I.hok a _ ea)
   exact zay PySem.W.kitx_dict I.kIn ⟨o,h1,h2.1⟩ e (fun z=>nomatch z) h
 | @ins a C dx fs ea cl ha hn htk hm =>
   cases (show u=Value.ref a from rx);obtain ⟨mA,O,_⟩:=Zet I.hok ea;obtain ⟨od,J,_⟩:=O.look;exact zay (PySem.W.kitx_own (cl.get _) cl.hd ha hn htk hm) I.kIn J e (fun z=>nomatch z) h
end
structure Room (k:Nat)(A:Around):Prop where
 hd:A.handled=none
 dp:A.depth+3*k+5<recursionLimit
 un:A.units+16*k+200<cLine
theorem Room.mono {j k:Nat}(r:Room k A)(h:j≤k):Room j A:=⟨r.hd,by have:=r.dp;omega,by have:=r.un;omega⟩
theorem Room.deeper {k:Nat}(r:Room (k+1) A)(env:Env):Room k (A.deeper env) :=
 ⟨r.hd,by have:=r.dp;show A.depth+1+3*k+5<_;omega,by have:=r.un;show A.units+3+16*k+200<_;omega⟩
theorem ZhW {kw:List (Str × Value)}:(A.under (.builtin "type.__call__" ⟨.ref C::us,kw⟩)).depth=A.depth+1:=by
 first | rfl | simp [Around.under,Code.weight,Code.isCreation,Code.isGuard,Code.isCaller,Code.frames,Code.isFrame,guardIds]
theorem ZhY {kw:List (Str × Value)}:(A.under (.builtin "type.__call__" ⟨.ref C::us,kw⟩)).units=A.units+1:=by
 first | rfl | simp [Around.under,Code.cUnits,Code.frames,Code.isFrame]
theorem Room.make {k:Nat}(r:Room (k+1) A)(C:Addr)(us:List Value)(kw:List (Str × Value)):Room k (A.under (.builtin "type.__call__" ⟨.ref C::us,kw⟩)) :=
 ⟨r.hd,by have:=r.dp;rw [ZhW];omega,by have:=r.un;rw [ZhY];omega⟩
theorem Room.depth {k:Nat}(r:Room k A):A.depth<recursionLimit:=by have:=r.dp;omega
def tNil:TA:=fun _ H Q=>Q [] H
def tCons (ta:TE)(tr:TA):TA:=fun σ H Q=>ta σ H fun x H1=>tr σ H1 fun xs H2=>Q (x::xs) H2
section
variable {X:Cx}{e:Expr}{es:List Expr}{te:TE}{t:TA}{pos:Pos}
theorem Zac:PA X [] tNil:=fun _ _ _ _ H Q I h=>zaD ⟨[],H,I,.nil,h⟩
theorem Zaa (ha:PE X e te)(hr:PA X es t)(hs:starEach (e::es) X.env=(false,eval e X.env)::starEach es X.env:=by rfl):PA X (e::es) (tCons te t):=by intro pos pins s σ H Q I h;rw [hs];show wpAny _ _ (spliced ((false,eval e X.env)::backTo pos (starEach es X.env))) _ _ s;refine zan (thn (ha pins s σ H _ I h) fun u s1 ⟨x,H1,I1,r1,q1⟩=>?_);exact thn (hr pos pins s1 σ H1 _ I1 q1) fun us s2 ⟨xs,H2,I2,r2,q2⟩=>⟨x::xs,H2,I2,.cons r1 r2,q2⟩
def tTup (t:TA):TE:=fun σ H Q=>t σ H fun xs H1=>xs.length≤sizeLine∧∀ p,H1 p=none→Q (.ref p) (upd H1 p (.tup xs))
def tLst (t:TA):TE:=fun σ H Q=>t σ H fun xs H1=>xs.length≤sizeLine∧∀ p,H1 p=none→Q (.ref p) (upd H1 p (.lst xs))
theorem ZaR {x1}(h:PA X es t):PE X (.Tuple es x1 pos) (tTup t):=by intro pins s σ H Q I hq;refine wpAny_Tuple_spliced (thn (h pos pins s σ H _ I hq) fun us s1 ⟨xs,H1,I1,r,z,q⟩=>⟨by rw [← r.length];exact z,?_⟩);have hf:H1 s1.heap.objs.size=none:=I1.hok.fresh (yad _);refine ⟨.ref s1.heap.objs.size,upd H1 s1.heap.objs.size (.tup xs),I1.laid (t':=s1.toks) (fun b u e=>zac _ e) (yad _) ?_,rfl,q _ hf⟩;exact ⟨z,us,r,⟨_,zag _ rfl,rfl,_,rfl⟩⟩
theorem ZaJ (h:PA X es t):PE X (.List es pos) (tLst t):=by intro pins s σ H Q I hq;refine wpAny_List_spliced (thn (h pos pins s σ H _ I hq) fun us s1 ⟨xs,H1,I1,r,z,q⟩=>⟨by rw [← r.length];exact z,?_⟩);have hf:H1 s1.heap.objs.size=none:=I1.hok.fresh (yad _);refine ⟨.ref s1.heap.objs.size,upd H1 s1.heap.objs.size (.lst xs),I1.laid (t':=s1.toks) (fun b u e=>zac _ e) (yad _) ?_,rfl,q _ hf⟩;exact ⟨z,us,0,r,zag _ rfl⟩
end
abbrev Sp:=List V→Hp→VK→XK→Prop
abbrev CXT:=List Env→Hp→Shared→XK→Value→Shared→Prop
structure Env0 (P:Program)(w:World)(K:ZFr)(mg:Str→Option Value)(base:Heap)(A:Around)(outer:List Env)(s:Shared)(H:Hp):Prop where
 frames:A.frames=some outer
 mod:Mod K mg base
 bs:∀ b o,base.get? b=some o→s.heap.get? b=some o∧H b=none
 bsz:base.objs.size≤s.heap.objs.size
 funs:s.heap.FunFrames base outer
 frf:∀ b∈frs outer,H b=none
 hok:HOk P w H s.heap
 bare:AllBare s.gens
def CE (outer:List Env)(P:Program)(w:World)(H:Hp)(s:Shared)(Q:VK)(u:Value)(s':Shared):Prop :=
 ∃ v H',s'.os=s.os∧AllBare s'.gens∧Un (frs outer) [] H H' s.heap s'.heap∧HOk P w H' s'.heap∧RelV v u∧Q v H'
def CR (CX:CXT)(outer:List Env)(P:Program)(w:World)(H:Hp)(s:Shared)(Q:VK)(E:XK)(r:Result)(s':Shared):Prop :=
 match r with
 | .ok (.ret u)=>CE outer P w H s Q u s'
 | .ok _=>False
 | .error e=>CX outer H s E e s'
structure FnOk (P:Program)(w:World)(K:ZFr)(mg:Str→Option Value)(base:Heap)(CX:CXT)(k:Nat)(f:Addr)(fd:FuncData)(ps:List Str)(sp:Sp):Prop where
 len:∀ vs H Q E,sp vs H Q E→vs.length=ps.length
 run:∀ (A:Around) (outer:List Env) (s:Shared) (H:Hp) (args:Args) (us:List Value) (vs:List V) (Q:VK) (E:XK),Room k A→Env0 P w K mg base A outer s H→BindsTo s fd args (ps.zip us)→Vals vs us→sp vs H Q E →
   codeAny (model P w) A (.call (.ref f) args) (CR CX outer P w H s Q E) s
theorem FnOk.mono {CX:CXT}{j k:Nat}{f:Addr}{ps:List Str}{sp:Sp}(F:FnOk P w K mg base CX j f fd ps sp)(h:j≤k) :
   FnOk P w K mg base CX k f fd ps sp:=⟨F.len,fun A outer s H args us vs Q E hr=>F.run A outer s H args us vs Q E (hr.mono h)⟩
theorem FnOk.imp {CX:CXT}{k:Nat}{f:Addr}{ps:List Str}{sp sp':Sp}(F:FnOk P w K mg base CX k f fd ps sp)
   (h:∀ vs H Q E,sp' vs H Q E→sp vs H Q E):FnOk P w K mg base CX k f fd ps sp' :=
 ⟨fun vs H Q E q=>F.len vs H Q E (h _ _ _ _ q),fun A outer s H args us vs Q E hr he hb hv hs=>F.run A outer s H args us vs Q E hr he hb hv (h _ _ _ _ hs)⟩
theorem Env0.make {outer:List Env}{H:Hp}(e:Env0 P w K mg base A outer s H)(C:Addr)(us:List Value)(kw:List (Str × Value)) :
   Env0 P w K mg base (A.under (.builtin "type.__call__" ⟨.ref C::us,kw⟩)) outer s H:=⟨by first | exact e.frames | (simpa [Around.under,Code.envs,Code.isFrame,pushEnvs] using e.frames),e.mod,e.bs,e.bsz,e.funs,e.frf,e.hok,e.bare⟩
section
variable {X:Cx}{σ:St}{H:Hp}{s':Shared}
theorem Inv.env0 (I:Inv X pins σ H s):Env0 X.prog X.w X.K X.mg X.base X.A X.stack s H :=
 ⟨I.ok.frames,I.ok.mod,I.bs,yaN I.ok.bsz I.sz,I.stack,I.stkFree,I.hok,I.bare⟩
theorem Inv.after {Q:VK}{u:Value}(I:Inv X pins σ H s)(h:CE X.stack X.prog X.w H s Q u s'):EP X pins σ Q u s':=by obtain ⟨v,H',os,bare,un,hok,r,q⟩:=h;obtain ⟨hh,g,d,t,os'⟩:=s';obtain rfl:os'=s.os:=os;exact ⟨v,H',I.call (h':=hh) (g':=g) (d':=d) (t':=t) (ch:=[]) un hok bare (fun b z=>absurd z (by simp)),r,q⟩
end
def tCall (sp:Sp)(dvs:List V)(E:XK)(t:TA):TE:=fun σ H Q=>t σ H fun vs H1=>sp (vs++dvs) H1 Q E
def tMake (C:Addr)(sp:Sp)(dvs:List V)(E:XK)(t:TA):TE:=fun σ H Q=>t σ H fun vs H1=>∀ x dx,H1 x=none→H1 dx=none→dx≠x →
 sp (.ref x::(vs++dvs)) (upd (upd H1 dx (.own x)) x (.ins C dx [])) (fun v H2=>v=.non∧Q (.ref x) H2) E
def Binds (K:ZFr)(fd:FuncData)(ps:List Str)(ds:List Value):Prop :=
 ∀ (s:Shared) (us:List Value),K.In s.heap→(us++ds).length=ps.length→BindsTo s fd ⟨us,[]⟩ (ps.zip (us++ds))
theorem Binds.all {ps:List Str}(h:∀ us:List Value,us.length=ps.length→bindArgs fd ⟨us,[]⟩=pure (ps.zip us)):Binds K fd ps []:=fun s us _ hl=>by
 rw [yaH] at hl ⊢;exact .of_eq (h us hl)
def Passes (CX:CXT)(X:Cx)(E:XK):Prop:=∀ (pins:List (Addr × Obj)) (σ:St) (H:Hp) (s:Shared) (e:Value) (s':Shared),Inv X pins σ H s→CX X.stack H s E e s'→X.xe e s'
section
variable {X:Cx}{CX:CXT}{k:Nat}{f:Addr}{ps:List Str}{sp:Sp}{dvs:List V}{ds:List Value}{E:XK}{x m:Str}{p pos apos:Pos}{e o:Expr}{es:List Expr}{ta:TE}{t:TA}
theorem Zgd {σ:St}{H:Hp}{Q:VK}{vs:List V}(F:FnOk X.prog X.w X.K X.mg X.base CX k f fd ps sp)(hr:Room k X.A)(hb:Binds X.K fd ps ds)(hd:Vals dvs ds)(hx:Passes CX X E)
   (I:Inv X pins σ H s) (r:Vals vs us) (h:sp (vs++dvs) H Q E):wpAny (model X.prog X.w) X.A (call (.ref f) us) (EP X pins σ Q) X.xe s:=by
 have r2:Vals (vs++dvs) (us++ds):=r.append hd;have hl:(us++ds).length=ps.length:=by rw [← r2.length];exact F.len _ _ _ _ h
 refine wpAny_call (za3 (F.run X.A X.stack s H ⟨us,[]⟩ (us++ds) (vs++dvs) Q E hr I.env0 (hb s us I.kIn hl) r2 h) fun r s' hq=>?_);cases r with
 | error e=>exact hx pins σ H s e s' I hq
 | ok fl =>
   cases fl with
   | ret u=>exact I.after hq
   | next=>exact False.elim hq
   | brk=>exact False.elim hq
   | cont=>exact False.elim hq
theorem pe_call (F:FnOk X.prog X.w X.K X.mg X.base CX k f fd ps sp)(hr:Room k X.A)(hg:Gl X x)(hm:X.mg x=some (.ref f))(hk:PySem.W.keepIn X.K (.ref f)=true)(hb:Binds X.K fd ps ds)(hd:Vals dvs ds)(hx:Passes CX X E)
   (ha:PA X (e::es) t) (hdb:(x==("__debug__":Str))=false:=by decide) (he:starEach (e::es) X.env=(false,eval e X.env)::starEach es X.env:=by rfl) (hpl:(backTo pos (starEach es X.env)).any (·.1)=false:=by rfl) :
   PE X (.Call (.Name x p) (e::es) [] pos) (tCall sp dvs E t):=by
 intro pins s σ H Q I h;refine zal (Zdw I hg hm ?_ hdb);refine PySem.W.callWith_K (h₀:=X.base) I.ok.mod.kin hk (thn (ha pos pins s σ H _ I h) fun us s1 ⟨vs,H1,I1,r,q⟩=>⟨I1.kIn,?_⟩) he hpl;exact Zgd F hr hb hd hx I1 r q
structure Mk (K:ZFr)(C f:Addr):Prop where
 makes:PySem.W.makesIn K C=true
 init:PySem.W.findIn K (.ref C) "__init__"=some (some (.ref f))
 fn:PySem.W.isFn K (.ref f)=true
 kp:PySem.W.keepIn K (.ref C)=true
theorem Zhi {σ:St}{H:Hp}{Q:VK}{vs:List V}(M:Mk X.K C f)(F:FnOk X.prog X.w X.K X.mg X.base CX k f fd ps sp)(hr:Room (k+1) X.A)(hb:Binds X.K fd ps ds)(hd:Vals dvs ds)
   (hx:Passes CX X E) (I:Inv X pins σ H s) (r:Vals vs us)
   (h:∀ x dx,H x=none→H dx=none→dx≠x→sp (.ref x::(vs++dvs)) (upd (upd H dx (.own x)) x (.ins C dx [])) (fun v H2=>v=.non∧Q (.ref x) H2) E) :
   wpAny (model X.prog X.w) X.A (call (.ref C) us) (EP X pins σ Q) X.xe s:=by
 have hq:=h (s.heap.objs.size+1) s.heap.objs.size (I.hok.fresh (ycd _)) (I.hok.fresh (yad _)) (yaA (ybr _));have I2:=Inv.made (C:=C) I;have r2:Vals (V.ref (s.heap.objs.size+1)::(vs++dvs)) (Value.ref (s.heap.objs.size+1)::(us++ds)):=.cons rfl (r.append hd);have hl:(Value.ref (s.heap.objs.size+1)::us++ds).length=ps.length:=by have e:=r2.length;rw [F.len _ _ _ _ hq] at e;exact e.symm
 refine wpAny_call (make_map (f:=f) I.kIn M.makes M.init (zaG.mp M.fn) (za3 (F.run _ X.stack _ _ ⟨Value.ref (s.heap.objs.size+1)::us,[]⟩ (Value.ref (s.heap.objs.size+1)::(us++ds)) _ _ E (hr.make C us [])
   (I2.env0.make C us []) (hb _ (Value.ref (s.heap.objs.size+1)::us) I2.kIn hl) r2 hq) fun r s' hq'=>?_))
 cases r with
 | error e=>exact hx pins σ _ _ e s' I2 hq'
 | ok fl =>
   cases fl with
   | ret u =>
     obtain ⟨v,H',I3,rv,ev,q3⟩:=I2.after hq';subst ev;exact ⟨rv,⟨V.ref (s.heap.objs.size+1),H',I3,rfl,q3⟩⟩
   | next=>exact False.elim hq'
   | brk=>exact False.elim hq'
   | cont=>exact False.elim hq'
theorem pe_make (M:Mk X.K C f)(F:FnOk X.prog X.w X.K X.mg X.base CX k f fd ps sp)(hr:Room (k+1) X.A)(hg:Gl X x)(hm:X.mg x=some (.ref C))(hb:Binds X.K fd ps ds)(hd:Vals dvs ds)(hx:Passes CX X E)
   (ha:PA X (e::es) t) (hdb:(x==("__debug__":Str))=false:=by decide) (he:starEach (e::es) X.env=(false,eval e X.env)::starEach es X.env:=by rfl) (hpl:(backTo pos (starEach es X.env)).any (·.1)=false:=by rfl) :
   PE X (.Call (.Name x p) (e::es) [] pos) (tMake C sp dvs E t):=by
 intro pins s σ H Q I h;refine zal (Zdw I hg hm ?_ hdb);refine PySem.W.callWith_K (h₀:=X.base) I.ok.mod.kin M.kp (thn (ha pos pins s σ H _ I h) fun us s1 ⟨vs,H1,I1,r,q⟩=>⟨I1.kIn,?_⟩) he hpl;exact Zhi M F hr hb hd hx I1 r q
theorem pe_make0 (M:Mk X.K C f)(F:FnOk X.prog X.w X.K X.mg X.base CX k f fd ps sp)(hr:Room (k+1) X.A)(hg:Gl X x)(hm:X.mg x=some (.ref C))(hb:Binds X.K fd ps ds)(hd:Vals dvs ds)(hx:Passes CX X E)
   (hdb:(x==("__debug__":Str))=false:=by decide):PE X (.Call (.Name x p) [] [] pos) (tMake C sp dvs E tNil):=by
 intro pins s σ H Q I h;refine zal (Zdw I hg hm ?_ hdb);exact PySem.W.callWith_K0 I.kIn M.kp (Zhi (us:=[]) M F hr hb hd hx I .nil h)
end
section
variable {X:Cx}{CX:CXT}{k:Nat}{f:Addr}{ps ks:List Str}{sp:Sp}{E:XK}{x m:Str}{p pos apos kpos:Pos}{e o:Expr}{es:List Expr}{kws:List Keyword}{te ta:TE}{t tk:TA}{nm:Option Str}
structure KBinds (K:ZFr)(fd:FuncData)(ps ks:List Str)(g:List Value→List Value→List Value)(gV:List V→List V→List V):Prop where
 to:∀ (s:Shared) (us ws:List Value),K.In s.heap→(g us ws).length=ps.length→BindsTo s fd ⟨us,ks.zip ws⟩ (ps.zip (g us ws))
 rel:∀ {vs:List V} {us:List Value} {zs:List V} {ws:List Value},Vals vs us→Vals zs ws→Vals (gV vs zs) (g us ws)
variable {g:List Value→List Value→List Value}{gV:List V→List V→List V}
end
structure FnScope (N P:List Str)(sc:Scope):Prop where
 kind:sc.kind=.function
 co:sc.isCoroutine=false
 gen:sc.isGenerator=false
 nd:N.Nodup
 pre:N.take P.length=P
 par:∀ x∈P,sc.names.lookup x=some .local∨sc.names.lookup x=some .cell
 nofree:∀ y∈sc.names,y.2≠.free
theorem Zfj {kindOf:Str→Option NameKind}{x:Str}:∀ {binds:List (Str × Value)} {m:Str→Option Value},(∀ v,(x,v)∉binds)→bindL kindOf binds m x=m x
 | [],_,_=>rfl
 | (n,v)::r,m,h=>by
   unfold bindL;rw [Zfj fun w hw=>h w (yaM _ hw)];split
   · have:x≠n:=by rintro rfl;exact h v yaJ
     simp [this]
   · rfl
theorem Zfp {kindOf:Str→Option NameKind}{x:Str}:∀ {binds:List (Str × Value)} {m:Str→Option Value},(∀ v,(x,v)∉binds)→bindC kindOf binds m x=m x
 | [],_,_=>rfl
 | (n,v)::r,m,h=>by
   unfold bindC;rw [Zfp fun w hw=>h w (yaM _ hw)];split
   · rfl
   · have:x≠n:=by rintro rfl;exact h v yaJ
     simp [this]
theorem Zfi {kindOf:Str→Option NameKind}{x:Str}{v:Value}:∀ {P:List Str} {vs:List Value} {i:Nat} {m:Str→Option Value},P.Nodup→P[i]?=some x→vs[i]?=some v→kindOf x=some .local →
   bindL kindOf (P.zip vs) m x=some v
 | [],_,_,_,_,h,_,_=>by simp at h
 | _::_,[],_,_,_,_,h,_=>by simp at h
 | p::P,w::vs,0,m,nd,h1,h2,hk=>by
   simp at h1 h2;subst h1;subst h2;show bindL kindOf ((p,w)::P.zip vs) m p=_;unfold bindL;rw [Zfj fun v hv=>(ybS.mp nd).1 (List.of_mem_zip hv).1,if_pos hk];simp
 | p::P,w::vs,i+1,m,nd,h1,h2,hk=>by
   show bindL kindOf ((p,w)::P.zip vs) m x=_;unfold bindL;exact Zfi (i:=i) (ybS.mp nd).2 (by simpa using h1) (by simpa using h2) hk
theorem Zfs {kindOf:Str→Option NameKind}{x:Str}{v:Value}:∀ {P:List Str} {vs:List Value} {i:Nat} {m:Str→Option Value},P.Nodup→P[i]?=some x→vs[i]?=some v→kindOf x≠some .local →
   bindC kindOf (P.zip vs) m x=some v
 | [],_,_,_,_,h,_,_=>by simp at h
 | _::_,[],_,_,_,_,h,_=>by simp at h
 | p::P,w::vs,0,m,nd,h1,h2,hk=>by
   simp at h1 h2;subst h1;subst h2;show bindC kindOf ((p,w)::P.zip vs) m p=_;unfold bindC;rw [Zfp fun v hv=>(ybS.mp nd).1 (List.of_mem_zip hv).1,if_neg hk];simp
 | p::P,w::vs,i+1,m,nd,h1,h2,hk=>by
   show bindC kindOf ((p,w)::P.zip vs) m x=_;unfold bindC;exact Zfs (i:=i) (ybS.mp nd).2 (by simpa using h1) (by simpa using h2) hk
def start (N:List Str)(vs:List V):St:=vs.map some++List.replicate (N.length-vs.length) none
def cxOf (CX:CXT)(P:Program)(w:World)(K:ZFr)(mg:Str→Option Value)(base:Heap)(N:List Str)(qual:Str)(scope:Scope)(f:Addr)(cd:Value)(A:Around)(outer:List Env)(s:Shared)(H:Hp)(E:XK):Cx where
 prog:=P
 w:=w
 K:=K
 mg:=mg
 base:=base
 A:=A.deeper (envOfC qual scope s.heap.objs.size f cd)
 N:=N
 s₀:=s
 H₀:=H
 env:=envOfC qual scope s.heap.objs.size f cd
 outer:=outer
 stack:=envOfC qual scope s.heap.objs.size f cd::outer
 ex:=[]
 calm:=true
 fn:=fun _=>true
 pn:=[]
 xe:=fun e s'=>wpAny (model P w) (A.deeper (envOfC qual scope s.heap.objs.size f cd)) (leaving (envOfC qual scope s.heap.objs.size f cd) e) (fun _ s''=>CX outer H s E e s'') (fun e' s''=>CX outer H s E e' s'') s'
theorem ZgC {n:Nat}{x:Str}(h:sc.names.lookup x=some .cell):∃ c,(cellsFrom n sc.names []).lookup x=some c:=by have q:=PySem.W.cellsFrom_some sc.names n [] (.inl h);exact ycg.mp q
theorem Zi8 {CX:CXT} {ps:List Str} {f:Addr} {cd:Value} {outer:List Env} {s1:Shared} {H:Hp} {E:XK} {vs:List V}
   (S:FnScope N ps scope) (hd:A.handled=none) (e0:Env0 P w K mg base A outer s H) (hl:vs.length=ps.length) (r:Vals vs us)
   (x:InCallC s s.heap.objs.size (bindL (envOfC qual scope s.heap.objs.size f cd).kindOf (ps.zip us) fun _=>none) (cellsFrom (s.heap.objs.size+1) scope.names []) (bindC (envOfC qual scope s.heap.objs.size f cd).kindOf (ps.zip us) fun _=>none) s1) :
   Inv (cxOf CX P w K mg base N qual scope f cd A outer s H E) [] (start N vs) H s1:=by
 have hpl:ps.length≤N.length:=by have:=congrArg List.length S.pre;rw [yaB] at this;omega
 obtain ⟨h1,tk,rfl,hk⟩:=x.done;have noA:∀ b:Addr,b∉(cxOf CX P w K mg base N qual scope f cd A outer s H E).ex:=fun b z=>absurd (show b∈([]:List Addr) from z) (by simp)
 refine ⟨⟨e0.mod,S.kind,rfl,rfl,yad _,fun y z c h1 h2=>?_,fun y hy=>?_,fun y c _ h=>?_,fun _=>hd,Around.frames_deeper e0.frames,.inr ⟨rfl,rfl⟩,fun b z=>absurd z (noA b),e0.bs,e0.bsz,fun b _ _=>noA b,fun b z=>absurd z (noA b),e0.funs,e0.frf⟩,
   rfl,e0.bare,Un.kept hk,⟨_,x.toInCall.ns,fun i y v h1 h2 h3=>?_⟩,fun y c h=>⟨_,x.cell y c h⟩,e0.hok.fresh (yad _),fun y c h=>?_,fun p hp=>absurd (show p∈([]:List (Addr × Obj)) from hp) (by simp),e0.hok.kept hk,?_⟩
 · exact name_of_addr x.apart (zaz h1) (zaz h2)
 · have hy:scope.names.lookup y=some .cell∨scope.names.lookup y=some .free:=hy
   rcases hy with hy | hy
   · exact ZgC hy
   · exact absurd rfl (S.nofree _ (zaz hy))
 · exact ybC (x.above y c (zaz h))
 · have hi:i<vs.length:=by
     unfold start at h2;by_cases hi:i<vs.length
     · exact hi
     · rw [yah (by simpa using hi)] at h2
       rw [List.getElem?_replicate] at h2;split at h2<;>cases h2
   have ha:vs[i]?=some v:=by
     unfold start at h2;rw [yaU (by simpa using hi),yay] at h2;cases e:vs[i]? with
     | none=>rw [e] at h2;cases h2
     | some a=>rw [e] at h2;cases h2;rfl
   obtain ⟨u,hu,rv⟩:=r.get ha;have hp:ps[i]?=some y:=by rw [← S.pre,List.getElem?_take_of_lt (by omega)];exact h1
   have ndP:ps.Nodup:=by rw [← S.pre];exact S.nd.sublist (ybj _ _)
   refine ⟨u,rv,?_⟩;rcases S.par y (yaq hp) with k | k
   · exact .inl ⟨k,Zfi ndP hp hu k⟩
   · obtain ⟨c,e⟩:=ZgC (n:=s.heap.objs.size+1) k
     refine .inr ⟨.inl k,c,e,?_⟩;have q:=x.cell y c e;rw [Zfs ndP hp hu (by show scope.names.lookup y≠_;rw [k];decide)] at q;exact q
 · exact e0.hok.fresh (ybC (x.above y c (zaz h)))
 · unfold start
   show _=N.length;rw [yac,yaa,List.length_replicate];omega
theorem fn_of {CX:CXT}{k:Nat}{f:Addr}{name:Str}{params:Arguments}{body:List Stmt}{dV kV doc pm cdv ct oc:Value}{an od:Option Addr}{ps:List Str}{sp:Sp}(lk:K.lookup f=some ⟨oc,od,.func (PySem.W.fnOf name qual params body scope dV kV doc pm an cdv ct),osl⟩)(hcd:PySem.W.codeIn K cdv qual=true)(S:FnScope N ps scope)
   (len:∀ vs H Q E,sp vs H Q E→vs.length=ps.length)
   (hbody:∀ (A:Around) (outer:List Env) (s:Shared) (H:Hp) (vs:List V) (Q:VK) (E:XK),Room k (A.deeper (envOfC qual scope s.heap.objs.size f cdv))→sp vs H Q E →
     ∃ t,PSs (cxOf CX P w K mg base N qual scope f cdv A outer s H E) body t∧t { nx:=fun _ H'=>Q .non H',rt:=Q } (start N vs) H) :
   FnOk P w K mg base CX (k+1) f (PySem.W.fnOf name qual params body scope dV kV doc pm an cdv ct) ps sp:=by
 refine ⟨len,fun A outer s H args us vs Q E hr e0 hb r hsp=>?_⟩;have hl:=len _ _ _ _ hsp;have KX:K.In s.heap:=e0.mod.kin.keeps fun b o e=>(e0.bs b o e).1
 have lim:s.heap.NoLimit:=e0.mod.nolimit.keeps fun b o e=>(e0.bs b o e).1
 have hkind:∀ y∈ps.zip us,scope.names.lookup y.1=some .local∨(scope.names.lookup y.1=some .cell∧((cellsFrom (s.heap.objs.size+1) scope.names []).lookup y.1).isSome=true):=fun ⟨n,v⟩ hy=>by
   rcases S.par n (List.of_mem_zip hy).1 with q | q
   · exact .inl q
   · exact .inr ⟨q,PySem.W.cellsFrom_some _ _ _ (.inl q)⟩
 refine codeAny_call_function hr.depth (KX _ _ lk) rfl S.co S.gen rfl (PySem.W.codeRec_of KX hcd) (hb _ _ _ _ ?_);refine wpAny_newFunctionEnv_cells S.kind hkind fun env he s1 x=>?_
 subst he;refine ⟨lim.keeps x.toInCall.keep,codeAny_func ?_⟩;obtain ⟨t,ht,hq⟩:=hbody A outer s H vs Q E (hr.deeper _) hsp;have I:Inv (cxOf CX P w K mg base N qual scope f cdv A outer s H E) [] (start N vs) H s1:=Zi8 S hr.hd e0 hl r x;refine zaF (ht [] s1 (start N vs) H _ I hq) (fun fl s' hs=>?_) fun e s' hs=>hs
 have fin:∀ {σ':St} {H':Hp} {v:V} {u:Value},Inv (cxOf CX P w K mg base N qual scope f cdv A outer s H E) [] σ' H' s'→RelV v u→Q v H'→CE outer P w H s Q u s' :=
   fun {σ' H' v u} J rv q=>⟨v,H',J.os,J.bare,J.base,J.hok,rv,q⟩
 cases fl with
 | ret u =>
   obtain ⟨v,σ',H',J,rv,q⟩:=hs;exact fin J rv q
 | next =>
   obtain ⟨σ',H',J,q⟩:=hs;exact fin (v:=V.non) (u:=Value.none) J rfl q
 | brk =>
   obtain ⟨_,_,_,q⟩:=hs;exact False.elim q
 | cont =>
   obtain ⟨_,_,_,q⟩:=hs;exact False.elim q
end L2
variable {vs xs ys:List L2.V}{X:L2.Cx}{te:L2.TE}{σ:L2.St}{H H':L2.Hp}{sp:L2.Sp}{kvs:List (L2.Key × L2.V)}{D:L2.Ends}{L:List (PySem.Addr × L2.HO)}
namespace L2
open PySem PySem.Spec PyProof.Rows
section
variable {x:Str}{p pos:Pos}{e:Expr}{es:List Expr}{t:TA}{id T:String}{r:List V→Hp→VK→Prop}
def tCB (r:List V→Hp→VK→Prop)(t:TA):TE:=fun σ H Q=>t σ H fun vs H1=>r vs H1 Q
theorem Zaw (hc:CallR X (.builtin id) r)(hg:Gl X x)(hm:X.mg x=none)(hv:bootBuiltins x=some (.builtin id))(ha:PA X (e::es) t)(hn:x≠"__name__":=by decide)(hdb:(x==("__debug__":Str))=false:=by decide)
   (he:starEach (e::es) X.env=(false,eval e X.env)::starEach es X.env:=by rfl) (hpl:(backTo pos (starEach es X.env)).any (·.1)=false:=by rfl):PE X (.Call (.Name x p) (e::es) [] pos) (tCB r t):=by
 intro pins s σ H Q I h;refine zal (Zcb I hg hm hv ?_ hn hdb);exact PyProof.Rows.callWith_builtin1 (thn (ha pos pins s σ H _ I h) fun us s1 ⟨vs,H1,I1,r1,q1⟩=>hc pins s1 σ H1 vs us Q I1 r1 q1) he hpl
theorem Za7 (hc:CallR X (.type T) r)(hg:Gl X x)(hm:X.mg x=none)(hv:bootBuiltins x=some (.type T))(ha:PA X (e::es) t)(hn:x≠"__name__":=by decide)(hdb:(x==("__debug__":Str))=false:=by decide)
   (he:starEach (e::es) X.env=(false,eval e X.env)::starEach es X.env:=by rfl) (hpl:(backTo pos (starEach es X.env)).any (·.1)=false:=by rfl):PE X (.Call (.Name x p) (e::es) [] pos) (tCB r t):=by
 intro pins s σ H Q I h;refine zal (Zcb I hg hm hv ?_ hn hdb);exact zam (thn (ha pos pins s σ H _ I h) fun us s1 ⟨vs,H1,I1,r1,q1⟩=>hc pins s1 σ H1 vs us Q I1 r1 q1) he hpl
end
end L2
namespace HT
open PySem PyProof.Rows
section
open PySem.SeqAt
open PySem.AutoSeq1 (wpAny_loadPart')
open PySem.MeetsSeq PySem.MeetsSeq2 PySem.MeetsSeq3
end
def sIx (n d:Nat):Option Int→Nat
 | none=>d
 | some v=>if v<0 then (v+(n:Int)).toNat else min v.toNat n
theorem sIx_none (n d:Nat):sIx n d none=d:=rfl
theorem sIx_nat (n d k:Nat):sIx n d (some (k:Int))=min k n:=by show (if (k:Int)<0 then ((k:Int)+(n:Int)).toNat else min (k:Int).toNat n)=min k n;rw [if_neg (by omega),yao]
end HT
namespace L2
open PySem PySem.Spec PyProof.Rows
abbrev TO:=St→Hp→(Option Int→Hp→Prop)→Prop
def PO (X:Cx) (e:Option Expr) (t:TO):Prop :=
 ∀ (pins:List (Addr × Obj)) (s:Shared) (σ:St) (H:Hp) (Q:Option Int→Hp→Prop),Inv X pins σ H s→t σ H Q →
   wpAny (model X.prog X.w) X.A (evalPart e X.env) (fun u s'=>∃ o H',Inv X pins σ H' s'∧IsPart u o∧Q o H') X.xe s
def tNoPart:TO:=fun _ H Q=>Q none H
def tPart (t:TE):TO:=fun σ H Q=>t σ H fun x H1=>∃ i,x=.int i∧Q (some i) H1
theorem ZeZ {ns:List Int}:∀ {us:List Value},Vals (ns.map V.int) us→IntsAre us ns:=by
 induction ns with
 | nil=>intro us r;rw [List.map_nil] at r;cases r;exact .nil
 | cons n ns ih =>
   intro us r;rw [yaF] at r;cases r with
   | cons r1 r2 =>
     obtain ⟨t,e⟩:=r1;subst e;exact .cons n t (ih r2)
section
variable {e:Expr}{lo hi:Option Expr}{tl th:TO}{pos p2:Pos}
theorem Zct:PO X none tNoPart:=by intro pins s σ H Q I h;rw [evalPart_none];exact zab ⟨none,H,I,.none,h⟩
theorem ZbI (h:PE X e te):PO X (some e) (tPart te):=by
 intro pins s σ H Q I hw;rw [evalPart_some];refine thn (h pins s σ H _ I hw) fun u s1 ⟨x,H1,I1,r1,q1⟩=>?_
 obtain ⟨i,rfl,q⟩:=q1;obtain ⟨t,rfl⟩:=r1;exact ⟨some i,H1,I1,.int i t,q⟩
def SlR (X:Cx) (r:V→Option Int→Option Int→Hp→VK→Prop):Prop :=
 ∀ (pins:List (Addr × Obj)) (s:Shared) (σ:St) (H:Hp) (x:V) (v vl vu:Value) (lo hi:Option Int) (sl:Addr) (Q:VK),Inv X pins σ H s→RelV x v→s.heap.IsSliceOf sl vl vu .none→IsPart vl lo→IsPart vu hi→r x lo hi H Q →
   ∃ T id,typeLookup (.type T) "__getitem__"=pure (some (.builtin id))∧s.TypeIs v T∧wpAny (model X.prog X.w) X.A (getItem v (.ref sl)) (EP X pins σ Q) X.xe s
def tSl (r:V→Option Int→Option Int→Hp→VK→Prop)(te:TE)(tl th:TO):TE:=fun σ H Q=>te σ H fun x H1=>tl σ H1 fun l H2=>th σ H2 fun u H3=>r x l u H3 Q
theorem Zbt {r:V→Option Int→Option Int→Hp→VK→Prop}(hr:SlR X r)(he:PE X e te)(hl:PO X lo tl)(hu:PO X hi th):PE X (.Subscript e (.Slice lo hi none p2) pos) (tSl r te tl th):=by
 intro pins s σ H Q I h;refine Subscript_ (thn (he pins s σ H _ I h) fun v s1 ⟨x,H1,I1,r1,q1⟩=>?_);refine wpAny_Slice (thn (hl pins s1 σ H1 _ I1 q1) fun vl s2 ⟨l,H2,I2,pl,q2⟩=>thn (hu pins s2 σ H2 _ I2 q2) fun vu s3 ⟨u,H3,I3,pu,q3⟩=>?_);rw [evalPart_none];refine zab ?_;have I4:Inv X pins σ H3 { s3 with heap:=s3.heap.push { cls:=.type "slice",data:=.fields #[vl,vu,.none] } }:=I3.kept (t':=s3.toks) fun b ob q=>zac _ q
 obtain ⟨T,id,hT,ht,hg⟩:=hr pins { s3 with heap:=s3.heap.push { cls:=.type "slice",data:=.fields #[vl,vu,.none] } } σ H3 x v vl vu l u s3.heap.objs.size Q I4 r1 (Heap.IsSliceOf.new ..) pl pu q3;show wpAny (model X.prog X.w) X.A (subscriptTail e (.Slice lo hi none p2) v (.ref s3.heap.objs.size)) (EP X pins σ Q) X.xe { s3 with heap:=s3.heap.push { cls:=.type "slice",data:=.fields #[vl,vu,.none] } };exact tail_any (ops:=[.ref s3.heap.objs.size,v]) ht hT hg (by with_unfolding_all rfl)
def cutV (xs:List V)(lo hi:Option Int):List V:=(xs.drop (HT.sIx xs.length 0 lo)).take (HT.sIx xs.length xs.length hi-HT.sIx xs.length 0 lo)
theorem Zha (xs:List V)(lo hi:Option Int):(cutV xs lo hi).length≤xs.length:=by unfold cutV;rw [yaB,yaX];omega
end
def ixN (n:Nat)(i:Int):Option Nat:=if 0≤i then (if i<n then some i.toNat else none) else if -(n:Int)≤i then some (i+n).toNat else none
def atI {α:Type}(xs:List α)(i:Int):Option α:=(ixN xs.length i).bind fun j=>xs[j]?
theorem ZiQ {n:Nat}{i:Int}{j:Nat}(h:ixN n i=some j):seqIndex? i n=some j∧j<n∧-(n:Int)≤i∧i<n:=by
 unfold ixN at h;by_cases h0:0≤i
 · rw [if_pos h0] at h
   by_cases h1:i<n
   · rw [if_pos h1] at h
     have e:i.toNat=j:=Option.some.inj h;exact ⟨by rw [seqIndex_of h0 h1,e],by omega,by omega,h1⟩
   · rw [if_neg h1] at h;cases h
 · rw [if_neg h0] at h
   by_cases h1:-(n:Int)≤i
   · rw [if_pos h1] at h
     have e:(i+n).toNat=j:=Option.some.inj h;exact ⟨by rw [seqIndex_neg (by omega) h1,e],by omega,h1,by omega⟩
   · rw [if_neg h1] at h;cases h
theorem ZiO {α:Type}{xs:List α}{i:Int}{v:α}(h:atI xs i=some v):∃ j,seqIndex? i xs.length=some j∧xs[j]?=some v∧j<xs.length∧-(xs.length:Int)≤i∧i<xs.length:=by
 unfold atI at h;cases e:ixN xs.length i with
 | none=>rw [e] at h;cases h
 | some j =>
   rw [e] at h;obtain ⟨h1,h2,h3,h4⟩:=ZiQ e;exact ⟨j,h1,h,h2,h3,h4⟩
theorem Zc0 {α:Type}{xs:List α}{j:Nat}{v:α}(h:xs[j]?=some v):atI xs (j:Int)=some v:=by
 have hj:j<xs.length:=(yaT.mp h).1;have e:ixN xs.length (j:Int)=some j:=by unfold ixN;rw [if_pos (by omega),if_pos (by omega)];simp
 unfold atI;rw [e];exact h
theorem Ze9 {α:Type}(xs:List α)(v:α):atI (xs++[v]) (-1)=some v:=by
 have hl:(xs++[v]).length=xs.length+1:=by simp
 have e:ixN (xs++[v]).length (-1)=some xs.length:=by
   unfold ixN;rw [hl,if_neg (by decide),if_pos (by omega)];congr 1
   omega
 unfold atI;rw [e];show (xs++[v])[xs.length]?=some v;simp
def PlainIx (b:Expr):Prop:=∀ o i,subscripted b false o i=operate [o,i] (getItem o i)
def IxR (X:Cx) (r:R2):Prop :=
 ∀ (value slice:Expr) (pins:List (Addr × Obj)) (s:Shared) (σ:St) (H:Hp) (x y:V) (v u:Value) (Q:VK),Inv X pins σ H s→RelV x v→RelV y u→r x y H Q →
   subscripted slice false v u=operate [v,u] (getItem v u)→wpAny (model X.prog X.w) X.A (subscriptTail value slice v u) (EP X pins σ Q) X.xe s
def MtR (X:Cx) (id:String) (r:V→List V→Hp→VK→Prop):Prop :=
 ∀ (pins:List (Addr × Obj)) (s:Shared) (σ:St) (H:Hp) (x:V) (xs:List V) (v:Value) (us:List Value) (Q:VK),Inv X pins σ H s→RelV x v→Vals xs us→r x xs H Q →
   wpAny (model X.prog X.w) X.A (call (.builtin id) (v::us)) (EP X pins σ Q) X.xe s
section
variable {a b:Expr}{ta tb:TE}{pos:Pos}
theorem pe_ix {r:R2}(hr:IxR X r)(ha:PE X a ta)(hb:PE X b tb)(hs:PlainIx b):PE X (.Subscript a b pos) (tOp r ta tb):=by intro pins s σ H Q I h;exact Subscript_ (binT ha hb I h fun v u s2 x y H2 I2 rx ry q=>hr a b pins s2 σ H2 x y v u Q I2 rx ry q (hs _ _))
def rIxL (K:ZFr):R2:=fun x y H Q=>∃ p xs i v,x=.ref p∧y=.int i∧SqL K H p xs∧atI xs i=some v∧Q v H
def rIxT (K:ZFr):R2:=fun x y H Q=>∃ p xs i v,x=.ref p∧y=.int i∧SqT K H p xs∧atI xs i=some v∧Q v H
theorem ix_list:IxR X (rIxL X.K):=by
 intro value slice pins s σ H x y v u Q I rx ry h hs;obtain ⟨p,xs,i,z,rfl,rfl,hq,he,q⟩:=h;cases rx;obtain ⟨t,rfl⟩:=ry;obtain ⟨its,r,pl,hz⟩:=I.list hq;obtain ⟨j,h1,h2,h3,h4,h5⟩:=ZiO he;obtain ⟨w,ew,rw'⟩:=r.get h2;have hl:=r.length;have hn:=line63;have fin:EP X pins σ Q w s:=⟨z,H,I,rw',q⟩
 by_cases h0:0≤i
 · have hj:i.toNat=j:=by
     rw [seqIndex_of h0 h5] at h1;exact Option.some.inj h1
   exact item_listR pl.isList h0 (by omega) (by rw [hj];simpa using ew) fin hs
 · have hj:(i+(its.toArray.size:Int)).toNat=j:=by
     rw [seqIndex_neg (by omega) h4] at h1;rw [yav,← hl];exact Option.some.inj h1
   exact subscriptTail_builtinR (x:=w) pl.isList.typeIs slot_list_getitem.lookup
     (wpAny_getItem_list_neg (Q:=fun r s'=>r=w∧EP X pins σ Q r s') pl.isList (by omega) (by rw [yav]<;>omega) (by omega) (by rw [hj];simpa using ew) ⟨rfl,fin⟩) hs
theorem ix_tup:IxR X (rIxT X.K):=by
 intro value slice pins s σ H x y v u Q I rx ry h hs;obtain ⟨p,xs,i,z,rfl,rfl,hq,he,q⟩:=h;cases rx;obtain ⟨t,rfl⟩:=ry;obtain ⟨its,r,pl,hz⟩:=I.tuple hq;obtain ⟨j,h1,h2,h3,h4,h5⟩:=ZiO he;obtain ⟨w,ew,rw'⟩:=r.get h2;have hl:=r.length;have hn:=line63;have fin:EP X pins σ Q w s:=⟨z,H,I,rw',q⟩
 exact subscriptTail_builtinR (x:=w) pl.typeIs slot_tuple_getitem.lookup
   (getItem_tuple (j:=j) (Q:=fun r s'=>r=w∧EP X pins σ Q r s') pl (by omega) (by omega) (by rw [yav,← hl];exact h1) (by simpa using ew) ⟨rfl,fin⟩) hs
theorem Zid (its:List Value)(n j:Nat)(u:Value):Obj.mapSeq (·.setIfInBounds j u) { cls:=.type "list",data:=.seq its.toArray n }={ cls:=.type "list",data:=.seq (its.set j u).toArray n }:=by simp [Obj.mapSeq]
theorem Inv.lst {p:Addr}(I:Inv X pins σ H s)(h:H p=some (.lst xs)) :
   ∃ (its:List Value) (n:Nat),Vals xs its∧s.heap.get? p=some { cls:=.type "list",data:=.seq its.toArray n }∧xs.length≤sizeLine:=by
 obtain ⟨z,its,n,r,e⟩:=I.hok p _ h;exact ⟨its,n,r,e,z⟩
theorem Inv.lstUpd {p:Addr}{its its':List Value}{n n':Nat}{f:Obj→Obj}(I:Inv X pins σ H s)(h:H p=some (.lst xs))
   (ho:s.heap.get? p=some { cls:=.type "list",data:=.seq its.toArray n }) (hf:f { cls:=.type "list",data:=.seq its.toArray n }={ cls:=.type "list",data:=.seq its'.toArray n' }) (r:Vals ys its') (hz:ys.length≤sizeLine) (t:Nat) :
   Inv X pins σ (upd H p (.lst ys)) { s with heap:=s.heap.update p f,toks:=t }:=by
 have e:(s.heap.update p f).get? p=some { cls:=.type "list",data:=.seq its'.toArray n' }:=by rw [zaw f ho (by rw [hf]<;>rfl),hf]
 refine I.write (x:=p) (e:=p) (by rw [h];trivial) (.inl rfl) (fun b u hb q=>(zas _ _ (Ne.symm hb)).trans q) ⟨_,e⟩ ?_;exact ⟨hz,its',n',r,e⟩
def rSetL:V→V→V→Hp→(Hp→Prop)→Prop:=fun o i v H Q=>∃ p xs k j,o=.ref p∧i=.int k∧H p=some (.lst xs)∧ixN xs.length k=some j∧Q (upd H p (.lst (xs.set j v)))
theorem set_list:PSet X rSetL:=by
 intro pins s σ H o i v ov iv u Q I ro ri rv h;obtain ⟨p,xs,k,j,rfl,rfl,hp,hj,q⟩:=h;cases ro;obtain ⟨t,rfl⟩:=ri;obtain ⟨its,n,r,ho,hz⟩:=I.lst hp;obtain ⟨h1,h2,h3,h4⟩:=ZiQ hj;have hl:=r.length;have hn:=line63;have I':Inv X pins σ (upd H p (.lst (xs.set j v))) { s with heap:=s.heap.update p (Obj.mapSeq (·.setIfInBounds j u)) } :=
   I.lstUpd hp ho (Zid its n j u) (r.set rv j) (by rw [List.length_set];exact hz) s.toks
 by_cases h0:0≤k
 · have hk:k.toNat=j:=by
     rw [seqIndex_of h0 h4] at h1;exact Option.some.inj h1
   exact PySem.W.ki_setAt ho h0 (by omega) (by rw [yav,← hl];exact h4) (by rw [hk];exact ⟨_,I',q⟩)
 · have hk:(k+(its.toArray.size:Int)).toNat=j:=by
     rw [seqIndex_neg (by omega) h3] at h1;rw [yav,← hl];exact Option.some.inj h1
   exact PySem.W.ki_setBack ho (by omega) (by rw [yav,← hl];exact h3) (by omega) (by rw [hk];exact ⟨_,I',q⟩)
theorem Zf7 (lo hi:Option Int)(n:Nat):(sliceBounds lo hi none n).1=((HT.sIx n 0 lo:Nat):Int)∧(sliceBounds lo hi none n).2.1=((HT.sIx n n hi:Nat):Int)∧(sliceBounds lo hi none n).2.2=1:=by
 refine ⟨?_,?_,rfl⟩
 · cases lo with
   | none=>simp [sliceBounds,HT.sIx]
   | some i =>
     simp only [sliceBounds,HT.sIx,Option.getD_none,show (1:Int) > 0 by decide,za4];by_cases h:i<0
     · simp only [h,za4]<;>omega
     · simp only [h,zaJ]<;>omega
 · cases hi with
   | none=>simp [sliceBounds,HT.sIx]
   | some i =>
     simp only [sliceBounds,HT.sIx,Option.getD_none,show (1:Int) > 0 by decide,za4];by_cases h:i<0
     · simp only [h,za4]<;>omega
     · simp only [h,zaJ]<;>omega
theorem Zfe (its:List Value)(lo hi:Option Int):slicePick its.toArray lo hi none=((its.drop (HT.sIx its.length 0 lo)).take (HT.sIx its.length its.length hi-HT.sIx its.length 0 lo)).toArray:=by obtain ⟨h1,h2,h3⟩:=Zf7 lo hi its.toArray.size;unfold slicePick;rw [h1,h2,h3];simp only [sliceRange_one,pick_run,yav]<;>rfl
def rSlL (K:ZFr):V→Option Int→Option Int→Hp→VK→Prop:=fun x lo hi H Q=>∃ a xs,x=.ref a∧SqL K H a xs∧∀ p,H p=none→Q (.ref p) (upd H p (.lst (cutV xs lo hi)))
theorem sl_list:SlR X (rSlL X.K):=by intro pins s σ H x v vl vu lo hi sl Q I rx hs pl pu h;obtain ⟨a,xs,rfl,hx,q⟩:=h;cases rx;obtain ⟨its,r,ht,hz⟩:=I.list hx;have hlen:=r.length;refine ⟨"list",_,slot_list_getitem.lookup,ht.isList.typeIs,?_⟩;refine wpAny_getItem_list_slice ht.isList hs pl pu .none (by simp) ?_ (by rw [yav]<;>omega);rw [Zfe,← hlen];refine ⟨.ref s.heap.objs.size,_,I.laid (t':=s.toks) (o:=.lst (cutV xs lo hi)) (fun b ob q=>zac _ q) (yad _) ?_,rfl,q _ (I.hok.fresh (yad _))⟩;exact ⟨yaN (Zha xs lo hi) hz,_,0,(r.drop (HT.sIx xs.length 0 lo)).take (HT.sIx xs.length xs.length hi-HT.sIx xs.length 0 lo),zag _ rfl⟩
theorem ZfR:CallR X (.builtin "len") (fun xs H Q=>∃ p ys,xs=[.ref p]∧(SqL X.K H p ys∨SqT X.K H p ys)∧Q (.int ys.length) H):=by
 intro pins s σ H xs us Q I r h;obtain ⟨p,ys,rfl,hq,q⟩:=h;obtain ⟨u,rfl,rx⟩:=vals1 r;cases rx;have hn:=line63;rcases hq with hq | hq
 · obtain ⟨its,r',pl,hz⟩:=I.list hq
   have hlen:=r'.length;exact Calls.call_len_list pl.isList (by simp only [yav]<;>omega) ⟨.int ys.length,H,I.tok _,⟨s.toks+1,by rw [yav,hlen]⟩,q⟩
 · obtain ⟨its,r',pl,hz⟩:=I.tuple hq
   have hlen:=r'.length;exact len_tuple pl (by simp only [yav]<;>omega) ⟨.int ys.length,H,I.tok _,⟨s.toks+1,by rw [yav,hlen]⟩,q⟩
theorem Zf1:CallR X (.type "list") (fun xs H Q=>∃ p ys,xs=[.ref p]∧(SqL X.K H p ys∨SqT X.K H p ys)∧∀ l,H l=none→Q (.ref l) (upd H l (.lst ys))):=by
 intro pins s σ H xs us Q I r h;obtain ⟨p,ys,rfl,hq,q⟩:=h;obtain ⟨u,rfl,rx⟩:=vals1 r;cases rx;have fin:∀ (its:List Value),Vals ys its→ys.length≤sizeLine→∀ (h':Heap) (c':Nat),(∀ b o',s.heap.get? b=some o'→h'.get? b=some o') →
     h'.get? s.heap.objs.size=some { cls:=.type "list",dict:=none,data:=.seq its.toArray c',slots:=#[] }→EP X pins σ Q (.ref s.heap.objs.size) { s with heap:=h' }:=fun its r' hz h' c' kp e =>
   ⟨.ref s.heap.objs.size,_,I.laid (t':=s.toks) kp (yad _) (show ObjOk X.prog X.w _ h' _ (.lst ys) from ⟨hz,its,c',r',e⟩),rfl,q _ (I.hok.fresh (yad _))⟩
 rcases hq with hq | hq
 · obtain ⟨its,r',pl,hz⟩:=I.list hq
   have hlen:=r'.length;obtain ⟨o,ho,hc,n,hd⟩:=pl.isList;exact call_list_seq p (.inl rfl) ho hc hd (fun h' c' kp e=>fin its r' hz h' c' kp e) (by simp only [yav]<;>omega)
 · obtain ⟨its,r',pl,hz⟩:=I.tuple hq
   have hlen:=r'.length;obtain ⟨o,ho,hc,n,hd⟩:=pl;exact call_list_seq p (.inr rfl) ho hc hd (fun h' c' kp e=>fin its r' hz h' c' kp e) (by simp only [yav]<;>omega)
def tyV (K:ZFr)(T:String)(x:V)(H:Hp):Prop:=match x with
 | .str _=>T="str"
 | .int _=>T="int"
 | .ref p=>(T="list"∧∃ xs,SqL K H p xs)∨(T="tuple"∧∃ o,K.lookup p=some o∧o.cls=.type "tuple"∧o.dict=none) ∨
     (T="dict"∧((∃ kvs,H p=some (.dK kvs))∨∃ kvs,H p=some (.dT kvs)))∨(T="set"∧∃ S n,H p=some (.set S n))
 | _=>False
theorem tyV_is {T:String} {x:V} {v:Value} (I:Inv X pins σ H s) (r:RelV x v) (ty:tyV X.K T x H) :
   s.TypeIs v T∧∀ a,v=.ref a→∃ ob,s.heap.get? a=some ob∧ob.dict=none:=by
 cases x with
 | str z =>
   obtain ⟨t,rfl⟩:=r;cases (show T="str" from ty);exact ⟨typeIs_str s z t,fun _ e=>nomatch e⟩
 | int i =>
   obtain ⟨t,rfl⟩:=r;cases (show T="int" from ty);exact ⟨typeIs_int s i t,fun _ e=>nomatch e⟩
 | ref p =>
   cases r;rcases ty with ⟨rfl,xs,hq⟩ | ⟨rfl,o,hk,hc,hd⟩ | ⟨rfl,hk⟩ | ⟨rfl,S,n,hk⟩
   · obtain ⟨its,_,pl,_⟩:=I.list hq
     refine ⟨pl.isList.typeIs,fun a e=>?_⟩;cases e;obtain ⟨o,n,e,c,hd,_⟩:=pl;exact ⟨o,e,hd⟩
   · refine ⟨⟨o,I.kIn p o hk,hc⟩,fun a e=>?_⟩
     cases e;exact ⟨o,I.kIn _ o hk,hd⟩
   · have z:∃ o,s.heap.get? p=some o∧o.ExactDict:=by
       rcases hk with ⟨kvs,hk⟩ | ⟨kvs,hk⟩
       · obtain ⟨_,_,_,_,o,_,_,e,ex,_⟩:=I.hok p _ hk
         exact ⟨o,e,ex⟩
       · obtain ⟨_,_,_,_,o,_,_,e,ex,_⟩:=I.hok p _ hk
         exact ⟨o,e,ex⟩
     obtain ⟨o,e,ex⟩:=z;refine ⟨⟨o,e,ex.1⟩,fun a e2=>?_⟩;cases e2;exact ⟨o,e,ex.2.1⟩
   · obtain ⟨o,_,_,_,e,ex,_⟩:=I.hok p _ hk
     refine ⟨⟨o,e,ex.1⟩,fun a e2=>?_⟩;cases e2;exact ⟨o,e,ex.2.1⟩
 | _=>exact False.elim ty
def tBM0 (K:ZFr)(T:String)(r:V→List V→Hp→VK→Prop)(to:TE):TE:=fun σ H Q=>to σ H fun x H1=>tyV K T x H1∧r x [] H1 Q
def tBM (K:ZFr)(T:String)(r:V→List V→Hp→VK→Prop)(to:TE)(t:TA):TE:=fun σ H Q=>to σ H fun x H1=>tyV K T x H1∧t σ H1 fun xs H2=>r x xs H2 Q
variable {o e:Expr}{es:List Expr}{to:TE}{t:TA}{name:Str}{apos cpos:Pos}{T id:String}{r:V→List V→Hp→VK→Prop}
theorem pe_bm0 (pa:PlainAttrs T)(slot:Slot T name id)(hty:typeOf (.builtin id)=pure (.type "method_descriptor"))(hm:MtR X id r)(ho:PE X o to)
   (hbase:attributeBase o name X.env (eval o X.env)=eval o X.env:=by rfl) (hline:(apos.endLine==cpos.line)=true:=by rfl):PE X (.Call (.Attribute o name apos) [] [] cpos) (tBM0 X.K T r to):=by
 intro pins s σ H Q I h;refine wpAny_Call_method0_late hbase hline (thn (ho pins s σ H _ I h) fun v s1 ⟨x,H1,I1,r1,ty,q1⟩=>?_);obtain ⟨h1,h2⟩:=tyV_is I1 r1 ty;exact ⟨T,id,pa,slot,hty,h1,h2,Calls.callWith_builtin rfl (PySem.evalArgs_none (hm pins s1 σ H1 x [] v [] Q I1 r1 .nil q1))⟩
theorem pe_bm (pa:PlainAttrs T)(slot:Slot T name id)(hty:typeOf (.builtin id)=pure (.type "method_descriptor"))(hm:MtR X id r)(ho:PE X o to)(ha:PA X (e::es) t)
   (hbase:attributeBase o name X.env (eval o X.env)=eval o X.env:=by rfl)
   (hfew:((backTo cpos (starEach (e::es) X.env)).all (fun x=>!x.1)&&(backToKw cpos (keywordEach [] X.env)).all (fun x=>x.1.isSome)
     && decide ((e::es).length+([]:List Keyword).length+(if ([]:List Keyword).isEmpty then 0 else 1)<30))=true:=by rfl)
   (hline:(apos.endLine==cpos.line)=true:=by rfl) (hs:starEach (e::es) X.env=(false,eval e X.env)::starEach es X.env:=by rfl) (hplain:(backTo cpos (starEach es X.env)).any (·.1)=false:=by rfl) :
   PE X (.Call (.Attribute o name apos) (e::es) [] cpos) (tBM X.K T r to t):=by
 intro pins s σ H Q I h;refine wpAny_Call_method_late hbase hfew hline rfl (thn (ho pins s σ H _ I h) fun v s1 ⟨x,H1,I1,r1,ty,q1⟩=>?_);obtain ⟨h1,h2⟩:=tyV_is I1 r1 ty;refine ⟨T,id,pa,slot,hty,h1,h2,?_⟩;have hA:=ha cpos pins s1 σ H1 _ I1 q1;rw [hs] at hA ⊢;refine Calls.callWith_builtin (by show (false||(backTo cpos (starEach es X.env)).any (·.1))=false;rw [hplain]<;>rfl) (Calls.evalArgs_plain ?_);exact thn hA fun us s2 ⟨vs,H2,I2,r2,q2⟩=>hm pins s2 σ H2 x vs v us Q I2 r1 r2 q2
end
def MtM (X:Cx) (id:String) (r:V→List V→Hp→VK→Prop):Prop :=
 ∀ (pins:List (Addr × Obj)) (s:Shared) (σ:St) (H:Hp) (x:V) (xs:List V) (v:Value) (us:List Value) (Q:VK),Inv X pins σ H s→RelV x v→Vals xs us→r x xs H Q →
   wpAny (model X.prog X.w) X.A (call (.builtin id) (v::us)) (EP X pins σ Q) X.xe s
theorem Vals.one:∀ {x:V} {us:List Value},Vals [x] us→∃ u,us=[u]∧RelV x u
 | _,_,.cons r .nil=>⟨_,rfl,r⟩
theorem Vals.two:∀ {x y:V} {us:List Value},Vals [x,y] us→∃ u v,us=[u,v]∧RelV x u∧RelV y v:=by
 intro x y us h;cases h with
 | cons r t =>
   cases t with
   | cons q t2 =>
     cases t2;exact ⟨_,_,rfl,r,q⟩
theorem Vals.zero:∀ {us:List Value},Vals [] us→us=[]
 | _,.nil=>rfl
theorem Vals.rep (h:Vals xs us):∀ k:Nat,Vals (List.replicate k xs).flatten (List.replicate k us).flatten
 | 0=>.nil
 | k+1=>by
   rw [yck,yck,ybw,ybw];exact Vals.append h (Vals.rep h k)
theorem Zfm (its:List Value):∀ (k:Nat) (acc:List Value),
   List.foldl (fun x1 x2=>x1++x2) acc.toArray (List.replicate k its.toArray)=(acc++(List.replicate k its).flatten).toArray
 | 0,acc=>by simp
 | k + 1,acc=>by
   have e:acc.toArray++its.toArray=(acc++its).toArray:=by simp
   have e2:(acc++its)++(List.replicate k its).flatten=acc++(List.replicate (k+1) its).flatten:=by rw [yck,ybw,yaf]
   rw [← e2,← Zfm its k (acc++its),← e,yck,ybE]
section
variable {l b:Addr}{zs:List V}
theorem Inv.lset {its its':List Value}{n:Nat}{f:Array Value→Array Value}(I:Inv X pins σ H s)(hH:H l=some (.lst xs))
   (e:s.heap.get? l=some { cls:=.type "list",data:=.seq its.toArray n }) (hf:f its.toArray=its'.toArray) (hv:Vals ys its') (hz:ys.length≤sizeLine) :
   Inv X pins σ (upd H l (.lst ys)) { s with heap:=s.heap.update l (Obj.mapSeq f),toks:=t' }:=by
 have q:=PySem.IsL.update e f;rw [hf] at q;refine I.write (x:=l) (e:=l) (by rw [hH];exact trivial) (.inl rfl) (fun b' u hb hu=>(zas s.heap (Obj.mapSeq f) (Ne.symm hb)).trans hu) ⟨_,q⟩ ?_;exact ⟨hz,its',_,hv,q⟩
theorem Inv.lnew {its:List Value}(I:Inv X pins σ H s)(hv:Vals ys its)(hz:ys.length≤sizeLine) :
   Inv X pins σ (upd H s.heap.objs.size (.lst ys)) { s with heap:=s.heap.push { cls:=.type "list",data:=.seq its.toArray },toks:=t' } :=
 I.laid (fun _ _ q=>zac _ q) (yad _) ⟨hz,its,0,hv,zag _ rfl⟩
theorem Inv.fresh (I:Inv X pins σ H s):H s.heap.objs.size=none:=I.hok.fresh (yad _)
theorem Inv.lstM (I:Inv X pins σ H s)(hH:H l=some (.lst xs)):xs.length≤sizeLine∧∃ (its:List Value) (n:Nat),Vals xs its∧xs.length=its.length∧s.heap.get? l=some { cls:=.type "list",data:=.seq its.toArray n }:=by obtain ⟨z,its,n,r,e⟩:=I.hok l _ hH;exact ⟨z,its,n,r,r.length,e⟩
theorem notLongL {n:Nat}(h:n≤sizeLine):Builtin.List.listTooLong n=false:=by unfold Builtin.List.listTooLong;exact yaI (by omega)
end
def rAppend:V→List V→Hp→VK→Prop:=fun x vs H Q=>∃ l xs y,x=.ref l∧vs=[y]∧H l=some (.lst xs)∧xs.length<sizeLine∧Q .non (upd H l (.lst (xs++[y])))
theorem Za6:MtM X "list.append" rAppend:=by intro pins s σ H x vs v us Q I rx rv h;obtain ⟨l,xs,y,rfl,rfl,hH,hz,q⟩:=h;cases rx;obtain ⟨u,rfl,ru⟩:=rv.one;obtain ⟨z,its,n,r,hl,e⟩:=I.lstM hH;refine call_meets F.slot_list_append ⟨_,e,rfl⟩ F.entry_list_append (F.args_list_append_2 _ _) (PySem.list_append l its.toArray n u (by rw [yav];omega)) ⟨e,?_⟩;refine ⟨.non,_,I.lset (its':=its++[u]) hH e (by simp) (r.append (.cons ru .nil)) ?_,rfl,q⟩;rw [yac,List.length_singleton];omega
def rExtend:V→List V→Hp→VK→Prop:=fun x vs H Q=>∃ l b xs zs,x=.ref l∧vs=[.ref b]∧H l=some (.lst xs)∧H b=some (.lst zs)∧xs.length+zs.length≤sizeLine∧Q .non (upd H l (.lst (xs++zs)))
theorem ZjM:MtM X "list.extend" rExtend:=by
 intro pins s σ H x vs v us Q I rx rv h;obtain ⟨l,b,xs,zs,rfl,rfl,hH,hB,hz,q⟩:=h;cases rx;obtain ⟨u,rfl,ru⟩:=rv.one;cases ru;obtain ⟨z,its,n,r,hl,e⟩:=I.lstM hH;obtain ⟨z2,its2,n2,r2,hl2,e2⟩:=I.lstM hB;have hsz:its.toArray.size+its2.toArray.size≤sizeLine:=by rw [yav,yav];omega
 have hlong:¬ (!its.toArray.isEmpty&&Builtin.List.listTooLong (its.toArray.size+its2.toArray.size))=true:=by rw [notLongL hsz,Bool.and_false];exact yaK
 refine call_meets F.slot_list_extend ⟨_,e,rfl⟩ F.entry_list_extend (F.args_list_extend_2 _ _)
   (AutoSeq1.list_extend_list_list_0 l its.toArray n b its2.toArray n2 hlong (by rw [yav];omega) (by omega)) ⟨e,e2,?_⟩
 refine ⟨.non,_,I.lset (its':=its++its2) hH e (by simp) (r.append r2) ?_,rfl,q⟩;rw [yac];omega
def rCat:R2:=fun x y H Q=>∃ l b xs zs,x=.ref l∧y=.ref b∧H l=some (.lst xs)∧H b=some (.lst zs)∧xs.length+zs.length≤sizeLine∧∀ p,H p=none→Q (.ref p) (upd H p (.lst (xs++zs)))
theorem Zd1:OpR X (binaryOp .Add) rCat:=by
 intro pins s σ H x y v u Q I rx ry h;obtain ⟨l,b,xs,zs,rfl,rfl,hH,hB,hz,q⟩:=h;cases rx;cases ry;obtain ⟨z,its,n,r,hl,e⟩:=I.lstM hH;obtain ⟨z2,its2,n2,r2,hl2,e2⟩:=I.lstM hB;refine PySem.P.add_list e e2 ?_ (by rw [yav,yav];omega);have ea:its.toArray++its2.toArray=(its++its2).toArray:=by simp
 rw [ea];exact ⟨.ref _,_,I.lnew (t':=s.toks) (r.append r2) (by rw [yac];omega),rfl,q _ I.fresh⟩
def rRep:R2:=fun x y H Q=>∃ l k xs,x=.ref l∧y=.int k∧H l=some (.lst xs)∧-(2^63)≤k∧k<2^63∧xs.length*k.toNat≤sizeLine ∧
 ∀ p,H p=none→Q (.ref p) (upd H p (.lst (List.replicate k.toNat xs).flatten))
theorem len_rep {α:Type}(xs:List α)(k:Nat):(List.replicate k xs).flatten.length=k*xs.length:=by
 induction k with
 | zero=>simp
 | succ k ih=>rw [yck,ybw,yac,ih,Nat.succ_mul,ycj]
theorem Zif:OpR X (binaryOp .Mult) rRep:=by
 intro pins s σ H x y v u Q I rx ry h;obtain ⟨l,k,xs,rfl,rfl,hH,h1,h2,hz,q⟩:=h;cases rx;obtain ⟨t,rfl⟩:=ry;obtain ⟨z,its,n,r,hl,e⟩:=I.lstM hH;have hlen:its.toArray.size*k.toNat≤sizeLine:=by rw [yav,← hl];exact hz
 have hcap:¬ its.toArray.size*k.toNat > (2^63-1)/8:=by
   have:(sizeLine:Nat)≤(2^63-1)/8:=by decide
   omega
 have hfit:¬ (!Builtin.List.listFitsIndex k)=true:=by rw [fitsIndex_both h1 h2];exact yaK
 have hlong:¬ Builtin.List.listTooLong (its.toArray.size*k.toNat)=true:=by rw [notLongL hlen];exact yaK
 have hnew:List.foldl (fun x1 x2=>x1++x2) #[] (List.replicate (if its.toArray.isEmpty=true then 0 else k.toNat) its.toArray)=(List.replicate k.toNat its).flatten.toArray:=by
   have f0:∀ m:Nat,List.foldl (fun x1 x2=>x1++x2) #[] (List.replicate m its.toArray)=(List.replicate m its).flatten.toArray:=fun m=>by
     have:=Zfm its m [];rw [yaP] at this;exact this
   rw [f0];cases its with
   | nil=>simp
   | cons a r'=>rw [if_neg (by simp)]
 refine wpAny_binaryOp_repeat_ref (T:="list") (U:="int") (by decide) ⟨_,e,rfl⟩ (fun s'=>typeIs_int s' k t) noFill_list_mul F.fills_int_mul F.slot_int_rmul repeat_list F.slot_int_index.lookup
   (call_meets F.slot_int_rmul (typeIs_int s k t) F.entry_int_rmul (F.args_int_rmul_2 _ _) (int___rmul___int_list k t l its.toArray n)
     ⟨e,rfl,⟨_,e,rfl⟩,call_meets F.slot_list_mul ⟨_,e,rfl⟩ F.entry_list_mul (F.args_list_mul_2 _ _) (AutoListH.list___mul___list_int_3 l its.toArray n k t hfit hcap hlong) ⟨e,?_⟩⟩)
 rw [hnew];exact ⟨.ref _,_,I.lnew (t':=s.toks) (r.rep k.toNat) (by rw [len_rep,Nat.mul_comm];exact hz),rfl,q _ I.fresh⟩
section
set_option maxRecDepth 100000 in
end
end L2
namespace Att
open PySem PySem.W PySem.Calls PyProof.Rows
theorem Zej {P:Params}{h:Heap}:∀ (ns:List Int) (vs:List Value),WellAll P h vs (ns.map WData.int)→IntsAre vs ns:=by
 intro ns;induction ns with
 | nil =>
   intro vs w;rw [List.map_nil] at w;cases w;exact .nil
 | cons n ns ih =>
   intro vs w;rw [yaF] at w;cases w with
   | cons a b =>
     cases a;exact .cons _ _ (ih _ b)
theorem ZjQ {l:OpenLaw}{n:Nat}(hn:l.most=some n){P:Params}{h:Heap}{args:List WData}{vals:List Value}
   (hpre:l.row.toRowW.claim.pre args=true) (hwl:WellAll P h vals args) :
   ∃ a vs ns,vals=[Value.ref a]∧args=[WData.list (ns.map WData.int)]∧h.get? a=some { cls:=.type "list",data:=.seq vs.toArray }∧IntsAre vs ns∧ns.length≤n:=by
 have hsh:WShape.hasAll [] args [.list .int]=true:=(pre_splitW hpre).1;have hc:l.pre.holds [] { args:=args }=true:=(pre_splitW hpre).2;obtain ⟨d,r,rfl,h1,h2⟩:=hasAllW_cons hsh;obtain rfl:=hasAllW_nil h2;obtain ⟨xs,rfl,h3⟩:=hasW_list h1;obtain ⟨ns,rfl⟩:=items_int h3;have hlen:ns.length≤n:=by
   unfold OpenLaw.pre at hc;have h4:(WTm.not (.lt (.lit (.int (n:Int))) (.len (.arg 0)))).holds [] { args:=[.list (ns.map .int)] }=true:=by have h4:=(holds_andW hc).1;rw [hn] at h4;exact h4
   have h5:=condW_of h4 (w_not (w_lt w_lit (w_len_list (w_arg rfl))));rw [yaa] at h5;refine Nat.le_of_not_lt fun q=>?_
   have q':(n:Int)<((ns.length:Nat):Int):=by omega
   first
     | (rw [yap q'] at h5;exact absurd h5 (by decide))
     | (simp at h5;omega)
 cases hwl with
 | cons w1 w2 =>
   cases w2;cases w1 with
   | list ho hall=>exact ⟨_,_,ns,rfl,rfl,ho,Zej ns _ hall,hlen⟩
theorem Zjq (l:OpenLaw)(args:List WData):l.row.toRowW.claim.post args (.bool true) args=true :=
 postW_of (r:=l.row.toRowW) (X:=(true==true))
   (show WShape.has [] (.bool true) .bool=true by first | rfl | decide | simp [WShape.has,WShape.arms,WShape.armsAll])
   (show (WTm.eq .res (.lit (.bool true))).value [] { args:=args,res:=some (.bool true),after:=args }=some (.bool (true==true)) from w_eq_bool (w_res rfl) w_lit) rfl
section
variable {K:Frag}
end
end Att
namespace L2
open PySem PySem.Spec PyProof.Rows
theorem Zc2:∀ {vs:List Value} {ns:List Int},IntsAre vs ns→Vals (ns.map V.int) vs
 | _,_,.nil=>.nil
 | _,_,.cons n t h=>.cons ⟨t,rfl⟩ (Zc2 h)
abbrev KOf {K:ZFr}{h:Heap}(_:K.In h):ZFr:=K
def inClass (s:Stmt)(j:Nat):Stmt:=match s with
 | .ClassDef _ _ _ body _ _ _ _ _ _ _=>body.getD j (.Pass ⟨0,0,0,0⟩)
 | _=>.Pass ⟨0,0,0,0⟩
def defArgs (s:Stmt):Arguments:=match s with
 | .FunctionDef _ a _ _ _ _ _ _ _ _=>a
 | _=>{ posonlyargs:=[],args:=[],vararg:=none,kwonlyargs:=[],kw_defaults:=[],kwarg:=none,defaults:=[] }
def defBody (s:Stmt):List Stmt:=match s with
 | .FunctionDef _ _ b _ _ _ _ _ _ _=>b
 | _=>[]
def defScope (s:Stmt):Scope:=match s with
 | .FunctionDef _ _ _ _ _ _ sc _ _ _=>sc
 | _=>{ kind:=.function,names:=[],isGenerator:=false,isCoroutine:=false }
abbrev CX0:CXT:=fun _ _ _ _ _ _=>False
abbrev E0:XK:=fun _ _ _=>False
theorem pass0:Passes CX0 X E0:=fun _ _ _ _ _ _ _ h=>h.elim
structure Fun (K:ZFr)(x qual:Str)(st:Stmt)(f:Addr)(fd:FuncData):Prop where
 ex:∃ (oc:Value) (od:Option Addr) (kV doc pm:Value) (an:Option Addr) (cdv ct:Value) (osl:Array (Option Value)),
   fd=PySem.W.fnOf x qual (defArgs st) (defBody st) (defScope st) .none kV doc pm an cdv ct∧K.lookup f=some ⟨oc,od,.func fd,osl⟩∧PySem.W.codeIn K cdv qual=true
 kp:PySem.W.keepIn K (.ref f)=true
theorem Fun.ok {x:Str}{st:Stmt}{f:Addr}{ps:List Str}{k:Nat}(F:Fun K x qual st f fd)(S:FnScope N ps (defScope st))(len:∀ vs H Q E,sp vs H Q E→vs.length=ps.length)
   (hbody:∀ (cdv:Value) (A:Around) (outer:List Env) (s:Shared) (H:Hp) (vs:List V) (Q:VK) (E:XK),Room k (A.deeper (envOfC qual (defScope st) s.heap.objs.size f cdv))→sp vs H Q E →
     ∃ t,PSs (cxOf CX0 P w K mg base N qual (defScope st) f cdv A outer s H E).nox (defBody st) t∧t { nx:=fun _ H'=>Q .non H',rt:=Q } (start N vs) H):FnOk P w K mg base CX0 (k+1) f fd ps sp:=by
 obtain ⟨oc,od,kV,doc,pm,an,cdv,ct,osl,rfl,lk,hcd⟩:=F.ex;refine fn_of lk hcd S len fun A outer s H vs Q E hr hsp=>?_
 obtain ⟨t,h,q⟩:=hbody cdv A outer s H vs Q E hr hsp;exact ⟨t,h.nox,q⟩
theorem Fun.binds {x:Str}{st:Stmt}{f:Addr}{ps:List Str}(F:Fun K x qual st f fd)
   (h:∀ (kV doc pm:Value) (an:Option Addr) (cdv ct:Value) (us:List Value),us.length=ps.length→bindArgs (PySem.W.fnOf x qual (defArgs st) (defBody st) (defScope st) .none kV doc pm an cdv ct) ⟨us,[]⟩=pure (ps.zip us)):Binds K fd ps []:=by
 obtain ⟨oc,od,kV,doc,pm,an,cdv,ct,osl,rfl,lk,hcd⟩:=F.ex;exact .all (h kV doc pm an cdv ct)
theorem Zdb {x:Str}{st:Stmt}{f:Addr}{oc:Value}{od an:Option Addr}{kV doc pm cdv ct:Value}(l:K.lookup f=some ⟨oc,od,.func (PySem.W.fnOf x qual (defArgs st) (defBody st) (defScope st) .none kV doc pm an cdv ct),osl⟩)
   (c:PySem.W.codeIn K cdv qual=true) (k:PySem.W.keepIn K (.ref f)=true):Fun K x qual st f (PySem.W.fnOf x qual (defArgs st) (defBody st) (defScope st) .none kV doc pm an cdv ct):=⟨⟨oc,od,kV,doc,pm,an,cdv,ct,osl,rfl,l,c⟩,k⟩
theorem small1000 {n:Nat}(h:n≤1000):n<sizeLine:=ybG h (by decide)
theorem pv (i:Nat){x:Str}{pos:Pos}(hN:X.N[i]?=some x:=by rfl)(hv:Vis X.env.scope x:=by first | exact Or.inl rfl | exact Or.inr (Or.inl rfl) | exact Or.inr (Or.inr rfl))(hd:(x==("__debug__":Str))=false:=by decide)
   (hcd:(x==("__classdict__":Str))=false:=by decide):PE X (.Name x pos) (tVar i):=pe_var hN hv hd hcd
def Same (H H':Hp):Prop:=∀ b o,H b=some o→H' b=some o
theorem Same.refl (H:Hp):Same H H:=fun _ _ h=>h
theorem Same.trans {H1 H2:Hp}(a:Same H H1)(b:Same H1 H2):Same H H2:=fun c o h=>b c o (a c o h)
theorem Same.free (e:Same H H'){l:Addr}(h:H' l=Option.none):H l=Option.none:=by
 cases q:H l with
 | none=>rfl
 | some o =>
   rw [e l o q] at h;cases h
theorem Same.seq {a:Addr}(e:Same H H')(h:SqL K H a xs):SqL K H' a xs:=by
 rcases h with (h | ⟨o,h⟩) | h
 · exact .inl (.inl (e _ _ h))
 · exact .inl (.inr ⟨o,e _ _ h⟩)
 · exact .inr h
end L2
namespace L2
open PySem PySem.Spec PyProof.Rows
section
variable {κ:Type}[DecidableEq κ]
def valV (kvs:List (κ × V))(k:κ):Option V:=(kvs.find? fun kv=>decide (kv.1=k)).map (·.2)
def putK (kvs:List (κ × V))(k:κ)(v:V):List (κ × V) :=
 if (kvs.any fun kv=>decide (kv.1=k))=true then kvs.map (fun kv=>if kv.1=k then (kv.1,v) else kv) else kvs++[(k,v)]
theorem ZaV {p:κ × V}{r:List (κ × V)}{k:κ}(e:p.1=k):valV (p::r) k=some p.2:=by simp [valV,yco,e]
theorem ZaU {p:κ × V}{r:List (κ × V)}{k:κ}(e:¬ p.1=k):valV (p::r) k=valV r k:=by simp [valV,yco,e]
theorem ZbM (k:κ):∀ kvs:List (κ × V),(kvs.any fun kv=>decide (kv.1=k))=(valV kvs k).isSome
 | []=>rfl
 | p::r=>by
   rw [List.any_cons];by_cases e:p.1=k
   · simp only [ZaV e,yap e,Bool.true_or,Option.isSome_some]
   · rw [ZaU e,yaI e,Bool.false_or];exact ZbM k r
theorem Zgv (k j:κ)(y:V):∀ kvs:List (κ × V),valV (kvs.map fun kv=>if kv.1=k then (kv.1,y) else kv) j=(valV kvs j).map fun x=>if j=k then y else x
 | []=>rfl
 | p :: r=>by
   have ih:=Zgv k j y r;rw [yaF];by_cases h:p.1=k
   · rw [if_pos h]
     by_cases e:p.1=j
     · rw [ZaV (p:=(p.1,y)) e,ZaV e,Option.map_some,if_pos (e.symm.trans h)]
     · rw [ZaU (p:=(p.1,y)) e,ZaU e,ih]
   · rw [if_neg h]
     by_cases e:p.1=j
     · rw [ZaV (p:=p) e,ZaV e,Option.map_some,if_neg (fun z=>h (e.trans z))]
     · rw [ZaU (p:=p) e,ZaU e,ih]
theorem ZfC (k j:κ)(y:V):∀ kvs:List (κ × V),valV kvs k=none→valV (kvs++[(k,y)]) j=if j=k then some y else valV kvs j
 | [],_=>by
   by_cases e:k=j
   · rw [if_pos e.symm];exact ZaV (p:=(k,y)) e
   · rw [if_neg (fun z=>e z.symm)];exact ZaU (p:=(k,y)) e
 | p::r,hn=>by
   rw [ybK];have hk:¬ p.1=k:=fun z=>by rw [ZaV z] at hn;cases hn
   rw [ZaU hk] at hn;have ih:=ZfC k j y r hn;by_cases e:p.1=j
   · rw [ZaV e,ZaV e,if_neg (fun z=>hk (e.trans z))]
   · rw [ZaU e,ZaU e,ih]
theorem ZeI (kvs:List (κ × V))(k j:κ)(y:V):valV (putK kvs k y) j=if j=k then some y else valV kvs j:=by
 unfold putK;by_cases a:(kvs.any fun kv=>decide (kv.1=k))=true
 · rw [if_pos a,Zgv]
   rw [ZbM] at a;by_cases e:j=k
   · obtain ⟨x,hx⟩:=ycg.mp a
     rw [if_pos e,e,hx,Option.map_some,if_pos rfl]
   · rw [if_neg e]
     cases valV kvs j with
     | none=>rfl
     | some x=>rw [Option.map_some,if_neg e]
 · rw [if_neg a]
   refine ZfC k j y kvs ?_;rw [ZbM] at a;cases q:valV kvs k with
   | none=>rfl
   | some x=>rw [q] at a;exact (a rfl).elim
theorem ZcC (kvs:List (κ × V))(k:κ)(v:V):(putK kvs k v).length≤kvs.length+1:=by
 unfold putK;split
 · rw [yaa];omega
 · rw [yac,yak,ybv];omega
theorem RelO.isSome_eq {o:Option V}{u:Option Value}(r:RelO o u):o.isSome=u.isSome:=by
 cases o with
 | none=>cases u with
   | none=>rfl
   | some _=>exact (show False from r).elim
 | some _=>cases u with
   | none=>exact (show False from r).elim
   | some _=>rfl
theorem RelO.getD {o:Option V}{u:Option Value}{d:V}{d':Value}(r:RelO o u)(rd:RelV d d'):RelV (o.getD d) (u.getD d'):=by
 cases o with
 | none=>cases u with
   | none=>exact rd
   | some _=>exact (show False from r).elim
 | some _=>cases u with
   | none=>exact (show False from r).elim
   | some _=>exact r
theorem KV.val {kvs:List (κ × V)}{vs:List (κ × Value)}(r:KV kvs vs)(k:κ):RelO (valV kvs k) (valueAt vs k):=by
 unfold KV at r;induction r with
 | nil=>exact True.intro
 | @cons p q ps qs h t ih =>
   obtain ⟨h1,h2⟩:=h;by_cases e:p.1=k
   · have e':q.1=k:=h1.symm.trans e
     have b:valueAt (q::qs) k=some q.2:=by simp [valueAt,yco,e']
     rw [ZaV e,b];exact h2
   · have e':¬ q.1=k:=fun z=>e (h1.trans z)
     have b:valueAt (q::qs) k=valueAt qs k:=by simp [valueAt,yco,e']
     rw [ZaU e,b];exact ih
theorem KV.any {kvs:List (κ × V)}{vs:List (κ × Value)}(r:KV kvs vs)(k:κ):(kvs.any fun kv=>decide (kv.1=k))=vs.any fun kv=>decide (kv.1=k):=by
 unfold KV at r;induction r with
 | nil=>rfl
 | cons h t ih=>rw [List.any_cons,List.any_cons,ih,h.1]
theorem KV.repl {kvs:List (κ × V)}{vs:List (κ × Value)}(r:KV kvs vs)(k:κ){y:V}{u:Value}(ry:RelV y u) :
   KV (kvs.map fun kv=>if kv.1=k then (kv.1,y) else kv) (vs.map fun kv=>if kv.1=k then (kv.1,u) else kv):=by
 unfold KV at r ⊢;induction r with
 | nil=>exact .nil
 | @cons p q ps qs h t ih =>
   rw [yaF,yaF];refine .cons ?_ ih;obtain ⟨h1,h2⟩:=h;by_cases e:p.1=k
   · rw [if_pos e,if_pos (h1.symm.trans e)];exact ⟨h1,ry⟩
   · rw [if_neg e,if_neg (fun z=>e (h1.trans z))];exact ⟨h1,h2⟩
theorem KV.put {kvs:List (κ × V)}{vs:List (κ × Value)}(r:KV kvs vs)(k:κ){y:V}{u:Value}(ry:RelV y u):KV (putK kvs k y) (stored vs k u):=by
 unfold putK stored;rw [r.any k];by_cases e:(vs.any fun kv=>decide (kv.1=k))=true
 · rw [if_pos e,if_pos e];exact r.repl k ry
 · rw [if_neg e,if_neg e];exact Paired.snoc r ⟨rfl,ry⟩
theorem KV.keys {kvs:List (κ × V)}{vs:List (κ × Value)}(r:KV kvs vs):kvs.map (·.1)=vs.map (·.1):=by
 unfold KV at r;induction r with
 | nil=>rfl
 | cons h t ih=>rw [yaF,yaF,ih,h.1]
theorem KV.length {kvs:List (κ × V)}{vs:List (κ × Value)}(r:KV kvs vs):kvs.length=vs.length:=Paired.length r
end
theorem Zhg {k:Key}{u:Value}(r:RelV (kV k) u):(mixKind P w).is k u=true:=by
 cases k with
 | inl i=>obtain ⟨t,e⟩:=(show ∃ t,u=Value.int i t from r);subst e;exact ZgM P w i t
 | inr x=>obtain ⟨t,e⟩:=(show ∃ t,u=Value.str x t from r);subst e;exact ZgE P w x t
theorem Zfz {P:Program}{w:World}:∀ {ks:List Key} {us:List Value},Vals (ks.map kV) us→ItemsAre (mixKind P w) ks us
 | [],_,r=>by rw [List.map_nil] at r;cases r;exact .nil
 | k::ks,_,r=>by
   rw [yaF] at r;cases r with
   | cons h t=>exact .cons (Zhg h) (Zfz t)
abbrev KT (H:Hp):List (List Key × V)→List (List Key × Addr × Value)→Prop:=Paired fun p q=>p.1=q.1∧H q.2.1=some (.tup (p.1.map kV))∧RelV p.2 q.2.2
theorem KT.val {kvs:List (List Key × V)}{xs:List (List Key × Addr × Value)}(r:KT H kvs xs)(k:List Key):RelO (valV kvs k) ((atKey xs k).map (·.2)):=by
 induction r with
 | nil=>exact True.intro
 | @cons p q ps qs h t ih =>
   obtain ⟨h1,_,h2⟩:=h;by_cases e:p.1=k
   · have e':q.1=k:=h1.symm.trans e
     have b:atKey (q::qs) k=some q.2:=by simp [atKey,yco,e']
     rw [ZaV e,b];exact h2
   · have e':¬ q.1=k:=fun z=>e (h1.trans z)
     have b:atKey (q::qs) k=atKey qs k:=by simp [atKey,yco,e']
     rw [ZaU e,b];exact ih
theorem KT.repl {kvs:List (List Key × V)}{xs:List (List Key × Addr × Value)}(r:KT H kvs xs)(k:List Key){y:V}{u:Value}(ry:RelV y u) :
   KT H (kvs.map fun kv=>if kv.1=k then (kv.1,y) else kv) (xs.map (putAt k u)):=by
 induction r with
 | nil=>exact .nil
 | @cons p q ps qs h t ih =>
   rw [yaF,yaF];refine .cons ?_ ih;obtain ⟨h1,h2,h3⟩:=h;unfold putAt;by_cases e:p.1=k
   · rw [if_pos e,if_pos (h1.symm.trans e)];exact ⟨h1,h2,ry⟩
   · rw [if_neg e,if_neg (fun z=>e (h1.trans z))];exact ⟨h1,h2,h3⟩
theorem KT.put {kvs:List (List Key × V)}{xs:List (List Key × Addr × Value)}(r:KT H kvs xs)(k:List Key){b:Addr}{y:V}{u:Value}(hb:H b=some (.tup (k.map kV)))(ry:RelV y u) :
   KT H (putK kvs k y) (storedH xs k b u):=by
 have e:(kvs.any fun kv=>decide (kv.1=k))=(atKey xs k).isSome:=by rw [ZbM,(r.val k).isSome_eq,Option.isSome_map]
 unfold putK storedH;rw [e];by_cases q:(atKey xs k).isSome=true
 · rw [if_pos q,if_pos q];exact r.repl k ry
 · rw [if_neg q,if_neg q];exact Paired.snoc r ⟨rfl,hb,ry⟩
theorem KT.keeps {kvs:List (List Key × V)}{xs:List (List Key × Addr × Value)}(r:KT H kvs xs)(ht:∀ b ys,H b=some (.tup ys)→H' b=some (.tup ys)):KT H' kvs xs :=
 Paired.mapP r fun _ _ z=>⟨z.1,ht _ _ z.2.1,z.2.2⟩
section
variable {h:Heap}{a:Addr}
theorem rd_of {u:HO}(ok:HOk P w H h)(e:Rd H a u):ObjOk P w H h a u:=e.ok ok
theorem ZgA (ok:HOk P w H h)(e:Rd H a (.dK kvs)):kvs.length≤sizeLine∧(a==sysModules)=false∧∃ vs,KV kvs vs∧h.DictOf (mixKind P w) a vs :=
 show ObjOk P w H h a (.dK kvs) from rd_of ok e
theorem dk_of (ok:HOk P w H h)(e:H a=some (.dK kvs)):kvs.length≤sizeLine∧(a==sysModules)=false∧∃ vs,KV kvs vs∧h.DictOf (mixKind P w) a vs:=ZgA ok (.inl e)
theorem Zge {ks:List Key}(ok:HOk P w H h)(e:H a=some (.tup (ks.map kV))):(tupleKind (mixKind P w)).is h ks a:=by
 obtain ⟨_,its,r,o,h1,h2,n,h3⟩:=(show ObjOk P w H h a (.tup (ks.map kV)) from ok a _ e)
 exact ⟨o,its.toArray,n,h1,h2,h3,by simpa using Zfz r⟩
theorem ZgD {kvs:List (List Key × V)} (ok:HOk P w H h) (e:Rd H a (.dT kvs)):kvs.length≤sizeLine∧(a==sysModules)=false ∧
   ∃ xs,KT H kvs xs∧h.DictOfH (tupleKind (mixKind P w)) a xs:=by
 obtain ⟨z,y,xs,r,o,es,ep,h1,h2,h3,h4,h5⟩:=(show ObjOk P w H h a (.dT kvs) from rd_of ok e)
 refine ⟨z,y,xs,r,o,es,ep,h1,h2,h3,h4,fun x hx=>?_,h5⟩;have all:∀ {l:List (List Key × V)} {m:List (List Key × Addr × Value)},KT H l m→∀ x∈m,(tupleKind (mixKind P w)).is h x.1 x.2.1:=by
   intro l m q;induction q with
   | nil=>intro x hx;exact nomatch hx
   | @cons p q ps qs hq t ih =>
     intro x hx;rcases yaj.mp hx with e | hx
     · subst e
       exact Zge ok (by rw [← hq.1];exact hq.2.1)
     · exact ih x hx
 exact all r x hx
theorem dt_of {kvs:List (List Key × V)}(ok:HOk P w H h)(e:H a=some (.dT kvs)):kvs.length≤sizeLine∧(a==sysModules)=false ∧
   ∃ xs,KT H kvs xs∧h.DictOfH (tupleKind (mixKind P w)) a xs:=ZgD ok (.inl e)
end
def DGet (H:Hp)(a:Addr)(y:V)(r:Option V):Prop :=
 (∃ kvs k,Rd H a (.dK kvs)∧y=kV k∧r=valV kvs k)∨∃ kvs k b,Rd H a (.dT kvs)∧y=.ref b∧H b=some (.tup (k.map kV))∧r=valV kvs k
def DPut (H:Hp)(a:Addr)(y v:V)(H':Hp):Prop :=
 (∃ kvs k,H a=some (.dK kvs)∧y=kV k∧kvs.length<sizeLine∧H'=upd H a (.dK (putK kvs k v))) ∨
 ∃ kvs k b,H a=some (.dT kvs)∧y=.ref b∧H b=some (.tup (k.map kV))∧kvs.length<sizeLine∧H'=upd H a (.dT (putK kvs k v))
theorem DGet.k {H:Hp}{a:Addr}{kvs:List (Key × V)}{k:Key}(e:H a=some (.dK kvs)):DGet H a (kV k) (valV kvs k):=.inl ⟨kvs,k,.inl e,rfl,rfl⟩
theorem DPut.k {H:Hp}{a:Addr}{kvs:List (Key × V)}{k:Key}{v:V}(e:H a=some (.dK kvs))(hl:kvs.length<sizeLine):DPut H a (kV k) v (upd H a (.dK (putK kvs k v))):=.inl ⟨kvs,k,e,rfl,hl,rfl⟩
section
variable {a:Addr}{y v:V}{u r:Value}{o:Option V}
theorem Inv.big (I:Inv X pins σ H s):sysModules<s.heap.objs.size:=by have h:mainGlobals<s.heap.objs.size:=(I.mod.glob.keeps I.bk).lt;exact Nat.lt_trans (by decide) h
theorem ZjS (hu:A.units+1<cLine)(I:Inv X pins σ H s)(g:DGet H a y (some v))(ry:RelV y u)(h:∀ w' s',Inv X pins σ H s'→RelV v w'→Q w' s') :
   wpAny (model X.prog X.w) A (getItem (.ref a) u) Q E s:=by
 rcases g with ⟨kvs,k,e,ey,l⟩ | ⟨kvs,k,b,e,ey,eb,l⟩
 · subst ey
   obtain ⟨z,hd,vs,rel,dd⟩:=ZgA I.hok e;obtain ⟨w',hw,rw'⟩:=RelO.some_of (v:=v) (o:=valueAt vs k) (by rw [l];exact rel.val k);exact wpAny_getItem_of (Zhg ry) dd.mapOf hw (h w' _ (I.tok _) rw')
 · subst ey
   cases (show u=Value.ref b from ry);obtain ⟨z,hd,xs,rel,dd⟩:=ZgD I.hok e;obtain ⟨w',hw,rw'⟩:=RelO.some_of (v:=v) (o:=(atKey xs k).map (·.2)) (by rw [l];exact rel.val k);obtain ⟨p,hp,hp2⟩:=Option.map_eq_some_iff.mp hw;refine wpAny_getItem_heap (tupleKind_room_in1 hu) (Zge I.hok eb) dd hp ?_;rw [hp2];exact h w' _ (I.tok _) rw'
theorem Zf9 {ob:HO}(I:Inv X pins σ H s)(mu:Mut (H a))(hs:Heap.SameBut a s.heap h')(he:∃ q,h'.get? a=some q)(new:ObjOk X.prog X.w (upd H a ob) h' a ob) :
   Inv X pins σ (upd H a ob) { s with heap:=h',toks:=t' } :=
 I.write (x:=a) (e:=a) mu (.inl rfl) (fun b q hb z=>(hs.2 b hb).trans z) he new
theorem dk_new {vs:List (Key × Value)}(z:kvs.length≤sizeLine)(hd:(a==sysModules)=false)(rel:KV kvs vs)(dd:h'.DictOf (mixKind P w) a vs) :
   ObjOk P w H' h' a (.dK kvs):=⟨z,hd,vs,rel,dd⟩
theorem Zjb {Q:Unit→Shared→Prop}(hu:A.units+1<cLine)(I:Inv X pins σ H s)(g:DPut H a y v H')(ry:RelV y u)(rv:RelV v r)(h:∀ s',Inv X pins σ H' s'→Q () s') :
   wpAny (model X.prog X.w) A (setItem (.ref a) u r) Q E s:=by
 rcases g with ⟨kvs,k,e,ey,l,eH⟩ | ⟨kvs,k,b,e,ey,eb,l,eH⟩
 · subst ey eH
   obtain ⟨z,hd,vs,rel,dd⟩:=dk_of I.hok e;have hz:vs.length≤sizeLine:=by rw [← rel.length];exact z
   have hl:(putK kvs k v).length≤sizeLine:=by have:=ZcC kvs k v;omega
   refine wpAny_setItem_pairs (hsz:=hz) (Zhg ry) dd fun h' dd' hs=>h _ ?_
   have he:∃ q,h'.get? a=some q:=let ⟨q,_,_,hq,_⟩:=dd';⟨q,hq⟩
   exact Zf9 I (by rw [e];exact True.intro) hs he (dk_new hl hd (rel.put k rv) dd')
 · subst ey eH
   cases (show u=Value.ref b from ry);obtain ⟨z,hd,xs,rel,dd⟩:=dt_of I.hok e;have hz:xs.length≤sizeLine:=by rw [← Paired.length rel];exact z
   have hl:(putK kvs k v).length≤sizeLine:=by have:=ZcC kvs k v;omega
   refine wpAny_setItem_heap (hsz:=hz) (tupleKind_room_in1 hu) (Zge I.hok eb) dd fun h' dd' hs=>h _ ?_
   obtain ⟨q,es,ep,hq,h2,h3,h4,_,h5⟩:=dd';refine Zf9 I (by rw [e];exact True.intro) hs ⟨q,hq⟩ ⟨hl,hd,_,(rel.put k eb rv).keeps fun c ys ec=>?_,q,es,ep,hq,h2,h3,h4,h5⟩;rw [Zai (ne_of ec e (fun z=>nomatch z))];exact ec
end
section
variable {a:Addr}{k:Key}{u:Value}
end
def NoSl (i:Expr):Prop:=∀ ov iv,subscripted i false ov iv=operate [ov,iv] (getItem ov iv)
theorem subD_of {env:Env}{value slice:Expr}{pos:Pos}{T id:String}
   (hl:typeLookup (.type T) "__getitem__"=pure (some (.builtin id))) (hs:NoSl slice)
   (h:wpAny (model prog w) A (eval value env) (fun o s₁=>wpAny (model prog w) A (eval slice env) (fun i s₂=>s₂.TypeIs o T∧wpAny (model prog w) A (getItem o i) Q E s₂) E s₁) E s) :
   wpAny (model prog w) A (eval (.Subscript value slice pos) env) Q E s:=by
 refine Subscript_ (zaF h (fun o s₁ h₁=>zaF h₁ (fun i s₂ h₂=>?_) fun _ _ x=>x) fun _ _ x=>x);obtain ⟨hT,h₂⟩:=h₂;unfold subscriptTail;refine zaa ?_;rw [getitemInPython_of_ne hT.not_modules];refine zaa (wpAny_specialOf hT hl ?_);have fin:wpAny (model prog w) A (subscripted slice false o i) (fun r s₃=>wpAny (model prog w) A (letTemporaryGo value o r >>= fun _=>pure r) Q E s₃) E s₂:=by rw [hs o i];exact wpAny_operating (zaF h₂ (fun r s₃ h₃=>zaa (wpAny_letTemporaryGo (zab h₃))) fun _ _ x=>x)
 first
   | exact zab (zaa fin)
   | exact zaa (zab (zaa fin))
   | exact zaa fin
theorem Zgu {a:Addr}{y:V}{o:Option V}(I:Inv X pins σ H s)(g:DGet H a y o):s.TypeIs (.ref a) "dict":=by
 rcases g with ⟨kvs,k,e,_,_⟩ | ⟨kvs,k,b,e,_,_,_⟩
 · obtain ⟨_,_,vs,_,dd⟩:=ZgA I.hok e
   exact dd.typeIs
 · obtain ⟨_,_,xs,_,dd⟩:=ZgD I.hok e
   exact dd.typeIs
def tDGet (td ty:TE):TE:=fun σ H Q=>td σ H fun x H1=>ty σ H1 fun y H2=>∃ a v,x=.ref a∧DGet H2 a y (some v)∧Q v H2
def sDPut (td ty tv:TE):TS:=fun D σ H=>tv σ H fun v H1=>td σ H1 fun x H2=>ty σ H2 fun y H3=>∃ a H4,x=.ref a∧DPut H3 a y v H4∧D.nx σ H4
section
variable {o i e value:Expr}{pos tpos:Pos}{td ty tv:TE}
theorem Zip (hu:X.A.units+1<cLine)(ho:PE X o td)(hi:PE X i ty)(hs:NoSl i):PE X (.Subscript o i pos) (tDGet td ty):=by intro pins s σ H Q I h;refine subD_of PySem.F.slot_dict_getitem.lookup hs (thn (ho pins s σ H _ I h) fun u s1 ⟨x,H1,I1,rx,q1⟩=>thn (hi pins s1 σ H1 _ I1 q1) fun iv s2 ⟨y,H2,I2,ry,a,v,ex,g,q2⟩=>?_);subst ex;obtain rfl:u=Value.ref a:=rx;exact ⟨Zgu I2 g,ZjS hu I2 g ry fun w' s3 I3 rw'=>⟨v,H2,I3,rw',q2⟩⟩
theorem Zdz (hu:X.A.units+1<cLine)(ho:PE X o td)(hi:PE X i ty)(hv:PE X value tv)(hs:swapsWith value (some (.Subscript o i pos')) pos.line X.env=pure false) :
   PS X (.Assign [.Subscript o i pos'] value pos) (sDPut td ty tv):=by
 intro pins s σ H D I h;refine wpAny_Assign_Subscript (thn (hv pins s σ H _ I h) fun r s1 ⟨v,H1,I1,rv,q1⟩=>thn (ho pins s1 σ H1 _ I1 q1) fun u s2 ⟨x,H2,I2,rx,q2⟩=>thn (hi pins s2 σ H2 _ I2 q2) fun iv s3 ⟨y,H3,I3,ry,a,H4,ex,g,q3⟩=>?_) hs;subst ex;obtain rfl:u=Value.ref a:=rx;exact Zjb hu I3 g ry rv fun s4 I4=>⟨σ,H4,I4,q3⟩
end
theorem dk_empty (h:Heap)(hb:sysModules<h.objs.size):ObjOk P w H (h.push { cls:=.type "dict",data:=.dict #[] }) h.objs.size (.dK []) :=
 ⟨yau _,zaL.mpr (Ne.symm (yaA hb)),[],.nil,Heap.DictOf.new h⟩
def tDNewK:TE:=fun _ H Q=>∀ p,H p=none→Q (.ref p) (upd H p (.dK []))
section
variable {pos:Pos}
theorem ZcV:PE X (.Dict [] [] pos) tDNewK:=fun pins s σ H Q I h =>
 wpAny_Dict_empty ⟨.ref s.heap.objs.size,_,I.laid (a:=s.heap.objs.size) (o:=.dK []) (t':=s.toks) (fun _ _ q=>zac _ q) (yad _) (dk_empty s.heap I.big),rfl,h _ (I.hok.fresh (yad _))⟩
end
structure M1 (X:Cx)(o:Expr)(m:Str)(apos:Pos)(e:Expr)(cpos:Pos):Prop where
 base:attributeBase o m X.env (eval o X.env)=eval o X.env
 few:((backTo cpos (starEach [e] X.env)).all (fun x=>!x.1)&&(backToKw cpos (keywordEach [] X.env)).all (fun x=>x.1.isSome)
   && decide (([e]:List Expr).length+([]:List Keyword).length+(if ([]:List Keyword).isEmpty then 0 else 1)<30))=true
 line:(apos.endLine==cpos.line)=true
 trees:backTo cpos (starEach [e] X.env)=[(false,eval e X.env)]
structure M2 (X:Cx)(o:Expr)(m:Str)(apos:Pos)(e f:Expr)(cpos:Pos):Prop where
 base:attributeBase o m X.env (eval o X.env)=eval o X.env
 few:((backTo cpos (starEach [e,f] X.env)).all (fun x=>!x.1)&&(backToKw cpos (keywordEach [] X.env)).all (fun x=>x.1.isSome)
   && decide (([e,f]:List Expr).length+([]:List Keyword).length+(if ([]:List Keyword).isEmpty then 0 else 1)<30))=true
 line:(apos.endLine==cpos.line)=true
 trees:backTo cpos (starEach [e,f] X.env)=[(false,eval e X.env),(false,eval f X.env)]
def IsD (H:Hp)(a:Addr):Prop:=(∃ kvs,Rd H a (.dK kvs))∨∃ kvs,Rd H a (.dT kvs)
theorem isD_at {a:Addr}(I:Inv X pins σ H s)(d:IsD H a) :
   s.TypeIs (.ref a) "dict"∧(∀ b,Value.ref a=.ref b→∃ ob,s.heap.get? b=some ob∧ob.dict=none)∧(a==sysModules)=false:=by
 rcases d with ⟨kvs,e⟩ | ⟨kvs,e⟩
 · obtain ⟨_,hd,vs,_,dd⟩:=ZgA I.hok e
   refine ⟨dd.typeIs,fun b q=>?_,hd⟩;cases q;obtain ⟨ob,_,_,h1,h2,_⟩:=dd;exact ⟨ob,h1,h2.2.1⟩
 · obtain ⟨_,hd,xs,_,dd⟩:=ZgD I.hok e
   refine ⟨dd.typeIs,fun b q=>?_,hd⟩;cases q;obtain ⟨ob,_,_,h1,h2,_⟩:=dd;exact ⟨ob,h1,h2.2.1⟩
section
variable {a:Addr}{y d:V}{u r:Value}{o:Option V}
theorem d_get2 (hu:A.units+1<cLine)(I:Inv X pins σ H s)(g:DGet H a y o)(ry:RelV y u)(rd:RelV d r)(h:∀ w' s',Inv X pins σ H s'→RelV (o.getD d) w'→Q w' s') :
   wpAny (model X.prog X.w) A (call (.builtin "dict.get") [.ref a,u,r]) Q E s:=by
 rcases g with ⟨kvs,k,e,ey,l⟩ | ⟨kvs,k,b,e,ey,eb,l⟩
 · subst ey
   obtain ⟨z,hd,vs,rel,dd⟩:=ZgA I.hok e;refine call_meetsIn PySem.F.slot_dict_get dd.typeIs PySem.F.entry_dict_get (PySem.F.args_dict_get_3 _ _ _) (meets_dict_get_default (mixKind X.prog X.w) a (Zhg ry) hd r) ⟨_,dd.mapOf,h _ _ (I.tok _) ?_⟩;rw [l];exact (rel.val k).getD rd
 · subst ey
   cases (show u=Value.ref b from ry);obtain ⟨z,hd,xs,rel,dd⟩:=ZgD I.hok e;refine call_meetsIn PySem.F.slot_dict_get dd.typeIs PySem.F.entry_dict_get (PySem.F.args_dict_get_3 _ _ _) (meetsH_dict_get_default (tupleKind (mixKind X.prog X.w)) a b hd r) ⟨tupleKind_room_in1 hu,k,xs,Zge I.hok eb,dd,h _ _ (I.tok _) ?_⟩;rw [l];exact (rel.val k).getD rd
end
def tDGet2 (td ty tx:TE):TE:=fun σ H Q=>td σ H fun x H1=>∃ a,x=.ref a∧IsD H1 a∧ty σ H1 fun y H2=>tx σ H2 fun z H3=>∃ o,DGet H3 a y o∧Q (o.getD z) H3
section
variable {o e f:Expr}{apos cpos:Pos}{td ty tx:TE}
theorem Zgq (hu:X.A.units+1<cLine)(ho:PE X o td)(he:PE X e ty)(hf:PE X f tx)(m:M2 X o "get" apos e f cpos):PE X (.Call (.Attribute o "get" apos) [e,f] [] cpos) (tDGet2 td ty tx):=by
 intro pins s σ H Q I h;refine wpAny_Call_method m.base m.few m.line PySem.F.plainAttrs_dict PySem.F.slot_dict_get PySem.F.type_dict_get (thn (ho pins s σ H _ I h) fun u s1 ⟨x,H1,I1,rx,a,ex,d,q1⟩=>?_);subst ex;obtain rfl:u=Value.ref a:=rx;obtain ⟨t1,t2,_⟩:=isD_at I1 d;refine ⟨t1,t2,?_⟩;rw [m.trees];refine Calls.callWith_builtin rfl (Calls.evalArgs_plain (zan (thn (he pins s1 σ H1 _ I1 q1) fun iv s2 ⟨y,H2,I2,ry,q2⟩ =>
   zan (thn (hf pins s2 σ H2 _ I2 q2) fun fv s3 ⟨z,H3,I3,rz,ov,g,q3⟩=>zaD ?_))))
 exact d_get2 hu I3 g ry rz fun w' s4 I4 rw'=>⟨_,H3,I4,rw',q3⟩
end
section
variable {a:Addr}
end
section
variable {a:Addr}{y:V}{u:Value}
end
section
variable {κ:Type}[DecidableEq κ]
theorem Zgj:∀ {l:List κ} {k:κ},l.Nodup→¬ k∈l→(l++[k]).Nodup
 | [],k,_,_=>by simp
 | a::r,k,h,hk=>by
   obtain ⟨h1,h2⟩:=ybS.mp h;show (a::(r++[k])).Nodup;refine ybS.mpr ⟨fun m=>?_,Zgj h2 fun m=>hk (yaj.mpr (Or.inr m))⟩;rcases yai.mp m with q | q
   · exact h1 q
   · exact hk (yaj.mpr (Or.inl (yal.mp q).symm))
end
end L2
namespace BM
open PySem L2 PyProof.Rows
def wd:List Nat→Nat
 | []=>0
 | p::r=>2^p+wd r
def Up:Nat→List Nat→Prop
 | _,[]=>True
 | a,p::r=>a≤p∧Up (p+1) r
theorem Up.mono:∀ {a b:Nat} {ps:List Nat},Up b ps→a≤b→Up a ps
 | _,_,[],_,_=>trivial
 | _,_,_::_,h,e=>⟨yaN e h.1,h.2⟩
theorem Up.filter {p:Nat→Bool}:∀ {a:Nat} {ps:List Nat},Up a ps→Up a (ps.filter p)
 | _,[],_=>trivial
 | a,q::r,h=>by
   rw [yba];split
   · exact ⟨h.1,Up.filter h.2⟩
   · exact (Up.filter h.2).mono (yaN h.1 (ycd _))
theorem Up.dvd:∀ {a:Nat} {ps:List Nat},Up a ps→2^a ∣ wd ps
 | _,[],_=>Nat.dvd_zero _
 | a,p::r,h=>Nat.dvd_add (Nat.pow_dvd_pow 2 h.1) (Nat.dvd_trans (Nat.pow_dvd_pow 2 (yaN h.1 (ycd _))) (Up.dvd h.2))
theorem Up.lt:∀ {a k:Nat} {ps:List Nat},Up a ps→(∀ p∈ps,p<k)→a≤k→wd ps+2^a≤2^k
 | _,_,[],_,_,e=>by
   show 0+_≤_;rw [ybD];exact ybH (by decide) e
 | a,k,p::r,h,hk,_=>by
   have h1:p<k:=hk p yaJ;have ih:=Up.lt (a:=p+1) (k:=k) h.2 (fun q hq=>hk q (yaM _ hq)) h1;have h2:2^a≤2^p:=ybH (by decide) h.1;rw [ybT] at ih;show 2^p+wd r+2^a≤2^k;omega
theorem Up.lt' {k:Nat}(h:Up 0 ps)(hk:∀ p∈ps,p<k):wd ps<2^k:=by have:=Up.lt h hk (yau _);omega
theorem and_pred (x p:Nat):(2^(p+1)*x+2^p) &&& (2^(p+1)*x+2^p-1)=2^(p+1)*x:=by
 have hp:0<2^p:=ybx (by decide);have e1:2^(p+1)*x+2^p-1=2^(p+1)*x+(2^p-1):=by omega
 have l1:2^p<2^(p+1):=Nat.pow_lt_pow_right (by decide) (ybr _);rw [e1];apply Nat.eq_of_testBit_eq
 intro i;have q:=ybm x (b:=0) (i:=p+1) (ybx (by decide)) i;rw [ybL] at q;rw [Nat.testBit_and,ybm x l1 i,ybm x (b:=2^p-1) (i:=p+1) (by omega) i,q];split
 · rw [Nat.testBit_two_pow,Nat.testBit_two_pow_sub_one,Nat.zero_testBit]
   by_cases e:p=i
   · subst e;simp
   · simp [e]
 · simp
theorem Zen {p:Nat}{r:List Nat}(h:Up (p+1) r):wd (p::r) &&& (wd (p::r)-1)=wd r:=by obtain ⟨x,hx⟩:=h.dvd;show (2^p+wd r) &&& (2^p+wd r-1)=wd r;rw [hx,ycj (2^p)];exact and_pred x p
theorem Zf3 {p:Nat}{r:List Nat}:0<wd (p::r):=by have:0<2^p:=ybx (by decide);show 0<2^p+wd r;omega
theorem or_top {a p:Nat}(h:a<2^p):a ||| 2^p=a+2^p:=by have:=Nat.two_pow_add_eq_or_of_lt h 1;rw [Nat.mul_one] at this;rw [Nat.or_comm,← this,ycj]
theorem Za8:∀ (xs ys:List Nat),wd (xs++ys)=wd xs+wd ys
 | [],ys=>(ybD _).symm
 | x::xs,ys=>by
   show 2^x+wd (xs++ys)=2^x+wd xs+wd ys;rw [Za8 xs ys,yct]
theorem Up.left:∀ {a:Nat} {xs ys:List Nat},Up a (xs++ys)→Up a xs
 | _,[],_,_=>trivial
 | _,_::_,_,h=>⟨h.1,Up.left h.2⟩
theorem Up.last:∀ {a p:Nat} {xs ys:List Nat},Up a (xs++p::ys)→∀ q∈xs,q<p
 | _,_,[],_,_,_,hq=>by simp at hq
 | a,p,x::xs,ys,h,q,hq=>by
   have h2:Up (x+1) (xs++p::ys):=h.2;rcases yaj.mp hq with e | e
   · subst e
     have:∀ {b:Nat} {zs:List Nat},Up b (zs++p::ys)→b≤p:=by
       intro b zs;induction zs generalizing b with
       | nil=>exact fun z=>z.1
       | cons z zs ih=>exact fun w=>yaN w.1 (Nat.le_of_succ_le (ih w.2))
     exact this h2
   · exact Up.last h2 q e
theorem wd_or {a p:Nat}{xs ys:List Nat}(h:Up a (xs++p::ys)):wd xs ||| 2^p=wd (xs++[p]):=by have hl:wd xs<2^p:=Up.lt' (h.left.mono (yau _)) h.last;rw [or_top hl,Za8];rfl
theorem wd_mod (k:Nat):∀ {a:Nat} {ps:List Nat},Up a ps→wd ps%2^k=wd (ps.filter fun p=>decide (p<k)):=by
 intro a ps h;have split:wd ps=wd (ps.filter fun p=>decide (p<k))+wd (ps.filter fun p=>!decide (p<k)):=by
   clear h;induction ps with
   | nil=>rfl
   | cons p r ih =>
     rw [yba,yba];by_cases e:p<k
     · simp only [e,decide_true,za4,ycl,yaR,zaJ]
       show 2^p+wd r=2^p+wd _+wd _;omega
     · simp only [e,decide_false,zaJ,Bool.not_false,za4,yaR]
       show 2^p+wd r=wd _+(2^p+wd _)
       omega
 have h1:wd (ps.filter fun p=>decide (p<k))<2^k:=Up.lt' ((h.filter).mono (yau _)) fun p hp=>by
   have:=(yas.mp hp).2;exact yaS this
 have h2:2^k ∣ wd (ps.filter fun p=>!decide (p<k)):=by
   have:∀ (qs:List Nat),(∀ q∈qs,k≤q)→2^k ∣ wd qs:=by
     intro qs;induction qs with
     | nil=>exact fun _=>Nat.dvd_zero _
     | cons q r ih=>exact fun w=>Nat.dvd_add (Nat.pow_dvd_pow 2 (w q yaJ)) (ih fun z hz=>w z (yaM _ hz))
   refine this _ fun q hq=>?_
   have:=(yas.mp hq).2;simp at this;exact this
 rw [split];obtain ⟨x,hx⟩:=h2;rw [hx,yce,ycs h1]
theorem wd_mask (k:Nat)(h:Up 0 ps):wd ps &&& (2^k-1)=wd (ps.filter fun p=>decide (p<k)):=by rw [Nat.and_two_pow_sub_one_eq_mod,wd_mod k h]
theorem Zdn {x y:Int}(hx:0≤x)(hy:0≤y):Builtin.bitOr x y=((x.toNat ||| y.toNat:Nat):Int):=by
 have nn:∀ z:Int,Builtin.bitNot (Builtin.bitNot z)=z:=fun z=>by unfold Builtin.bitNot;omega
 have e:Builtin.bitOr x y=Builtin.bitNot (Builtin.bitAnd (Builtin.bitNot x) (Builtin.bitNot y)):=rfl;rw [e,bitAnd_nn (by unfold Builtin.bitNot;omega) (by unfold Builtin.bitNot;omega),nn,nn,nn]
def pint (ps:List Nat):List V:=ps.map fun (p:Nat)=>V.int (p:Int)
theorem ZaT {i:Nat}{x:V}(hi:(pint ps)[i]?=some x):∃ p:Nat,ps[i]?=some p∧x=.int p:=by
 unfold pint at hi;rw [yay] at hi;cases e:ps[i]? with
 | none=>rw [e] at hi;cases hi
 | some p=>rw [e] at hi;exact ⟨p,rfl,(Option.some.inj hi).symm⟩
theorem ZbN {x:V}(hx:x∈pint ps):∃ p:Nat,p∈ps∧x=.int p:=by obtain ⟨p,h,e⟩:=yaD.mp hx;exact ⟨p,h,e.symm⟩
theorem Zal (ps:List Nat):(pint ps).length=ps.length:=yaa _
theorem ZaI:∀ {a:Nat} {ps:List Nat},Up a ps→∀ i,(wd ps).testBit i=decide (i∈ps)
 | _,[],_,i=>by simp [wd]
 | a,p :: r,h,i=>by
   obtain ⟨x,hx⟩:=Up.dvd h.2;have ih:=ZaI h.2 i;have l1:2^p<2^(p+1):=Nat.pow_lt_pow_right (by decide) (ybr _);have e:wd (p::r)=2^(p+1)*x+2^p:=by show 2^p+wd r=_;rw [hx];omega
   have q:=ybm x (b:=0) (i:=p+1) (ybx (by decide)) i;rw [ybL,← hx,ih] at q;rw [e,ybm x l1 i];split
   · rename_i hlt
     rw [if_pos hlt] at q;have nm:i∉r:=by simpa using q
     rw [Nat.testBit_two_pow];by_cases hp:p=i
     · subst hp;simp
     · have:¬ i=p:=fun z=>hp z.symm
       simp [hp,nm,this]
   · rename_i hge
     rw [if_neg hge] at q;rw [← q];have:¬ i=p:=by omega
     simp [this]
theorem Up.of_lt:∀ {a:Nat} {ps:List Nat},Up a ps→∀ p∈ps,a≤p
 | _,[],_,_,h=>by simp at h
 | a,q::r,h,p,hp=>by
   rcases yaj.mp hp with e | e
   · subst e;exact h.1
   · have:=Up.of_lt h.2 p e
     have:=h.1;omega
theorem Up.ext:∀ {a:Nat} {ps qs:List Nat},Up a ps→Up a qs→(∀ i,i∈ps↔i∈qs)→ps=qs
 | _,[],[],_,_,_=>rfl
 | _,[],q::_,_,_,h=>by have:=(h q).mpr yaJ;simp at this
 | _,p::_,[],_,_,h=>by have:=(h p).mp yaJ;simp at this
 | a,p :: r,q::s,hp,hq,h=>by
   have e:p=q:=by
     have h1:=(h p).mp yaJ;have h2:=(h q).mpr yaJ;rcases yaj.mp h1 with z | z
     · exact z
     · rcases yaj.mp h2 with y | y
       · exact y.symm
       · have:=Up.of_lt hq.2 p z
         have:=Up.of_lt hp.2 q y;omega
   subst e;have:r=s:=Up.ext hp.2 hq.2 fun i=>by
     have:=h i;constructor
     · intro m
       have l:=Up.of_lt hp.2 i m;rcases yaj.mp (this.mp (yaM _ m)) with z | z
       · omega
       · exact z
     · intro m
       have l:=Up.of_lt hq.2 i m;rcases yaj.mp (this.mpr (yaM _ m)) with z | z
       · omega
       · exact z
   rw [this]
theorem Zfa {w:Nat}(h:Up 0 ps)(hw:∀ i,w.testBit i=decide (i∈ps)):w=wd ps :=
 Nat.eq_of_testBit_eq fun i=>by rw [hw,ZaI h]
theorem ZbT (p:Nat→Bool)(n:Nat):Up 0 ((List.range n).filter p):=by
 have:∀ a,Up a ((List.range' a n).filter p):=by
   induction n with
   | zero=>exact fun a=>trivial
   | succ n ih =>
     intro a;rw [yca,yba];split
     · exact ⟨yad _,ih (a+1)⟩
     · exact (ih (a+1)).mono (ycd _)
 rw [List.range_eq_range'];exact this 0
theorem Zfk:∀ (n a:Nat),Up a (List.range' a n)
 | 0,_=>trivial
 | n+1,a=>by rw [yca];exact ⟨yad _,Zfk n (a+1)⟩
def pl (n w:Nat):List Nat:=(List.range n).filter w.testBit
theorem up_pl (n w:Nat):Up 0 (pl n w):=ZbT _ _
theorem mem_pl {n w i:Nat}:i∈pl n w↔i<n∧w.testBit i=true:=by unfold pl;simp
theorem pl_wd {n:Nat}(h:Up 0 ps)(hn:∀ p∈ps,p<n):pl n (wd ps)=ps :=
 Up.ext (up_pl _ _) h fun i=>by
   rw [mem_pl,ZaI h];simp;exact hn i
theorem Up.shift (k:Nat):∀ {a:Nat} {ps:List Nat},Up a ps→Up (a+k) (ps.map (·+k))
 | _,[],_=>trivial
 | a,p::r,h=>by
   have:=Up.shift k h.2;rw [yaF];refine ⟨Nat.add_le_add_right h.1 k,?_⟩;have e:p+1+k=p+k+1:=by omega
   rw [e] at this;exact this
theorem Zdy (k:Nat):∀ (ps:List Nat),wd (ps.map (·+k))=wd ps*2^k
 | []=>by simp [wd]
 | p::r=>by
   rw [yaF];show 2^(p+k)+wd _=(2^p+wd r)*2^k;rw [Zdy k r,Nat.pow_add,Nat.add_mul]
theorem Up.unshift (k:Nat):∀ {a:Nat} {ps:List Nat},Up a ps→k≤a→Up (a-k) (ps.map (·-k))
 | _,[],_,_=>trivial
 | a,p::r,h,hk=>by
   have:=Up.unshift k h.2 (by have:=h.1;omega);rw [yaF];have e:p+1-k=p-k+1:=by have:=h.1;omega
   rw [e] at this;exact ⟨by have:=h.1;omega,this⟩
theorem Zes {k:Nat}:∀ {a:Nat} {ps:List Nat},Up a ps→(∀ p∈ps,k≤p)→Up k ps
 | _,[],_,_=>trivial
 | a,p::r,h,hk=>⟨hk p yaJ,h.2⟩
theorem wd_div (k:Nat)(h:Up 0 ps):wd ps/2^k=wd ((ps.filter fun p=>decide (k≤p)).map (·-k)):=by
 have u:Up 0 ((ps.filter fun p=>decide (k≤p)).map (·-k)):=by
   have:=(Zes (k:=k) h.filter (fun p hp=>yaS (yas.mp hp).2)).unshift k (yad _)
   rwa [ybU] at this
 refine Zfa u fun i=>?_
 rw [Nat.testBit_div_two_pow,ZaI h];congr 1
 rw [yaD];apply propext
 constructor
 · intro m
   exact ⟨k+i,yas.mpr ⟨by rwa [ycj] ,by simp⟩,by omega⟩
 · rintro ⟨p,hp,e⟩
   have h1:=yas.mp hp;have h2:k≤p:=yaS h1.2;have:p=i+k:=by omega
   rw [← this];exact h1.1
theorem log2_wd {p:Nat}(h:Up 0 (ps++[p])):(wd (ps++[p])).log2=p:=by
 have hl:wd ps<2^p:=Up.lt' (h.left) h.last;rw [Za8];have e:wd [p]=2^p:=by show 2^p+0=2^p;omega
 rw [e];have h0:wd ps+2^p≠0:=by have:0<2^p:=ybx (by decide);omega
 have a1:=(Nat.le_log2 h0 (k:=p)).mpr (by omega);have a2:=(Nat.log2_lt h0 (k:=p+1)).mpr (by rw [ybT];omega);omega
theorem Zeq:∀ (n a:Nat),wd (List.range' a n)+2^a=2^(a+n)
 | 0,a=>by simp [wd]
 | n+1,a=>by
   rw [yca];have:=Zeq n (a+1);show 2^a+wd _+2^a=_;have e:a+(n+1)=a+1+n:=by omega
   rw [e,← this,ybT];omega
theorem Up.drop:∀ (i:Nat) {ps:List Nat},Up 0 ps→Up 0 (ps.drop i)
 | 0,_,h=>h
 | _+1,[],_=>trivial
 | i+1,_::_,h=>Up.drop i (h.2.mono (yau _))
def orW (ps:List Nat):Nat:=ps.foldl (fun w p=>w ||| 2^p) 0
theorem orW_snoc (ps:List Nat)(p:Nat):orW (ps++[p])=orW ps ||| 2^p:=by unfold orW;rw [List.foldl_append];rfl
theorem ZgW (ps:List Nat) (i:Nat):(orW ps).testBit i=decide (i∈ps):=by
 have:∀ (qs:List Nat) (w:Nat),(qs.foldl (fun w p=>w ||| 2^p) w).testBit i=(w.testBit i||decide (i∈qs)):=by
   intro qs;induction qs with
   | nil=>intro w;simp
   | cons p r ih =>
     intro w;rw [ybE,ih,Nat.testBit_or,Nat.testBit_two_pow];by_cases h:p=i
     · subst h;simp
     · have:¬ i=p:=fun z=>h z.symm
       simp [h,this]
 unfold orW;rw [this];simp
theorem orW_up (h:Up 0 ps):orW ps=wd ps:=Zfa h (ZgW ps)
def orR (rs:List (Nat × Nat)):Nat:=rs.foldl (fun w r=>w ||| wd (List.range' r.1 (r.2+1-r.1))) 0
theorem orR_snoc (rs:List (Nat × Nat))(r:Nat × Nat):orR (rs++[r])=orR rs ||| wd (List.range' r.1 (r.2+1-r.1)):=by unfold orR;rw [List.foldl_append];rfl
def cov (rs:List (Nat × Nat))(i:Nat):Prop:=∃ r∈rs,r.1≤i∧i≤r.2
theorem ZgX (rs:List (Nat × Nat)) (i:Nat):(orR rs).testBit i=true↔cov rs i:=by
 have:∀ (qs:List (Nat × Nat)) (w:Nat),(qs.foldl (fun w r=>w ||| wd (List.range' r.1 (r.2+1-r.1))) w).testBit i=true↔(w.testBit i=true∨cov qs i):=by
   intro qs;induction qs with
   | nil=>intro w;simp [cov]
   | cons r q ih =>
     intro w;rw [ybE,ih,Nat.testBit_or,ycp,ZaI (Zfk _ _)];have e:(decide (i∈List.range' r.1 (r.2+1-r.1))=true)↔(r.1≤i∧i≤r.2):=by rw [yaL,List.mem_range'_1];omega
     rw [e];unfold cov;constructor
     · rintro ((h | h) | ⟨z,hz,h⟩)
       · exact .inl h
       · exact .inr ⟨r,yaJ,h⟩
       · exact .inr ⟨z,yaM _ hz,h⟩
     · rintro (h | ⟨z,hz,h⟩)
       · exact .inl (.inl h)
       · rcases yaj.mp hz with e2 | e2
         · subst e2;exact .inl (.inr h)
         · exact .inr ⟨z,e2,h⟩
 unfold orR;rw [this];simp
def addP (rs:List (Nat × Nat))(p:Nat):List (Nat × Nat):=match rs.getLast? with
 | some (a,b)=>if b+1=p then rs.dropLast++[(a,p)] else rs++[(p,p)]
 | none=>[(p,p)]
def runsOf (ps:List Nat):List (Nat × Nat):=ps.foldl addP []
theorem ZcW (p:Nat):addP [] p=[(p,p)]:=rfl
theorem ZbE {a b p:Nat}(h:b+1=p):addP (rs++[(a,b)]) p=rs++[(a,p)]:=by unfold addP;rw [ybI];show (if b+1=p then _ else _)=_;rw [if_pos h,List.dropLast_concat]
theorem Zbf {a b p:Nat}(h:b+1≠p):addP (rs++[(a,b)]) p=rs++[(a,b)]++[(p,p)]:=by unfold addP;rw [ybI];show (if b+1=p then _ else _)=_;rw [if_neg h]
theorem Zbr (ps:List Nat)(p:Nat):runsOf (ps++[p])=addP (runsOf ps) p:=by unfold runsOf;rw [List.foldl_append];rfl
theorem runs_le:∀ {rs:List (Nat × Nat)} {p:Nat},(∀ r∈rs,r.1≤r.2)→∀ r∈addP rs p,r.1≤r.2:=by
 intro rs p h r hr;rcases ybf rs with e | ⟨q,⟨a,b⟩,e⟩
 · subst e
   rw [ZcW] at hr;have:r=(p,p):=by simpa using hr
   subst this;exact yad _
 · rw [ybg] at e
   subst e;have hab:=h (a,b) (by simp);by_cases e:b+1=p
   · rw [ZbE e] at hr
     rcases yai.mp hr with z | z
     · exact h r (yai.mpr (.inl z))
     · have:r=(a,p):=by simpa using z
       subst this;show a≤p;have hab:a≤b:=hab;omega
   · rw [Zbf e] at hr
     rcases yai.mp hr with z | z
     · exact h r z
     · have:r=(p,p):=by simpa using z
       subst this;exact yad _
theorem Zdm (rs qs:List (Nat × Nat))(i:Nat):cov (rs++qs) i↔cov rs i∨cov qs i:=by
 unfold cov;simp only [yai];constructor
 · rintro ⟨r,h | h,z⟩
   · exact .inl ⟨r,h,z⟩
   · exact .inr ⟨r,h,z⟩
 · rintro (⟨r,h,z⟩ | ⟨r,h,z⟩)
   · exact ⟨r,.inl h,z⟩
   · exact ⟨r,.inr h,z⟩
theorem Zek (a b i:Nat):cov [(a,b)] i↔a≤i∧i≤b:=by unfold cov;simp
theorem cov_addP (p i:Nat) (h:∀ r∈rs,r.1≤r.2):cov (addP rs p) i↔cov rs i∨i=p:=by
 rcases ybf rs with e | ⟨q,⟨a,b⟩,e⟩
 · subst e
   rw [ZcW,Zek];unfold cov;simp;omega
 · rw [ybg] at e
   subst e;have hab:a≤b:=h (a,b) (by simp);by_cases e:b+1=p
   · rw [ZbE e,Zdm,Zdm,Zek,Zek]
     constructor
     · rintro (z | z)
       · exact .inl (.inl z)
       · by_cases hp:i=p
         · exact .inr hp
         · exact .inl (.inr (by omega))
     · rintro ((z | z) | z)
       · exact .inl z
       · exact .inr (by omega)
       · exact .inr (by omega)
   · rw [Zbf e,Zdm,Zek]
     constructor
     · rintro (z | z)
       · exact .inl z
       · exact .inr (by omega)
     · rintro (z | z)
       · exact .inl z
       · exact .inr (by omega)
theorem snocInd {α:Type} {motive:List α→Prop} (nil:motive []) (snoc:∀ xs x,motive xs→motive (xs++[x])):∀ xs,motive xs:=by
 have:∀ n xs,xs.length=n→motive xs:=by
   intro n;induction n with
   | zero=>intro xs h;cases xs with
     | nil=>exact nil
     | cons _ _=>cases h
   | succ n ih =>
     intro xs h;rcases ybf xs with e | ⟨ys,y,e⟩
     · subst e;exact nil
     · rw [ybg] at e
       subst e;rw [yac] at h;exact snoc ys y (ih ys (by simpa using h))
 exact fun xs=>this _ xs rfl
theorem ZdN (ps:List Nat):∀ r∈runsOf ps,r.1≤r.2:=by
 induction ps using snocInd with
 | nil=>intro r h;simp [runsOf] at h
 | snoc ps p ih=>rw [Zbr];exact runs_le ih
theorem ZeM (ps:List Nat)(i:Nat):cov (runsOf ps) i↔i∈ps:=by
 induction ps using snocInd with
 | nil=>unfold cov runsOf;simp
 | snoc ps p ih=>rw [Zbr,cov_addP p i (ZdN ps),ih];simp
theorem ZhD (h:Up 0 ps):orR (runsOf ps)=wd ps:=Zfa h fun i=>by
 rw [ybR,ZgX,ZeM];simp
theorem Zji {n:Nat}(h:∀ p∈ps,p<n):∀ r∈runsOf ps,r.2<n:=fun r hr=>by
 have h1:=ZdN ps r hr;exact h _ ((ZeM ps r.2).mp ⟨r,hr,h1,yad _⟩)
inductive Dec:List Nat→List (Nat × Nat)→Prop
 | nil:Dec [] []
 | cons {p n:Nat} {rest:List Nat} {rs:List (Nat × Nat)} (u:Up (p+n+2) rest) (h:Dec rest rs):Dec (List.range' p (n+1)++rest) ((p,p+n)::rs)
theorem ZdU:∀ (r:List Nat) (p:Nat),Up (p+1) r→∃ n rest,p::r=List.range' p (n+1)++rest∧Up (p+n+2) rest∧rest.length≤r.length
 | [],p,_=>⟨0,[],rfl,trivial,yad _⟩
 | q :: r,p,u=>by
   by_cases e:q=p+1
   · subst e
     obtain ⟨n,rest,h1,h2,h3⟩:=ZdU r (p+1) u.2;refine ⟨n+1,rest,?_,?_,?_⟩
     · rw [yca,ybK,← h1]
     · have e:p+(n+1)+2=p+1+n+2:=by omega
       rw [e];exact h2
     · rw [yak];omega
   · exact ⟨0,q::r,rfl,⟨by have:=u.1;omega,u.2⟩,yad _⟩
theorem Zh1:∀ (m:Nat) (ps:List Nat) {a:Nat},ps.length≤m→Up a ps→∃ rs,Dec ps rs
 | _,[],_,_,_=>⟨[],.nil⟩
 | 0,_::_,_,h,_=>by simp at h
 | m+1,p::r,_,h,u=>by
   obtain ⟨n,rest,h1,h2,h3⟩:=ZdU r p u.2;obtain ⟨rs,hd⟩:=Zh1 m rest (by rw [yak] at h;omega) h2;exact ⟨_,by rw [h1];exact .cons h2 hd⟩
theorem ZgV {rs0 q:List (Nat × Nat)}(p:Nat)(h:q≠[]):addP (rs0++q) p=rs0++addP q p:=by
 rcases ybf q with e | ⟨q0,⟨a,b⟩,e⟩
 · exact absurd e h
 · rw [ybg] at e
   subst e;by_cases e:b+1=p
   · rw [ZbE e,← yaf,ZbE e,yaf]
   · rw [Zbf e,← yaf,Zbf e,yaf,yaf,yaf]
theorem addP_ne (q:List (Nat × Nat))(p:Nat):addP q p≠[]:=by
 rcases ybf q with e | ⟨q0,⟨a,b⟩,e⟩
 · subst e;rw [ZcW];simp
 · rw [ybg] at e
   subst e;by_cases e:b+1=p
   · rw [ZbE e];simp
   · rw [Zbf e];simp
theorem Zd8:∀ (ys:List Nat) {rs0 q:List (Nat × Nat)},q≠[]→ys.foldl addP (rs0++q)=rs0++ys.foldl addP q
 | [],_,_,_=>rfl
 | y::ys,rs0,q,h=>by rw [ybE,ZgV y h,ybE,Zd8 ys (addP_ne q y)]
theorem fold_gap {b:Nat}{a:Nat}:∀ {ys:List Nat},Up (b+2) ys→ys.foldl addP [(a,b)]=(a,b)::ys.foldl addP []
 | [],_=>rfl
 | y :: ys,u=>by
   have e:addP [(a,b)] y=[(a,b)]++[(y,y)]:=by have:=Zbf (rs:=[]) (a:=a) (b:=b) (p:=y) (by have:=u.1;omega);simpa using this
   rw [ybE,e,Zd8 ys (by simp),ybE,ZcW];rfl
theorem Zg8:∀ (n p a b:Nat),b+1=p→(List.range' p n).foldl addP [(a,b)]=[(a,b+n)]
 | 0,_,_,_,_=>rfl
 | n+1,p,a,b,e=>by
   rw [yca,ybE];have:=ZbE (rs:=[]) (a:=a) (b:=b) e;rw [show addP [(a,b)] p=[(a,p)] by simpa using this,Zg8 n (p+1) a p rfl];congr 2
   omega
theorem ZhS (p n:Nat):runsOf (List.range' p (n+1))=[(p,p+n)]:=by unfold runsOf;rw [yca,ybE,ZcW,Zg8 n (p+1) p p rfl]
theorem Dec.runs:∀ {ps:List Nat} {rs:List (Nat × Nat)},Dec ps rs→runsOf ps=rs
 | _,_,.nil=>rfl
 | _,_,.cons (p:=p) (n:=n) (rest:=rest) u h=>by
   have ih:=Dec.runs h;unfold runsOf;rw [List.foldl_append];show rest.foldl addP (runsOf (List.range' p (n+1)))=_;rw [ZhS,fold_gap u];show _::runsOf rest=_;rw [ih]
def expand (rs:List (Nat × Nat)):List Nat:=rs.flatMap fun r=>List.range' r.1 (r.2+1-r.1)
theorem Dec.expand:∀ {ps:List Nat} {rs:List (Nat × Nat)},Dec ps rs→expand rs=ps
 | _,_,.nil=>rfl
 | _,_,.cons (p:=p) (n:=n) u h=>by
   have ih:=Dec.expand h;unfold BM.expand at ih ⊢;rw [List.flatMap_cons,ih];congr 2
   show p+n+1-p=n+1;omega
def Apart:Nat→List (Nat × Nat)→Prop
 | _,[]=>True
 | a,r::rs=>a≤r.1∧r.1≤r.2∧Apart (r.2+2) rs
theorem Dec.apart:∀ {ps:List Nat} {rs:List (Nat × Nat)} {a:Nat},Dec ps rs→Up a ps→Apart a rs
 | _,_,_,.nil,_=>trivial
 | _,_,_,.cons (p:=p) (n:=n) u h,w=>by
   refine ⟨?_,Nat.le_add_right _ _,Dec.apart h u⟩;rw [yca] at w;exact w.1
theorem runs_ok (u:Up 0 ps):expand (runsOf ps)=ps∧Apart 0 (runsOf ps):=by obtain ⟨rs,h⟩:=Zh1 _ ps (yad _) u;rw [h.runs];exact ⟨h.expand,h.apart u⟩
theorem Zjr {p n:Nat}{rest:List Nat}(u:Up (p+n+2) rest):wd (List.range' p (n+1)++rest)+2^p=wd ((p+n+1)::rest)∧wd (List.range' p (n+1)++rest)-wd (List.range' p (n+1))=wd rest:=by
 have h:=Zeq (n+1) p;rw [Za8];refine ⟨?_,by omega⟩;show _=2^(p+n+1)+wd rest;have e:p+(n+1)=p+n+1:=by omega
 rw [e] at h;omega
theorem ZhQ {p n:Nat}{rest:List Nat}(u:Up (p+n+2) rest):runsOf (List.range' p (n+1)++rest)=(p,p+n)::runsOf rest:=by obtain ⟨rs,h⟩:=Zh1 _ rest (yad _) u;rw [(Dec.cons u h).runs,h.runs]
end BM
namespace L2
open PySem PySem.Spec PyProof.Rows
section
variable {R:Result→Shared→Prop}
theorem Zf5 {elt target iter:Expr}{ifs:List Expr}{pos:Pos}{it acc:Value}{env:Env}(I:Nat→Shared→Prop)
   (turn : ∀ n s,I n s→wpAny (model prog w) A (pyNext it) (fun r s₁=>match r with
     | none=>R (.ok .next) s₁
     | some v=>wpAny (model prog w) A (letOwnedTupleGo target it v) (fun _ s₀=>wpAny (model prog w) A (assign target env v) (fun _ s₂ =>
         wpAny (model prog w) A (forIn ifs true fun c r=>if r=true then do let ok ← isTrue c env (eval c env);pure (ForInStep.yield ok) else pure (ForInStep.yield r)) (fun ok s₃ =>
           if ok=true then wpAny (model prog w) A (eval elt env) (fun x s₄ =>
             wpAny (model prog w) A (call (.builtin "list.append") [acc,x]) (fun _ s₅=>∃ m,m<n∧I m s₅) (fun _ _=>False) s₄) (fun _ _=>False) s₃
           else ∃ m,m<n∧I m s₃) (fun _ _=>False) s₂) (fun _ _=>False) s₀) (fun _ _=>False) s₁) (fun _ _=>False) s)
   (n:Nat) (h:I n s) :
   codeAny (model prog w) A (.compLoop (.ListComp elt [⟨target,iter,ifs,0⟩] scope pos) 0 it acc env) R s:=by
 refine codeAny_loop rfl I (fun n s hI=>?_) n h;show wpAny _ A ((compTurn (.ListComp elt [⟨target,iter,ifs,0⟩] scope pos) 0 it acc env).onRaise (fun x=>do noteFrame x env;theTreesLotGoes x)) _ _ s;refine wpAny_noted ?_;rw [compTurn_list];refine zaa (wpAny_standAt (zaa (zaF (turn n s hI) (fun r s₁ h₁=>?_) fun _ _ h'=>h'.elim)));cases r with
 | none=>exact zab h₁
 | some v =>
   refine zaa (zaF h₁ (fun _ s₀ h₀=>?_) fun _ _ h'=>h'.elim);refine zaa (zaF h₀ (fun _ s₂ h₂=>zaa (zaF h₂ (fun ok s₃ h₃=>?_) fun _ _ h'=>h'.elim)) fun _ _ h'=>h'.elim);cases ok with
   | false=>exact zab ⟨rfl,h₃⟩
   | true =>
     exact zaa (zaa (zaF h₃ (fun x s₄ h₄=>zaa (zaF h₄ (fun _ s₅ h₅=>zab (zab ⟨rfl,h₅⟩)) fun _ _ h'=>h'.elim)) fun _ _ h'=>h'.elim))
end
theorem ZcN {env:Env}:∀ (names:List (Str × NameKind)) (acc:List (Str × Addr)),(∀ z∈names,z.2=.free→∃ c,env.cells.lookup z.1=some c) →
   ∃ cl,(forIn names acc fun x r=>if (x.2==NameKind.free)=true then do let a ← cellOf env x.1;pure (ForInStep.yield ((x.1,a)::r)) else pure (ForInStep.yield r):Sem (List (Str × Addr)))=pure cl ∧
     (∀ y c,cl.lookup y=some c→acc.lookup y=some c∨env.cells.lookup y=some c)∧(∀ y,((∃ c,acc.lookup y=some c)∨(y,NameKind.free)∈names)→∃ c,cl.lookup y=some c)
 | [],acc,_=>⟨acc,by rw [List.forIn_nil],fun _ _ h=>.inl h,fun y h=>by
     rcases h with h | h
     · exact h
     · simp at h⟩
 | (n, k)::r,acc,h=>by
   have hr:∀ z∈r,z.2=.free→∃ c,env.cells.lookup z.1=some c:=fun z hz=>h z (yaM _ hz)
   by_cases hk:k=.free
   · subst hk
     obtain ⟨c,hc⟩:=h (n,.free) yaJ rfl;obtain ⟨cl,e,h1,h2⟩:=ZcN r ((n,c)::acc) hr;refine ⟨cl,?_,fun y d hd=>?_,fun y hy=>?_⟩
     · rw [List.forIn_cons]
       have e1:cellOf env n=pure c:=by unfold cellOf;rw [hc]
       simp only [beq_self_eq_true,za4,e1,pure_bind];exact e
     · rcases h1 y d hd with z | z
       · rw [ybk] at z
         cases hy:y==n with
         | true =>
           rw [hy] at z;have:y=n:=by simpa using hy
           subst this;cases z;exact .inr hc
         | false=>rw [hy] at z;exact .inl z
       · exact .inr z
     · refine h2 y ?_
       rcases hy with ⟨d,hd⟩ | hy
       · cases q:y==n with
         | true=>exact .inl ⟨c,by rw [ybk,q]⟩
         | false=>exact .inl ⟨d,by rw [ybk,q];exact hd⟩
       · rcases yaj.mp hy with z | z
         · cases z
           exact .inl ⟨c,by rw [ybk,beq_self_eq_true]⟩
         · exact .inr z
   · obtain ⟨cl,e,h1,h2⟩:=ZcN r acc hr
     refine ⟨cl,?_,h1,fun y hy=>h2 y ?_⟩
     · rw [List.forIn_cons]
       have:(k==NameKind.free)=false:=by simpa using hk
       simp only [this,yaR,zaJ,pure_bind];exact e
     · rcases hy with z | z
       · exact .inl z
       · rcases yaj.mp z with q | q
         · cases q
           exact absurd rfl hk
         · exact .inr q
theorem ZhK {env:Env}(h:∀ z∈scope.names,z.2=.free→∃ c,env.cells.lookup z.1=some c) :
   ∃ cl,closureFor scope env=pure cl∧(∀ y c,cl.lookup y=some c→env.cells.lookup y=some c)∧∀ y,(y,NameKind.free)∈scope.names→∃ c,cl.lookup y=some c:=by
 obtain ⟨cl,e,h1,h2⟩:=ZcN (env:=env) scope.names [] h;refine ⟨cl,?_,fun y c hc=>?_,fun y hy=>h2 y (.inr hy)⟩
 · unfold closureFor
   exact (congrArg (fun m:Sem (List (Str × Addr))=>m >>= fun cs=>pure cs) e).trans (pure_bind _ _)
 · rcases h1 y c hc with z | z
   · cases z
   · exact z
def compX (X:Cx)(scope:Scope)(own:List Str)(caps:List Nat)(cl:List (Str × Addr))(C:Addr)(s₃:Shared)(H₃:Hp)(fp:List Addr):Cx :=
 { X with env:=compEnvC scope cl C X.env,N:=own++caps.map fun j=>X.N.getD j Str.empty,s₀:=s₃,H₀:=H₃,outer:=X.stack,stack:=X.stack,ex:=fp,fn:=fun _=>false,pn:=[],xe:=fun _ _=>False }
def capSt (n:Nat)(caps:List Nat)(σ:St):St:=List.replicate n none++caps.map fun j=>σ.getD j none
def compOk (sc osc:Scope):Bool :=
 (sc.kind==.function)&&sc.names.all fun z=>match z.2 with
   | .cell=>false
   | .local=>sc.names.lookup z.1==some .local
   | .free=>osc.names.lookup z.1==some .cell||osc.names.lookup z.1==some .free
   | _=>true
def capOk (X:Cx)(sc:Scope):List Nat→Prop
 | []=>True
 | j::r=>(∃ y,X.N[j]?=some y∧sc.names.lookup y=some .free∧(X.env.scope.names.lookup y=some .cell∨X.env.scope.names.lookup y=some .free))∧capOk X sc r
def gOwn (n:Nat)(g:TG):Prop:=∀ v σ H Q,g v σ H Q→g v σ H fun σ' H'=>(σ'.length=σ.length∧σ'.drop n=σ.drop n)∧Q σ' H'
theorem ZaQ:gOwn 1 (gName 0):=fun v σ H Q h=>⟨⟨by simp,by cases σ<;>simp⟩,h⟩
def tNoTest:TT:=fun _ H Q=>Q true H
def tComp (n:Nat) (caps:List Nat) (wi:TI) (g:TG) (tt:TT) (te:TE):TE:=fun σ H Q=>wi σ H fun J H1=>∀ D,H1 D=none→∃ W:Nat→Nat→Hp→Prop,(∃ m,W 0 m (upd H1 D (.lst [])))∧∀ i m H2,W i m H2 →
 (J.stop i H2∧Q (.ref D) H2)∨(J.go i H2∧∀ x H3,J.yld i H2 x H3→g x (capSt n caps σ) H3 fun σ4 H4=>tt σ4 H4 fun b H5 =>
   if b=true then te σ4 H5 fun y H6=>∃ xs,H6 D=some (.lst xs)∧xs.length<sizeLine∧∃ m',m'<m∧W (i+1) m' (upd H6 D (.lst (xs++[y]))) else ∃ m',m'<m∧W (i+1) m' H5)
def PTs (X:Cx) (ifs:List Expr) (t:TT):Prop :=
 ∀ (pins:List (Addr × Obj)) (s:Shared) (σ:St) (H:Hp) (Q:Bool→Hp→Prop),Inv X pins σ H s→t σ H Q →
   wpAny (model X.prog X.w) X.A (forIn ifs true fun c r=>if r=true then do let ok ← isTrue c X.env (eval c X.env);pure (ForInStep.yield ok) else pure (ForInStep.yield r)) (TP X pins σ Q) X.xe s
theorem ZbB:PTs X [] tNoTest:=fun _ _ _ H _ I h=>wpAny_tests_nil ⟨H,I,h⟩
theorem ZiR {c:Expr}{t:TT}(h:PT X c t):PTs X [c] t:=fun pins s σ H Q I q=>wpAny_tests_one (h pins s σ H Q I q)
theorem ZbA {env:Env}:∀ {names:List (Str × NameKind)} {x:Str} {k:NameKind},names.lookup x=some k →
   (names.map fun (n,k)=>if (k==NameKind.free&&env.scope.kind==.function&&env.kindOf n==some .cell) then (n,NameKind.cell) else (n,k)).lookup x=some (if (k==NameKind.free&&env.scope.kind==.function&&env.kindOf x==some .cell) then NameKind.cell else k)
 | [],_,_,h=>by simp at h
 | (n,k')::r,x,k,h=>by
   have ih:=@ZbA env r x k;show List.lookup x ((if (k'==NameKind.free&&env.scope.kind==.function&&env.kindOf n==some .cell)=true then (n,NameKind.cell) else (n,k'))::_)=_;cases hx:x==n with
   | true =>
     simp only [ybk,hx] at h;cases h;have:x=n:=by simpa using hx
     subst this;split<;>simp [ybk]
   | false =>
     simp only [ybk,hx] at h;split
     · simp only [ybk,hx];exact ih h
     · simp only [ybk,hx];exact ih h
theorem Za3 {env:Env}:∀ {names:List (Str × NameKind)} {x:Str} {k:NameKind},
   (names.map fun (n,k)=>if (k==NameKind.free&&env.scope.kind==.function&&env.kindOf n==some .cell) then (n,NameKind.cell) else (n,k)).lookup x=some k →
   ∃ k',(x,k')∈names∧(k=k'∨(k'=.free∧k=.cell))
 | [],_,_,h=>by simp at h
 | (n, k')::r,x,k,h=>by
   have ih:=@Za3 env r x k;rw [yaF] at h;cases hc:(k'==NameKind.free&&env.scope.kind==.function&&env.kindOf n==some .cell) with
   | true =>
     simp only [hc,za4,ybk] at h;cases hx:x==n with
     | true =>
       simp only [hx,zaZ] at h;have e:x=n:=by simpa using hx
       have:k'=.free:=by simp only [ybl,zaG] at hc;exact hc.1.1
       exact ⟨.free,by rw [e,← this];exact yaJ,.inr ⟨rfl,h.symm⟩⟩
     | false =>
       simp only [hx] at h;obtain ⟨q,m,z⟩:=ih h;exact ⟨q,yaM _ m,z⟩
   | false =>
     simp only [hc,yaR,zaJ,ybk] at h;cases hx:x==n with
     | true =>
       simp only [hx,zaZ] at h;have e:x=n:=by simpa using hx
       exact ⟨k',by rw [e];exact yaJ,.inl h.symm⟩
     | false =>
       simp only [hx] at h;obtain ⟨q,m,z⟩:=ih h;exact ⟨q,yaM _ m,z⟩
theorem Zdr {osc:Scope}(h:compOk sc osc=true):sc.kind=.function:=by unfold compOk at h;simp only [ybl,zaG] at h;exact h.1
theorem ZfO {osc:Scope}(h:compOk sc osc=true):∀ z∈sc.names,(match z.2 with
   | .cell=>false
   | .local=>sc.names.lookup z.1==some .local
   | .free=>osc.names.lookup z.1==some .cell||osc.names.lookup z.1==some .free
   | _=>true)=true:=by
 unfold compOk at h;simp only [ybl] at h;exact List.all_eq_true.mp h.2
theorem ZgK {osc:Scope}(h:compOk sc osc=true):∀ z∈sc.names,z.2≠.cell:=fun z hz e=>by
 have:=ZfO h z hz;rw [e] at this;cases this
theorem ZiE {osc:Scope}(h:compOk sc osc=true):∀ z∈sc.names,z.2=.local→sc.names.lookup z.1=some .local:=fun z hz e=>by
 have:=ZfO h z hz;rw [e] at this;simpa using this
theorem cok_free {osc:Scope}(h:compOk sc osc=true):∀ z∈sc.names,z.2=.free→osc.names.lookup z.1=some .cell∨osc.names.lookup z.1=some .free:=fun z hz e=>by
 have:=ZfO h z hz;rw [e] at this;simpa using this
theorem capOk.get:∀ {caps:List Nat} {j:Nat},capOk X sc caps→j∈caps→∃ y,X.N[j]?=some y∧sc.names.lookup y=some .free∧(X.env.scope.names.lookup y=some .cell∨X.env.scope.names.lookup y=some .free)
 | [],_,_,h=>by simp at h
 | i::r,j,h,hj=>by
   rcases yaj.mp hj with e | e
   · subst e;exact h.1
   · exact h.2.get e
theorem ZcA {x:Str}{k:NameKind}:∀ {l:List (Str × NameKind)},l.lookup x=some k→(x,k)∈l
 | [],h=>by simp at h
 | (n,k')::r,h=>by
   rw [ybk] at h;cases hx:x==n with
   | true =>
     simp only [hx,zaZ] at h;have e:x=n:=by simpa using hx
     rw [e,h];exact yaJ
   | false =>
     simp only [hx] at h;exact yaM _ (ZcA h)
section
variable {H2:Hp}{s2:Shared}{own:List Str}
theorem Zfw {n:Nat}{i:Nat}{v:V}(h:(capSt n caps σ)[i]?=some (some v)):n≤i∧∃ j,caps[i-n]?=some j∧σ[j]?=some (some v):=by
 unfold capSt at h;rw [List.getElem?_append] at h;split at h
 · rename_i hl
   rw [List.length_replicate] at hl;rw [List.getElem?_replicate,if_pos hl] at h;cases h
 · rename_i hl
   rw [List.length_replicate] at h hl;refine ⟨by omega,?_⟩;rw [yay] at h;cases q:caps[i-n]? with
   | none=>rw [q] at h;cases h
   | some j =>
     rw [q] at h;refine ⟨j,rfl,?_⟩;have h:σ.getD j none=some v:=Option.some.inj h;rw [yaC] at h;cases z:σ[j]? with
     | none=>rw [z] at h;cases h
     | some o=>rw [z] at h;exact congrArg some h
theorem Inv.comp {n:Nat} {cl:List (Str × Addr)} {h4:Heap} {tk:Nat}
   (I2:Inv X pins σ H2 s2) (hok:compOk scope X.env.scope=true) (hcap:capOk X scope caps) (hown:own.length=n)
   (cl1:∀ y c,cl.lookup y=some c→X.env.cells.lookup y=some c) (cl2:∀ y,(y,NameKind.free)∈scope.names→∃ c,cl.lookup y=some c)
   (hfp:∀ b∈fp,FpOk X pins H2 b) (hobj:∀ b∈fp,b<s2.heap.objs.size) (hC:C=s2.heap.objs.size) (hn:h4.Ns C fun _=>none)
   (hsb:∀ b o,s2.heap.get? b=some o→h4.get? b=some o) :
   Inv (compX X scope own caps cl C s2 H2 fp) [] (capSt n caps σ) H2 { s2 with heap:=h4,toks:=tk }:=by
 have hkind:=Zdr hok;have ok':(compX X scope own caps cl C s2 H2 fp).Ok:=by
   refine ⟨I2.ok.mod,hkind,I2.ok.glob,I2.ok.blt,by rw [hC];exact yad _,fun x y c h1 h2=>I2.ok.inj x y c (cl1 x c h1) (cl1 y c h2),fun x hx=>?_,fun x c h=>(by cases h),I2.ok.hd,I2.ok.frames,.inl rfl,fun b hb=>⟨?_,fun x c h=>(hfp b hb).2.2.2.2.1 x c (cl1 x c h)⟩,I2.bs,?_,fun b o e hb=>?_,fun b hb hf=>?_,I2.stack,I2.stkFree⟩
   · have:∃ k',(x,k')∈scope.names∧(k'=.cell∨k'=.free):=by
       rcases hx with hx | hx
       · obtain ⟨k',m,z⟩:=Za3 (env:=X.env) (names:=scope.names) (x:=x) (k:=.cell) hx
         rcases z with z | z
         · exact ⟨k',m,.inl z.symm⟩
         · exact ⟨k',m,.inr z.1⟩
       · obtain ⟨k',m,z⟩:=Za3 (env:=X.env) (names:=scope.names) (x:=x) (k:=.free) hx
         rcases z with z | z
         · exact ⟨k',m,.inr z.symm⟩
         · cases z.2
     obtain ⟨k',m,z | z⟩:=this
     · subst z;exact absurd rfl (ZgK hok _ m)
     · subst z;exact cl2 x m
   · show b≠C
     rw [hC];exact yaA (hobj b hb)
   · exact yaN I2.ok.bsz (yaN I2.ok.above (ybC I2.lt))
   · rcases (hfp b hb).2.2.2.1 with z | z
     · exact I2.ok.noex b o e z
     · exact absurd (yax (zad e) (yaN I2.ok.bsz z)) (ybt _)
   · rcases yaj.mp (I2.stkSub b hf) with z | z
     · exact (hfp b hb).2.1 z
     · exact (hfp b hb).2.2.1 z
 have hCn:H2 C=none:=I2.hok.fresh (by rw [hC];exact yad _);refine ⟨ok',rfl,I2.bare,Un.kept hsb,⟨_,hn,fun i x v e1 e2 e3=>?_⟩,fun x c e=>?_,hCn,fun x c e=>I2.freeC x c (cl1 x c e),fun p hp=>(by cases hp),I2.hok.kept hsb,?_⟩
 · obtain ⟨hi,j,hj,hv⟩:=Zfw e2
   have e1:(own++caps.map fun j=>X.N.getD j Str.empty)[i]?=some x:=e1;rw [yah (by rw [hown];exact hi),yay,hown,hj] at e1;have e1:X.N.getD j Str.empty=x:=Option.some.inj e1;obtain ⟨y,hy,hfree,hout⟩:=hcap.get (yaq hj);rw [yaC,hy] at e1;have e1:y=x:=e1;subst e1;obtain ⟨m,hm,hl⟩:=I2.loc;obtain ⟨u,r,l⟩:=hl j y v hy hv (.inr hout);refine ⟨u,r,.inr ⟨?_,?_⟩⟩
   · have:=ZbA (env:=X.env) hfree
     show (relabel scope X.env).names.lookup y=some .cell∨(relabel scope X.env).names.lookup y=some .free;unfold relabel;rw [this];split
     · exact .inl rfl
     · exact .inr rfl
   · obtain ⟨c,hc⟩:=cl2 y (ZcA hfree)
     refine ⟨c,hc,?_⟩;rcases l with ⟨k,_⟩ | ⟨_,c',hc',hcell⟩
     · have k:X.env.scope.names.lookup y=some .local:=k
       rcases hout with z | z<;>(rw [k] at z;cases z)
     · rw [cl1 y c hc] at hc'
       cases hc';obtain ⟨o,ho,hd⟩:=hcell;exact ⟨o,hsb _ _ ho,hd⟩
 · obtain ⟨v,o,ho,hd⟩:=I2.cell x c (cl1 x c e)
   exact ⟨v,o,hsb _ _ ho,hd⟩
 · show (capSt n caps σ).length=(own++caps.map fun j=>X.N.getD j Str.empty).length
   unfold capSt;rw [yac,yac,List.length_replicate,yaa,yaa,hown]
theorem ZfL {n:Nat} {iter elt:Expr} {ifs:List Expr} {pos:Pos} {it:Addr} {tn:Nat→Heap→Prop} {J:It} {cl:List (Str × Addr)} {g:TG} {tt:TT} {RR:Value→Addr→Result→Shared→Prop} {Q:VK}
   (hc:X.calm=true) (I2:Inv X pins σ H2 s2) (T:Turn X.prog X.w X.K tg J fp it tn) (st2:tn 0 s2.heap) (f2:∀ b∈fp,FpOk X pins H2 b)
   (hok:compOk scope X.env.scope=true) (hcap:capOk X scope caps) (hown:own.length=n) (hgo:gOwn n g)
   (cl1:∀ y c,cl.lookup y=some c→X.env.cells.lookup y=some c) (cl2:∀ y,(y,NameKind.free)∈scope.names→∃ c,cl.lookup y=some c)
   (hg:∀ C s₃ H₃,PG (compX X scope own caps cl C s₃ H₃ fp) tg g) (ht:∀ C s₃ H₃,PTs (compX X scope own caps cl C s₃ H₃ fp) ifs tt) (he:∀ C s₃ H₃,PE (compX X scope own caps cl C s₃ H₃ fp) elt te)
   (h:∀ D,H2 D=none→∃ W:Nat→Nat→Hp→Prop,(∃ m,W 0 m (upd H2 D (.lst [])))∧∀ i m H2,W i m H2 →
     (J.stop i H2∧Q (.ref D) H2)∨(J.go i H2∧∀ x H3,J.yld i H2 x H3→g x (capSt n caps σ) H3 fun σ4 H4=>tt σ4 H4 fun b H5 =>
       if b=true then te σ4 H5 fun y H6=>∃ xs,H6 D=some (.lst xs)∧xs.length<sizeLine∧∃ m',m'<m∧W (i+1) m' (upd H6 D (.lst (xs++[y]))) else ∃ m',m'<m∧W (i+1) m' H5))
   (hRR:∀ D C s' H' m,s'.heap.Ns C m→Inv X pins σ H' s'→FpOk X pins H' C→Q (.ref D) H'→RR (.ref D) C (.ok .next) s') :
   wpAny (model X.prog X.w) X.A (newList []) (fun acc s₃=>wpAny (model X.prog X.w) X.A (newFunctionEnv scope X.env.globals cl [] X.env.qual none .none (some X.env)) (fun cenv s₄ =>
     codeAny (model X.prog X.w) X.A (.compStart (.ListComp elt [⟨tg,iter,ifs,0⟩] scope pos) 0 (.ref it) acc { cenv with scope:=relabel scope X.env }) (RR acc cenv.locals) s₄) E s₃) E s2:=by
 refine wpAny_newList (items:=[]) (wpAny_newFunctionEnv (ZgK hok) (by intro y hy;simp at hy) (fun h₁ hns₁ hsb₁=>?_) (Zdr hok)) (by show 0≤sizeLine;decide);obtain ⟨W,⟨m0,w0⟩,turn⟩:=h s2.heap.objs.size I2.fresh;have I3:Inv X pins σ (upd H2 s2.heap.objs.size (.lst [])) { s2 with heap:=s2.heap.push { cls:=.type "list",data:=.seq ([]:List Value).toArray } }:=I2.lnew (t':=s2.toks) .nil (by show 0≤sizeLine;decide);generalize hs3:({ s2 with heap:=s2.heap.push { cls:=.type "list",data:=.seq ([]:List Value).toArray } }:Shared)=s₃ at *;have e3:s₃.heap.objs.size=s2.heap.objs.size+1:=by rw [← hs3];exact zaN _ _
 have k23:∀ b o,s2.heap.get? b=some o→s₃.heap.get? b=some o:=fun b o e=>by rw [← hs3];exact zac _ e
 have hold:∀ b o,s₃.heap.get? b=some o→h₁.get? b=some o:=fun b o e=>(hsb₁.2 b (yaA (zad e))).trans (zac _ e)
 have lt2:∀ b∈fp,b<s2.heap.objs.size:=fun b hb=>by
   obtain ⟨o,e,_⟩:=T.obj _ _ st2 b hb;exact zad e
 have f3:∀ b∈fp,FpOk X pins (upd H2 s2.heap.objs.size (.lst [])) b:=fun b hb=>by
   obtain ⟨z,r⟩:=f2 b hb;exact ⟨by rw [Zai (yaA (lt2 b hb))];exact z,r⟩
 have tn1:tn 0 h₁:=T.keep _ _ _ st2 fun b hb o e=>hold b o (k23 b o e)
 have I4:=Inv.comp (own:=own) (caps:=caps) (n:=n) (fp:=fp) (cl:=cl) (h4:=h₁) (tk:=s₃.toks+([]:List (Str × Value)).length) I3 hok hcap hown cl1 cl2 f3 (fun b hb=>by rw [e3];exact ybs (lt2 b hb)) rfl (by simpa using hns₁) hold;have hXok:=I4.ok;have loop:codeAny (model X.prog X.w) X.A (.compLoop (.ListComp elt [⟨tg,iter,ifs,0⟩] scope pos) 0 (.ref it) (.ref s2.heap.objs.size) (compEnvC scope cl s₃.heap.objs.size X.env)) (RR (.ref s2.heap.objs.size) s₃.heap.objs.size) { s₃ with heap:=h₁,toks:=s₃.toks+([]:List (Str × Value)).length }:=by
   generalize hX:compX X scope own caps cl s₃.heap.objs.size s₃ (upd H2 s2.heap.objs.size (.lst [])) fp=X' at I4 hXok;have eP:X'.prog=X.prog:=by rw [← hX];rfl
   have eW:X'.w=X.w:=by rw [← hX];rfl
   have eK:X'.K=X.K:=by rw [← hX];rfl
   have eA:X'.A=X.A:=by rw [← hX];rfl
   have eC:X'.calm=true:=by rw [← hX];exact hc
   have eE:X'.env=compEnvC scope cl s₃.heap.objs.size X.env:=by rw [← hX];rfl
   have eL:X'.env.locals=s₃.heap.objs.size:=by rw [eE];rfl
   have eX:X'.xe=fun _ _=>False:=by rw [← hX];rfl
   have ePn:X'.pn=[]:=by rw [← hX];rfl
   have eEx:X'.ex=fp:=by rw [← hX];rfl
   have eFs:X'.fs=frs X.stack:=by rw [← hX];rfl
   have hg':=hg s₃.heap.objs.size s₃ (upd H2 s2.heap.objs.size (.lst []));have ht':=ht s₃.heap.objs.size s₃ (upd H2 s2.heap.objs.size (.lst []));have he':=he s₃.heap.objs.size s₃ (upd H2 s2.heap.objs.size (.lst []));have eS0:X'.s₀=s₃:=by rw [← hX];rfl
   have eH0:X'.H₀=upd H2 s2.heap.objs.size (.lst []):=by rw [← hX];rfl
   rw [hX] at hg' ht' he';have fpOk:∀ {H':Hp} (b:Addr),b∈fp→H' b=none→FpOk X' [] H' b:=fun b hb hn=>by
     refine ⟨hn,(hXok.exf b (eEx ▸ hb)).1,hXok.exfs b (eEx ▸ hb),.inl (eEx ▸ hb),(hXok.exf b (eEx ▸ hb)).2,fun p hp=>?_⟩;rw [ePn] at hp;cases hp
   rw [← eP,← eW,← eA,← eE];refine Zf5 (fun n' s'=>∃ i H',Inv X' [] (capSt n caps σ) H' s'∧tn i s'.heap∧(∀ b∈fp,H' b=none)∧W i n' H') ?_ m0 ⟨0,_,I4,tn1,fun b hb=>(f3 b hb).1,w0⟩;rintro k s5 ⟨i,H5,I5,t5,fr5,w5⟩;have weaken:∀ {σ':St} {H':Hp} {s':Shared} {pl:List (Addr × Obj)},Inv X' pl σ' H' s'→σ'.length=(capSt n caps σ).length→σ'.drop n=(capSt n caps σ).drop n→Inv X' [] (capSt n caps σ) H' s':=fun {σ' H' s' pl} I' hl hd=>by
     have I'':Inv X' [] σ' H' s':=I'.pins_of fun p hp=>by cases hp
     refine I''.weak hl.symm fun j v e=>?_
     have hj:=(Zfw e).1;have q1:(σ'.drop n)[j-n]?=σ'[j]?:=by rw [List.getElem?_drop];congr 1;omega
     have q2:((capSt n caps σ).drop n)[j-n]?=(capSt n caps σ)[j]?:=by rw [List.getElem?_drop];congr 1;omega
     rw [← q1,hd,q2];exact e
   rcases turn i k H5 w5 with ⟨stop,qn⟩ | ⟨go,step⟩
   · have z:=T.done X' eP eW eK eC i [] s5 (capSt n caps σ) H5 (fun _ _=>False) I5 (fun b hb=>fpOk b hb (fr5 b hb)) t5 stop
     rw [← eP,← eW] at z;refine thn z fun r s6 ⟨hr,I6⟩=>?_
     subst hr;obtain ⟨m,hm,_⟩:=I6.loc;have ub:Un (frs X.stack) fp (upd H2 s2.heap.objs.size (.lst [])) H5 s₃.heap s6.heap:=by have z:=I6.base;rw [eFs,eEx,eS0,eH0] at z;exact z
     have u23:Un (frs X.stack) fp H2 (upd H2 s2.heap.objs.size (.lst [])) s2.heap s₃.heap:=Un.laid k23 (yad _) I2.fresh;have os6:s6.os=s2.os:=by rw [I6.os,eS0,← hs3]
     have hokk:HOk X.prog X.w H5 s6.heap:=by have z:=I6.hok;rw [eP,eW] at z;exact z
     have Iend:Inv X pins σ H5 s6:=I2.call' os6 (u23.trans ub) hokk I6.bare fun b hb=>⟨(f2 b hb).2.2.2.1,(f2 b hb).2.1,(f2 b hb).2.2.2.2.1,(f2 b hb).2.2.2.2.2⟩
     have hCn:H5 s₃.heap.objs.size=none:=by have z:=I6.free;rw [eL] at z;exact z
     rw [eL] at hm;exact hRR _ _ s6 H5 m hm Iend (I3.fpOk (yad _) hCn) qn
   · have z:=T.item X' eP eW eK eC i [] s5 (capSt n caps σ) H5 (fun _ _=>False) I5 (fun b hb=>fpOk b hb (fr5 b hb)) t5 go
     rw [← eP,← eW] at z;refine thn z fun r s6 ⟨u,hr,h6⟩=>?_
     subst hr;refine thn h6 fun _ s7 ⟨x,H7,I7,r7,y7,t7,fr7⟩=>?_
     have I7':=I7.pinned (fun b hb=>fpOk b hb (fr7 b hb)) (T.obj _ _ t7);have pinD:∀ {σ':St} {H':Hp} {s':Shared},Inv X' ([]++pinsAt fp s7.heap) σ' H' s'→tn (i+1) s'.heap∧∀ b∈fp,H' b=none:=fun {σ' H' s'} I'=>by
       have pin:∀ b∈fp,∀ o,s7.heap.get? b=some o→s'.heap.get? b=some o∧H' b=none:=fun b hb o e=>by
         have z:=I'.pin (b,o) (yaz _ (yaz _ (Zc9 hb e)));exact ⟨z.1,z.2.1⟩
       refine ⟨T.keep _ _ _ t7 fun b hb o e=>(pin b hb o e).1,fun b hb=>?_⟩;obtain ⟨o,e,_⟩:=T.obj _ _ t7 b hb;exact (pin b hb o e).2
     have xf:∀ {α:Type} {t:Sem α} {Q':α→Shared→Prop} {s':Shared},wpAny (model X'.prog X'.w) X'.A t Q' X'.xe s'→wpAny (model X'.prog X'.w) X'.A t Q' (fun _ _=>False) s':=fun z=>by rw [eX] at z;exact z
     refine thn (xf (hg' _ s7 (capSt n caps σ) H7 x u _ I7' r7 (hgo _ _ _ _ (step x H7 y7)))) fun _ s8 ⟨σ8,H8,I8,⟨l8,d8⟩,q8⟩=>?_
     refine thn (xf (ht' _ s8 σ8 H8 _ I8 q8)) fun b s9 ⟨H9,I9,q9⟩=>?_
     cases b with
     | false =>
       rw [if_neg yaK];obtain ⟨m',hm,w9⟩:=(show ∃ m',m'<k∧W (i+1) m' H9 by simpa using q9)
       obtain ⟨t9,fr9⟩:=pinD I9;exact ⟨m',hm,i+1,H9,weaken I9 l8 d8,t9,fr9,w9⟩
     | true =>
       rw [if_pos rfl];rw [if_pos rfl] at q9;refine thn (xf (he' _ s9 σ8 H9 _ I9 q9)) fun v s10 ⟨y,H10,I10,r10,xs,hD,hlen,m',hm,w10⟩=>?_
       refine thn (xf (Za6 _ s10 σ8 H10 (.ref s2.heap.objs.size) [y] (.ref s2.heap.objs.size) [v] (fun _ H'=>H'=upd H10 s2.heap.objs.size (.lst (xs++[y]))) I10 rfl (.cons r10 .nil) ⟨_,xs,y,rfl,rfl,hD,hlen,rfl⟩)) fun _ s11 ⟨_,H11,I11,_,e11⟩=>?_
       subst e11;obtain ⟨t11,fr11⟩:=pinD I11;exact ⟨m',hm,i+1,_,weaken I11 l8 d8,t11,fr11,w10⟩
 exact codeAny_compStart_list loop (T.self _ 0 _ _ _ tn1 loop)
theorem Inv.closure (I:Inv X pins σ H2 s2)(hok:compOk scope X.env.scope=true):∃ cl,closureFor scope X.env=pure cl∧(∀ y c,cl.lookup y=some c→X.env.cells.lookup y=some c)∧∀ y,(y,NameKind.free)∈scope.names→∃ c,cl.lookup y=some c :=
 ZhK fun z hz e=>I.ok.has z.1 (cok_free hok z hz e)
end
section
variable {iter elt:Expr}{ifs:List Expr}{pos:Pos}{wi:TI}{g:TG}{tt:TT}{n:Nat}
theorem Zcq (own:List Str)(caps:List Nat)(hc:X.calm=true)(hi:PI X tg iter wi)(hg:∀ cl C s₃ H₃ fp,PG (compX X scope own caps cl C s₃ H₃ fp) tg g)(ht:∀ cl C s₃ H₃ fp,PTs (compX X scope own caps cl C s₃ H₃ fp) ifs tt)
   (he:∀ cl C s₃ H₃ fp,PE (compX X scope own caps cl C s₃ H₃ fp) elt te) (hcap:capOk X scope caps) (hgo:gOwn own.length g) (hok:compOk scope X.env.scope=true:=by rfl)
   (hs:∀ x,foldedSetIterable iter X.env x=pure x:=by intro _;rfl):PE X (.ListComp elt [⟨tg,iter,ifs,0⟩] scope pos) (tComp own.length caps wi g tt te):=by
 intro pins s σ H Q I h;obtain ⟨cl,hcl,cl1,cl2⟩:=I.closure hok;rw [eval_ListComp];refine wpAny_comprehension_free (use:=none) rfl hs hcl (Zdr hok) (ZiE hok) (thn (hi pins s σ H _ I h) fun v s1 h1=>thn h1 fun itv s2 h2=>?_);obtain ⟨it,fp,tn,J,H2,e,I2,T,st2,f2,h3⟩:=h2;subst e;refine ZfL (RR:=fun acc C=>compPost (model X.prog X.w) X.A X.xe none (EP X pins σ Q) acc C) (own:=own) (caps:=caps) (n:=own.length) (Q:=Q) hc I2 T st2 f2 hok hcap rfl hgo cl1 cl2 (fun C s₃ H₃=>hg cl C s₃ H₃ fp) (fun C s₃ H₃=>ht cl C s₃ H₃ fp) (fun C s₃ H₃=>he cl C s₃ H₃ fp) h3 ?_;intro D C s' H' m hm I' hC q;refine ⟨m,hm,fun h' hsb=>⟨.ref D,H',?_,rfl,q⟩⟩;exact I'.turned (it:=C) (t':=s'.toks) (fun b o hb e=>(hsb.2 b hb).trans e) hC.1 hC.2.1 hC.2.2.2.1 hC.2.2.2.2.1 hC.2.2.2.2.2
theorem Zco {i:Nat}{x:Str}{spos:Pos}(own:List Str)(caps:List Nat)(hN:X.N.Nodup)(hx0:X.N[i]?=some x)(hx:Loc X.env.scope x)(hc:X.calm=true)(hi:PI X tg iter wi)(hg:∀ cl C s₃ H₃ fp,PG (compX X scope own caps cl C s₃ H₃ fp) tg g)(ht:∀ cl C s₃ H₃ fp,PTs (compX X scope own caps cl C s₃ H₃ fp) ifs tt)
   (he:∀ cl C s₃ H₃ fp,PE (compX X scope own caps cl C s₃ H₃ fp) elt te) (hcap:capOk X scope caps) (hgo:gOwn own.length g) (hok:compOk scope X.env.scope=true:=by rfl)
   (hs:∀ x,foldedSetIterable iter X.env x=pure x:=by intro _;rfl) (hsw:swapsWith (.ListComp elt [⟨tg,iter,ifs,0⟩] scope pos) (some (.Name x pos')) spos.line X.env=pure true:=by rfl)
   (hf:X.fn x=true∨X.env.scope.names.lookup x=some .local:=by first | exact .inl rfl | exact .inr rfl | assumption):PS X (.Assign [.Name x pos'] (.ListComp elt [⟨tg,iter,ifs,0⟩] scope pos) spos) (tAsg (tComp own.length caps wi g tt te) (gName i)):=by
 intro pins s σ H D I h;obtain ⟨cl,hcl,cl1,cl2⟩:=I.closure hok;rw [exec_Assign_Name_used _ _ _ _ hsw];refine zaa (wpAny_standAt (zaa ?_));show wpAny _ _ (do let _ ← comprehension (.ListComp elt [⟨tg,iter,ifs,0⟩] scope pos) scope X.env _ (newList []) false (eval iter X.env) (some (assign (.Name x pos') X.env))) _ _ s;refine zaa (zaF (wpAny_comprehension_free (use:=some (assign (.Name x pos') X.env)) (Q:=fun _ s'=>SP X pins D .next s') rfl hs hcl (Zdr hok) (ZiE hok)
   (thn (hi pins s σ H _ I h) fun v s1 h1=>thn h1 fun itv s2 h2=>?_)) (fun _ s' hq=>zab (zab hq)) fun _ _ e=>e)
 obtain ⟨it,fp,tn,J,H2,e,I2,T,st2,f2,h3⟩:=h2;subst e;refine ZfL (RR:=fun acc C=>compPost (model X.prog X.w) X.A X.xe (some (assign (.Name x pos') X.env)) (fun _ s'=>SP X pins D .next s') acc C) (own:=own) (caps:=caps) (n:=own.length) (Q:=fun x H1=>gName i x σ H1 D.nx) hc I2 T st2 f2 hok hcap rfl hgo cl1 cl2 (fun C s₃ H₃=>hg cl C s₃ H₃ fp) (fun C s₃ H₃=>ht cl C s₃ H₃ fp) (fun C s₃ H₃=>he cl C s₃ H₃ fp) h3 ?_;intro A' C s' H' m hm I' hC q;obtain ⟨o,es,ep,ho,hd,r⟩:=id hm;have I'':Inv X (pins++[(C,o)]) σ H' s':=I'.pins_of fun p hp=>by
   rcases yai.mp hp with z | z
   · exact I'.pin p (yaz _ z)
   · have e:p=(C,o):=by simpa using z
     subst e;exact ⟨ho,hC.1,hC.2.1,hC.2.2.1,fun v e=>by rw [hd] at e;cases e⟩
 refine thn (ZaS hN hx0 hx hf _ s' σ H' (.ref A') (.ref A') _ I'' rfl q) fun _ s2' ⟨σ2,H3',I3,q3⟩=>?_
 have p3:=I3.pin (C,o) (yaz _ (yaz _ (by simp)));refine ⟨m,⟨o,es,ep,p3.1,hd,r⟩,fun h' hsb=>⟨σ2,H3',?_,q3⟩⟩;exact (I3.unpinned (pl:=[(C,o)])).turned (it:=C) (t':=s2'.toks) (fun b o hb e=>(hsb.2 b hb).trans e) p3.2.1 p3.2.2.1 hC.2.2.2.1 hC.2.2.2.2.1 hC.2.2.2.2.2
end
end L2
namespace L2
open PySem PySem.Spec PyProof.Rows
theorem ZcE:bootBuiltins "isinstance"=some (.builtin "isinstance"):=by decide +kernel
def vOf:V→Option Value
 | .ty n=>some (.type n)
 | .ref a=>some (.ref a)
 | _=>none
def rIsi (K:ZFr):List V→Hp→VK→Prop:=fun xs H Q=>∃ x y c t b,xs=[x,y]∧vOf y=some c∧TyOf K H x t∧PySem.W.kitOne K t c=some b∧Q (.bl b) H
theorem call_isi:CallR X (.builtin "isinstance") (rIsi X.K):=by
 intro pins s σ H xs us Q I r h;obtain ⟨x,y,c,t,b,rfl,hy,ht,hk,q⟩:=h;obtain ⟨u,v,rfl,ru,rv⟩:=r.two;have ev:v=c:=by
   cases y with
   | ty n=>cases (show v=Value.type n from rv);exact Option.some.inj hy
   | ref a=>cases (show v=Value.ref a from rv);exact Option.some.inj hy
   | _=>cases hy
 subst ev;exact ZjJ I ru ht hk fun tk=>⟨.bl b,H,I.tok _,rfl,q⟩
theorem Zc7 {a:Int}{k:Nat}(h:a.natAbs<2^k):Builtin.Int.intBits a≤k:=by
 unfold Builtin.Int.intBits;split
 · exact yau _
 · rename_i hz
   have h0:a.natAbs≠0:=by
     intro e;have:a=0:=by omega
     subst this;exact hz rfl
   have:=(Nat.log2_lt h0).mpr h;omega
def CShl (i j:Int):Prop:=0≤j∧j≤1000000∧i.natAbs<2^1000
theorem ZbD:OpR X (binaryOp .LShift) (rI CShl fun i j=>.int (i*2^j.toNat)):=opI fun i j _ _ _ _ _ hc q=>by
 have h1:=Zc7 hc.2.2;have h2:=hc.2.1;exact lshift_int hc.1 (by omega) q
def rBitLen:V→List V→Hp→VK→Prop:=fun x vs H Q=>∃ i,x=.int i∧vs=[]∧Q (.int (Builtin.Int.intBits i)) H
theorem ZjC:MtR X "int.bit_length" rBitLen:=by intro pins s σ H x vs v us Q I rx rv h;obtain ⟨i,rfl,rfl,q⟩:=h;obtain ⟨t,rfl⟩:=rx;cases rv.zero;exact call_int_bit_length ⟨.int _,H,I.tok _,⟨_,rfl⟩,q⟩
def LoopJ (J:It)(g:TG)(tb:TS)(D:Ends)(σ:St)(H:Hp):Prop:=∃ W:Nat→Nat→St→Hp→Prop,(∃ m,W 0 m σ H)∧∀ i m σ H,W i m σ H →
 (J.stop i H∧D.nx σ H)∨(J.go i H∧∃ N:St→Hp→Prop,(∀ σ' H',N σ' H'→∃ m',m'<m∧W (i+1) m' σ' H')∧∀ x H',J.yld i H x H'→g x σ H' fun σ2 H2=>tb { D with nx:=N,ct:=N,bk:=D.nx } σ2 H2)
theorem ZiI {wi:TI}{g:TG}{tb:TS}:tFor wi g tb D σ H=wi σ H fun J H1=>LoopJ J g tb D σ H1:=rfl
theorem loopR {lo:Int}{n:Nat}{g:TG}{tb:TS}(Pv:Nat→St→Hp→Prop)(h0:Pv 0 σ H)
   (hs:∀ i σ H,i<n→Pv i σ H→g (.int (lo+i)) σ H fun σ2 H2=>tb { D with nx:=Pv (i+1),ct:=Pv (i+1),bk:=D.nx } σ2 H2) (hd:∀ σ H,Pv n σ H→D.nx σ H):LoopJ (Itr lo n) g tb D σ H:=Zi6 Pv h0 hs hd
theorem loopL {a:Addr}{g:TG}{tb:TS}(Pv:Nat→St→Hp→Prop)(h0:Pv 0 σ H)(hl:∀ i σ H,i≤xs.length→Pv i σ H→SqL K H a xs)
   (hs:∀ i x σ H,xs[i]?=some x→Pv i σ H→g x σ H fun σ2 H2=>tb { D with nx:=Pv (i+1),ct:=Pv (i+1),bk:=D.nx } σ2 H2) (hd:∀ σ H,Pv xs.length σ H→D.nx σ H):LoopJ (Itl K a) g tb D σ H:=for_list Pv h0 hl hs hd
theorem loopT {a:Addr}{g:TG}{tb:TS}(Pv:Nat→St→Hp→Prop)(h0:Pv 0 σ H)(hl:∀ i σ H,i≤xs.length→Pv i σ H→SqT K H a xs)
   (hs:∀ i x σ H,xs[i]?=some x→Pv i σ H→g x σ H fun σ2 H2=>tb { D with nx:=Pv (i+1),ct:=Pv (i+1),bk:=D.nx } σ2 H2) (hd:∀ σ H,Pv xs.length σ H→D.nx σ H):LoopJ (Itt K a) g tb D σ H:=for_tup Pv h0 hl hs hd
def CompJ (J:It) (n:Nat) (caps:List Nat) (g:TG) (tt:TT) (te:TE) (σ:St) (H1:Hp) (Q:VK):Prop:=∀ D,H1 D=none→∃ W:Nat→Nat→Hp→Prop,(∃ m,W 0 m (upd H1 D (.lst [])))∧∀ i m H2,W i m H2 →
 (J.stop i H2∧Q (.ref D) H2)∨(J.go i H2∧∀ x H3,J.yld i H2 x H3→g x (capSt n caps σ) H3 fun σ4 H4=>tt σ4 H4 fun b H5 =>
   if b=true then te σ4 H5 fun y H6=>∃ xs,H6 D=some (.lst xs)∧xs.length<sizeLine∧∃ m',m'<m∧W (i+1) m' (upd H6 D (.lst (xs++[y]))) else ∃ m',m'<m∧W (i+1) m' H5)
theorem Zgo {n:Nat}{wi:TI}{g:TG}{tt:TT}{Q:VK}:tComp n caps wi g tt te σ H Q=wi σ H fun J H1=>CompJ J n caps g tt te σ H1 Q:=rfl
theorem compPure {J:It} {m n:Nat} {g:TG} {tt:TT} {H1:Hp} {Q:VK} (x:Nat→V) (p:Nat→Bool) (f:Nat→V) (hn:n≤1000000)
   (hstop:∀ H2,Same H1 H2→J.stop n H2) (hgo:∀ i H2,i<n→Same H1 H2→J.go i H2) (hy:∀ i H2 v H3,i<n→Same H1 H2→J.yld i H2 v H3→v=x i∧H3=H2)
   (hg:∀ i H2 R,i<n→Same H1 H2→(∀ σ4,σ4=(capSt m caps σ).set 0 (some (x i))→R σ4 H2)→g (x i) (capSt m caps σ) H2 R)
   (ht:∀ i H2 R,i<n→Same H1 H2→R (p i) H2→tt ((capSt m caps σ).set 0 (some (x i))) H2 R)
   (he:∀ i H2 R,i<n→p i=true→Same H1 H2→R (f i) H2→te ((capSt m caps σ).set 0 (some (x i))) H2 R)
   (hq:∀ D,H1 D=none→Q (.ref D) (upd H1 D (.lst (((List.range n).filter p).map f)))):CompJ J m caps g tt te σ H1 Q:=by
 intro D hD;have same:∀ l,Same H1 (upd H1 D (.lst l)):=fun l b o e=>by rw [Zai (Zam e hD)];exact e
 refine ⟨fun i k H2=>k=n-i∧i≤n∧H2=upd H1 D (.lst (((List.range i).filter p).map f)),⟨n,rfl,yau _,rfl⟩,?_⟩;rintro i k H2 ⟨rfl,hi,rfl⟩;by_cases hlt:i<n
 · refine .inr ⟨hgo i _ hlt (same _),fun v H3 y=>?_⟩
   obtain ⟨rfl,rfl⟩:=hy i _ v H3 hlt (same _) y;refine hg i _ _ hlt (same _) fun σ4 e4=>?_
   subst e4;refine ht i _ _ hlt (same _) ?_;have step:(List.range (i+1)).filter p=(List.range i).filter p++if p i=true then [i] else []:=by
     rw [List.range_succ,ybV];congr 1
     cases hp:p i<;>simp [hp]
   cases hp:p i with
   | true =>
     rw [if_pos rfl];refine he i _ _ hlt hp (same _) ⟨_,Zab,?_,n-(i+1),by omega,rfl,hlt,?_⟩
     · rw [yaa]
       refine ybG (ybp _ _) ?_;rw [ybz,sizeLine_eq];omega
     · rw [upd_upd,step,hp,if_pos rfl,yaQ]
       rfl
   | false =>
     rw [if_neg yaK];refine ⟨n-(i+1),by omega,rfl,hlt,?_⟩;rw [step,hp,if_neg yaK,yaH]
 · have e:i=n:=by omega
   subst e;exact .inl ⟨hstop _ (same _),hq D hD⟩
theorem compR {lo:Int}{m n:Nat}{tt:TT}{H1:Hp}{Q:VK}(p:Nat→Bool)(f:Nat→V)(hn:n≤1000000)
   (ht:∀ i H2 R,i<n→Same H1 H2→R (p i) H2→tt ((capSt m caps σ).set 0 (some (.int (lo+i)))) H2 R)
   (he:∀ i H2 R,i<n→p i=true→Same H1 H2→R (f i) H2→te ((capSt m caps σ).set 0 (some (.int (lo+i)))) H2 R)
   (hq:∀ D,H1 D=none→Q (.ref D) (upd H1 D (.lst (((List.range n).filter p).map f)))):CompJ (Itr lo n) m caps (gName 0) tt te σ H1 Q :=
 compPure (fun i=>.int (lo+i)) p f hn (fun _ _=>yad _) (fun _ _ h _=>h) (fun _ _ _ _ _ _ h=>⟨h.2,h.1⟩) (fun _ _ _ _ _ h=>h _ rfl) ht he hq
theorem Zcj {α β:Type}(p:α→Bool)(f:α→β):∀ (xs:List α) (P:Nat→Bool) (F:Nat→β),(∀ i x,xs[i]?=some x→P i=p x∧F i=f x)→((List.range xs.length).filter P).map F=(xs.filter p).map f
 | [],_,_,_=>rfl
 | x::r,P,F,h=>by
   have e:List.range (x::r).length=0::(List.range r.length).map Nat.succ:=by rw [yak,List.range_succ_eq_map]
   have ih:=Zcj p f r (P ∘ Nat.succ) (F ∘ Nat.succ) fun i y hy=>h (i+1) y (by simpa using hy)
   obtain ⟨h1,h2⟩:=h 0 x rfl;rw [e,yba,yba,h1,ybY];split
   · rw [yaF,yaF,h2,ybh,ih]
   · rw [ybh,ih]
theorem compL {a:Addr}{m:Nat}{tt:TT}{H1:Hp}{Q:VK}(p:V→Bool)(f:V→V)(hS:SqL K H1 a xs)(hn:xs.length≤1000000)
   (ht:∀ x H2 R,x∈xs→Same H1 H2→R (p x) H2→tt ((capSt m caps σ).set 0 (some x)) H2 R)
   (he:∀ x H2 R,x∈xs→p x=true→Same H1 H2→R (f x) H2→te ((capSt m caps σ).set 0 (some x)) H2 R)
   (hq:∀ D,H1 D=none→Q (.ref D) (upd H1 D (.lst ((xs.filter p).map f)))):CompJ (Itl K a) m caps (gName 0) tt te σ H1 Q:=by
 have get:∀ i,i<xs.length→xs[i]?=some (xs.getD i .non):=fun i hi=>by rw [yaC,yae hi];rfl
 have mem:∀ i,i<xs.length→xs.getD i .non∈xs:=fun i hi=>yaq (get i hi)
 refine compPure (fun i=>xs.getD i .non) (fun i=>p (xs.getD i .non)) (fun i=>f (xs.getD i .non)) hn (fun H2 s=>⟨xs,s.seq hS,yad _⟩) (fun i H2 hi s=>⟨xs,_,s.seq hS,get i hi⟩)
   (fun i H2 v H3 hi s y=>⟨?_,y.1⟩) (fun i H2 R hi _ h=>h _ rfl) (fun i H2 R hi s h=>ht _ H2 R (mem i hi) s h) (fun i H2 R hi hp s h=>he _ H2 R (mem i hi) hp s h) (fun D hD=>?_)
 · have:=y.2 xs (s.seq hS)
   rw [get i hi] at this;exact (Option.some.inj this).symm
 · have:=Zcj p f xs (fun i=>p (xs.getD i .non)) (fun i=>f (xs.getD i .non)) fun i x hx=>by
     have:xs.getD i .non=x:=by rw [yaC,hx];rfl
     rw [this];exact ⟨rfl,rfl⟩
   rw [this];exact hq D hD
section
variable {Q:VK}{QT:Bool→Hp→Prop}{QA:List V→Hp→Prop}{ta tb tc:TE}{t u:TS}{tA tB':TT}{tl:TA}{r r':R2}
theorem scal_ii {i j:Int}:scal (.int i) (.int j)=true:=rfl
theorem scal_bb {i j:Bool}:scal (.bl i) (.bl j)=true:=rfl
theorem scal_ss {i j:Str}:scal (.str i) (.str j)=true:=rfl
theorem tyV_int {i:Int}:tyV K "int" (.int i) H:=rfl
theorem tyV_list {p:Addr}:tyV K "list" (.ref p) H↔∃ xs,SqL K H p xs:=by unfold tyV;simp
theorem rIsi_int {i:Int}:rIsi K [.int i,.ty "int"] H Q↔Q (.bl true) H :=
 ⟨fun ⟨x,y,c,t,b,e,hy,ht,hk,q⟩=>by
   cases e;cases hy;cases ht;cases hk;exact q,fun q=>⟨_,_,_,_,true,rfl,rfl,.int i,rfl,q⟩⟩
theorem ZiZ {i:Int}:rIsi K [.int i,.ty "bool"] H Q↔Q (.bl false) H :=
 ⟨fun ⟨x,y,c,t,b,e,hy,ht,hk,q⟩=>by
   cases e;cases hy;cases ht;cases hk;exact q,fun q=>⟨_,_,_,_,false,rfl,rfl,.int i,rfl,q⟩⟩
end
end L2
namespace L2
open PySem PySem.Spec PyProof.Rows
def FnAt (P:Program)(w:World)(K:ZFr)(mg:Str→Option Value)(base:Heap)(x:Str)(ps:List Str)(k:Nat)(sp:Sp):Prop :=
 ∃ f fd,FnOk P w K mg base CX0 k f fd ps sp∧mg x=some (.ref f)∧PySem.W.keepIn K (.ref f)=true∧Binds K fd ps []
def DefAt (K:ZFr)(mg:Str→Option Value)(x:Str)(st:Stmt)(ps:List Str):Prop:=∃ f fd,Fun K x x st f fd∧mg x=some (.ref f)∧Binds K fd ps []
theorem FnAt.of {x:Str}{st:Stmt}{ps:List Str}{k:Nat}(d:DefAt K mg x st ps)(S:FnScope N ps (defScope st))(len:∀ vs H Q E,sp vs H Q E→vs.length=ps.length)
   (hbody:∀ (f:Addr) (cdv:Value) (A:Around) (outer:List Env) (s:Shared) (H:Hp) (vs:List V) (Q:VK) (E:XK),Room k (A.deeper (envOfC x (defScope st) s.heap.objs.size f cdv))→sp vs H Q E →
     ∃ t,PSs (cxOf CX0 P w K mg base N x (defScope st) f cdv A outer s H E).nox (defBody st) t∧t { nx:=fun _ H'=>Q .non H',rt:=Q } (start N vs) H):FnAt P w K mg base x ps (k+1) sp:=by
 obtain ⟨f,fd,F,m,b⟩:=d;exact ⟨f,fd,F.ok S len (hbody f),m,F.kp,b⟩
theorem ZgR {h:Heap}{x:Str}{st:Stmt}{ps:List Str}{f:Addr}{oc:Value}{od an:Option Addr}{kV doc pm cdv ct:Value}(X:K.In h)(G:h.Ns mainGlobals mg)(a:PySem.W.nsIn K mainGlobals x=some (some (.ref f)))
   (l:K.lookup f=some ⟨oc,od,.func (PySem.W.fnOf x x (defArgs st) (defBody st) (defScope st) .none kV doc pm an cdv ct),osl⟩) (c:PySem.W.codeIn K cdv x=true) (k:PySem.W.keepIn K (.ref f)=true)
   (hb:∀ (kV doc pm:Value) (an:Option Addr) (cdv ct:Value) (us:List Value),us.length=ps.length→bindArgs (PySem.W.fnOf x x (defArgs st) (defBody st) (defScope st) .none kV doc pm an cdv ct) ⟨us,[]⟩=pure (ps.zip us)):DefAt K mg x st ps :=
 ⟨f,_,Zdb l c k,PySem.W.mg_of X G a,(Zdb l c k).binds hb⟩
section
variable {x:Str}{ps:List Str}{k:Nat}{e:Expr}{es:List Expr}{t:TA}{p pos:Pos}
theorem Zaj (F:FnAt X.prog X.w X.K X.mg X.base x ps k sp)(ha:PA X (e::es) t)(hr:Room k X.A:=by walk_at "r")(hg:Gl X x:=by rfl)
   (he:starEach (e::es) X.env=(false,eval e X.env)::starEach es X.env:=by rfl) (hdb:(x==("__debug__":Str))=false:=by decide) (hpl:(backTo pos (starEach es X.env)).any (·.1)=false:=by rfl):PE X (.Call (.Name x p) (e::es) [] pos) (tCall sp [] E0 t):=by
 obtain ⟨f,fd,G,m,kp,b⟩:=F;exact pe_call G hr hg m kp b .nil pass0 ha hdb he hpl
end
def rLen (K:ZFr):List V→Hp→VK→Prop:=fun xs H Q=>∃ p ys,xs=[.ref p]∧(SqL K H p ys∨SqT K H p ys)∧Q (.int ys.length) H
def rListOf (K:ZFr):List V→Hp→VK→Prop:=fun xs H Q=>∃ p ys,xs=[.ref p]∧(SqL K H p ys∨SqT K H p ys)∧∀ l,H l=none→Q (.ref l) (upd H l (.lst ys))
theorem Zar (K:ZFr)(h:X.K=K:=by rfl):IxR X (rIxL K):=h ▸ ix_list
theorem ZdD (K:ZFr)(h:X.K=K:=by rfl):IxR X (rIxT K):=h ▸ ix_tup
theorem Zcm (K:ZFr)(h:X.K=K:=by rfl):CallR X (.builtin "isinstance") (rIsi K):=h ▸ call_isi
theorem ZaF (K:ZFr)(h:X.K=K:=by rfl):CallR X (.builtin "len") (rLen K):=by subst h;exact ZfR
theorem ZaW (K:ZFr)(h:X.K=K:=by rfl):CallR X (.type "list") (rListOf K):=by subst h;exact Zf1
section
variable {l o e:Expr}{es:List Expr}{tl to:TE}{t:TA}{name:Str}{apos cpos:Pos}{T id:String}{r:V→List V→Hp→VK→Prop}
theorem ZaD (K:ZFr)(hl:PE X l tl)(h:X.K=K:=by rfl):PI X tg l (iList K tl):=h ▸ pi_list hl
theorem pi_tupK (K:ZFr)(hl:PE X l tl)(h:X.K=K:=by rfl):PI X tg l (iTup K tl):=h ▸ pi_tup hl
theorem ZcP (K:ZFr)(pa:PlainAttrs T)(slot:Slot T name id)(hty:typeOf (.builtin id)=pure (.type "method_descriptor"))(hm:MtR X id r)(ho:PE X o to)(ha:PA X (e::es) t)(hK:X.K=K:=by rfl)
   (hbase:attributeBase o name X.env (eval o X.env)=eval o X.env:=by rfl)
   (hfew:((backTo cpos (starEach (e::es) X.env)).all (fun x=>!x.1)&&(backToKw cpos (keywordEach [] X.env)).all (fun x=>x.1.isSome)
     && decide ((e::es).length+([]:List Keyword).length+(if ([]:List Keyword).isEmpty then 0 else 1)<30))=true:=by rfl)
   (hline:(apos.endLine==cpos.line)=true:=by rfl) (hs:starEach (e::es) X.env=(false,eval e X.env)::starEach es X.env:=by rfl) (hplain:(backTo cpos (starEach es X.env)).any (·.1)=false:=by rfl) :
   PE X (.Call (.Attribute o name apos) (e::es) [] cpos) (tBM K T r to t):=hK ▸ pe_bm pa slot hty hm ho ha hbase hfew hline hs hplain
theorem pe_bm0K (K:ZFr)(pa:PlainAttrs T)(slot:Slot T name id)(hty:typeOf (.builtin id)=pure (.type "method_descriptor"))(hm:MtR X id r)(ho:PE X o to)(hK:X.K=K:=by rfl)
   (hbase:attributeBase o name X.env (eval o X.env)=eval o X.env:=by rfl) (hline:(apos.endLine==cpos.line)=true:=by rfl):PE X (.Call (.Attribute o name apos) [] [] cpos) (tBM0 K T r to):=hK ▸ pe_bm0 pa slot hty hm ho hbase hline
end
section
variable {st:Stmt}{rest:List Stmt}{t u:TS}
def tCut (t u:TS):TS:=fun D σ H=>∃ Mid:St→Hp→Prop,t { D with nx:=Mid } σ H∧∀ σ' H',Mid σ' H'→u D σ' H'
theorem Zaz (h1:PS X st t)(h2:PSs X rest u):PSs X (st::rest) (tCut t u):=by
 intro pins s σ H D I h;obtain ⟨Mid,h,hm⟩:=h;refine wpAny_execs_cons (thn (h1 pins s σ H _ I h) fun f s1 q=>?_);cases f with
 | next =>
   obtain ⟨σ1,H1,I1,q1⟩:=q;exact h2 pins s1 σ1 H1 D I1 (hm σ1 H1 q1)
 | brk=>exact q
 | cont=>exact q
 | ret v=>exact q
end
theorem rep0:List.replicate 0 (none:Option V)=[]:=rfl
theorem rep1:List.replicate 1 (none:Option V)=[none]:=rfl
theorem rep2:List.replicate 2 (none:Option V)=[none,none]:=rfl
theorem rep3:List.replicate 3 (none:Option V)=[none,none,none]:=rfl
theorem rep4:List.replicate 4 (none:Option V)=[none,none,none,none]:=rfl
theorem rep5:List.replicate 5 (none:Option V)=[none,none,none,none,none]:=rfl
theorem rep6:List.replicate 6 (none:Option V)=[none,none,none,none,none,none]:=rfl
theorem rep7:List.replicate 7 (none:Option V)=[none,none,none,none,none,none,none]:=rfl
theorem rep8:List.replicate 8 (none:Option V)=[none,none,none,none,none,none,none,none]:=rfl
theorem rep9:List.replicate 9 (none:Option V)=[none,none,none,none,none,none,none,none,none]:=rfl
theorem rep10:List.replicate 10 (none:Option V)=[none,none,none,none,none,none,none,none,none,none]:=rfl
theorem rep11:List.replicate 11 (none:Option V)=[none,none,none,none,none,none,none,none,none,none,none]:=rfl
end L2
namespace L2
open PySem PySem.Spec PyProof.Rows
mutual
inductive RdD (K:ZFr) (H:Hp):V→PyData→Prop
 | non:RdD K H .non .none
 | bl (b:Bool):RdD K H (.bl b) (.bool b)
 | int (i:Int):RdD K H (.int i) (.int i)
 | str (x:Str):RdD K H (.str x) (.str x)
 | lst {a:Addr} {xs:List V} {ds:List PyData} (h:SqL K H a xs) (r:RdDs K H xs ds):RdD K H (.ref a) (.list ds)
 | tup {a:Addr} {xs:List V} {ds:List PyData} (h:SqT K H a xs) (r:RdDs K H xs ds):RdD K H (.ref a) (.tuple ds)
inductive RdDs (K:ZFr) (H:Hp):List V→List PyData→Prop
 | nil:RdDs K H [] []
 | cons {x:V} {d:PyData} {xs:List V} {ds:List PyData} (h:RdD K H x d) (r:RdDs K H xs ds):RdDs K H (x::xs) (d::ds)
end
mutual
theorem Inv.rd (I:Inv X pins σ H s):∀ {x:V} {d:PyData},RdD X.K H x d→∀ {u:Value},RelV x u→∃ as,Reads s.heap u d as
 | _,_,.non,_,r=>by cases r;exact ⟨_,.none⟩
 | _,_,.bl b,_,r=>by cases r;exact ⟨_,.bool b⟩
 | _,_,.int i,_,r=>by obtain ⟨t,rfl⟩:=r;exact ⟨_,.int i t⟩
 | _,_,.str x,_,r=>by obtain ⟨t,rfl⟩:=r;exact ⟨_,.str x t⟩
 | _,_,.lst h rs,_,r=>by
   cases r;obtain ⟨its,rv,pl,_⟩:=I.list h;obtain ⟨as,q⟩:=Inv.rds I rs rv;obtain ⟨o,ho,hc,n,hd⟩:=pl.isList;exact ⟨_,.list ho hc hd (by simpa using q)⟩
 | _,_,.tup h rs,_,r=>by
   cases r;obtain ⟨its,rv,pl,_⟩:=I.tuple h;obtain ⟨as,q⟩:=Inv.rds I rs rv;obtain ⟨o,ho,hc,n,hd⟩:=pl;exact ⟨_,.tuple ho hc hd (by simpa using q)⟩
theorem Inv.rds (I:Inv X pins σ H s):∀ {xs:List V} {ds:List PyData},RdDs X.K H xs ds→∀ {us:List Value},Vals xs us→∃ as,ReadsAll s.heap us ds as
 | _,_,.nil,_,r=>by cases r;exact ⟨_,.nil⟩
 | _,_,.cons h t,_,r=>by
   cases r with
   | cons r1 r2 =>
     obtain ⟨as,q⟩:=Inv.rd I h r1;obtain ⟨bs,p⟩:=Inv.rds I t r2;exact ⟨_,.cons q p⟩
end
def rEqD (K:ZFr):R2:=fun x y H Q=>∃ d e,RdD K H x d∧RdD K H y e∧SeqAt.shaped d=true∧SeqAt.shaped e=true∧SeqAt.noMix d e=true∧Q (.bl (PySem.Spec.same d e)) H
def rNeD (K:ZFr):R2:=fun x y H Q=>∃ d e,RdD K H x d∧RdD K H y e∧SeqAt.shaped d=true∧SeqAt.shaped e=true∧SeqAt.noMix d e=true∧Q (.bl (!PySem.Spec.same d e)) H
theorem Zgl (K:ZFr)(hu:X.A.units+64<cLine)(h:X.K=K:=by rfl):OpR X (compareOp .Eq) (rEqD K):=by subst h;intro pins s σ H x y v u Q I rx ry h;obtain ⟨d,e,h1,h2,s1,s2,nm,q⟩:=h;obtain ⟨as,r1⟩:=I.rd h1 rx;obtain ⟨bs,r2⟩:=I.rd h2 ry;exact eq_dataH_same r1 r2 s1 s2 hu nm ⟨.bl _,H,I,rfl,q⟩
theorem Zf0 (K:ZFr)(hu:X.A.units+64<cLine)(h:X.K=K:=by rfl):OpR X (compareOp .NotEq) (rNeD K):=by subst h;intro pins s σ H x y v u Q I rx ry h;obtain ⟨d,e,h1,h2,s1,s2,nm,q⟩:=h;obtain ⟨as,r1⟩:=I.rd h1 rx;obtain ⟨bs,r2⟩:=I.rd h2 ry;exact ne_dataH_same r1 r2 s1 s2 hu nm ⟨.bl _,H,I,rfl,q⟩
theorem hu64 {k:Nat}(hr:Room k A):A.units+64<cLine:=ybG (by omega) hr.un
theorem Zcg {K:ZFr}{H:Hp}:∀ ns:List Int,RdDs K H (ns.map V.int) (ns.map PyData.int)
 | []=>.nil
 | n::r=>.cons (.int n) (Zcg r)
section
variable {Q:VK}{a b:Addr}
theorem Zi7 {ns ms:List Int}(h1:SqL K H a (ns.map V.int))(h2:SqL K H b (ms.map V.int))(q:Q (.bl (decide (ns=ms))) H):rEqD K (.ref a) (.ref b) H Q :=
 ⟨_,_,.lst h1 (Zcg ns),.lst h2 (Zcg ms),PySem.W.ke_shaped_ints ns,PySem.W.ke_shaped_ints ms,zaI (.list .int) rfl _ _ (zaX fun _=>rfl) (zaX fun _=>rfl),by rw [PySem.W.ke_same];exact q⟩
theorem Zi9 {ns ms:List Int}(h1:SqL K H a (ns.map V.int))(h2:SqL K H b (ms.map V.int))(q:Q (.bl (!decide (ns=ms))) H):rNeD K (.ref a) (.ref b) H Q :=
 ⟨_,_,.lst h1 (Zcg ns),.lst h2 (Zcg ms),PySem.W.ke_shaped_ints ns,PySem.W.ke_shaped_ints ms,zaI (.list .int) rfl _ _ (zaX fun _=>rfl) (zaX fun _=>rfl),by rw [PySem.W.ke_same];exact q⟩
end
theorem Zd2 (ps:List Nat):BM.pint ps=(ps.map fun (p:Nat)=>(p:Int)).map V.int:=by unfold BM.pint;rw [ybh];rfl
theorem Zd6 {qs:List Nat}:(ps.map fun (p:Nat)=>(p:Int))=(qs.map fun (p:Nat)=>(p:Int))↔ps=qs :=
 ⟨fun h=>List.map_inj_right (fun _ _ e=>Int.ofNat.inj e) |>.mp h,fun h=>by rw [h]⟩
section
variable {Q:VK}{a b:Addr}
theorem ZfD {qs:List Nat}(h1:SqL K H a (BM.pint ps))(h2:SqL K H b (BM.pint qs))(q:Q (.bl (decide (ps=qs))) H):rEqD K (.ref a) (.ref b) H Q:=by rw [Zd2] at h1 h2;refine Zi7 h1 h2 ?_;rw [ybF.mpr Zd6];exact q
theorem Zju {qs:List Nat}(h1:SqL K H a (BM.pint ps))(h2:SqL K H b (BM.pint qs))(q:Q (.bl (!decide (ps=qs))) H):rNeD K (.ref a) (.ref b) H Q:=by rw [Zd2] at h1 h2;refine Zi9 h1 h2 ?_;rw [ybF.mpr Zd6];exact q
end
section
variable {Q:VK}{p:Addr}
end
end L2
namespace BM
open PySem L2 PyProof.Rows
def mapI (f:Int→Int):V→V
 | .int z=>.int (f z)
 | v=>v
theorem ZgO {f:Int→Int}{g:Nat→Nat}:∀ {ps:List Nat},(∀ p∈ps,f (p:Int)=((g p:Nat):Int))→(pint ps).map (mapI f)=pint (ps.map g)
 | [],_=>rfl
 | p::r,h=>by
   have ih:=ZgO (f:=f) (g:=g) (ps:=r) fun q hq=>h q (yaM _ hq)
   show V.int (f p)::(pint r).map (mapI f)=V.int ((g p:Nat):Int)::pint (r.map g);rw [h p yaJ,ih]
theorem ZhP {p:Nat}{r:List Nat}(h:Up (p+1) r):Builtin.bitAnd ((wd (p::r):Nat):Int) (-((wd (p::r):Nat):Int))=((2^p:Nat):Int):=by
 have hw:0<wd (p::r):=Zf3;have e:Builtin.bitAnd ((wd (p::r):Nat):Int) (-((wd (p::r):Nat):Int))=((wd (p::r):Nat):Int)-((((wd (p::r):Nat):Int).toNat &&& (Builtin.bitNot (-((wd (p::r):Nat):Int))).toNat:Nat):Int):=by unfold Builtin.bitAnd;rw [yap (yaV _),yaI (by omega)]
 have e2:(Builtin.bitNot (-((wd (p::r):Nat):Int))).toNat=wd (p::r)-1:=by unfold Builtin.bitNot;omega
 rw [e,e2,yao,Zen h];have:wd (p::r)=2^p+wd r:=rfl;rw [this,Int.natCast_add];omega
theorem ZfS {p:Nat}(h:Up 0 (ps++[p])):Builtin.Int.intBits ((wd (ps++[p]):Nat):Int)=p+1:=by
 have h0:0<wd (ps++[p]):=by
   rw [Za8];have:0<2^p:=ybx (by decide);show 0<wd ps+(2^p+0)
   omega
 unfold Builtin.Int.intBits;rw [if_neg (by rw [zaG];omega),Int.natAbs_natCast,log2_wd h]
end BM
namespace L2
open PySem PySem.Spec PyProof.Rows
theorem tyV_str {z:Str}:tyV K "str" (.str z) H:=rfl
theorem int_mk {h:Heap}{x:Str}{n:Int}{t:Tok}(X:K.In h)(G:h.Ns mainGlobals mg)(a:PySem.W.nsIn K mainGlobals x=some (some (.int n t))):∃ t,mg x=some (.int n t):=⟨t,PySem.W.mg_of X G a⟩
end L2
namespace L2
open PySem PySem.Spec PyProof.Rows
def MethAt (P:Program)(w:World)(K:ZFr)(mg:Str→Option Value)(base:Heap)(C:Addr)(m:Str)(ps:List Str)(k:Nat)(sp:Sp):Prop :=
 Cls K C∧∃ f fd,Meth K C m f∧FnOk P w K mg base CX0 k f fd ps sp∧Binds K fd ps []
def MDefAt (K:ZFr)(C:Addr)(m qual:Str)(st:Stmt)(ps:List Str):Prop:=∃ f fd,Fun K m qual st f fd∧Meth K C m f∧Binds K fd ps []
def MakeAt (P:Program)(w:World)(K:ZFr)(mg:Str→Option Value)(base:Heap)(x:Str)(C:Addr)(ps:List Str)(k:Nat)(sp:Sp):Prop :=
 mg x=some (.ref C)∧∃ f fd,Mk K C f∧FnOk P w K mg base CX0 k f fd ps sp∧Binds K fd ps []
def MakerAt (K:ZFr)(C:Addr)(qual:Str)(st:Stmt)(ps:List Str):Prop:=∃ f fd,Fun K "__init__" qual st f fd∧Mk K C f∧Binds K fd ps []
theorem MethAt.of {m:Str}{st:Stmt}{ps:List Str}{k:Nat}(c:Cls K C)(d:MDefAt K C m qual st ps)(S:FnScope N ps (defScope st))(len:∀ vs H Q E,sp vs H Q E→vs.length=ps.length)
   (hbody:∀ (f:Addr) (cdv:Value) (A:Around) (outer:List Env) (s:Shared) (H:Hp) (vs:List V) (Q:VK) (E:XK),Room k (A.deeper (envOfC qual (defScope st) s.heap.objs.size f cdv))→sp vs H Q E →
     ∃ t,PSs (cxOf CX0 P w K mg base N qual (defScope st) f cdv A outer s H E).nox (defBody st) t∧t { nx:=fun _ H'=>Q .non H',rt:=Q } (start N vs) H):MethAt P w K mg base C m ps (k+1) sp:=by
 obtain ⟨f,fd,F,m,b⟩:=d;exact ⟨c,f,fd,m,F.ok S len (hbody f),b⟩
theorem MakeAt.of {x:Str}{st:Stmt}{ps:List Str}{k:Nat}(hx:mg x=some (.ref C))(d:MakerAt K C qual st ps)(S:FnScope N ps (defScope st))(len:∀ vs H Q E,sp vs H Q E→vs.length=ps.length)
   (hbody:∀ (f:Addr) (cdv:Value) (A:Around) (outer:List Env) (s:Shared) (H:Hp) (vs:List V) (Q:VK) (E:XK),Room k (A.deeper (envOfC qual (defScope st) s.heap.objs.size f cdv))→sp vs H Q E →
     ∃ t,PSs (cxOf CX0 P w K mg base N qual (defScope st) f cdv A outer s H E).nox (defBody st) t∧t { nx:=fun _ H'=>Q .non H',rt:=Q } (start N vs) H):MakeAt P w K mg base x C ps (k+1) sp:=by
 obtain ⟨f,fd,F,m,b⟩:=d;exact ⟨hx,f,fd,m,F.ok S len (hbody f),b⟩
theorem MethAt.mono {m:Str}{ps:List Str}{j k:Nat}(h:MethAt P w K mg base C m ps j sp)(hjk:j≤k):MethAt P w K mg base C m ps k sp:=by obtain ⟨c,f,fd,me,F,b⟩:=h;exact ⟨c,f,fd,me,F.mono hjk,b⟩
theorem ZfP {m:Str}{st:Stmt}{ps:List Str}{f:Addr}{oc:Value}{od an:Option Addr}{kV doc pm cdv ct:Value}(a:PySem.W.findIn K (.ref C) m=some (some (.ref f)))
   (l:K.lookup f=some ⟨oc,od,.func (PySem.W.fnOf m qual (defArgs st) (defBody st) (defScope st) .none kV doc pm an cdv ct),osl⟩) (c:PySem.W.codeIn K cdv qual=true) (k:PySem.W.keepIn K (.ref f)=true) (fn:PySem.W.isFn K (.ref f)=true)
   (hb:∀ (kV doc pm:Value) (an:Option Addr) (cdv ct:Value) (us:List Value),us.length=ps.length→bindArgs (PySem.W.fnOf m qual (defArgs st) (defBody st) (defScope st) .none kV doc pm an cdv ct) ⟨us,[]⟩=pure (ps.zip us)):MDefAt K C m qual st ps :=
 ⟨f,_,Zdb l c k,⟨a,fn,k⟩,(Zdb l c k).binds hb⟩
theorem Zhu {st:Stmt}{ps:List Str}{f:Addr}{oc:Value}{od an:Option Addr}{kV doc pm cdv ct:Value}(a:PySem.W.findIn K (.ref C) "__init__"=some (some (.ref f)))
   (l:K.lookup f=some ⟨oc,od,.func (PySem.W.fnOf "__init__" qual (defArgs st) (defBody st) (defScope st) .none kV doc pm an cdv ct),osl⟩) (c:PySem.W.codeIn K cdv qual=true) (k:PySem.W.keepIn K (.ref f)=true) (fn:PySem.W.isFn K (.ref f)=true)
   (mk:PySem.W.makesIn K C=true) (kC:PySem.W.keepIn K (.ref C)=true)
   (hb:∀ (kV doc pm:Value) (an:Option Addr) (cdv ct:Value) (us:List Value),us.length=ps.length→bindArgs (PySem.W.fnOf "__init__" qual (defArgs st) (defBody st) (defScope st) .none kV doc pm an cdv ct) ⟨us,[]⟩=pure (ps.zip us)):MakerAt K C qual st ps :=
 ⟨f,_,Zdb l c k,⟨mk,a,fn,kC⟩,(Zdb l c k).binds hb⟩
def tMeD (P:Program)(w:World)(K:ZFr)(mg:Str→Option Value)(base:Heap)(k0:Nat)(m:Str)(ta:TE)(t:TA):TE:=fun σ H Q=>ta σ H fun x H1=>∃ a C dx fs ps sp,x=.ref a∧H1 a=some (.ins C dx fs)∧fs.lookup m=none ∧
 MethAt P w K mg base C m ps k0 sp∧t σ H1 fun vs H2=>sp (x::vs) H2 Q E0
section
variable {k0:Nat}{x m:Str}{p pos apos:Pos}{e o:Expr}{es:List Expr}{ta:TE}{t:TA}
theorem Zax (P:Program)(w:World)(K:ZFr)(mg:Str→Option Value)(base:Heap)(k0:Nat){pl:Sem Bool}(he:PE X o ta)(ha:PA X (e::es) t)(hr:Room k0 X.A:=by walk_at "r")(hP:X.prog=P:=by rfl)(hw:X.w=w:=by rfl)(hK:X.K=K:=by rfl)(hmg:X.mg=mg:=by rfl)(hbs:X.base=base:=by rfl)
   (hst:starEach (e::es) X.env=(false,eval e X.env)::starEach es X.env:=by rfl) (hpl:(backTo pos (starEach es X.env)).any (·.1)=false:=by rfl)
   (ht:eval (.Call (.Attribute o m apos) (e::es) [] pos) X.env=(do
     let ov ← eval o X.env
     standAt apos.atName
     let (f,first) ← holding [ov] (getMethod ov m pl)
     callWith pos f first (backTo pos (starEach (e::es) X.env)) (backToKw pos (keywordEach [] X.env))):=by rfl) :
   PE X (.Call (.Attribute o m apos) (e::es) [] pos) (tMeD P w K mg base k0 m ta t):=by
 subst hP hw hK hmg hbs;intro pins s σ H Q I h;refine PySem.W.methodCall_KW (pl:=pl) (thn (he pins s σ H _ I h) fun u s1 hz=>?_) ht;obtain ⟨x,H1,I1,rx,a,C,dx,fs,ps,sp,ex,ea,l,⟨c,f,fd,me,F,b⟩,q⟩:=hz;subst ex;obtain rfl:u=Value.ref a:=rx;refine ZeE I1 ea c me l ?_;refine PySem.W.callWith_K (first:=[.ref a]) (h₀:=X.base) I.ok.mod.kin me.kp (thn (ha pos pins s1 σ H1 _ I1 q) fun us s2 ⟨vs,H2,I2,r,q2⟩=>⟨I2.kIn,?_⟩) hst hpl;exact Zgd (us:=.ref a::us) (vs:=.ref a::vs) (dvs:=[]) F hr b .nil pass0 I2 (.cons rfl r) (by rw [yaH];exact q2)
theorem ZaE (P:Program)(w:World)(K:ZFr)(mg:Str→Option Value)(base:Heap)(k0:Nat){pl:Sem Bool}(he:PE X o ta)(hr:Room k0 X.A:=by walk_at "r")(hP:X.prog=P:=by rfl)(hw:X.w=w:=by rfl)(hK:X.K=K:=by rfl)(hmg:X.mg=mg:=by rfl)(hbs:X.base=base:=by rfl)
   (ht:eval (.Call (.Attribute o m apos) [] [] pos) X.env=(do
     let ov ← eval o X.env
     standAt apos.atName
     let (f,first) ← holding [ov] (getMethod ov m pl)
     callWith pos f first (backTo pos (starEach [] X.env)) (backToKw pos (keywordEach [] X.env))):=by rfl) :
   PE X (.Call (.Attribute o m apos) [] [] pos) (tMeD P w K mg base k0 m ta tNil):=by
 subst hP hw hK hmg hbs;intro pins s σ H Q I h;refine PySem.W.methodCall_KW (pl:=pl) (thn (he pins s σ H _ I h) fun u s1 hz=>?_) ht;obtain ⟨x,H1,I1,rx,a,C,dx,fs,ps,sp,ex,ea,l,⟨c,f,fd,me,F,b⟩,q⟩:=hz;subst ex;obtain rfl:u=Value.ref a:=rx;refine ZeE I1 ea c me l ?_;exact PySem.W.callWith_K0 (first:=[.ref a]) I1.kIn me.kp (Zgd (us:=[.ref a]) (vs:=[.ref a]) (dvs:=[]) F hr b .nil pass0 I1 (.cons rfl .nil) q)
theorem Ze4 {ps:List Str}{k:Nat}(F:MakeAt X.prog X.w X.K X.mg X.base x C ps k sp)(hr:Room (k+1) X.A)(hg:Gl X x)(ha:PA X (e::es) t)
   (hdb:(x==("__debug__":Str))=false:=by decide) (he:starEach (e::es) X.env=(false,eval e X.env)::starEach es X.env:=by rfl) (hpl:(backTo pos (starEach es X.env)).any (·.1)=false:=by rfl) :
   PE X (.Call (.Name x p) (e::es) [] pos) (tMake C sp [] E0 t):=by
 obtain ⟨hm,f,fd,M,F,b⟩:=F;exact pe_make M F hr hg hm b .nil pass0 ha hdb he hpl
theorem Zbb (K:ZFr){value:Expr}{f:Str}{tv:TE}(ha:PE X o ta)(hv:PE X value tv)(hs:swapsWith value (some (.Attribute o f pos')) pos.line X.env=pure false:=by rfl)(h:X.K=K:=by rfl):PS X (.Assign [.Attribute o f pos'] value pos) (sFld K ta tv f):=h ▸ ps_fld ha hv hs
theorem Zap (K:ZFr){f:Str}(he:PE X e ta)(h:X.K=K:=by rfl)(hb:attributeBase e f X.env (eval e X.env)=eval e X.env:=by rfl):PE X (.Attribute e f pos) (tFld K ta f):=h ▸ pe_fld he hb
end
section
variable {k0:Nat}{m f:Str}{ta tv:TE}{t:TA}{Q:VK}{dvs:List V}{E:XK}
theorem Zbq (K:ZFr)(h:X.K=K:=by rfl):SlR X (rSlL K):=h ▸ sl_list
theorem ZbF (K:ZFr){pos:Pos}{es:List Expr}{k:Nat}{t:TGs}{n:Nat}(hc:X.calm=true)(h:PGs X es t)(hK:X.K=K:=by rfl)
   (hn:(assignEach es X.env).length=n:=by rfl) (hst:(assignEach es X.env).findIdx? (·.1)=none:=by rfl):PG X (.Tuple es k pos) (gTup K n t):=hK ▸ pg_tup hc h hn hst
end
def CompYes (n i:Nat)(D:Addr)(I:Nat→List V→Hp→Prop)(y:V)(H6:Hp):Prop:=∃ xs,H6 D=some (.lst xs)∧xs.length<sizeLine∧∃ m',m'<n-i∧m'=n-(i+1)∧∃ ys,I (i+1) ys (upd H6 D (.lst (xs++[y])))
def CompNo (n i:Nat)(I:Nat→List V→Hp→Prop)(H5:Hp):Prop:=∃ m',m'<n-i∧m'=n-(i+1)∧∃ ys,I (i+1) ys H5
theorem compYes {n i:Nat}{D:Addr}{I:Nat→List V→Hp→Prop}{y:V}{H6:Hp}(hn:n≤1000000)(hi:i<n)(hl:ys.length≤i)(h:H6 D=some (.lst ys))(q:I (i+1) (ys++[y]) (upd H6 D (.lst (ys++[y])))):CompYes n i D I y H6 :=
 ⟨ys,h,by rw [sizeLine_eq];omega,n-(i+1),by omega,rfl,_,q⟩
theorem compG {J:It}{m n:Nat}{g:TG}{tt:TT}{H1:Hp}{Q:VK}(I:Addr→Nat→List V→Hp→Prop)
   (h0:∀ D,H1 D=none→I D 0 [] (upd H1 D (.lst []))) (hl:∀ D i ys H2,I D i ys H2→i≤n)
   (hstop:∀ D ys H2,H1 D=none→I D n ys H2→J.stop n H2) (hgo:∀ D i ys H2,H1 D=none→i<n→I D i ys H2→J.go i H2)
   (turn:∀ D i ys H2 x H3,H1 D=none→i<n→I D i ys H2→J.yld i H2 x H3→g x (capSt m caps σ) H3 fun σ4 H4=>tt σ4 H4 fun b H5=>if b=true then te σ4 H5 fun y H6=>CompYes n i D (I D) y H6 else CompNo n i (I D) H5)
   (hq:∀ D ys H2,H1 D=none→I D n ys H2→Q (.ref D) H2):CompJ J m caps g tt te σ H1 Q:=by
 intro D hD;refine ⟨fun i k H2=>k=n-i∧∃ ys,I D i ys H2,⟨n,rfl,[],h0 D hD⟩,?_⟩;rintro i k H2 ⟨rfl,ys,hI⟩;have h1:=hl D i ys H2 hI;by_cases hlt:i<n
 · exact .inr ⟨hgo D i ys H2 hD hlt hI,fun x H3 y=>turn D i ys H2 x H3 hD hlt hI y⟩
 · have e:i=n:=by omega
   subst e;exact .inl ⟨hstop D ys H2 hD hI,hq D ys H2 hD hI⟩
theorem Same.put {a:Addr}{o:HO}(s:Same H H')(h:H a=none):Same H (upd H' a o):=fun b u e=>by rw [Zai (Zam e h)];exact s b u e
theorem Same.new {a:Addr}{o:HO}(h:H a=none):Same H (upd H a o):=(Same.refl H).put h
end L2
namespace L2
open PySem PySem.Spec PyProof.Rows
section
variable {e:Expr}{p p' pos:Pos}
end
end L2
namespace L2
open PySem PySem.Spec PyProof.Rows
theorem draw_lst {it l:Addr}{xs:Array Value}(ne:l≠it):∀ (n i:Nat) (s:Shared) (Q:List Value→Shared→Prop),s.heap.IsListIter it l i→s.heap.IsList l xs→i+n≤xs.size →
   (∀ h',h'.IsListIter it l (i+n)→Heap.SameBut it s.heap h'→Q ((xs.toList.drop i).take n) { s with heap:=h' })→wpAny (model prog w) A (draw (.ref it) n) Q E s:=by
 intro n;induction n with
 | zero =>
   intro i s Q h1 h2 h3 q;refine zab ?_;simpa using q s.heap h1 (zaK ..)
 | succ n ih =>
   intro i s Q h1 h2 h3 q;have lt:i<xs.size:=by omega
   show wpAny _ _ (pyNext (.ref it) >>= _) Q E s;refine zaa (wpAny_pyNext_list_item h1 h2 (x:=xs[i]) (by simp [lt]) fun g1 k1 k2=>?_);refine zaa (zaj (ih (i+1) _ _ k1 (h2.extBut k2.extBut ne) (by omega) fun g2 k3 k4=>zab ?_));have e:xs.toList.drop i=xs[i]::xs.toList.drop (i+1):=by simp [ybi,lt]
   have z:=q g2 (by rw [show i+(n+1)=i+1+n by omega];exact k3) (k2.trans k4);rw [e,List.take_succ_cons] at z;exact z
theorem Zih {l:Addr}{xs:Array Value}{ts:List (Bool × (Value→Sem Unit))}{Q:Unit→Shared→Prop}(hh:A.handled=none)(hl:s.heap.IsList l xs)(hn:ts.length=xs.size)(hst:ts.findIdx? (·.1)=none)
   (q:∀ h',Heap.ExtBut s.heap.objs.size s.heap h'→wpAny (model prog w) A (assignInOrder (ts.map (·.2)) xs.toList) Q E { s with heap:=h' }):wpAny (model prog w) A (unpack (.ref l) ts) Q E s:=by
 have ne:l≠s.heap.objs.size:=by obtain ⟨o,ho,_⟩:=hl;exact yaA (zad ho)
 unfold unpack;rw [hn,hst];refine zaa (zaj ?_);unfold unpackItems notIterableAtAll;refine zaa (zaa (wpAny_specialOf hl.typeIs slot_list_iter.lookup (zab ?_)));simp only [yaR,zaJ];refine zaa (zaj (wpAny_pyIter_list hl ?_));refine zaa (zaj (draw_lst ne xs.size 0 _ _ ⟨_,zag _ rfl,rfl,rfl⟩ (hl.push _) (by omega) fun g1 k1 k2=>?_));have all:List.take xs.size (List.drop 0 xs.toList)=xs.toList:=by rw [ybX];exact yam (by simp)
 rw [all,if_neg (by simp)];refine zaa (zaj (wpAny_pyNext_list_end hh k1 ((hl.push _).extBut k2.extBut ne) (by simp) fun g2 k3=>?_));simp only [Option.isSome_none,yaR,zaJ];exact zab (q g2 fun b o hb e=>k3 b o hb (k2.extBut b o hb (zac _ e)))
def gLst (K:ZFr)(n:Nat)(t:TGs):TG:=fun v σ H R=>∃ a xs,v=.ref a∧SqL K H a xs∧xs.length=n∧t xs σ H R
theorem pg_lstK (K:ZFr){pos:Pos}{es:List Expr}{k:Nat}{t:TGs}{n:Nat}(hc:X.calm=true)(h:PGs X es t)(hK:X.K=K:=by rfl)
   (hn:(assignEach es X.env).length=n:=by rfl) (hst:(assignEach es X.env).findIdx? (·.1)=none:=by rfl):PG X (.Tuple es k pos) (gLst K n t):=by
 subst hK;intro pins s σ H v u Q I r hw;obtain ⟨a,xs,rfl,hq,hl,hw⟩:=hw;cases r;obtain ⟨its,rv,pl,_⟩:=I.list hq;rw [assign_Tuple];refine zaa (wpAny_standAt (Zih (I.ok.hd hc) pl.isList (by simp [hn,← hl,rv.length]) hst fun h' hx=>?_));have I1:Inv X pins σ H { s with heap:=h' }:=I.kept (t':=s.toks) fun b o e=>hx b o (yaA (zad e)) e
 exact h pins _ σ H xs _ Q I1 (by simpa using rv) hw
structure TyIns (K:ZFr)(C:Addr):Prop where
 a:PySem.W.findIn K (.ref C) "__class__"=some (some (.builtin "object.__class__"))
 b:PySem.W.specialIn K (.builtin "object.__class__") "__get__"=some (some (.builtin "getset_descriptor.__get__"))
 c:PySem.W.takesIn K (.builtin "object.__class__")=some true
 d:PySem.W.mroIn K C (.type "object")=some true
def IsiTo (K:ZFr)(mg:Str→Option Value)(C:Addr)(x:Str)(b:Bool):Prop:=∀ S,mg x=some (.ref S)→PySem.W.kitOne K (.ref C) (.ref S)=some b
theorem isi_to {h:Heap}{x:Str}{S:Addr}{b:Bool}(X:K.In h)(G:h.Ns mainGlobals mg)(a:PySem.W.nsIn K mainGlobals x=some (some (.ref S)))(r:PySem.W.kitOne K (.ref C) (.ref S)=some b):IsiTo K mg C x b:=fun T e=>by
 rw [PySem.W.mg_of X G a] at e;cases e;exact r
theorem rIsi_ins {Q:VK}{a S dx:Addr}{fs:List (Str × V)}{x:Str}{b:Bool}(ha:H a=some (.ins C dx fs))(c:Cls K C)(t:TyIns K C)(i:IsiTo K mg C x b)(hS:mg x=some (.ref S))(q:Q (.bl b) H):rIsi K [.ref a,.ref S] H Q :=
 ⟨_,_,_,_,b,rfl,rfl,.ins ha c t.a t.b t.c t.d,i S hS,q⟩
theorem all1 {α:Type}{p:List α→Prop}(h:∀ a,p [a]):∀ us:List α,us.length=1→p us
 | [a],_=>h a
theorem all2 {α:Type}{p:List α→Prop}(h:∀ a b,p [a,b]):∀ us:List α,us.length=2→p us
 | [a,b],_=>h a b
theorem all3 {α:Type}{p:List α→Prop}(h:∀ a b c,p [a,b,c]):∀ us:List α,us.length=3→p us
 | [a,b,c],_=>h a b c
end L2
namespace BM
open PySem L2 PyProof.Rows
theorem and_side {m a b c d:Nat}(ha:a<2^m)(hc:c<2^m):(a+2^m*b) &&& (c+2^m*d)=(a &&& c)+2^m*(b &&& d):=by
 have hac:a &&& c<2^m:=ybG Nat.and_le_left ha;apply Nat.eq_of_testBit_eq
 intro i;rw [Nat.testBit_and];rw [ycj a,ycj c,ycj (a &&& c)];rw [ybm _ ha,ybm _ hc,ybm _ hac];split
 · rw [Nat.testBit_and]
 · rw [Nat.testBit_and]
def msk (k:Nat):Nat→Nat
 | 0=>0
 | n+1=>(2^k-1)+2^(2*k)*msk k n
def lay2 (k:Nat):Nat→Nat→Nat
 | 0,_=>0
 | n+1,w=>(w%2^k+w/2^k%2^k)+2^(2*k)*lay2 k n (w/2^(2*k))
def fs (k:Nat):Nat→Nat→Nat
 | 0,_=>0
 | n+1,w=>w%2^k+fs k n (w/2^k)
theorem ZiF (k:Nat):∀ (n w:Nat),w &&& msk k (n+1)=w%2^k+2^(2*k)*(w/2^(2*k) &&& msk k n):=by
 intro n w;have h2:2^k≤2^(2*k):=ybH (by decide) (by omega);have hp:0<2^k:=ybx (by decide);have e:w=w%2^(2*k)+2^(2*k)*(w/2^(2*k)):=(Nat.mod_add_div _ _).symm
 conv=>lhs;rw [e]
 show _ &&& ((2^k-1)+2^(2*k)*msk k n)=_;rw [and_side (ybN _ (ybx (by decide))) (by omega),Nat.and_two_pow_sub_one_eq_mod];congr 1
 exact Nat.mod_mod_of_dvd _ (Nat.pow_dvd_pow 2 (by omega))
theorem swar (k:Nat):∀ (n w:Nat),(w &&& msk k n)+((w >>> k) &&& msk k n)=lay2 k n w
 | 0,w=>by show (w &&& 0)+((w >>> k) &&& 0)=0;rw [Nat.and_zero,Nat.and_zero]
 | n+1,w=>by
   rw [ZiF,ZiF,Nat.shiftRight_eq_div_pow,Nat.div_div_eq_div_mul,← Nat.pow_add,ycj k (2*k),Nat.pow_add,← Nat.div_div_eq_div_mul,← Nat.shiftRight_eq_div_pow (w/2^(2*k)) k];show _=(w%2^k+w/2^k%2^k)+2^(2*k)*lay2 k n (w/2^(2*k));rw [← swar k n (w/2^(2*k)),Nat.mul_add];omega
theorem Zdx {k:Nat}(hk:0<k):∀ (n w:Nat),fs (2*k) n (lay2 k n w)=fs k (2*n) w
 | 0,_=>rfl
 | n+1,w=>by
   have hp:0<2^k:=ybx (by decide);have h2:2^k*2≤2^(2*k):=by rw [← ybT];exact ybH (by decide) (by omega)
   have a1:=ybN w hp;have a2:=ybN (w/2^k) hp;have hs:w%2^k+w/2^k%2^k<2^(2*k):=by omega
   show lay2 k (n+1) w%2^(2*k)+fs (2*k) n (lay2 k (n+1) w/2^(2*k))=w%2^k+(w/2^k%2^k+fs k (2*n) (w/2^k/2^k))
   have e:lay2 k (n+1) w=(w%2^k+w/2^k%2^k)+2^(2*k)*lay2 k n (w/2^(2*k)):=rfl;rw [e,yce,ycs hs,Nat.add_mul_div_left _ _ (ybx (by decide)),Nat.div_eq_of_lt hs,ybD,Zdx hk n,Nat.div_div_eq_div_mul,← Nat.pow_add,← Nat.two_mul];omega
theorem fs_mod (k : Nat):∀ (n w:Nat),w<2^(k*n)→w%(2^k-1)=fs k n w%(2^k-1)
 | 0, w, h => by have:w=0:=by simpa using h
                 subst this;rfl
 | n + 1,w,h=>by
   have hp:0<2^k:=ybx (by decide);have hd:w/2^k<2^(k*n):=by rw [Nat.div_lt_iff_lt_mul hp,← Nat.pow_add];exact h
   have ih:=fs_mod k n (w/2^k) hd;show _=(w%2^k+fs k n (w/2^k))%(2^k-1);rw [Nat.add_mod,← ih,← Nat.add_mod];have e:w=w%2^k+w/2^k+(2^k-1)*(w/2^k):=by
     have:=Nat.mod_add_div w (2^k);have:2^k*(w/2^k)=w/2^k+(2^k-1)*(w/2^k):=by
       generalize w/2^k=q;have z:2^k=1+(2^k-1):=by omega
       conv=>lhs;rw [z]
       rw [Nat.add_mul,Nat.one_mul]
     omega
   conv=>lhs;rw [e]
   rw [yce]
theorem Ziv {k:Nat}(hk:0<k):∀ (n w:Nat),lay2 k n w<2^(2*k*n)
 | 0,_=>by show 0<2^(2*k*0);exact ybx (by decide)
 | n+1,w=>by
   have hp:0<2^k:=ybx (by decide);have h2:2^k*2≤2^(2*k):=by rw [← ybT];exact ybH (by decide) (by omega)
   have a1:=ybN w hp;have a2:=ybN (w/2^k) hp;have ih:=Ziv hk n (w/2^(2*k));have e:lay2 k (n+1) w=(w%2^k+w/2^k%2^k)+2^(2*k)*lay2 k n (w/2^(2*k)):=rfl;rw [e,Nat.mul_succ,ycj (2*k*n),Nat.pow_add];have:2^(2*k)*(lay2 k n (w/2^(2*k))+1)≤2^(2*k)*2^(2*k*n):=Nat.mul_le_mul_left _ ih;rw [Nat.mul_succ] at this;omega
theorem fs_one:∀ (n w:Nat),fs 1 n w=((List.range n).filter w.testBit).length
 | 0,_=>rfl
 | n + 1,w=>by
   show w%2^1+fs 1 n (w/2^1)=_;rw [fs_one n,List.range_succ_eq_map,yba,ybY];have hc:(List.range n).filter (w/2^1).testBit=(List.range n).filter (w.testBit ∘ Nat.succ):=ybO fun i _=>by
     show (w/2^1).testBit i=w.testBit (i+1);rw [Nat.testBit_succ,Nat.pow_one]
   rw [hc];have h0:w.testBit 0=decide (w%2=1):=Nat.testBit_zero w;rw [h0];rcases Nat.mod_two_eq_zero_or_one w with z | z
   · simp [z]
   · simp [z];omega
theorem fs_le:∀ (n w:Nat),fs 1 n w≤n
 | 0,_=>yad _
 | n+1,w=>by
   show w%2^1+fs 1 n (w/2^1)≤_;have:=fs_le n (w/2^1);have:=ybN w (y:=2^1) (by decide);omega
theorem fs_mod16 (w:Nat)(h:w<2^(2*8*16)):w%65535=fs 16 16 w%65535:=by
 have:=fs_mod 16 16 w h;have e:(2:Nat)^16-1=65535:=by decide
 rw [e] at this;exact this
theorem popc (w:Nat):lay2 8 16 (lay2 4 32 (lay2 2 64 (lay2 1 128 w)))%65535=((List.range 256).filter w.testBit).length:=by have h1:=Zdx (k:=1) (by decide) 128 w;have h2:=Zdx (k:=2) (by decide) 64 (lay2 1 128 w);have h3:=Zdx (k:=4) (by decide) 32 (lay2 2 64 (lay2 1 128 w));have h4:=Zdx (k:=8) (by decide) 16 (lay2 4 32 (lay2 2 64 (lay2 1 128 w)));have b:=Ziv (k:=8) (by decide) 16 (lay2 4 32 (lay2 2 64 (lay2 1 128 w)));have b1:=fs_le 256 w;generalize lay2 8 16 (lay2 4 32 (lay2 2 64 (lay2 1 128 w)))=z at h4 b ⊢;generalize lay2 4 32 (lay2 2 64 (lay2 1 128 w))=y at h3 h4;generalize lay2 2 64 (lay2 1 128 w)=x at h2 h3;generalize lay2 1 128 w=v at h1 h2;have e1:fs 16 16 z=fs 8 32 y:=h4;have e2:fs 8 32 y=fs 4 64 x:=h3;have e3:fs 4 64 x=fs 2 128 v:=h2;have e4:fs 2 128 v=fs 1 256 w:=h1;rw [fs_mod16 z b,e1,e2,e3,e4,← fs_one];exact ycs (by omega)
theorem msk1:msk 1 128=0x5555555555555555555555555555555555555555555555555555555555555555:=by decide +kernel
theorem msk2:msk 2 64=0x3333333333333333333333333333333333333333333333333333333333333333:=by decide +kernel
theorem msk4:msk 4 32=0x0F0F0F0F0F0F0F0F0F0F0F0F0F0F0F0F0F0F0F0F0F0F0F0F0F0F0F0F0F0F0F0F:=by decide +kernel
theorem msk8:msk 8 16=0x00FF00FF00FF00FF00FF00FF00FF00FF00FF00FF00FF00FF00FF00FF00FF00FF:=by decide +kernel
theorem and_wd {qs:List Nat}(hp:Up 0 ps)(hq:Up 0 qs):wd ps &&& wd qs=wd (ps.filter fun p=>decide (p∈qs)):=Zfa hp.filter fun i=>by
 rw [Nat.testBit_and,ZaI hp,ZaI hq,ybR];simp [yas]
theorem Zin (f:Nat→Bool):∀ ps:List Nat,wd ps=wd (ps.filter f)+wd (ps.filter fun p=>!f p)
 | []=>rfl
 | p::r=>by
   have ih:=Zin f r;rw [yba,yba];cases f p with
   | true=>simp only [za4,ycl,yaR,zaJ];show 2^p+wd r=2^p+wd _+_;omega
   | false=>simp only [za4,Bool.not_false,yaR,zaJ];show 2^p+wd r=_+(2^p+wd _);omega
theorem less_wd {qs:List Nat}(hp:Up 0 ps)(hq:Up 0 qs):wd ps-(wd ps &&& wd qs)=wd (ps.filter fun p=>!decide (p∈qs)):=by rw [and_wd hp hq,Zin (fun p=>decide (p∈qs)) ps];omega
theorem or_wd {qs:List Nat}{n:Nat}(hp:Up 0 ps)(hq:Up 0 qs)(h1:∀ p∈ps,p<n)(h2:∀ p∈qs,p<n):wd ps ||| wd qs=wd ((List.range n).filter fun p=>decide (p∈ps)||decide (p∈qs)):=Zfa (ZbT _ _) fun i=>by
 rw [Nat.testBit_or,ZaI hp,ZaI hq,ybR];simp [yas];intro h;rcases h with h | h
 · exact h1 _ h
 · exact h2 _ h
def bgs (ps:List Nat):List Nat:=ps.filter fun p=>!decide (p∈ps.map (·+1))
theorem wd_bgs (hp:Up 0 ps):wd ps-(wd ps &&& (wd ps*2))=wd (bgs ps):=by have e:wd ps*2=wd (ps.map (·+1)):=(Zdy 1 ps).symm;rw [e];exact less_wd hp ((hp.shift 1).mono (yau _))
theorem Zi4 {p:Nat}:∃ rs a,runsOf (ps++[p])=rs++[(a,p)]:=by
 rw [Zbr];rcases ybf (runsOf ps) with e | ⟨rs,⟨a,b⟩,e⟩
 · rw [e];exact ⟨[],p,rfl⟩
 · rw [ybg] at e
   rw [e];by_cases w:b+1=p
   · exact ⟨rs,a,ZbE w⟩
   · exact ⟨rs++[(a,b)],p,Zbf w⟩
theorem runs_bgs (hp:Up 0 ps):(runsOf ps).length=(bgs ps).length:=by
 induction ps using snocInd with
 | nil=>rfl
 | snoc ps p ih =>
   have up:Up 0 ps:=hp.left;have lt:∀ q∈ps,q<p:=hp.last;have ih:=ih up
   have hb : bgs (ps++[p])=bgs ps++(if p∈ps.map (·+1) then [] else [p]):=by
     unfold bgs;rw [ybV,yaQ];congr 1
     · apply ybO
       intro q hq;have:q≠p+1:=by have:=lt q hq;omega
       have e:(q∈List.map (·+1) ps++List.map (·+1) [p])↔q∈List.map (·+1) ps:=by
         rw [yai];constructor
         · intro h
           rcases h with h | h
           · exact h
           · simp at h;omega
         · exact .inl
       simp only [e]
     · have e:(p∈List.map (·+1) ps++List.map (·+1) [p])↔p∈List.map (·+1) ps:=by
         rw [yai];constructor
         · intro h
           rcases h with h | h
           · exact h
           · simp at h
         · exact .inl
       rw [yba];simp only [e];by_cases w:p∈List.map (·+1) ps
       · rw [if_pos w];simp [w]
       · rw [if_neg w];simp [w]
   rw [hb,yac,← ih,Zbr];rcases ybf ps with e | ⟨qs,q,e⟩
   · subst e
     simp [runsOf,addP]
   · rw [ybg] at e
     subst e;obtain ⟨rs,a,er⟩:=Zi4 (ps:=qs) (p:=q);rw [er];by_cases w:q+1=p
     · rw [ZbE w,if_pos (by simp [w])]
       simp
     · rw [Zbf w,if_neg ?_]
       · simp
       · intro z
         rw [yaQ,yai] at z;rcases z with z | z
         · obtain ⟨x,hx,e⟩:=yaD.mp z
           have l1:x<q:=Up.last (ys:=[p]) (by rw [yaf] at hp;exact hp) x hx;have l2:=lt q (by simp);omega
         · simp at z
           omega
theorem andNot (x y:Nat):Builtin.bitAnd (x:Int) (Builtin.bitNot (y:Int))=((x-(x &&& y):Nat):Int):=by
 have e:Builtin.bitAnd (x:Int) (Builtin.bitNot (y:Int))=(x:Int)-(((x:Int).toNat &&& (Builtin.bitNot (Builtin.bitNot (y:Int))).toNat:Nat):Int):=by unfold Builtin.bitAnd;rw [yap (yaV _),yaI (by unfold Builtin.bitNot;omega)]
 have e2:Builtin.bitNot (Builtin.bitNot (y:Int))=y:=by unfold Builtin.bitNot;omega
 have:x &&& y≤x:=Nat.and_le_left;rw [e,e2,yao,yao];omega
theorem ZfW {qs:List Nat}{n:Nat}(hp:Up 0 ps)(hq:Up 0 qs)(h1:∀ p∈ps,p<n)(h2:∀ p∈qs,p<n):Builtin.bitOr ((wd ps:Nat):Int) ((wd qs:Nat):Int)=((wd ((List.range n).filter fun p=>decide (p∈ps)||decide (p∈qs)):Nat):Int):=by rw [Zdn (yaV _) (yaV _),yao,yao,or_wd hp hq h1 h2]
theorem bgs_wdI (hp:Up 0 ps):Builtin.bitAnd ((wd ps:Nat):Int) (Builtin.bitNot ((wd ps:Nat)*2^(1:Int).toNat:Int))=((wd (bgs ps):Nat):Int):=by
 have e:((wd ps:Nat)*2^(1:Int).toNat:Int)=((wd ps*2:Nat):Int):=by rw [Int.natCast_mul];rfl
 rw [e,andNot,wd_bgs hp]
theorem len_pl (h:Up 0 ps)(hn:∀ p∈ps,p<256):((List.range 256).filter (wd ps).testBit).length=ps.length:=by have:=pl_wd h hn;unfold pl at this;rw [this]
theorem swarI {k n w:Nat}{m d:Int}(hm:m=((msk k n:Nat):Int))(hd:d=((2^k:Nat):Int)):Builtin.bitAnd (w:Int) m+Builtin.bitAnd ((w:Int)/d) m=((lay2 k n w:Nat):Int):=by subst hm hd;rw [← Int.natCast_ediv,bitAnd_pp (yaV _) (yaV _),bitAnd_pp (yaV _) (yaV _),yao,yao,yao,← Int.natCast_add,← swar k n w,Nat.shiftRight_eq_div_pow]
theorem countI (h:Up 0 ps)(hn:∀ p∈ps,p<256):((lay2 8 16 (lay2 4 32 (lay2 2 64 (lay2 1 128 (wd ps)))):Nat):Int)%65535=(ps.length:Int):=by have e:=popc (wd ps);rw [len_pl h hn] at e;rw [← e,Int.natCast_emod];rfl
theorem bgs_wdI2 (hp:Up 0 ps):Builtin.bitAnd ((wd ps:Nat):Int) (Builtin.bitNot (((wd ps:Nat):Int)*2))=((wd (bgs ps):Nat):Int):=bgs_wdI hp
theorem bgs_lt (h:∀ p∈ps,p<256):∀ p∈bgs ps,p<256:=fun p hp=>h p (yas.mp hp).1
theorem wd_abs (h:Up 0 ps)(hn:∀ p∈ps,p<256):(((wd ps:Nat):Int)).natAbs<2^1000:=by rw [Int.natAbs_natCast];exact yax (h.lt' hn) (ybH (by decide) (by decide))
end BM
namespace L2
open PySem PySem.Spec PyProof.Rows
theorem Inv.turnedNew {ch:List Addr} {T:Addr} {o:HO} (I:Inv X pins σ H s) (hf:∀ b∈ch,FpOk X pins H b) (k:∀ b u,b∉ch→s.heap.get? b=some u→h'.get? b=some u) (hT:s.heap.objs.size≤T)
   (new:ObjOk X.prog X.w (upd H T o) h' T o):Inv X pins σ (upd H T o) { s with heap:=h',toks:=t' }:=by
 have nT:H T=none:=I.hok.fresh hT;have nch:∀ b u,H b=some u→b∉ch:=fun b u e z=>by
   rw [(hf b z).1] at e;cases e
 have neT:∀ b u,s.heap.get? b=some u→b≠T:=fun b u e z=>absurd (yax (zad e) (by rw [z];exact hT)) (ybt _)
 have lch:X.env.locals∉ch:=fun z=>(hf _ z).2.1 rfl
 refine I.step (g':=s.gens) (d':=s.drawn) (ch:=ch) (fun b hb=>?_) (fun b u _ _ hc e _=>k b u hc e) (fun b u _ _ hc e _=>⟨u.slots,k b u hc e⟩) (fun b u _ e n=>?_) (fun b u hc e=>⟨u,k b u hc e⟩) (fun b xs e=>?_) (fun b u v e=>?_) (fun b ps e=>⟨#[],?_⟩) (fun m hm=>?_) (fun b u e=>?_) I.bare
 · obtain ⟨_,f1,_,f3,f4,f5⟩:=hf b hb
   exact ⟨f3,f1,f4,f5⟩
 · rw [Zai (neT b u e)]
   exact n
 · rw [Zai (Zam e nT)]
   exact e
 · rw [Zai (Zam e nT)]
   exact e
 · rw [Zai (Zam e nT),e]
   simp
 · obtain ⟨u,es,ep,ho,r⟩:=hm
   exact ⟨u,es,ep,k _ u lch ho,r⟩
 · by_cases hb:b=T
   · subst hb
     rw [Zab] at e;cases e;exact new
   · rw [Zai hb] at e
     refine (I.hok b u e).stay (fun c v hc q=>k c v ?_ q) (fun c q=>?_) fun c xs q=>?_
     · rcases hc with z | z
       · rw [z];exact nch b u e
       · exact nch c _ z
     · rw [Zai (Zam q nT)]
       exact q
     · rw [Zai (Zam q nT)]
       exact q
theorem Inv.turnedL {ch:List Addr}(I:Inv X pins σ H s)(hf:∀ b∈ch,FpOk X pins H b)(k:∀ b u,b∉ch→s.heap.get? b=some u→h'.get? b=some u):Inv X pins σ H { s with heap:=h',toks:=t' }:=by
 have nch:∀ b u,H b=some u→b∉ch:=fun b u e z=>by
   rw [(hf b z).1] at e;cases e
 have lch:X.env.locals∉ch:=fun z=>(hf _ z).2.1 rfl
 refine I.step (g':=s.gens) (d':=s.drawn) (ch:=ch) (fun b hb=>?_) (fun b u _ _ hc e _=>k b u hc e) (fun b u _ _ hc e _=>⟨u.slots,k b u hc e⟩) (fun _ _ _ _ n=>n) (fun b u hc e=>⟨u,k b u hc e⟩) (fun _ _ e=>e) (fun _ _ _ e=>e) (fun b ps e=>⟨#[],by rw [e];simp⟩) (fun m hm=>?_) (fun b u e=>?_) I.bare
 · obtain ⟨_,f1,_,f3,f4,f5⟩:=hf b hb
   exact ⟨f3,f1,f4,f5⟩
 · obtain ⟨u,es,ep,ho,r⟩:=hm
   exact ⟨u,es,ep,k _ u lch ho,r⟩
 · refine (I.hok b u e).stay (fun c v hc q=>k c v ?_ q) (fun _ q=>q) fun _ _ q=>q
   rcases hc with z | z
   · rw [z];exact nch b u e
   · exact nch c _ z
def Itz (K:ZFr)(a b:Addr):It :=
 ⟨fun i H=>∃ xs ys x y,SqL K H a xs∧SqL K H b ys∧xs[i]?=some x∧ys[i]?=some y,
  fun i H v H'=>∃ T x y,v=.ref T∧H T=none∧H'=upd H T (.tup [x,y])∧(∀ xs,SqL K H a xs→xs[i]?=some x)∧(∀ ys,SqL K H b ys→ys[i]?=some y),
  fun i H=>∃ xs ys,SqL K H a xs∧SqL K H b ys∧(xs.length≤i∨ys.length≤i)⟩
structure ZipTn (z TI TO i1 i2 a b:Addr)(i:Nat)(h:Heap):Prop where
 z:IsZip h z TI TO .none
 ti:IsPair h TI (.ref i1) (.ref i2)
 to:∃ x y,IsPair h TO x y
 i1:h.IsListIter i1 a i
 i2:h.IsListIter i2 b i
theorem turn_zip {es:List Expr} {x1} {pos:Pos} {z TI TO i1 i2 a b:Addr} (D:ZipApart z TI TO i1 i2 a b):Turn P w K (.Tuple es x1 pos) (Itz K a b) [z,TI,TO,i1,i2] z (ZipTn z TI TO i1 i2 a b) where
 mem:=by simp
 obj:=fun i h st c hc=>by
   simp only [yaj,ybd,zaU] at hc;obtain ⟨x,y,hto⟩:=st.to;obtain ⟨o1,e1,_,d1⟩:=st.i1;obtain ⟨o2,e2,_,d2⟩:=st.i2;rcases hc with rfl | rfl | rfl | rfl | rfl
   · exact ⟨_,st.z,fun v q=>by cases q⟩
   · exact ⟨_,st.ti,fun v q=>by cases q⟩
   · exact ⟨_,hto,fun v q=>by cases q⟩
   · exact ⟨o1,e1,fun v q=>by rw [d1] at q;cases q⟩
   · exact ⟨o2,e2,fun v q=>by rw [d2] at q;cases q⟩
 keep:=fun i h h' st k=>by
   obtain ⟨x,y,hto⟩:=st.to;exact ⟨k z (by simp) _ st.z,k TI (by simp) _ st.ti,⟨x,y,k TO (by simp) _ hto⟩,st.i1.at fun o e=>k i1 (by simp) o e,st.i2.at fun o e=>k i2 (by simp) o e⟩
 item:=by
   intro X hP hw hK hc i pins s σ H E I hf st hg;subst hP hw hK;obtain ⟨xs,ys,x,y,hq,hr,hx,hy⟩:=hg;obtain ⟨its,rv,p,_⟩:=I.list hq;obtain ⟨jts,rw_,p2,_⟩:=I.list hr;obtain ⟨u,hu,ru⟩:=rv.get hx;obtain ⟨v,hv,rv2⟩:=rw_.get hy;obtain ⟨x0,y0,hto⟩:=st.to;refine wpAny_pyNext_zip_item D st.z st.ti hto st.i1 st.i2 p.isList p2.isList (x:=u) (y:=v) (by simpa using hu) (by simpa using hv) fun g1 k1 k2 k3 k4 k5 k6 k7=>?_
   refine ⟨_,rfl,wpAny_letOwnedTupleGo_zip k1 fun g2 k8 k9=>?_⟩;have lt:∀ {c:Addr} {o:Obj},s.heap.get? c=some o→s.heap.objs.size≠c:=fun e=>ybJ (zad e)
   have keep:∀ c o,c∉[z,TI,TO,i1,i2]→s.heap.get? c=some o→g2.get? c=some o:=fun c o hc e=>by
     simp only [yaj,ybd,zaU,not_or] at hc;exact k9.extBut _ _ hc.1 (k7 c o hc.1 hc.2.2.1 hc.2.2.2.1 hc.2.2.2.2 e)
   have hT:g2.get? s.heap.objs.size=some { cls:=.type "tuple",data:=.seq #[u,v] }:=k9.extBut _ _ (lt st.z) k5;have nT:H s.heap.objs.size=none:=I.hok.fresh (yad _);have I1:Inv X pins σ (upd H s.heap.objs.size (.tup [x,y])) { s with heap:=g2 }:=I.turnedNew (t':=s.toks) hf keep (yad _) ⟨by show 2≤sizeLine;decide,[u,v],.cons ru (.cons rv2 .nil),_,hT,rfl,_,rfl⟩;refine ⟨.ref s.heap.objs.size,_,I1,rfl,⟨_,x,y,rfl,nT,rfl,fun zs hz=>by rw [I.list_inj hz hq];exact hx,fun zs hz=>by rw [I.list_inj hz hr];exact hy⟩,?_,fun c hc=>?_⟩
   · have nz:∀ c,c≠z→∀ o,g1.get? c=some o→g2.get? c=some o:=fun c hc o e=>k9.extBut _ _ hc e
     exact ⟨k8,nz _ D.TIz _ (k7 _ _ D.TIz D.TITO D.TIi1 D.TIi2 st.ti),⟨u,v,nz _ D.TOz _ k2⟩,k3.at fun o e=>nz _ D.i1z o e,k4.at fun o e=>nz _ D.i2z o e⟩
   · rw [Zai ?_]
     · exact (hf c hc).1
     · rintro rfl
       simp only [yaj,ybd,zaU] at hc;obtain ⟨o1,e1,_⟩:=st.i1;obtain ⟨o2,e2,_⟩:=st.i2;rcases hc with q | q | q | q | q
       · exact lt st.z q
       · exact lt st.ti q
       · exact lt hto q
       · exact lt e1 q
       · exact lt e2 q
 done:=by
   intro X hP hw hK hc i pins s σ H E I hf st hg;subst hP hw hK;obtain ⟨xs,ys,hq,hr,hx⟩:=hg;obtain ⟨its,rv,p,_⟩:=I.list hq;obtain ⟨jts,rw_,p2,_⟩:=I.list hr;obtain ⟨x0,y0,hto⟩:=st.to;have e1:=rv.length;have e2:=rw_.length;refine wpAny_pyNext_zip_end (I.ok.hd hc) D st.z st.ti hto st.i1 st.i2 p.isList p2.isList ?_ fun g1 k=>?_
   · rcases hx with q | q
     · exact .inl (by simp;omega)
     · exact .inr (by simp;omega)
   · refine ⟨rfl,I.turnedL (t':=s.toks) hf fun c o hc e=>?_⟩
     simp only [yaj,ybd,zaU,not_or] at hc;exact k c o hc.1 hc.2.2.1 hc.2.2.2.1 hc.2.2.2.2 e
 self:=fun _ _ _ _ _ st h=>wpAny_pyIter_zip st.z h
theorem Zhw:bootBuiltins "zip"=some (.type "zip"):=by decide +kernel
def iZip (K:ZFr)(ta:TA):TI:=fun σ H R=>ta σ H fun vs H1=>∃ a b,vs=[.ref a,.ref b]∧(∃ xs,SqL K H1 a xs)∧(∃ ys,SqL K H1 b ys)∧R (Itz K a b) H1
theorem Ziu (K:ZFr) {es:List Expr} {x1} {p3:Pos} {a b:Expr} {ta:TA} {p pos:Pos} (hg:Gl X "zip") (hm:X.mg "zip"=none) (ha:PA X [a,b] ta) (hK:X.K=K:=by rfl) (hs:starEach [a,b] X.env=[(false,eval a X.env),(false,eval b X.env)]:=by rfl) (hs2:starEach [b] X.env=[(false,eval b X.env)]:=by rfl) :
   PI X (.Tuple es x1 p3) (.Call (.Name "zip" p) [a,b] [] pos) (iZip K ta):=by
 subst hK;intro pins s σ H R I h;refine Call_ (Zcb I hg hm Zhw (zam (thn (ha pos pins s σ H _ I h) fun us s1 ⟨vs,H1,I1,r1,q1⟩=>?_) (by rw [hs,hs2]) (by rw [hs2];rfl)));obtain ⟨l1,l2,rfl,⟨xs,hx⟩,⟨ys,hy⟩,q⟩:=q1;cases r1 with
 | cons r rr =>
   cases rr with
   | cons r' rr =>
     cases rr;cases r;cases r';obtain ⟨its,rv,pl1,_⟩:=I1.list hx;obtain ⟨jts,rw_,pl2,_⟩:=I1.list hy;refine call_zip_2 pl1.isList pl2.isList fun g k1 k2 k3 k4 k5 k6 k7=>?_
     refine wpAny_pyIter_zip k1 ?_;have lt1:l1<s1.heap.objs.size:=by obtain ⟨o,e,_⟩:=pl1.isList;exact zad e
     have lt2:l2<s1.heap.objs.size:=by obtain ⟨o,e,_⟩:=pl2.isList;exact zad e
     have D:ZipApart (s1.heap.objs.size+4) (s1.heap.objs.size+2) (s1.heap.objs.size+3) s1.heap.objs.size (s1.heap.objs.size+1) l1 l2:=by constructor<;>(intro q;simp only [Addr] at *;omega)
     refine ⟨_,_,_,_,H1,rfl,I1.kept (t':=s1.toks) k7,turn_zip D,⟨k1,k2,⟨_,_,k3⟩,k4,k5⟩,fun c hc=>?_,q⟩;have le:s1.heap.objs.size≤c:=by simp only [yaj,ybd,zaU] at hc;rcases hc with q | q | q | q | q<;>subst q<;>first | exact yad _ | exact Nat.le_add_right _ _
     exact I1.fpOk le (I1.hok.fresh le)
theorem loopZ {a b:Addr}{g:TG}{tb:TS}(Pv:Nat→St→Hp→Prop)(h0:Pv 0 σ H)(hl:∀ i σ H,Pv i σ H→SqL K H a xs∧SqL K H b ys)
   (hs:∀ i x y T σ H,xs[i]?=some x→ys[i]?=some y→H T=none→Pv i σ H→g (.ref T) σ (upd H T (.tup [x,y])) fun σ2 H2=>tb { D with nx:=Pv (i+1),ct:=Pv (i+1),bk:=D.nx } σ2 H2)
   (hd:∀ σ H,Pv (min xs.length ys.length) σ H→D.nx σ H):LoopJ (Itz K a b) g tb D σ H:=by
 refine ⟨fun i m σ H=>m=min xs.length ys.length-i∧i≤min xs.length ys.length∧Pv i σ H,⟨_,rfl,yau _,h0⟩,?_⟩;rintro i m σ H ⟨rfl,hi,hp⟩;obtain ⟨h1,h2⟩:=hl i σ H hp;by_cases hlt:i<min xs.length ys.length
 · have l1:i<xs.length:=by omega
   have l2:i<ys.length:=by omega
   have e1:xs[i]?=some xs[i]:=yae l1;have e2:ys[i]?=some ys[i]:=yae l2;refine .inr ⟨⟨xs,ys,_,_,h1,h2,e1,e2⟩,Pv (i+1),fun σ' H' q=>⟨_,by omega,rfl,by omega,q⟩,?_⟩;rintro v H' ⟨T,x,y,rfl,nT,rfl,hx,hy⟩;have q1:=hx xs h1;have q2:=hy ys h2;exact hs i x y T σ H q1 q2 nT hp
 · have e:i=min xs.length ys.length:=by omega
   subst e;refine .inl ⟨⟨xs,ys,h1,h2,?_⟩,hd σ H hp⟩;omega
end L2
namespace L2
open PySem PySem.Spec PyProof.Rows
section
variable {x:V}{Q:VK}
end
end L2
namespace ZT
open PySem PySem.Spec PyProof.Rows
theorem size_push {h:Heap}{o:Obj}:(h.push o).objs.size=h.objs.size+1:=zaN ..
end ZT
namespace L2
open PySem PySem.Spec PyProof.Rows
structure ZipTt (z TI TO i1 i2 a b:Addr)(i:Nat)(h:Heap):Prop where
 z:IsZip h z TI TO .none
 ti:IsPair h TI (.ref i1) (.ref i2)
 to:∃ x y,IsPair h TO x y
 i1:IsTupIter h i1 a i
 i2:IsTupIter h i2 b i
end L2
namespace L2
open PySem PySem.Spec PyProof.Rows
abbrev bmVal:List Value:=[.type "ValueError",.type "Exception",.type "BaseException",.type "object"]
structure XCls (K:ZFr)(C:Addr):Prop where
 q:PySem.W.excIn K C bmVal "ValueError.__new__"=true
 kp:PySem.W.keepIn K (.ref C)=true
section
variable {h:Heap}
end
section
variable {h:Heap}{a:Addr}{o:HO}
end
end L2
namespace Srt
open PySem PyProof.Rows
def gallop':Bool→Keyed→Array Keyed→Nat→Nat→Nat→StateT SortSt Sem (Option Nat):=sortPriv% PySem.Builtin.gallop
def beyond' (left:Bool)(key:Keyed)(arr:Array Keyed)(base i:Nat):StateT SortSt Sem (Option Bool):=do
 let x ← elem' arr (base+i)
 if left then lt' x key else return (← lt' key x).map (!·)
structure Cmp (M:Model)(A:Around)(E:Value→Shared→Prop)(s:Shared)(kd:SortKind)(S:Keyed→Prop)(L:Keyed→Keyed→Bool):Prop where
 lt:∀ (x y:Keyed) (st:SortSt) (Q:Option Bool→SortSt→Prop),S x→S y→kindOf st=kd→Q (some (L x y)) st→wpS M A E s (lt' x y) Q st
 asym:∀ x y,L x y=true→L y x=false
 neg:∀ x y z,S x→S y→S z→L x z=true→L x y=true∨L y z=true
section
variable {M:Model}{kd:SortKind}{S:Keyed→Prop}{L:Keyed→Keyed→Bool}
def pb (L:Keyed→Keyed→Bool)(left:Bool)(key:Keyed)(arr:Array Keyed)(base i:Nat):Bool:=match arr[base+i]? with
 | some x=>if left then L x key else !L key x
 | none=>false
theorem Zav {arr:Array Keyed}{i:Nat}{x:Keyed}{st:SortSt}{Q:Keyed→SortSt→Prop}(e:arr[i]?=some x)(h:Q x st):wpS M A E s (elem' arr i) Q st:=by rw [elem'_eq,e];exact zaf h
theorem ZhA (C:Cmp M A E s kd S L){left:Bool}{key:Keyed}{arr:Array Keyed}{base i:Nat}{st:SortSt}{Q:Option Bool→SortSt→Prop}(hk:kindOf st=kd)(sk:S key)(sa:∀ x∈arr.toList,S x)(hi:base+i<arr.size)
   (h:Q (some (pb L left key arr base i)) st):wpS M A E s (beyond' left key arr base i) Q st:=by
 have e:arr[base+i]?=some (arr[base+i]'hi):=yaO arr (base+i) hi;have sx:S (arr[base+i]'hi):=sa _ (by simp);unfold pb at h;rw [e] at h;unfold beyond';refine zae (Zav e ?_);cases left with
 | true=>exact C.lt _ _ _ _ sx sk hk h
 | false =>
   simp only [yaR,zaJ] at h ⊢;exact zae (C.lt _ _ _ _ sk sx hk (zaf h))
theorem Zbi (C:Cmp M A E s kd S L) {left:Bool} {key:Keyed} {arr:Array Keyed} {base n hint:Nat} {st:SortSt} {Q:Option Nat→SortSt→Prop} (hk:kindOf st=kd) (sk:S key) (sa:∀ x∈arr.toList,S x) (hn:base+n≤arr.size) (hh:hint<n)
   (mono:∀ i j,i≤j→j<n→pb L left key arr base j=true→pb L left key arr base i=true)
   (h:∀ k,k≤n→(∀ i,i<k→pb L left key arr base i=true)→(∀ i,k≤i→i<n→pb L left key arr base i=false)→Q (some k) st):wpS M A E s (gallop' left key arr base n hint) Q st:=by
 unfold gallop'
 k_delta "gallop"
 dsimp only;generalize hp:pb L left key arr base=p at mono h;have monoF:∀ i j,i≤j→j<n→p i=false→p j=false:=fun i j hij hj hi=>by
   cases e:p j with
   | false=>rfl
   | true=>rw [mono i j hij hj e] at hi;cases hi
 have ask:∀ {i:Nat} {Q':Option Bool→SortSt→Prop},i<n→Q' (some (p i)) st→wpS M A E s (beyond' left key arr base i) Q' st:=fun hi q =>
   ZhA C hk sk sa (by omega) (by rw [hp];exact q)
 refine zae (ask hh ?_);dsimp only;cases e0:p hint with
 | true =>
   rw [if_pos rfl];refine zae (zaV (zao (I:=fun x c st'=>st=st'∧c.1=none∧c.2.1<c.2.2∧hint+c.2.1<n∧x+1≤c.2.2∧p (hint+c.2.1)=true)
     (Q:=fun c st'=>st=st'∧c.1=none∧c.2.1<c.2.2∧hint+c.2.1<n∧p (hint+c.2.1)=true∧(c.2.2≥n-hint∨p (hint+c.2.2)=false)) ?step ?fin ?init) ?post)
   case init=>exact ⟨rfl,rfl,Nat.one_pos,hh,yad _,e0⟩
   case fin =>
     rintro ⟨c1,c2,c3⟩ st' ⟨rfl,e1,g1,g2,g3,g4⟩;refine ⟨rfl,e1,g1,g2,g4,.inl ?_⟩;dsimp only at *;omega
   case step =>
     rintro x ⟨c1,c2,c3⟩ st' _ hx ⟨rfl,e1,g1,g2,g3,g4⟩;dsimp only at *;subst e1;by_cases hlt:c3≥n-hint
     · rw [if_pos hlt]
       exact zaf ⟨rfl,rfl,g1,g2,g4,.inl hlt⟩
     · rw [if_neg hlt]
       refine zae (ask (by omega) ?_);dsimp only;cases e:p (hint+c3) with
       | true =>
         rw [if_neg (by decide)];refine zaf ⟨rfl,rfl,?_,?_,?_,e⟩
         · show c3<2*c3+1
           omega
         · show hint+c3<n
           omega
         · show x+1+1≤2*c3+1
           omega
       | false =>
         rw [if_pos (by decide)];exact zaf ⟨rfl,rfl,g1,g2,g4,.inr e⟩
   case post =>
     rintro ⟨c1,c2,c3⟩ st' ⟨rfl,e1,g1,g2,g4,g5⟩;dsimp only at *;subst e1;dsimp only;have h1:hint+c2+1≤hint+min c3 (n-hint):=by omega
     have h2:hint+min c3 (n-hint)≤n:=by omega
     have h3:∀ i,i<hint+c2+1→p i=true:=fun i hi=>mono i (hint+c2) (by omega) g2 g4
     have h4:∀ i,hint+min c3 (n-hint)≤i→i<n→p i=false:=by
       intro i hi hin;rcases g5 with z | z
       · omega
       · by_cases hc:c3≥n-hint
         · omega
         · exact monoF _ i (by omega) hin z
     clear g1 g2 g4 g5;refine zae (zaV (zao (I:=fun x c st'=>st=st'∧c.1=none∧c.2.1≤c.2.2∧c.2.2≤n∧(c.2.2-c.2.1≤n-x)∧(∀ i,i<c.2.1→p i=true)∧(∀ i,c.2.2≤i→i<n→p i=false))
       (Q:=fun c st'=>st=st'∧c.1=none∧c.2.2≤n∧(∀ i,i<c.2.2→p i=true)∧(∀ i,c.2.2≤i→i<n→p i=false)) ?step2 ?fin2 ?init2) ?post2)
     case init2=>exact ⟨rfl,rfl,h1,h2,yaN (Nat.sub_le _ _) h2,h3,h4⟩
     case fin2 =>
       rintro ⟨c1,c2,c3⟩ st' ⟨rfl,e1,g1,g2,g3,g4,g5⟩;dsimp only at *;have:c2=c3:=by omega
       subst this;exact ⟨rfl,e1,g2,g4,g5⟩
     case post2 =>
       rintro ⟨c1,c2,c3⟩ st' ⟨rfl,e1,g2,g4,g5⟩;dsimp only at *;subst e1;exact zaf (h _ g2 g4 g5)
     case step2 =>
       rintro x ⟨c1,c2,c3⟩ st' _ hx ⟨rfl,e1,g1,g2,g3,g4,g5⟩;dsimp only at *;subst e1;by_cases hlt:c2≥c3
       · rw [if_pos hlt]
         have:c2=c3:=by omega
         subst this;exact zaf ⟨rfl,rfl,g2,g4,g5⟩
       · rw [if_neg hlt]
         refine zae (ask (by omega) ?_);dsimp only;cases e:p (c2+(c3-c2)/2) with
         | true =>
           rw [if_pos rfl];refine zaf ⟨rfl,rfl,?_,g2,?_,fun i hi=>?_,g5⟩
           · show c2+(c3-c2)/2+1≤c3
             omega
           · show c3-(c2+(c3-c2)/2+1)≤n-(x+1)
             omega
           · have hi:i<c2+(c3-c2)/2+1:=hi
             exact mono i _ (by omega) (by omega) e
         | false =>
           rw [if_neg (by decide)];refine zaf ⟨rfl,rfl,?_,?_,?_,g4,fun i hi hin=>monoF _ i hi hin e⟩
           · show c2≤c2+(c3-c2)/2
             omega
           · show c2+(c3-c2)/2≤n
             omega
           · show c2+(c3-c2)/2-c2≤n-(x+1)
             omega
 | false =>
   rw [if_neg (by decide)];refine zae (zaV (zao (I:=fun x c st'=>st=st'∧c.1=none∧c.2.1<c.2.2∧c.2.1≤hint∧x+1≤c.2.2∧p (hint-c.2.1)=false)
     (Q:=fun c st'=>st=st'∧c.1=none∧c.2.1<c.2.2∧c.2.1≤hint∧p (hint-c.2.1)=false∧(c.2.2≥hint+1∨p (hint-c.2.2)=true)) ?step ?fin ?init) ?post)
   case init=>exact ⟨rfl,rfl,Nat.one_pos,yau _,yad _,e0⟩
   case fin =>
     rintro ⟨c1,c2,c3⟩ st' ⟨rfl,e1,g1,g2,g3,g4⟩;refine ⟨rfl,e1,g1,g2,g4,.inl ?_⟩;dsimp only at *;omega
   case step =>
     rintro x ⟨c1,c2,c3⟩ st' _ hx ⟨rfl,e1,g1,g2,g3,g4⟩;dsimp only at *;subst e1;by_cases hlt:c3≥hint+1
     · rw [if_pos hlt]
       exact zaf ⟨rfl,rfl,g1,g2,g4,.inl hlt⟩
     · rw [if_neg hlt]
       refine zae (ask (by omega) ?_);dsimp only;cases e:p (hint-c3) with
       | true =>
         rw [if_pos rfl];exact zaf ⟨rfl,rfl,g1,g2,g4,.inr e⟩
       | false =>
         rw [if_neg (by decide)];refine zaf ⟨rfl,rfl,?_,?_,?_,e⟩
         · show c3<2*c3+1
           omega
         · show c3≤hint
           omega
         · show x+1+1≤2*c3+1
           omega
   case post =>
     rintro ⟨c1,c2,c3⟩ st' ⟨rfl,e1,g1,g2,g4,g5⟩;dsimp only at *;subst e1;dsimp only;have h1:hint+1-min c3 (hint+1)≤hint-c2:=by omega
     have h2:hint-c2≤n:=by omega
     have h3:∀ i,i<hint+1-min c3 (hint+1)→p i=true:=by
       intro i hi;rcases g5 with z | z
       · omega
       · by_cases hc:c3≥hint+1
         · omega
         · exact mono i (hint-c3) (by omega) (by omega) z
     have h4:∀ i,hint-c2≤i→i<n→p i=false:=fun i hi hin=>monoF _ i hi hin g4
     clear g1 g2 g4 g5;refine zae (zaV (zao (I:=fun x c st'=>st=st'∧c.1=none∧c.2.1≤c.2.2∧c.2.2≤n∧(c.2.2-c.2.1≤n-x)∧(∀ i,i<c.2.1→p i=true)∧(∀ i,c.2.2≤i→i<n→p i=false))
       (Q:=fun c st'=>st=st'∧c.1=none∧c.2.2≤n∧(∀ i,i<c.2.2→p i=true)∧(∀ i,c.2.2≤i→i<n→p i=false)) ?step2 ?fin2 ?init2) ?post2)
     case init2=>exact ⟨rfl,rfl,h1,h2,yaN (Nat.sub_le _ _) h2,h3,h4⟩
     case fin2 =>
       rintro ⟨c1,c2,c3⟩ st' ⟨rfl,e1,g1,g2,g3,g4,g5⟩;dsimp only at *;have:c2=c3:=by omega
       subst this;exact ⟨rfl,e1,g2,g4,g5⟩
     case post2 =>
       rintro ⟨c1,c2,c3⟩ st' ⟨rfl,e1,g2,g4,g5⟩;dsimp only at *;subst e1;exact zaf (h _ g2 g4 g5)
     case step2 =>
       rintro x ⟨c1,c2,c3⟩ st' _ hx ⟨rfl,e1,g1,g2,g3,g4,g5⟩;dsimp only at *;subst e1;by_cases hlt:c2≥c3
       · rw [if_pos hlt]
         have:c2=c3:=by omega
         subst this;exact zaf ⟨rfl,rfl,g2,g4,g5⟩
       · rw [if_neg hlt]
         refine zae (ask (by omega) ?_);dsimp only;cases e:p (c2+(c3-c2)/2) with
         | true =>
           rw [if_pos rfl];refine zaf ⟨rfl,rfl,?_,g2,?_,fun i hi=>?_,g5⟩
           · show c2+(c3-c2)/2+1≤c3
             omega
           · show c3-(c2+(c3-c2)/2+1)≤n-(x+1)
             omega
           · have hi:i<c2+(c3-c2)/2+1:=hi
             exact mono i _ (by omega) (by omega) e
         | false =>
           rw [if_neg (by decide)];refine zaf ⟨rfl,rfl,?_,?_,?_,g4,fun i hi hin=>monoF _ i hi hin e⟩
           · show c2≤c2+(c3-c2)/2
             omega
           · show c2+(c3-c2)/2≤n
             omega
           · show c2+(c3-c2)/2-c2≤n-(x+1)
             omega
end
end Srt
namespace Srt
open PySem PyProof.Rows
structure Ord (S:Keyed→Prop)(L:Keyed→Keyed→Bool):Prop where
 asym:∀ x y,L x y=true→L y x=false
 neg:∀ x y z,S x→S y→S z→L x z=true→L x y=true∨L y z=true
abbrev Rise (L:Keyed→Keyed→Bool)(l:List Keyed):Prop:=l.Pairwise fun x y=>L y x=false
section
variable {S:Keyed→Prop}{L:Keyed→Keyed→Bool}
theorem Ord.step (O:Ord S L){x y z:Keyed}(sx:S x)(sy:S y)(sz:S z)(h1:L z y=false)(h2:L y x=false):L z x=false:=by
 cases e:L z x with
 | false=>rfl
 | true =>
   rcases O.neg z y x sz sy sx e with q | q
   · rw [q] at h1;cases h1
   · rw [q] at h2;cases h2
structure MI (L:Keyed→Keyed→Bool)(al bl ol:List Keyed)(ia ib:Nat):Prop where
 perm:ol.Perm (al.take ia++bl.take ib)
 rise:Rise L ol
 lea:∀ x∈ol,∀ y∈al.drop ia,L y x=false
 leb:∀ x∈ol,∀ y∈bl.drop ib,L y x=false
 ha:ia≤al.length
 hb:ib≤bl.length
theorem MI.len {al bl ol:List Keyed}{ia ib:Nat}(h:MI L al bl ol ia ib):ol.length=ia+ib:=by rw [h.perm.length_eq,yac,yaB,yaB];have:=h.ha;have:=h.hb;omega
theorem ZfE {α:Type}(l:List α)(i k:Nat):l.take (i+k)=l.take i++(l.drop i).take k:=by rw [List.take_add]
theorem ZgB {α:Type}{l:List α}{i k:Nat}{y:α}(h:y∈l.drop (i+k)):y∈l.drop i:=by rw [← ycn] at h;exact ybq h
theorem ZcT {l:List Keyed}(h:Rise L l)(i k:Nat):∀ x∈(l.drop i).take k,∀ y∈l.drop (i+k),L y x=false:=by intro x hx y hy;have h2:Rise L (l.drop i):=h.sublist (ybb _ _);rw [← yat k (l.drop i)] at h2;rw [← ycn] at hy;exact (yan.mp h2).2.2 x hx y hy
theorem MI.takeB {al bl ol:List Keyed}{ia ib:Nat}(h:MI L al bl ol ia ib)(rb:Rise L bl)(k:Nat)(hk:ib+k≤bl.length)(c:∀ y∈(bl.drop ib).take k,∀ z∈al.drop ia,L z y=false):MI L al bl (ol++(bl.drop ib).take k) ia (ib+k) where
 perm:=by rw [ZfE,← yaf];exact h.perm.append_right _
 rise:=yan.mpr ⟨h.rise,(rb.sublist (ybb _ _)).sublist (ybj _ _),fun x hx y hy=>h.leb x hx y (ybe hy)⟩
 lea:=fun x hx y hy=>by
   rcases yai.mp hx with z | z
   · exact h.lea x z y hy
   · exact c x z y hy
 leb:=fun x hx y hy=>by
   rcases yai.mp hx with z | z
   · exact h.leb x z y (ZgB hy)
   · exact ZcT rb ib k x z y hy
 ha:=h.ha
 hb:=hk
theorem MI.takeA {al bl ol:List Keyed}{ia ib:Nat}(h:MI L al bl ol ia ib)(ra:Rise L al)(k:Nat)(hk:ia+k≤al.length)(c:∀ y∈(al.drop ia).take k,∀ z∈bl.drop ib,L z y=false):MI L al bl (ol++(al.drop ia).take k) (ia+k) ib where
 perm:=by rw [ZfE];refine (h.perm.append_right _).trans ?_;rw [yaf,yaf];exact zah _ yby
 rise:=yan.mpr ⟨h.rise,(ra.sublist (ybb _ _)).sublist (ybj _ _),fun x hx y hy=>h.lea x hx y (ybe hy)⟩
 lea:=fun x hx y hy=>by
   rcases yai.mp hx with z | z
   · exact h.lea x z y (ZgB hy)
   · exact ZcT ra ia k x z y hy
 leb:=fun x hx y hy=>by
   rcases yai.mp hx with z | z
   · exact h.leb x z y hy
   · exact c x z y hy
 ha:=hk
 hb:=h.hb
abbrev Mrg (L:Keyed→Keyed→Bool)(al bl ol:List Keyed):Prop:=ol.Perm (al++bl)∧Rise L ol
theorem MI.doneA {al bl ol:List Keyed}{ia:Nat}(h:MI L al bl ol ia bl.length)(ra:Rise L al):Mrg L al bl (ol++al.drop ia):=by
 constructor
 · refine (h.perm.append_right _).trans ?_
   rw [yam (yad _),yaf];refine (zah _ yby).trans ?_;rw [← yaf,yat]
 · exact yan.mpr ⟨h.rise,ra.sublist (ybb _ _),h.lea⟩
theorem MI.doneB {al bl ol:List Keyed}{ib:Nat}(h:MI L al bl ol al.length ib)(rb:Rise L bl):Mrg L al bl (ol++bl.drop ib):=by
 constructor
 · refine (h.perm.append_right _).trans ?_
   rw [yam (yad al.length),yaf,yat]
 · exact yan.mpr ⟨h.rise,rb.sublist (ybb _ _),h.leb⟩
theorem MI.lastA {al bl ol:List Keyed}{ia ib:Nat}(h:MI L al bl ol ia ib)(ra:Rise L al)(rb:Rise L bl)(c:∀ y∈bl.drop ib,∀ z∈al.drop ia,L z y=false):Mrg L al bl (ol++bl.drop ib++al.drop ia):=by
 constructor
 · refine ((h.perm.append_right _).append_right _).trans ?_
   have e:al.take ia++bl.take ib++bl.drop ib++al.drop ia=al.take ia++(bl++al.drop ia):=by rw [yaf (al.take ia),yat,yaf]
   rw [e];refine (zah _ yby).trans ?_;rw [← yaf,yat]
 · refine yan.mpr ⟨yan.mpr ⟨h.rise,rb.sublist (ybb _ _),h.leb⟩,ra.sublist (ybb _ _),fun x hx y hy=>?_⟩
   rcases yai.mp hx with z | z
   · exact h.lea x z y hy
   · exact c x z y hy
end
def mergeLo':Array Keyed→Array Keyed→StateT SortSt Sem (Array Keyed):=sortPriv% PySem.Builtin.mergeLo
def setMinGallop':Nat→StateT SortSt Sem Unit:=sortPriv% PySem.Builtin.setMinGallop
theorem ZdT (g:Nat):setMinGallop' g=modify fun s=>SortSt.mk' (kindOf s) (arrOf s) (pendingOf s) g (failedOf s):=rfl
structure Sm (st st':SortSt):Prop where
 kind:kindOf st'=kindOf st
 arr:arrOf st'=arrOf st
 pend:pendingOf st'=pendingOf st
 failed:failedOf st'=failedOf st
section
variable {M:Model}{kd:SortKind}{S:Keyed→Prop}{L:Keyed→Keyed→Bool}
theorem Cmp.ord (C:Cmp M A E s kd S L):Ord S L:=⟨C.asym,C.neg⟩
theorem ZbR {a:Array Keyed}{i:Nat}(h:i<a.size):a.toList.drop i=a[i]::a.toList.drop (i+1):=by rw [ybi (by simpa using h)];simp
theorem Zat {a:Array Keyed}{i:Nat}(h:i<a.size):a[i]∈a.toList:=by simp
theorem Zep {a:Array Keyed}{i:Nat}(ra:Rise L a.toList)(h:i<a.size):∀ z∈a.toList.drop (i+1),L z a[i]=false:=by intro z hz;have h2:Rise L (a.toList.drop i):=ra.sublist (ybb _ _);rw [ZbR h] at h2;exact (ycc.mp h2).1 z hz
theorem Zgb (O:Ord S L){a:Array Keyed}{i:Nat}(sa:∀ x∈a.toList,S x)(ra:Rise L a.toList)(h:i<a.size){y:Keyed}(sy:S y)(c:L a[i] y=false):∀ z∈a.toList.drop i,L z y=false:=by
 intro z hz;rw [ZbR h] at hz;rcases yaj.mp hz with e | e
 · rw [e]
   exact c
 · exact O.step sy (sa _ (Zat h)) (sa _ (ybq e)) (Zep ra h z e) c
variable {a b out:Array Keyed}{ia ib k:Nat}
theorem MI.pushB (O:Ord S L)(m:MI L a.toList b.toList out.toList ia ib)(sa:∀ x∈a.toList,S x)(sb:∀ x∈b.toList,S x)(ra:Rise L a.toList)(rb:Rise L b.toList)(hia:ia<a.size)(hib:ib<b.size)(c:L a[ia] b[ib]=false) :
   MI L a.toList b.toList (out.push b[ib]).toList ia (ib+1):=by
 have e:(b.toList.drop ib).take 1=[b[ib]]:=by rw [ZbR hib];rfl
 have:=m.takeB rb 1 (by simp;omega) (by
   rw [e];intro y hy z hz;have hy:y=b[ib]:=by simpa using hy
   subst hy;exact Zgb O sa ra hia (sb _ (Zat hib)) c z hz)
 rw [e] at this;rw [ych];exact this
theorem MI.pushA (O:Ord S L)(m:MI L a.toList b.toList out.toList ia ib)(sa:∀ x∈a.toList,S x)(sb:∀ x∈b.toList,S x)(ra:Rise L a.toList)(rb:Rise L b.toList)(hia:ia<a.size)(hib:ib<b.size)(c:L b[ib] a[ia]=false) :
   MI L a.toList b.toList (out.push a[ia]).toList (ia+1) ib:=by
 have e:(a.toList.drop ia).take 1=[a[ia]]:=by rw [ZbR hia];rfl
 have:=m.takeA ra 1 (by simp;omega) (by
   rw [e];intro y hy z hz;have hy:y=a[ia]:=by simpa using hy
   subst hy;exact Zgb O sb rb hib (sa _ (Zat hia)) c z hz)
 rw [e] at this;rw [ych];exact this
theorem Zev (a:Array Keyed)(i k:Nat):(a.extract i (i+k)).toList=(a.toList.drop i).take k:=by simp [List.extract_eq_take_drop]
theorem ZcZ (a:Array Keyed)(i:Nat):(a.extract i a.size).toList=a.toList.drop i:=by simp only [Array.toList_extract,List.extract_eq_take_drop];exact yam (by simp)
theorem Zbn {a:Array Keyed}{i k:Nat}{x:Keyed}(h:x∈(a.toList.drop i).take k):∃ j,j<k∧∃ q:i+j<a.size,x=a[i+j]:=by
 obtain ⟨j,hj,e⟩:=yaW.mp h;rw [yaB,yaX] at hj;have:i+j<a.size:=by simp at hj;omega
 refine ⟨j,by omega,this,?_⟩;rw [← e];simp
theorem MI.extA (O:Ord S L)(m:MI L a.toList b.toList out.toList ia ib)(sa:∀ x∈a.toList,S x)(sb:∀ x∈b.toList,S x)(ra:Rise L a.toList)(rb:Rise L b.toList)(hib:ib<b.size)(hk:ia+k≤a.size)(c:∀ i,i<k→pb L false b[ib] a ia i=true) :
   MI L a.toList b.toList (out++a.extract ia (ia+k)).toList (ia+k) ib:=by
 rw [yaY,Zev];refine m.takeA ra k (by simpa using hk) fun y hy z hz=>?_
 obtain ⟨j,hj,q,rfl⟩:=Zbn hy;have:=c j hj;unfold pb at this;rw [yaO a (ia+j) q] at this;simp only [yaR,zaJ,Bool.not_eq_true'] at this;exact Zgb O sb rb hib (sa _ (Zat q)) this z hz
theorem MI.extB (O:Ord S L)(m:MI L a.toList b.toList out.toList ia ib)(sa:∀ x∈a.toList,S x)(sb:∀ x∈b.toList,S x)(ra:Rise L a.toList)(rb:Rise L b.toList)(hia:ia<a.size)(hk:ib+k≤b.size)(c:∀ i,i<k→pb L true a[ia] b ib i=true) :
   MI L a.toList b.toList (out++b.extract ib (ib+k)).toList ia (ib+k):=by
 rw [yaY,Zev];refine m.takeB rb k (by simpa using hk) fun y hy z hz=>?_
 obtain ⟨j,hj,q,rfl⟩:=Zbn hy;have:=c j hj;unfold pb at this;rw [yaO b (ib+j) q] at this;simp only [za4] at this;exact Zgb O sa ra hia (sb _ (Zat q)) (O.asym _ _ this) z hz
theorem MI.finA (m:MI L a.toList b.toList out.toList ia ib)(ra:Rise L a.toList)(e:ib=b.size):Mrg L a.toList b.toList (out++a.extract ia a.size++b.extract ib b.size).toList:=by
 have e1:ib=b.toList.length:=by simpa using e
 subst e1;rw [yaY,yaY,ZcZ,ZcZ,ybn (yad _),yaH];exact m.doneA ra
theorem MI.finB (m:MI L a.toList b.toList out.toList ia ib)(rb:Rise L b.toList)(e:ia=a.size):Mrg L a.toList b.toList (out++a.extract ia a.size++b.extract ib b.size).toList:=by
 have e1:ia=a.toList.length:=by simpa using e
 subst e1;rw [yaY,yaY,ZcZ,ZcZ,ybn (yad a.toList.length),yaH];exact m.doneB rb
theorem MI.finL (m:MI L a.toList b.toList out.toList ia ib)(ra:Rise L a.toList)(rb:Rise L b.toList)(e:ia+1=a.size)(hl:∀ z∈a.toList.drop (a.size-1),∀ y∈b.toList,L z y=false) :
   Mrg L a.toList b.toList (out++b.extract ib b.size++a.extract ia a.size).toList:=by
 rw [yaY,yaY,ZcZ,ZcZ];refine m.lastA ra rb fun y hy z hz=>hl z (by rw [← e];exact hz) y (ybq hy)
structure MS (L:Keyed→Keyed→Bool)(st:SortSt)(a b out:Array Keyed)(ia ib:Nat)(st':SortSt):Prop where
 sm:Sm st st'
 mi:MI L a.toList b.toList out.toList ia ib
 ha:ia+1<a.size
 hb:ib<b.size
theorem MI.size {a b out:Array Keyed}{ia ib:Nat}(m:MI L a.toList b.toList out.toList ia ib):out.size=ia+ib:=by have:=m.len;simpa using this
theorem Sm.refl (st:SortSt):Sm st st:=⟨rfl,rfl,rfl,rfl⟩
theorem Sm.gal {st st':SortSt}(h:Sm st st')(g:Nat):Sm st (SortSt.mk' (kindOf st') (arrOf st') (pendingOf st') g (failedOf st')):=⟨h.kind,h.arr,h.pend,h.failed⟩
theorem Zbk {g:Nat}{st:SortSt}{Q:Unit→SortSt→Prop}(h:Q () (SortSt.mk' (kindOf st) (arrOf st) (pendingOf st) g (failedOf st))):wpS M A E s (setMinGallop' g) Q st:=by rw [ZdT];exact za0 h
theorem Zfq (O:Ord S L){a:Array Keyed}{ia n:Nat}{key:Keyed}(sa:∀ x∈a.toList,S x)(ra:Rise L a.toList)(sk:S key)(hn:ia+n≤a.size):∀ i j,i≤j→j<n→pb L false key a ia j=true→pb L false key a ia i=true:=by
 intro i j hij hj h;unfold pb at *;rw [yaO a (ia+j) (by omega)] at h;rw [yaO a (ia+i) (by omega)];simp only [yaR,zaJ,Bool.not_eq_true'] at h ⊢;rcases ybM i j with q | q
 · have:=Zep ra (i:=ia+i) (by omega) (a[ia+j]'(by omega)) (yaW.mpr ⟨j-i-1,by simp;omega,by simp;congr 1;omega⟩)
   exact O.step (sa _ (Zat _)) (sa _ (Zat _)) sk h this
 · have:i=j:=by omega
   subst this;exact h
theorem Zfo (O:Ord S L){a:Array Keyed}{ia n:Nat}{key:Keyed}(sa:∀ x∈a.toList,S x)(ra:Rise L a.toList)(sk:S key)(hn:ia+n≤a.size):∀ i j,i≤j→j<n→pb L true key a ia j=true→pb L true key a ia i=true:=by
 intro i j hij hj h;unfold pb at *;rw [yaO a (ia+j) (by omega)] at h;rw [yaO a (ia+i) (by omega)];simp only [za4] at h ⊢;rcases ybM i j with q | q
 · have:=Zep ra (i:=ia+i) (by omega) (a[ia+j]'(by omega)) (yaW.mpr ⟨j-i-1,by simp;omega,by simp;congr 1;omega⟩)
   rcases O.neg _ _ _ (sa _ (Zat _)) (sa _ (Zat (i:=ia+i) (by omega))) sk h with z | z
   · rw [this] at z
     cases z
   · exact z
 · have:i=j:=by omega
   subst this;exact h
theorem pb_f {a:Array Keyed}{ia i:Nat}{key:Keyed}(q:ia+i<a.size):pb L false key a ia i=!L key a[ia+i]:=by unfold pb;rw [yaO a (ia+i) q];rfl
theorem pb_t {a:Array Keyed}{ia i:Nat}{key:Keyed}(q:ia+i<a.size):pb L true key a ia i=L a[ia+i] key:=by unfold pb;rw [yaO a (ia+i) q];rfl
theorem ZiA {α β γ:Type}{X:StateT SortSt Sem α}{Q:α→SortSt→Prop}{st:SortSt}(v:β→γ→StateT SortSt Sem α)(hv:∀ q x,wpS M A E s (v q x) Q st)(h:(∀ q x,wpS M A E s (v q x) Q st)→wpS M A E s X Q st):wpS M A E s X Q st:=h hv
theorem Zem {α β γ δ:Type}{X:StateT SortSt Sem α}{Q:α→SortSt→Prop}{st:SortSt}(v:β→γ→δ→StateT SortSt Sem α)(P:γ→δ→Prop)(hv:∀ q x y,P x y→wpS M A E s (v q x y) Q st)(h:(∀ q x y,P x y→wpS M A E s (v q x y) Q st)→wpS M A E s X Q st):wpS M A E s X Q st:=h hv
theorem Zg5 (C:Cmp M A E s kd S L) {a b:Array Keyed} {st:SortSt} {Q:Array Keyed→SortSt→Prop} (hk:kindOf st=kd) (sa:∀ x∈a.toList,S x) (sb:∀ x∈b.toList,S x) (ra:Rise L a.toList) (rb:Rise L b.toList) (na:0<a.size) (nb:0<b.size)
   (h0:∀ z∈a.toList,L z b[0]=false) (hl:∀ z∈a.toList.drop (a.size-1),∀ y∈b.toList,L z y=false)
   (h:∀ o st',Sm st st'→Mrg L a.toList b.toList o.toList→Q o st'):wpS M A E s (mergeLo' a b) Q st:=by
 have O:=C.ord;unfold mergeLo'
 k_delta "mergeLo"
 refine zae (wpS_lift (zaQ ⟨rfl,?_⟩));refine zae (Zav (yaO b 0 nb) ?_);dsimp -zeta only;have nil:MI L a.toList b.toList (#[]:Array Keyed).toList 0 0:=⟨by simp,.nil,fun _ z=>by simp at z,fun _ z=>by simp at z,yau _,yau _⟩
 have ini:MI L a.toList b.toList (#[b[0]]:Array Keyed).toList 0 1:=nil.pushB O sa sb ra rb na nb (h0 _ (Zat na));by_cases e1:(1==b.size)=true
 · rw [if_pos e1]
   exact zaf (h _ _ (Sm.refl _) (ini.finA ra (by simpa using e1)))
 rw [if_neg e1];by_cases e2:(0+1==a.size)=true
 · rw [if_pos e2]
   exact zaf (h _ _ (Sm.refl _) (ini.finL ra rb (by simpa using e2) hl))
 rw [if_neg e2];have e1':1<b.size:=by
   have:1≠b.size:=by simpa using e1
   omega
 have e2':1<a.size:=by
   have:1≠a.size:=by simpa using e2
   omega
 refine zae (wpS_get ?_);refine zae (zaV (zao (I:=fun x c st'=>c.1=none∧MS L st a b c.2.1 c.2.2.1 c.2.2.2.1 st'∧x+1≤c.2.1.size) (Q:=fun c st'=>∃ o,c.1=some o∧Sm st st'∧Mrg L a.toList b.toList o.toList) ?step ?fin ?init) ?post)
 case init=>exact ⟨rfl,⟨Sm.refl _,ini,e2',e1'⟩,by simp⟩
 case fin =>
   rintro ⟨c1,out,ia,ib,g⟩ st' ⟨_,ms,hs⟩;dsimp only at *;have:=ms.mi.size;have:=ms.ha;have:=ms.hb;omega
 case post =>
   rintro ⟨c1,out,ia,ib,g⟩ st' ⟨o,rfl,sm,m⟩;exact zaf (h _ _ sm m)
 case step =>
   rintro x ⟨c1,out,ia,ib,g⟩ st' _ hx ⟨rfl,ms,hs⟩;dsimp -zeta only at *;refine zae (zaV (zao (I:=fun _ c st'=>c.1=none∧MS L st a b c.2.1 c.2.2.1 c.2.2.2.1 st'∧x+1≤c.2.1.size)
     (Q:=fun c st'=>(∃ o,c.1=some o∧Sm st st'∧Mrg L a.toList b.toList o.toList)∨(c.1=none∧MS L st a b c.2.1 c.2.2.1 c.2.2.2.1 st'∧x+1≤c.2.1.size)) ?step1 (fun _ _ z=>.inr z) ?init1) ?post1)
   case init1=>exact ⟨rfl,ms,hs⟩
   case step1 =>
     rintro y ⟨c1,out,ia,ib,ac,bc⟩ st' _ hy ⟨rfl,ms,hs⟩;dsimp only at *;have hib:=ms.hb;have hia:ia<a.size:=by have:=ms.ha;omega
     refine zae (Zav (yaO b ib hib) ?_);refine zae (Zav (yaO a ia hia) ?_);refine zae (C.lt _ _ _ _ (sb _ (Zat hib)) (sa _ (Zat hia)) (ms.sm.kind.trans hk) ?_);dsimp only;cases e:L b[ib] a[ia] with
     | true =>
       rw [if_pos rfl];refine zae (Zav (yaO b ib hib) ?_);have m2:=ms.mi.pushB O sa sb ra rb hia hib (C.asym _ _ e);by_cases z:(ib+1==b.size)=true
       · rw [if_pos z]
         exact zaf (.inl ⟨_,rfl,ms.sm,m2.finA ra (by simpa using z)⟩)
       · rw [if_neg z]
         have z':ib+1<b.size:=by
           have:ib+1≠b.size:=by simpa using z
           omega
         split
         · exact zaf (.inr ⟨rfl,⟨ms.sm,m2,ms.ha,z'⟩,by simp;omega⟩)
         · exact zaf ⟨rfl,⟨ms.sm,m2,ms.ha,z'⟩,by simp;omega⟩
     | false =>
       rw [if_neg (by decide)];refine zae (Zav (yaO a ia hia) ?_);have m2:=ms.mi.pushA O sa sb ra rb hia hib e;by_cases z:(ia+1+1==a.size)=true
       · rw [if_pos z]
         exact zaf (.inl ⟨_,rfl,ms.sm,m2.finL ra rb (by simpa using z) hl⟩)
       · rw [if_neg z]
         have z':ia+1+1<a.size:=by
           have:ia+1+1≠a.size:=by simpa using z
           have:=ms.ha;omega
         split
         · exact zaf (.inr ⟨rfl,⟨ms.sm,m2,z',hib⟩,by simp;omega⟩)
         · exact zaf ⟨rfl,⟨ms.sm,m2,z',hib⟩,by simp;omega⟩
   case post1 =>
     rintro ⟨c1,out,ia,ib,ac,bc⟩ st' (⟨o,rfl,sm,m⟩ | ⟨rfl,ms,hs⟩)
     · exact zaf ⟨o,rfl,sm,m⟩
     · dsimp -zeta only at *
       refine zae (wpS_lift (zaQ ⟨rfl,?_⟩));refine zae (zaV (zao (I:=fun y c st'=>c.1=none∧MS L st a b c.2.1 c.2.2.1 c.2.2.2.1 st'∧x+1+y≤c.2.1.size)
         (Q:=fun c st'=>(∃ o,c.1=some o∧Sm st st'∧Mrg L a.toList b.toList o.toList)∨(c.1=none∧MS L st a b c.2.1 c.2.2.1 c.2.2.2.1 st'∧x+2≤c.2.1.size)) ?step2 ?fin2 ?init2) ?post2)
       case init2=>exact ⟨rfl,ms,hs⟩
       case fin2 =>
         rintro ⟨c1,out,ia,ib,g,ac,bc⟩ st' ⟨e,ms,hs⟩;refine .inr ⟨e,ms,?_⟩;dsimp only at *;omega
       case post2 =>
         rintro ⟨c1,out,ia,ib,g,ac,bc⟩ st' (⟨o,rfl,sm,m⟩ | ⟨rfl,ms,hs⟩)
         · exact zaf ⟨o,rfl,sm,m⟩
         · dsimp only at *
           exact zae (Zbk (zaf ⟨rfl,⟨ms.sm.gal _,ms.mi,ms.ha,ms.hb⟩,by dsimp only;omega⟩))
       case step2 =>
         rintro y ⟨c1,out,ia,ib,g,ac,bc⟩ st' _ hy ⟨e3,ms,hs⟩;dsimp -zeta only at e3 ms hs ⊢;subst e3;have hib:=ms.hb;have hia:=ms.ha
         extract_lets +onlyGivenNames -underBinder s1 n1 s2 n2 s3 n3 s4 n4 s5 n5 n6 jp
         refine ZiA jp (fun _ g=>?_) fun hj=>by clear_value jp;split<;>exact hj _ _
         dsimp -zeta only [s1,s2,s3,s4,s5,n1,n2,n3,n4,n5,n6,jp];clear jp s1 s2 s3 s4 s5 n1 n2 n3 n4 n5 n6;refine zae (Zbk ?_);refine zae (Zav (yaO b ib hib) ?_);refine zae (Zbi C (ms.sm.kind.trans hk) (sb _ (Zat hib)) sa (by omega) (by omega) (Zfq O sa ra (sb _ (Zat hib)) (by omega)) fun k1 hk1 ht1 hf1=>?_);dsimp -zeta only
         extract_lets +onlyGivenNames -underBinder ac jp
         refine Zem jp (fun out ia=>∃ h:ia+1<a.size,MI L a.toList b.toList out.toList ia ib∧L (a[ia]'(by omega)) b[ib]=false∧x+1+y≤out.size) ?_ ?_
         · rintro _ out ia ⟨ha,m1,nx,hs⟩
           dsimp -zeta only [jp];clear jp;refine zae (Zav (yaO b ib hib) ?_);have m2:=m1.pushB O sa sb ra rb (by omega) hib nx
           extract_lets +onlyGivenNames -underBinder ou n1
           by_cases z3:(ib+1==b.size)=true
           · rw [if_pos z3]
             exact zaf (.inl ⟨_,rfl,ms.sm.gal _,m2.finA ra (by simpa using z3)⟩)
           rw [if_neg z3];have z3':ib+1<b.size:=by
             have:ib+1≠b.size:=by simpa using z3
             omega
           refine zae (Zav (yaO a ia (by omega)) ?_);refine zae (Zbi C (ms.sm.kind.trans hk) (sa _ (Zat (by omega))) sb (by omega) (by omega) (Zfo O sb rb (sa _ (Zat (by omega))) (by omega)) fun k2 hk2 ht2 hf2=>?_);dsimp -zeta only
           extract_lets +onlyGivenNames -underBinder bc jp
           refine Zem jp (fun ou ib=>∃ h:ib<b.size,MI L a.toList b.toList ou.toList ia ib∧L b[ib] (a[ia]'(by omega))=false∧x+2+y≤ou.size) ?_ ?_
           · rintro _ ou ib ⟨hb,m3,nx2,hs⟩
             dsimp -zeta only [jp];clear jp;refine zae (Zav (yaO a ia (by omega)) ?_);have m4:=m3.pushA O sa sb ra rb (by omega) hb nx2;dsimp only;by_cases z5:(ia+1+1==a.size)=true
             · rw [if_pos z5]
               exact zaf (.inl ⟨_,rfl,ms.sm.gal _,m4.finL ra rb (by simpa using z5) hl⟩)
             rw [if_neg z5];have z5':ia+1+1<a.size:=by
               have:ia+1+1≠a.size:=by simpa using z5
               omega
             split
             · exact zaf (.inr ⟨rfl,⟨ms.sm.gal _,m4,z5',hb⟩,by simp;omega⟩)
             · exact zaf ⟨rfl,⟨ms.sm.gal _,m4,z5',hb⟩,by simp;omega⟩
           clear_value jp
           intro hj;by_cases kz:k2 > 0
           · rw [if_pos kz]
             have m3:=m2.extB (k:=k2) O sa sb ra rb (by omega) (by omega) ht2;dsimp only;by_cases z4:(ib+1+k2==b.size)=true
             · rw [if_pos z4]
               exact zaf (.inl ⟨_,rfl,ms.sm.gal _,m3.finA ra (by simpa using z4)⟩)
             rw [if_neg z4];have:ib+1+k2≠b.size:=by simpa using z4
             have nx2:=hf2 k2 (yad _) (by omega);rw [pb_t (by omega)] at nx2;exact hj _ _ _ ⟨by omega,m3,nx2,by simp [ou];omega⟩
           · rw [if_neg kz]
             have nx2:=hf2 0 (by omega) (by omega);rw [pb_t (by omega)] at nx2;exact hj _ _ _ ⟨by omega,m2,nx2,by simp [ou];omega⟩
         clear_value jp
         intro hj;by_cases kz:k1 > 0
         · rw [if_pos kz]
           have m1:=ms.mi.extA (k:=k1) O sa sb ra rb hib (by omega) ht1;dsimp only;by_cases z1:(ia+k1+1==a.size)=true
           · rw [if_pos z1]
             exact zaf (.inl ⟨_,rfl,ms.sm.gal _,m1.finL ra rb (by simpa using z1) hl⟩)
           rw [if_neg z1];by_cases z2:(ia+k1==a.size)=true
           · rw [if_pos z2]
             exact zaf (.inl ⟨_,rfl,ms.sm.gal _,m1.finB rb (by simpa using z2)⟩)
           rw [if_neg z2];have:ia+k1+1≠a.size:=by simpa using z1
           have:ia+k1≠a.size:=by simpa using z2
           have nx:=hf1 k1 (yad _) (by omega);rw [pb_f (by omega)] at nx;exact hj _ _ _ ⟨by omega,m1,C.asym _ _ (by simpa using nx),by simp;omega⟩
         · rw [if_neg kz]
           have nx:=hf1 0 (by omega) (by omega);rw [pb_f (by omega)] at nx;exact hj _ _ _ ⟨hia,ms.mi,C.asym _ _ (by simpa using nx),hs⟩
end
end Srt
namespace Srt
open PySem PyProof.Rows
section
variable {S:Keyed→Prop}{L:Keyed→Keyed→Bool}
structure MH (L:Keyed→Keyed→Bool)(al bl ol:List Keyed)(na nb:Nat):Prop where
 perm:ol.Perm (al.drop na++bl.drop nb)
 rise:Rise L ol
 lea:∀ x∈ol,∀ y∈al.take na,L x y=false
 leb:∀ x∈ol,∀ y∈bl.take nb,L x y=false
 ha:na≤al.length
 hb:nb≤bl.length
theorem MH.len {al bl ol:List Keyed}{na nb:Nat}(h:MH L al bl ol na nb):ol.length+na+nb=al.length+bl.length:=by rw [h.perm.length_eq,yac,yaX,yaX];have:=h.ha;have:=h.hb;omega
theorem Zhl {α:Type}{l:List α}{i n:Nat}{y:α}(hi:i≤n)(h:y∈l.take i):y∈l.take n:=by
 have:l.take i=(l.take n).take i:=by rw [List.take_take,Nat.min_eq_left hi]
 rw [this] at h;exact ybe h
theorem Zgz {α:Type}(l:List α){i n:Nat}(h:i≤n):l.drop i=(l.take n).drop i++l.drop n:=by
 rw [List.drop_take];have:l.drop n=(l.drop i).drop (n-i):=by rw [ycn];congr 1;omega
 rw [this,yat]
theorem Zcv {l:List Keyed}(h:Rise L l){i n:Nat}(hi:i≤n):∀ x∈(l.take n).drop i,∀ y∈l.take i,L x y=false:=by intro x hx y hy;have h2:Rise L (l.take n):=h.sublist (ybj _ _);rw [← yat i (l.take n)] at h2;rw [show l.take i=(l.take n).take i by rw [List.take_take,Nat.min_eq_left hi]] at hy;exact (yan.mp h2).2.2 y hy x hx
theorem MH.takeA {al bl ol:List Keyed}{na nb:Nat}(h:MH L al bl ol na nb)(ra:Rise L al)(i:Nat)(hi:i≤na)(c:∀ y∈(al.take na).drop i,∀ z∈bl.take nb,L y z=false):MH L al bl ((al.take na).drop i++ol) i nb where
 perm:=by rw [Zgz al hi,yaf];exact zah _ h.perm
 rise:=yan.mpr ⟨(ra.sublist (ybj _ _)).sublist (ybb _ _),h.rise,fun x hx y hy=>h.lea y hy x (ybq hx)⟩
 lea:=fun x hx y hy=>by
   rcases yai.mp hx with z | z
   · exact Zcv ra hi x z y hy
   · exact h.lea x z y (Zhl hi hy)
 leb:=fun x hx y hy=>by
   rcases yai.mp hx with z | z
   · exact c x z y hy
   · exact h.leb x z y hy
 ha:=yaN hi h.ha
 hb:=h.hb
theorem MH.takeB {al bl ol:List Keyed}{na nb:Nat}(h:MH L al bl ol na nb)(rb:Rise L bl)(i:Nat)(hi:i≤nb)(c:∀ y∈(bl.take nb).drop i,∀ z∈al.take na,L y z=false):MH L al bl ((bl.take nb).drop i++ol) na i where
 perm:=by rw [Zgz bl hi];refine (zah _ h.perm).trans ?_;rw [← yaf,← yaf];exact List.Perm.append_right _ yby
 rise:=yan.mpr ⟨(rb.sublist (ybj _ _)).sublist (ybb _ _),h.rise,fun x hx y hy=>h.leb y hy x (ybq hx)⟩
 lea:=fun x hx y hy=>by
   rcases yai.mp hx with z | z
   · exact c x z y hy
   · exact h.lea x z y hy
 leb:=fun x hx y hy=>by
   rcases yai.mp hx with z | z
   · exact Zcv rb hi x z y hy
   · exact h.leb x z y (Zhl hi hy)
 ha:=h.ha
 hb:=yaN hi h.hb
theorem MH.doneB {al bl ol:List Keyed}{nb:Nat}(h:MH L al bl ol 0 nb)(rb:Rise L bl):Mrg L al bl (bl.take nb++ol):=by
 constructor
 · refine (zah _ h.perm).trans ?_
   rw [ybX];refine (zah _ yby).trans ?_;rw [← yaf,yat];exact yby
 · exact yan.mpr ⟨rb.sublist (ybj _ _),h.rise,fun x hx y hy=>h.leb y hy x hx⟩
theorem MH.doneA {al bl ol:List Keyed}{na:Nat}(h:MH L al bl ol na 0)(ra:Rise L al):Mrg L al bl (al.take na++ol):=by
 constructor
 · refine (zah _ h.perm).trans ?_
   rw [ybX,← yaf,yat]
 · exact yan.mpr ⟨ra.sublist (ybj _ _),h.rise,fun x hx y hy=>h.lea y hy x hx⟩
theorem MH.firstB {al bl ol:List Keyed}{na nb:Nat}(h:MH L al bl ol na nb)(ra:Rise L al)(rb:Rise L bl)(c:∀ y∈bl.take nb,∀ z∈al.take na,L z y=false):Mrg L al bl (bl.take nb++al.take na++ol):=by
 constructor
 · refine (zah _ h.perm).trans ?_
   have e:bl.take nb++al.take na++(al.drop na++bl.drop nb)=bl.take nb++(al++bl.drop nb):=by rw [yaf,← yaf (al.take na),yat]
   rw [e];refine (zah _ yby).trans ?_;rw [← yaf,yat];exact yby
 · refine yan.mpr ⟨yan.mpr ⟨rb.sublist (ybj _ _),ra.sublist (ybj _ _),c⟩,h.rise,fun x hx y hy=>?_⟩
   rcases yai.mp hx with z | z
   · exact h.leb y hy x z
   · exact h.lea y hy x z
variable {a b out:Array Keyed}{na nb k:Nat}
theorem ZgG {a:Array Keyed}{i:Nat}(h:i<a.size):(a.toList.take (i+1)).drop i=[a[i]]:=by rw [List.drop_take,ZbR h,show i+1-i=1 by omega];rfl
theorem ZjG {a:Array Keyed}{n:Nat}{x:Keyed}(h:x∈a.toList.take n):∃ j,j<n∧∃ q:j<a.size,x=a[j]:=by have:=Zbn (a:=a) (i:=0) (k:=n) (x:=x) (by simpa using h);obtain ⟨j,hj,q,e⟩:=this;exact ⟨j,hj,by omega,by simpa using e⟩
theorem get_le {a:Array Keyed}(ra:Rise L a.toList)(O:Ord S L){i j:Nat}(hij:i≤j)(hj:j<a.size)(ir:L a[j] a[j]=false):L a[j] (a[i]'(by omega))=false:=by
 rcases ybM i j with q | q
 · exact Zep ra (i:=i) (by omega) a[j] (yaW.mpr ⟨j-i-1,by simp;omega,by simp;congr 1;omega⟩)
 · have:i=j:=by omega
   subst this;exact ir
theorem Ord.irr (O:Ord S L)(x:Keyed):L x x=false:=by
 cases e:L x x with
 | false=>rfl
 | true=>rw [O.asym x x e] at e;cases e
theorem Zgi (O:Ord S L)(sa:∀ x∈a.toList,S x)(ra:Rise L a.toList){n:Nat}(hn:n<a.size){y:Keyed}(sy:S y)(c:L y a[n]=false):∀ z∈a.toList.take (n+1),L y z=false:=by intro z hz;obtain ⟨j,hj,q,rfl⟩:=ZjG hz;exact O.step (sa _ (Zat q)) (sa _ (Zat hn)) sy c (get_le ra O (by omega) hn (O.irr _))
theorem Zhr (out:Array Keyed)(x:Keyed):(out.push x).reverse.toList=x::out.reverse.toList:=by simp
theorem ZiG (out p:Array Keyed):(out++p.reverse).reverse.toList=p.toList++out.reverse.toList:=by simp
theorem MH.pushA (O:Ord S L)(m:MH L a.toList b.toList out.reverse.toList (na+1) (nb+1))(sa:∀ x∈a.toList,S x)(sb:∀ x∈b.toList,S x)(ra:Rise L a.toList)(rb:Rise L b.toList)(hna:na<a.size)(hnb:nb<b.size)(c:L a[na] b[nb]=false) :
   MH L a.toList b.toList (out.push a[na]).reverse.toList na (nb+1):=by
 have e:=ZgG hna;have:=m.takeA ra na (ycd _) (by
   rw [e];intro y hy z hz;have hy:y=a[na]:=by simpa using hy
   subst hy;exact Zgi O sb rb hnb (sa _ (Zat hna)) c z hz)
 rw [e] at this;rw [Zhr];exact this
theorem MH.pushB (O:Ord S L)(m:MH L a.toList b.toList out.reverse.toList (na+1) (nb+1))(sa:∀ x∈a.toList,S x)(sb:∀ x∈b.toList,S x)(ra:Rise L a.toList)(rb:Rise L b.toList)(hna:na<a.size)(hnb:nb<b.size)(c:L b[nb] a[na]=false) :
   MH L a.toList b.toList (out.push b[nb]).reverse.toList (na+1) nb:=by
 have e:=ZgG hnb;have:=m.takeB rb nb (ycd _) (by
   rw [e];intro y hy z hz;have hy:y=b[nb]:=by simpa using hy
   subst hy;exact Zgi O sa ra hna (sb _ (Zat hnb)) c z hz)
 rw [e] at this;rw [Zhr];exact this
theorem Zc4 (a:Array Keyed){i n:Nat}(h:i≤n):(a.extract i n).toList=(a.toList.take n).drop i:=by simp only [Array.toList_extract,List.extract_eq_take_drop,List.drop_take]
theorem ZfB {a:Array Keyed}{i n:Nat}{x:Keyed}(h:x∈(a.toList.take n).drop i):∃ j,i≤j∧j<n∧∃ q:j<a.size,x=a[j]:=by rw [List.drop_take] at h;obtain ⟨j,hj,q,e⟩:=Zbn h;exact ⟨i+j,by omega,by omega,q,e⟩
theorem MH.extA (O:Ord S L)(m:MH L a.toList b.toList out.reverse.toList na (nb+1))(sa:∀ x∈a.toList,S x)(sb:∀ x∈b.toList,S x)(ra:Rise L a.toList)(rb:Rise L b.toList)(hnb:nb<b.size)(hk:k≤na)(c:∀ i,k≤i→i<na→pb L false b[nb] a 0 i=false) :
   MH L a.toList b.toList (out++(a.extract k na).reverse).reverse.toList k (nb+1):=by
 rw [ZiG,Zc4 a hk];refine m.takeA ra k hk fun y hy z hz=>?_
 obtain ⟨j,hj,hj2,q,rfl⟩:=ZfB hy;have:=c j hj hj2;rw [pb_f (by omega)] at this;have this:L b[nb] a[j]=true:=by simpa using this
 exact Zgi O sb rb hnb (sa _ (Zat q)) (O.asym _ _ this) z hz
theorem MH.extB (O:Ord S L)(m:MH L a.toList b.toList out.reverse.toList (na+1) nb)(sa:∀ x∈a.toList,S x)(sb:∀ x∈b.toList,S x)(ra:Rise L a.toList)(rb:Rise L b.toList)(hna:na<a.size)(hk:k≤nb)(c:∀ i,k≤i→i<nb→pb L true a[na] b 0 i=false) :
   MH L a.toList b.toList (out++(b.extract k nb).reverse).reverse.toList (na+1) k:=by
 rw [ZiG,Zc4 b hk];refine m.takeB rb k hk fun y hy z hz=>?_
 obtain ⟨j,hj,hj2,q,rfl⟩:=ZfB hy;have:=c j hj hj2;rw [pb_t (by omega)] at this;have this:L b[j] a[na]=false:=by simpa using this
 exact Zgi O sa ra hna (sb _ (Zat q)) this z hz
theorem ext0 (a:Array Keyed)(n:Nat):(a.extract 0 n).toList=a.toList.take n:=by rw [Zc4 a (yau n),ybX]
theorem MH.fin0 (m:MH L a.toList b.toList out.reverse.toList na nb)(rb:Rise L b.toList)(e:na=0):Mrg L a.toList b.toList (a.extract 0 na++b.extract 0 nb++out.reverse).toList:=by subst e;rw [yaY,yaY,ext0,ext0,List.take_zero,yaP];exact m.doneB rb
theorem MH.fin0b (m:MH L a.toList b.toList out.reverse.toList na nb)(ra:Rise L a.toList)(e:nb=0):Mrg L a.toList b.toList (a.extract 0 na++b.extract 0 nb++out.reverse).toList:=by subst e;rw [yaY,yaY,ext0,ext0,List.take_zero,yaH];exact m.doneA ra
theorem MH.fin1 (m:MH L a.toList b.toList out.reverse.toList na nb)(ra:Rise L a.toList)(rb:Rise L b.toList)(e:nb=1)(h0:∀ z∈a.toList,∀ y∈b.toList.take 1,L z y=false):Mrg L a.toList b.toList (b.extract 0 nb++a.extract 0 na++out.reverse).toList:=by subst e;rw [yaY,yaY,ext0,ext0];exact m.firstB ra rb fun y hy z hz=>h0 z (ybe hz) y hy
theorem MH.size (m:MH L a.toList b.toList out.reverse.toList na nb):out.size+na+nb=a.size+b.size:=by have:=m.len;simpa using this
end
def mergeHi':Array Keyed→Array Keyed→StateT SortSt Sem (Array Keyed):=sortPriv% PySem.Builtin.mergeHi
section
variable {M:Model}{kd:SortKind}{S:Keyed→Prop}{L:Keyed→Keyed→Bool}
structure MHS (L:Keyed→Keyed→Bool)(st:SortSt)(a b out:Array Keyed)(na nb:Nat)(st':SortSt):Prop where
 sm:Sm st st'
 mi:MH L a.toList b.toList out.reverse.toList na nb
 ha:0<na
 hb:1<nb
theorem pb0_f {a:Array Keyed}{i:Nat}{key:Keyed}(q:i<a.size):pb L false key a 0 i=!L key a[i]:=by unfold pb;rw [ybD,yaO a i q];rfl
theorem pb0_t {a:Array Keyed}{i:Nat}{key:Keyed}(q:i<a.size):pb L true key a 0 i=L a[i] key:=by unfold pb;rw [ybD,yaO a i q];rfl
variable {a b out:Array Keyed}{na nb k:Nat}
theorem MH.hA (m:MH L a.toList b.toList out.reverse.toList na nb):na≤a.size:=by simpa using m.ha
theorem MH.hB (m:MH L a.toList b.toList out.reverse.toList na nb):nb≤b.size:=by simpa using m.hb
theorem MH.putA (O:Ord S L)(m:MH L a.toList b.toList out.reverse.toList na nb)(sa:∀ x∈a.toList,S x)(sb:∀ x∈b.toList,S x)(ra:Rise L a.toList)(rb:Rise L b.toList)(hna:0<na)(hnb:0<nb)(qa:na-1<a.size)(qb:nb-1<b.size)(c:L a[na-1] b[nb-1]=false) :
   MH L a.toList b.toList (out.push a[na-1]).reverse.toList (na-1) nb:=by
 obtain ⟨i,rfl⟩:∃ i,na=i+1:=⟨na-1,by omega⟩
 obtain ⟨j,rfl⟩:∃ j,nb=j+1:=⟨nb-1,by omega⟩
 exact m.pushA O sa sb ra rb qa qb c
theorem MH.putB (O:Ord S L)(m:MH L a.toList b.toList out.reverse.toList na nb)(sa:∀ x∈a.toList,S x)(sb:∀ x∈b.toList,S x)(ra:Rise L a.toList)(rb:Rise L b.toList)(hna:0<na)(hnb:0<nb)(qa:na-1<a.size)(qb:nb-1<b.size)(c:L b[nb-1] a[na-1]=false) :
   MH L a.toList b.toList (out.push b[nb-1]).reverse.toList na (nb-1):=by
 obtain ⟨i,rfl⟩:∃ i,na=i+1:=⟨na-1,by omega⟩
 obtain ⟨j,rfl⟩:∃ j,nb=j+1:=⟨nb-1,by omega⟩
 exact m.pushB O sa sb ra rb qa qb c
theorem MH.putAs (O:Ord S L)(m:MH L a.toList b.toList out.reverse.toList na nb)(sa:∀ x∈a.toList,S x)(sb:∀ x∈b.toList,S x)(ra:Rise L a.toList)(rb:Rise L b.toList)(hnb:0<nb)(qb:nb-1<b.size)(hk:k≤na)(c:∀ i,k≤i→i<na→pb L false b[nb-1] a 0 i=false) :
   MH L a.toList b.toList (out++(a.extract k na).reverse).reverse.toList k nb:=by
 obtain ⟨j,rfl⟩:∃ j,nb=j+1:=⟨nb-1,by omega⟩
 exact m.extA O sa sb ra rb qb hk c
theorem MH.putBs (O:Ord S L)(m:MH L a.toList b.toList out.reverse.toList na nb)(sa:∀ x∈a.toList,S x)(sb:∀ x∈b.toList,S x)(ra:Rise L a.toList)(rb:Rise L b.toList)(hna:0<na)(qa:na-1<a.size)(hk:k≤nb)(c:∀ i,k≤i→i<nb→pb L true a[na-1] b 0 i=false) :
   MH L a.toList b.toList (out++(b.extract k nb).reverse).reverse.toList na k:=by
 obtain ⟨j,rfl⟩:∃ j,na=j+1:=⟨na-1,by omega⟩
 exact m.extB O sa sb ra rb qa hk c
theorem Zg1 (C:Cmp M A E s kd S L) {a b:Array Keyed} {st:SortSt} {Q:Array Keyed→SortSt→Prop} (hk:kindOf st=kd) (sa:∀ x∈a.toList,S x) (sb:∀ x∈b.toList,S x) (ra:Rise L a.toList) (rb:Rise L b.toList) (na:0<a.size) (nb:0<b.size)
   (h0:∀ z∈a.toList,∀ y∈b.toList.take 1,L z y=false) (hl:∀ y∈b.toList,L (a[a.size-1]'(by omega)) y=false)
   (h:∀ o st',Sm st st'→Mrg L a.toList b.toList o.toList→Q o st'):wpS M A E s (mergeHi' a b) Q st:=by
 have O:=C.ord;unfold mergeHi'
 k_delta "mergeHi"
 refine zae (wpS_lift (zaQ ⟨rfl,?_⟩));refine zae (Zav (yaO a (a.size-1) (by omega)) ?_);dsimp -zeta only;have nil:MH L a.toList b.toList (#[]:Array Keyed).reverse.toList a.size b.size:=⟨by simp,.nil,fun _ z=>by simp at z,fun _ z=>by simp at z,by simp,by simp⟩
 have ini:MH L a.toList b.toList (#[a[a.size-1]'(by omega)]:Array Keyed).reverse.toList (a.size-1) b.size:=nil.putA O sa sb ra rb na nb (by omega) (by omega) (hl _ (Zat (by omega)));by_cases e1:(a.size-1==0)=true
 · rw [if_pos e1]
   exact zaf (h _ _ (Sm.refl _) (ini.fin0 rb (by simpa using e1)))
 rw [if_neg e1];by_cases e2:(b.size==1)=true
 · rw [if_pos e2]
   exact zaf (h _ _ (Sm.refl _) (ini.fin1 ra rb (by simpa using e2) h0))
 rw [if_neg e2];have e1':0<a.size-1:=by
   have:a.size-1≠0:=by simpa using e1
   omega
 have e2':1<b.size:=by
   have:b.size≠1:=by simpa using e2
   omega
 refine zae (wpS_get ?_)
 skip
 refine zae (zaV (zao (I:=fun x c st'=>c.1=none∧MHS L st a b c.2.2.2.1 c.2.1 c.2.2.1 st'∧x+1≤c.2.2.2.1.size) (Q:=fun c st'=>∃ o,c.1=some o∧Sm st st'∧Mrg L a.toList b.toList o.toList) ?step ?fin ?init) ?post)
 case init=>exact ⟨rfl,⟨Sm.refl _,ini,e1',e2'⟩,by simp⟩
 case fin =>
   rintro ⟨c1,na,nb,out,g⟩ st' ⟨_,ms,hs⟩;dsimp only at *;have:=ms.mi.size;have:=ms.ha;have:=ms.hb;omega
 case post =>
   rintro ⟨c1,na,nb,out,g⟩ st' ⟨o,rfl,sm,m⟩;exact zaf (h _ _ sm m)
 case step =>
   rintro x ⟨c1,na,nb,out,g⟩ st' _ hx ⟨rfl,ms,hs⟩;dsimp -zeta only at *;refine zae (zaV (zao (I:=fun _ c st'=>c.1=none∧MHS L st a b c.2.2.2.1 c.2.1 c.2.2.1 st'∧x+1≤c.2.2.2.1.size)
     (Q:=fun c st'=>(∃ o,c.1=some o∧Sm st st'∧Mrg L a.toList b.toList o.toList)∨(c.1=none∧MHS L st a b c.2.2.2.1 c.2.1 c.2.2.1 st'∧x+1≤c.2.2.2.1.size)) ?step1 (fun _ _ z=>.inr z) ?init1) ?post1)
   case init1=>exact ⟨rfl,ms,hs⟩
   case step1 =>
     rintro y ⟨c1,na,nb,out,ac,bc⟩ st' _ hy ⟨rfl,ms,hs⟩;dsimp only at *;have hA:=ms.mi.hA;have hB:=ms.mi.hB;have ha:=ms.ha;have hb:=ms.hb;refine zae (Zav (yaO b (nb-1) (by omega)) ?_);refine zae (Zav (yaO a (na-1) (by omega)) ?_);refine zae (C.lt _ _ _ _ (sb _ (Zat (by omega))) (sa _ (Zat (by omega))) (ms.sm.kind.trans hk) ?_);dsimp only;cases e:L (b[nb-1]'(by omega)) (a[na-1]'(by omega)) with
     | true =>
       rw [if_pos rfl];refine zae (Zav (yaO a (na-1) (by omega)) ?_);have m2:=ms.mi.putA O sa sb ra rb (by omega) (by omega) (by omega) (by omega) (C.asym _ _ e);by_cases z:(na-1==0)=true
       · rw [if_pos z]
         exact zaf (.inl ⟨_,rfl,ms.sm,m2.fin0 rb (by simpa using z)⟩)
       · rw [if_neg z]
         have z':0<na-1:=by
           have:na-1≠0:=by simpa using z
           omega
         split
         · exact zaf (.inr ⟨rfl,⟨ms.sm,m2,z',hb⟩,by simp;omega⟩)
         · exact zaf ⟨rfl,⟨ms.sm,m2,z',hb⟩,by simp;omega⟩
     | false =>
       rw [if_neg (by decide)];refine zae (Zav (yaO b (nb-1) (by omega)) ?_);have m2:=ms.mi.putB O sa sb ra rb (by omega) (by omega) (by omega) (by omega) e;by_cases z:(nb-1==1)=true
       · rw [if_pos z]
         exact zaf (.inl ⟨_,rfl,ms.sm,m2.fin1 ra rb (by simpa using z) h0⟩)
       · rw [if_neg z]
         have z':1<nb-1:=by
           have:nb-1≠1:=by simpa using z
           omega
         split
         · exact zaf (.inr ⟨rfl,⟨ms.sm,m2,ha,z'⟩,by simp;omega⟩)
         · exact zaf ⟨rfl,⟨ms.sm,m2,ha,z'⟩,by simp;omega⟩
   case post1 =>
     rintro ⟨c1,na,nb,out,ac,bc⟩ st' (⟨o,rfl,sm,m⟩ | ⟨rfl,ms,hs⟩)
     · exact zaf ⟨o,rfl,sm,m⟩
     · iterate 10 skip
       dsimp (config:={ zeta:=false }) only at *;refine zae (wpS_lift (zaQ ⟨rfl,?_⟩))
       skip
       refine zae (zaV (zao (I:=fun y c st'=>c.1=none∧MHS L st a b c.2.2.2.1 c.2.1 c.2.2.1 st'∧x+1+y≤c.2.2.2.1.size)
         (Q:=fun c st'=>(∃ o,c.1=some o∧Sm st st'∧Mrg L a.toList b.toList o.toList)∨(c.1=none∧MHS L st a b c.2.2.2.1 c.2.1 c.2.2.1 st'∧x+2≤c.2.2.2.1.size)) ?step2 ?fin2 ?init2) ?post2)
       case init2=>exact ⟨rfl,ms,hs⟩
       case fin2 =>
         rintro ⟨c1,na,nb,out,g,ac,bc⟩ st' ⟨e,ms,hs⟩;refine .inr ⟨e,ms,?_⟩;dsimp only at *;omega
       case post2 =>
         rintro ⟨c1,na,nb,out,g,ac,bc⟩ st' (⟨o,rfl,sm,m⟩ | ⟨rfl,ms,hs⟩)
         · exact zaf ⟨o,rfl,sm,m⟩
         · dsimp only at *
           exact zae (Zbk (zaf ⟨rfl,⟨ms.sm.gal _,ms.mi,ms.ha,ms.hb⟩,by dsimp only;omega⟩))
       case step2 =>
         rintro y ⟨c1,na,nb,out,g,ac,bc⟩ st' _ hy ⟨e3,ms,hs⟩;dsimp -zeta only at e3 ms hs ⊢;subst e3;have hA:=ms.mi.hA;have hB:=ms.mi.hB;have ha:=ms.ha;have hb:=ms.hb;have mz:=ms.mi.size
         extract_lets +onlyGivenNames -underBinder s1 n1 s2 n2 s3 n3 s4 n4 s5 n5 n6 jp
         refine ZiA jp (fun _ g=>?_) fun hj=>by clear_value jp;split<;>exact hj _ _
         dsimp -zeta only [s1,s2,s3,s4,s5,n1,n2,n3,n4,n5,n6,jp];clear jp s1 s2 s3 s4 s5 n1 n2 n3 n4 n5 n6;refine zae (Zbk ?_);refine zae (Zav (yaO b (nb-1) (by omega)) ?_);refine zae (Zbi C (ms.sm.kind.trans hk) (sb _ (Zat (by omega))) sa (by omega) (by omega) (Zfq O sa ra (sb _ (Zat (by omega))) (by omega)) fun k1 hk1 ht1 hf1=>?_);dsimp -zeta only
         extract_lets +onlyGivenNames -underBinder k ac jp
         refine Zem jp (fun na out=>∃ _:0<na∧na≤a.size,MH L a.toList b.toList out.reverse.toList na nb∧L (b[nb-1]'(by omega)) (a[na-1]'(by omega))=false∧x+1+y≤out.size) ?_ ?_
         · rintro _ na out ⟨_,m1,nx,hs⟩
           dsimp -zeta only [jp];clear jp;refine zae (Zav (yaO b (nb-1) (by omega)) ?_);have m2:=m1.putB O sa sb ra rb (by omega) (by omega) (by omega) (by omega) nx
           extract_lets +onlyGivenNames -underBinder ou
           by_cases z3:(nb-1==1)=true
           · rw [if_pos z3]
             exact zaf (.inl ⟨_,rfl,ms.sm.gal _,m2.fin1 ra rb (by simpa using z3) h0⟩)
           rw [if_neg z3];have z3':1<nb-1:=by
             have:nb-1≠1:=by simpa using z3
             omega
           refine zae (Zav (yaO a (na-1) (by omega)) ?_);refine zae (Zbi C (ms.sm.kind.trans hk) (sa _ (Zat (by omega))) sb (by omega) (by omega) (Zfo O sb rb (sa _ (Zat (by omega))) (by omega)) fun k2 hk2 ht2 hf2=>?_);dsimp -zeta only
           extract_lets +onlyGivenNames -underBinder k bc jp
           refine Zem jp (fun nb ou=>∃ _:1<nb∧nb≤b.size,MH L a.toList b.toList ou.reverse.toList na nb∧L (a[na-1]'(by omega)) (b[nb-1]'(by omega))=false∧x+2+y≤ou.size) ?_ ?_
           · rintro _ nb ou ⟨⟨h1,_⟩,m3,nx2,hs⟩
             dsimp -zeta only [jp];clear jp;refine zae (Zav (yaO a (na-1) (by omega)) ?_);have m4:=m3.putA O sa sb ra rb (by omega) (by omega) (by omega) (by omega) nx2;dsimp only;by_cases z5:(na-1==0)=true
             · rw [if_pos z5]
               exact zaf (.inl ⟨_,rfl,ms.sm.gal _,m4.fin0 rb (by simpa using z5)⟩)
             rw [if_neg z5];have z5':0<na-1:=by
               have:na-1≠0:=by simpa using z5
               omega
             split
             · exact zaf (.inr ⟨rfl,⟨ms.sm.gal _,m4,z5',h1⟩,by simp;omega⟩)
             · exact zaf ⟨rfl,⟨ms.sm.gal _,m4,z5',h1⟩,by simp;omega⟩
           clear_value jp
           intro hj;have nx2:∀ n,(hn:0<n)→n≤k2→(hb:n≤b.size)→L (a[na-1]'(by omega)) (b[n-1]'(by omega))=false:=fun n hn hk hb=>by
             have:=ht2 (n-1) (by omega);rw [pb0_t (by omega)] at this;exact C.asym _ _ this
           by_cases kz:k > 0
           · rw [if_pos kz]
             have m3:=m2.putBs (k:=k2) O sa sb ra rb (by omega) (by omega) hk2 hf2;dsimp only;by_cases z4:(k2==1)=true
             · rw [if_pos z4]
               exact zaf (.inl ⟨_,rfl,ms.sm.gal _,m3.fin1 ra rb (by simpa using z4) h0⟩)
             rw [if_neg z4];by_cases z6:(k2==0)=true
             · rw [if_pos z6]
               exact zaf (.inl ⟨_,rfl,ms.sm.gal _,m3.fin0b ra (by simpa using z6)⟩)
             rw [if_neg z6];have:k2≠1:=by simpa using z4
             have:k2≠0:=by simpa using z6
             exact hj _ _ _ ⟨⟨by omega,by omega⟩,m3,nx2 _ (by omega) (by omega) (by omega),by simp [ou];omega⟩
           · rw [if_neg kz]
             exact hj _ _ _ ⟨⟨by omega,by omega⟩,m2,nx2 _ (by omega) (by omega) (by omega),by simp [ou];omega⟩
         clear_value jp
         intro hj;have nx:∀ n,(hn:0<n)→n≤k1→(hb:n≤a.size)→L (b[nb-1]'(by omega)) (a[n-1]'(by omega))=false:=fun n hn hk hb=>by
           have:=ht1 (n-1) (by omega);rw [pb0_f (by omega)] at this;simpa using this
         by_cases kz:k > 0
         · rw [if_pos kz]
           have m1:=ms.mi.putAs (k:=k1) O sa sb ra rb (by omega) (by omega) hk1 hf1;dsimp only;by_cases z1:(k1==0)=true
           · rw [if_pos z1]
             exact zaf (.inl ⟨_,rfl,ms.sm.gal _,m1.fin0 rb (by simpa using z1)⟩)
           rw [if_neg z1];have:k1≠0:=by simpa using z1
           exact hj _ _ _ ⟨⟨by omega,by omega⟩,m1,nx _ (by omega) (by omega) (by omega),by simp;omega⟩
         · rw [if_neg kz]
           exact hj _ _ _ ⟨⟨by omega,by omega⟩,ms.mi,nx _ (by omega) (by omega) (by omega),hs⟩
end
end Srt
namespace Srt
open PySem PyProof.Rows
section
variable {S:Keyed→Prop}{L:Keyed→Keyed→Bool}
theorem ZdA {arr:Array Keyed}{pre A rest:List Keyed}(e:arr.toList=pre++(A++rest)){i:Nat}(hi:i<A.length):arr[pre.length+i]?=some A[i]:=by rw [← yaE,e,yah (by omega),show pre.length+i-pre.length=i by omega,yaU hi];exact yae hi
theorem seg_f {arr:Array Keyed}{pre A rest:List Keyed}(e:arr.toList=pre++(A++rest)){key:Keyed}{i:Nat}(hi:i<A.length):pb L false key arr pre.length i=!L key A[i]:=by unfold pb;rw [ZdA e hi];rfl
theorem seg_t {arr:Array Keyed}{pre A rest:List Keyed}(e:arr.toList=pre++(A++rest)){key:Keyed}{i:Nat}(hi:i<A.length):pb L true key arr pre.length i=L A[i] key:=by unfold pb;rw [ZdA e hi];rfl
theorem ZbQ {A:List Keyed}(r:Rise L A){i j:Nat}(hij:i<j)(hj:j<A.length):L A[j] (A[i]'(by omega))=false:=List.pairwise_iff_getElem.mp r i j (by omega) hj hij
theorem Zh6 (O:Ord S L){arr:Array Keyed}{pre A rest:List Keyed}(e:arr.toList=pre++(A++rest))(r:Rise L A)(sA:∀ x∈A,S x){key:Keyed}(sk:S key) :
   ∀ i j,i≤j→j<A.length→pb L false key arr pre.length j=true→pb L false key arr pre.length i=true:=by
 intro i j hij hj h;rw [seg_f e hj] at h;rw [seg_f e (by omega)];rcases ybM i j with q | q
 · have h:L key A[j]=false:=by simpa using h
   have:=O.step (sA _ (yaw (by omega))) (sA _ (yaw hj)) sk h (ZbQ r q hj);simpa using this
 · have:i=j:=by omega
   subst this;exact h
theorem ZhC (O:Ord S L){arr:Array Keyed}{pre A rest:List Keyed}(e:arr.toList=pre++(A++rest))(r:Rise L A)(sA:∀ x∈A,S x){key:Keyed}(sk:S key) :
   ∀ i j,i≤j→j<A.length→pb L true key arr pre.length j=true→pb L true key arr pre.length i=true:=by
 intro i j hij hj h;rw [seg_t e hj] at h;rw [seg_t e (by omega)];rcases ybM i j with q | q
 · rcases O.neg _ (A[i]'(by omega)) _ (sA _ (yaw hj)) (sA _ (yaw (by omega))) sk h with z | z
   · rw [ZbQ r q hj] at z
     cases z
   · exact z
 · have:i=j:=by omega
   subst this;exact h
theorem Zcz {A:List Keyed}{k:Nat}{x:Keyed}(h:x∈A.take k):∃ i,i<k∧∃ q:i<A.length,x=A[i]:=by obtain ⟨j,hj,e⟩:=yaW.mp h;rw [yaB] at hj;exact ⟨j,by omega,by omega,by rw [← e];simp⟩
theorem ZcF {A:List Keyed}{k:Nat}{x:Keyed}(h:x∈A.drop k):∃ i,k≤i∧∃ q:i<A.length,x=A[i]:=by obtain ⟨j,hj,e⟩:=yaW.mp h;rw [yaX] at hj;exact ⟨k+j,by omega,by omega,by rw [← e];simp⟩
theorem ZiD:∀ (l:List Keyed) (n:Nat) (sa:Nat) (arr:Array Keyed),sa+n+l.length≤arr.size →
   ((l.zipIdx n).foldl (fun (a:Array Keyed) (q:Keyed × Nat)=>a.setIfInBounds (sa+q.2) q.1) arr).toList=arr.toList.take (sa+n)++l++arr.toList.drop (sa+n+l.length)
 | [],n,sa,arr,h=>by simp
 | x :: l,n,sa,arr,h=>by
   rw [List.zipIdx_cons,ybE];have h':sa+(n+1)+l.length≤(arr.setIfInBounds (sa+n) x).size:=by rw [Array.size_setIfInBounds];simp only [yak] at h;omega
   rw [ZiD l (n+1) sa _ h'];have hlt:sa+n<arr.toList.length:=by simp only [yak] at h;simp;omega
   rw [Array.toList_setIfInBounds,List.take_set,List.drop_set];rw [if_pos (by omega)];have e1:(arr.toList.take (sa+(n+1))).set (sa+n) x=arr.toList.take (sa+n)++[x]:=by
     rw [show sa+(n+1)=sa+n+1 by omega,ybo,yae hlt];have hl:(arr.toList.take (sa+n)).length=sa+n:=by rw [yaB];omega
     rw [List.set_append_right _ _ (by omega),hl,ybU];rfl
   rw [e1];simp only [yak,yaf,ybK,yaP];rw [show sa+(n+1)+l.length=sa+n+(l.length+1) by omega]
theorem Zdc (O:Ord S L) {A B M:List Keyed} {k n:Nat} {b0 al:Keyed} (rA:Rise L A) (rB:Rise L B) (sA:∀ x∈A,S x) (sB:∀ x∈B,S x) (sb0:S b0) (sal:S al) (hb0:∀ y∈B,L y b0=false) (hal:∀ x∈A,L al x=false)
   (f1:∀ x∈A.take k,L b0 x=false) (f2:∀ y∈B.drop n,L y al=false) (pM:M.Perm (A.drop k++B.take n)) (rM:Rise L M):Rise L (A.take k++M++B.drop n)∧(A.take k++M++B.drop n).Perm (A++B):=by
 have bp:∀ x∈A.take k,∀ y∈B,L y x=false:=fun x hx y hy=>O.step (sA _ (ybe hx)) sb0 (sB _ hy) (hb0 y hy) (f1 x hx)
 have qa:∀ x∈A,∀ y∈B.drop n,L y x=false:=fun x hx y hy=>O.step (sA _ hx) sal (sB _ (ybq hy)) (f2 y hy) (hal x hx)
 constructor
 · refine yan.mpr ⟨yan.mpr ⟨rA.sublist (ybj _ _),rM,fun x hx y hy=>?_⟩,rB.sublist (ybb _ _),fun x hx y hy=>?_⟩
   · rcases yai.mp (pM.mem_iff.mp hy) with z | z
     · have r:=rA
       rw [← yat k A] at r;exact (yan.mp r).2.2 x hx y z
     · exact bp x hx y (ybe z)
   · rcases yai.mp hx with w | w
     · exact qa x (ybe w) y hy
     · rcases yai.mp (pM.mem_iff.mp w) with z | z
       · exact qa x (ybq z) y hy
       · have r:=rB
         rw [← yat n B] at r;exact (yan.mp r).2.2 x z y hy
 · refine ((zah _ pM).append_right _).trans ?_
   rw [← yaf,yat,yaf,yat]
end
structure Two (L:Keyed→Keyed→Bool)(st:SortSt)(i:Nat)(pre A B post:List Keyed):Prop where
 arr:(arrOf st).toList=pre++(A++(B++post))
 pa:∃ pw,(pendingOf st)[i]?=some (pre.length,A.length,pw)
 pb:∃ pw,(pendingOf st)[i+1]?=some (pre.length+A.length,B.length,pw)
 rA:Rise L A
 rB:Rise L B
 nA:0<A.length
 nB:0<B.length
section
variable {M:Model}{kd:SortKind}{S:Keyed→Prop}{L:Keyed→Keyed→Bool}
theorem wpS_set {σ:Type}{x:σ}{Q:PUnit→σ→Prop}{st:σ}(h:Q ⟨⟩ x):wpS M Ar E s (set x:StateT σ Sem PUnit) Q st:=by unfold wpS;rw [StateT.run_set];exact zab ⟨rfl,h⟩
theorem Zhx (C:Cmp M Ar E s kd S L){st:SortSt}{i:Nat}{pre A B post:List Keyed}{Q:Bool→SortSt→Prop}(hk:kindOf st=kd)(hf:failedOf st=none)(sS:∀ x∈(arrOf st).toList,S x)(T:Two L st i pre A B post)
   (h:∀ (st':SortSt) (R:List Keyed) (pw:Nat),kindOf st'=kd→failedOf st'=none→(arrOf st').toList=pre++(R++post)→Rise L R→R.Perm (A++B) →
     pendingOf st'=((pendingOf st).setIfInBounds i (pre.length,A.length+B.length,pw)).eraseIdxIfInBounds (i+1)→Q true st'):wpS M Ar E s (mergeAt' i) Q st:=by
 have O:=C.ord;obtain ⟨earr,⟨pw,epa⟩,⟨pw2,epb⟩,rA,rB,nA,nB⟩:=T;have sA:∀ x∈A,S x:=fun x hx=>sS x (by rw [earr];simp [hx])
 have sB:∀ x∈B,S x:=fun x hx=>sS x (by rw [earr];simp [hx])
 have earr2:(arrOf st).toList=(pre++A)++(B++post):=by rw [earr,yaf]
 have hsz:(arrOf st).size=pre.length+A.length+B.length+post.length:=by rw [← yag,earr];simp only [yac];omega
 have ga:=fun {j:Nat} (hj:j<A.length)=>ZdA earr hj
 have gb:∀ {j:Nat} (hj:j<B.length),(arrOf st)[pre.length+A.length+j]?=some B[j]:=fun {j} hj=>by
   have:=ZdA earr2 hj;rw [yac] at this;exact this
 have ht:=fun {key:Keyed} {j:Nat} (hj:j<B.length)=>seg_t (L:=L) (key:=key) earr2 hj
 have mt:=fun {key:Keyed} (sk:S key)=>ZhC O earr2 rB sB sk
 rw [yac] at ht mt;have aux:∀ {P:Prop},P→P:=fun x=>x
 unfold mergeAt'
 k_delta "mergeAt"
 refine zae (wpS_get ?_);dsimp only;rw [epa,epb];dsimp only;refine zae (wpS_set ?_);refine zae (Zav (gb (j:=0) nB) ?_);refine zae (Zbi (arr:=arrOf st) C (by exact hk) (sB _ (yaw nB)) sS (by omega) nA (Zh6 O earr rA sA (sB _ (yaw nB))) fun k hk1 t1 f1=>?_);dsimp only;have hb0:∀ y∈B,L y B[0]=false:=fun y hy=>by
   obtain ⟨j,hj,rfl⟩:=yaW.mp hy;rcases Nat.eq_zero_or_pos j with z | z
   · subst z
     exact O.irr _
   · exact ZbQ rB z hj
 have hal:∀ x∈A,L A[A.length-1] x=false:=fun x hx=>by
   obtain ⟨j,hj,rfl⟩:=yaW.mp hx;rcases ybM j (A.length-1) with z | z
   · exact ZbQ rA z (by omega)
   · have:j=A.length-1:=by omega
     subst this;exact O.irr _
 have F1:∀ x∈A.take k,L B[0] x=false:=fun x hx=>by
   obtain ⟨j,hj,q,rfl⟩:=Zcz hx;have:=t1 j hj;rw [seg_f earr q] at this;simpa using this
 have F1':∀ x∈A.drop k,L B[0] x=true:=fun x hx=>by
   obtain ⟨j,hj,q,rfl⟩:=ZcF hx;have:=f1 j hj q;rw [seg_f earr q] at this;simpa using this
 by_cases z1:(A.length-k==0)=true
 · rw [if_pos z1]
   have ek:A.length≤k:=by
     have:A.length-k=0:=by simpa using z1
     omega
   have:=Zdc (M:=[]) (n:=0) O rA rB sA sB (sB _ (yaw nB)) (sA A[A.length-1] (yaw (by omega))) hb0 hal F1 (fun y hy=>?_) (by rw [ybn ek];simp) .nil
   · refine zaf (h _ (A.take k++[]++B.drop 0) pw hk hf ?_ this.1 this.2 rfl)
     rw [yam ek];simp only [yaH,ybX,yaf];exact earr
   · exact O.step (sA _ (yaw (by omega))) (sB _ (yaw nB)) (sB _ hy) (hb0 y hy) (F1 _ (by rw [yam ek];exact yaw (by omega)))
 rw [if_neg z1];have z1':k<A.length:=by
   have:A.length-k≠0:=by simpa using z1
   omega
 have el:(arrOf st)[pre.length+k+(A.length-k)-1]?=some A[A.length-1]:=by rw [show pre.length+k+(A.length-k)-1=pre.length+(A.length-1) by omega];exact ga (by omega)
 refine zae (Zav el ?_);refine zae (Zbi (arr:=arrOf st) C (by exact hk) (sA _ (yaw (by omega))) sS (by omega) (by omega) (mt (sA _ (yaw (by omega)))) fun n hn t2 f2=>?_);dsimp only;have F2:∀ y∈B.drop n,L y A[A.length-1]=false:=fun y hy=>by
   obtain ⟨j,hj,q,rfl⟩:=ZcF hy;have:=f2 j hj q;rw [ht q] at this;exact this
 have F2':∀ y∈B.take n,L y A[A.length-1]=true:=fun y hy=>by
   obtain ⟨j,hj,q,rfl⟩:=Zcz hy;have:=t2 j hj;rw [ht q] at this;exact this
 by_cases z2:(n==0)=true
 · rw [if_pos z2]
   have en:n=0:=by simpa using z2
   subst en;have:=Zdc (M:=A.drop k) (n:=0) O rA rB sA sB (sB _ (yaw nB)) (sA A[A.length-1] (yaw (by omega))) hb0 hal F1 F2 (by simp) (rA.sublist (ybb _ _));refine zaf (h _ (A.take k++A.drop k++B.drop 0) pw hk hf ?_ this.1 this.2 rfl);rw [yat,ybX,yaf];exact earr
 rw [if_neg z2];have z2':0<n:=by
   have:n≠0:=by simpa using z2
   omega
 have ex:((arrOf st).extract (pre.length+k) (pre.length+A.length)).toList=A.drop k:=by rw [Zc4 _ (by omega),earr];rw [show pre++(A++(B++post))=(pre++A)++(B++post) by rw [yaf]];rw [List.take_append_of_le_length (by simp),yam (by simp),← ycn];simp
 have ey:((arrOf st).extract (pre.length+A.length) (pre.length+A.length+n)).toList=B.take n:=by rw [Zev,earr2];rw [show pre.length+A.length=(pre++A).length by simp,List.drop_left,List.take_append_of_le_length hn]
 generalize (arrOf st).extract (pre.length+k) (pre.length+A.length)=x at ex ⊢;generalize (arrOf st).extract (pre.length+A.length) (pre.length+A.length+n)=y at ey ⊢;have xs:x.size=A.length-k:=by rw [← yag,ex,yaX]
 have ys:y.size=n:=by rw [← yag,ey,yaB];omega
 have y0:∀ (q:0<y.size),y[0]=B[0]:=fun q=>by
   have:y.toList[0]?=(B.take n)[0]?:=by rw [ey]
   rw [List.getElem?_take_of_lt z2',yae nB,yaE,yaO y 0 q] at this;exact Option.some.inj this
 have xl:∀ (q:x.size-1<x.size),x[x.size-1]=A[A.length-1]:=fun q=>by
   have e2:(A.drop k)[x.size-1]?=some A[A.length-1]:=by rw [List.getElem?_drop,xs,show k+(A.length-k-1)=A.length-1 by omega];exact yae (by omega)
   have:x.toList[x.size-1]?=some A[A.length-1]:=by rw [ex];exact e2
   rw [yaE,yaO x (x.size-1) q] at this;exact Option.some.inj this
 have fin:∀ (o:Array Keyed) (st':SortSt),Sm (setPending st (((pendingOf st).setIfInBounds i (pre.length,A.length+B.length,pw)).eraseIdxIfInBounds (i+1))) st'→Mrg L x.toList y.toList o.toList →
     wpS M Ar E s (do
       modify fun s=>setArr s (o.toList.zipIdx.foldl (fun (a:Array Keyed) (q:Keyed × Nat)=>a.setIfInBounds (pre.length+k+q.2) q.1) (arrOf s))
       return (failedOf (← get)).isNone) Q st':=by
   intro o st' sm ⟨mp,mr⟩;rw [ex,ey] at mp;have:=Zdc O rA rB sA sB (sB _ (yaw nB)) (sA A[A.length-1] (yaw (by omega))) hb0 hal F1 F2 mp mr;have ol:o.toList.length=A.length-k+n:=by rw [mp.length_eq,yac,yaX,yaB];omega
   refine zae (za0 ?_);refine zae (wpS_get (zaf ?_));have ef:failedOf st'=none:=sm.failed.trans hf;show Q (failedOf st').isNone _;rw [ef];refine h _ _ pw (sm.kind.trans hk) ef ?_ this.1 this.2 sm.pend;show (o.toList.zipIdx.foldl _ (arrOf st')).toList=_;have ea:arrOf st'=arrOf st:=sm.arr;rw [ea];refine (ZiD o.toList 0 (pre.length+k) (arrOf st) (by omega)).trans ?_;rw [ybL,earr,ol];have t3:(pre++(A++(B++post))).take (pre.length+k)=pre++A.take k:=by rw [List.take_append,yam (by omega),show pre.length+k-pre.length=k by omega,List.take_append_of_le_length (by omega)]
   have t4:(pre++(A++(B++post))).drop (pre.length+k+(A.length-k+n))=B.drop n++post:=by rw [show pre.length+k+(A.length-k+n)=pre.length+(A.length+n) by omega,← ycn,List.drop_left,← ycn,List.drop_left,List.drop_append_of_le_length hn]
   rw [t3,t4];simp only [yaf]
 have sx:∀ z∈x.toList,S z:=fun z hz=>sA z (by rw [ex] at hz;exact ybq hz)
 have sy:∀ z∈y.toList,S z:=fun z hz=>sB z (by rw [ey] at hz;exact ybe hz)
 have rx:Rise L x.toList:=by rw [ex];exact rA.sublist (ybb _ _)
 have ry:Rise L y.toList:=by rw [ey];exact rB.sublist (ybj _ _)
 have hx0:∀ z∈x.toList,L z B[0]=false:=fun z hz=>C.asym _ _ (F1' z (by rw [← ex];exact hz))
 have hyl:∀ z∈y.toList,L A[A.length-1] z=false:=fun z hz=>C.asym _ _ (F2' z (by rw [← ey];exact hz))
 by_cases z3:A.length-k≤n
 · rw [if_pos z3]
   refine zae (Zg5 C (by exact hk) sx sy rx ry (by omega) (by omega) (fun z hz=>by rw [y0 (by omega)];exact hx0 z hz) (fun z hz w hw=>?_) fin);rw [ZbR (by omega),show x.size-1+1=x.toList.length by simp;omega,ybn (yad _)] at hz;have hz:z=x[x.size-1]:=by simpa using hz
   rw [hz,xl (by omega)];exact hyl w hw
 · rw [if_neg z3]
   refine zae (Zg1 C (by exact hk) sx sy rx ry (by omega) (by omega) (fun z hz w hw=>?_) (fun w hw=>by rw [xl (by omega)];exact hyl w hw) fin);have e1:y.toList.take 1=[y[0]'(by omega)]:=by have:=ZbR (a:=y) (i:=0) (by omega);rw [ybX] at this;rw [this];rfl
   rw [e1] at hw;have hw:w=y[0]'(by omega):=by simpa using hw
   rw [hw,y0 (by omega)];exact hx0 z hz
end
end Srt
namespace Srt
open PySem PyProof.Rows
theorem swap_adj {xs:Array Keyed} {u v:List Keyed} {x y:Keyed} (e:xs.toList=u++(y::x::v)):(xs.swapIfInBounds (u.length+1) u.length).toList=u++(x::y::v):=by
 have sz:xs.size=u.length+(v.length+2):=by rw [← yag,e];simp
 apply List.ext_getElem?
 intro t;rw [yaE,getElem?_swapIB (by omega) (by omega)];have g:∀ i,xs[i]?=(u++(y::x::v))[i]?:=fun i=>by rw [← yaE,e]
 rw [g,g,g];by_cases h1:u.length=t
 · subst h1
   rw [if_pos rfl,yah (by omega),yah (by omega),ybU,show u.length+1-u.length=1 by omega];rfl
 · rw [if_neg h1]
   by_cases h2:u.length+1=t
   · subst h2
     rw [if_pos rfl,yah (by omega),yah (by omega),ybU,show u.length+1-u.length=1 by omega];rfl
   · rw [if_neg h2]
     rcases ybM t u.length with q | q
     · rw [yaU q,yaU q]
     · rw [yah q,yah q]
       obtain ⟨w,hw⟩:∃ w,t-u.length=w+2:=⟨t-u.length-2,by omega⟩
       rw [hw];rfl
theorem Zec {arr:Array Keyed}{pre A rest:List Keyed}{x:Keyed}(e:arr.toList=pre++(A++(x::rest))):∀ d,d≤A.length→(bubble arr (pre.length+A.length) d).toList=pre++(A.take (A.length-d)++(x::(A.drop (A.length-d)++rest)))
 | 0,_=>by
   rw [Nat.sub_zero,yam (yad _),ybn (yad _),yaP];exact e
 | d + 1,h=>by
   have ih:=Zec e d (by omega);rw [bubble_succ];obtain ⟨m,hm⟩:∃ m,A.length-d=m+1:=⟨A.length-d-1,by omega⟩
   have hm2:A.length-(d+1)=m:=by omega
   have hmA:m<A.length:=by omega
   rw [hm] at ih;rw [hm2];have e1:A.take (m+1)=A.take m++[A[m]]:=by rw [ybo,yae hmA];rfl
   have e2:A.drop m=A[m]::A.drop (m+1):=ybi hmA;have ih2:(bubble arr (pre.length+A.length) d).toList=(pre++A.take m)++(A[m]::x::(A.drop (m+1)++rest)):=by rw [ih,e1];simp only [yaf,ybK,yaP]
   have:=swap_adj ih2;rw [show (pre++A.take m).length=pre.length+m by rw [yac,yaB];omega] at this;rw [show pre.length+A.length-d=pre.length+m+1 by omega,show pre.length+m+1-1=pre.length+m by omega,this,e2];simp only [yaf,ybK,yaP]
theorem ZgJ {arr:Array Keyed}{u w v:List Keyed}(e:arr.toList=u++(w++v)):(mirror arr u.length (u.length+w.length) ((u.length+w.length-u.length)/2)).toList=u++(w.reverse++v):=by
 have sz:arr.size=u.length+(w.length+v.length):=by rw [← yag,e];simp
 apply List.ext_getElem?
 intro t;rw [yaE,getElem?_mirror_all (by omega)];have g:∀ i,arr[i]?=(u++(w++v))[i]?:=fun i=>by rw [← yaE,e]
 rw [g,g];by_cases h1:u.length≤t∧t<u.length+w.length
 · rw [if_pos h1,yah (by omega),yah h1.1,yaU (by omega),yaU (by rw [ybu];omega),List.getElem?_reverse (by omega)]
   congr 1
   omega
 · rw [if_neg h1]
   rcases ybM t u.length with q | q
   · rw [yaU q,yaU q]
   · rw [yah q,yah q,yah (by omega),yah (by rw [ybu];omega),ybu]
structure Sa (st st':SortSt):Prop where
 kind:kindOf st'=kindOf st
 pend:pendingOf st'=pendingOf st
 failed:failedOf st'=failedOf st
section
variable {M:Model}{kd:SortKind}{S:Keyed→Prop}{L:Keyed→Keyed→Bool}
theorem ZdE (C:Cmp M Ar E s kd S L){st:SortSt}{i j:Nat}{x y:Keyed}{Q:Option Bool→SortSt→Prop}(hk:kindOf st=kd)(ei:(arrOf st)[i]?=some x)(ej:(arrOf st)[j]?=some y)(sx:S x)(sy:S y)(h:Q (some (L x y)) st):wpS M Ar E s (ltAt' i j) Q st:=by rw [ltAt'_eq];refine zae (wpS_get ?_);dsimp only;exact zae (Zav ei (zae (Zav ej (C.lt _ _ _ _ sx sy hk h))))
theorem Zh4 (C:Cmp M Ar E s kd S L) {st:SortSt} {pre A U post:List Keyed} {Q:Bool→SortSt→Prop} (hk:kindOf st=kd) (sS:∀ x∈A++U,S x) (e:(arrOf st).toList=pre++(A++(U++post))) (rA:Rise L A) (nA:0<A.length)
   (h:∀ (st':SortSt) (R:List Keyed),Sa st st'→(arrOf st').toList=pre++(R++post)→Rise L R→R.Perm (A++U)→Q true st'):wpS M Ar E s (binarySort' pre.length (A.length+U.length) A.length) Q st:=by
 have O:=C.ord;rw [binarySort'_eq];rw [show max A.length 1=A.length by omega];refine zae (zaV (zao (I:=fun k c st'=>c.1=none∧Sa st st'∧A.length≤k∧k≤A.length+U.length∧∃ R,R.length=k∧(arrOf st').toList=pre++(R++(U.drop (k-A.length)++post))∧Rise L R∧R.Perm (A++U.take (k-A.length)))
   (Q:=fun c st'=>c.1=none∧Sa st st'∧∃ R,(arrOf st').toList=pre++(R++post)∧Rise L R∧R.Perm (A++U)) ?step ?fin ?init) ?post)
 case init=>exact ⟨rfl,⟨rfl,rfl,rfl⟩,yad _,by omega,A,rfl,by rw [ybU,ybX];exact e,rA,by rw [ybU];simp⟩
 case fin =>
   rintro c st' ⟨e1,sm,h1,h2,R,hl,ea,rR,pR⟩;refine ⟨e1,sm,R,?_,rR,?_⟩
   · rw [ea,ybn (by omega),yaP]
   · rw [yam (by omega)] at pR
     exact pR
 case post =>
   rintro ⟨c1,c2⟩ st' ⟨e1,sm,R,ea,rR,pR⟩;dsimp only at e1;subst e1;exact zaf (h st' R sm ea rR pR)
 case step =>
   rintro k ⟨c1,_⟩ st' _ hkn ⟨e1,sm,h1,h2,R,hl,ea,rR,pR⟩;dsimp only at e1 ⊢;subst e1;have hu:k-A.length<U.length:=by omega
   have ed:U.drop (k-A.length)=U[k-A.length]::U.drop (k-A.length+1):=ybi hu;generalize hx:U[k-A.length]=x at ed;have sx:S x:=sS x (by rw [← hx];exact yaz _ (yaw hu));have sR:∀ z∈R,S z:=fun z hz=>sS z (by
     rcases yai.mp (pR.mem_iff.mp hz) with q | q
     · exact yaZ _ q
     · exact yaz _ (ybe q))
   rw [ed] at ea;have ek:(arrOf st')[pre.length+k]?=some x:=by rw [← yaE,ea,yah (by omega),show pre.length+k-pre.length=k by omega,yah (by omega),hl,ybU];rfl
   have kk:kindOf st'=kd:=sm.kind.trans hk;refine zae (zaV (zao (I:=fun y c st2=>st'=st2∧c.1=none∧c.2.1≤c.2.2∧c.2.2≤k∧c.2.2-c.2.1≤k-y∧(∀ z∈R.take c.2.1,L x z=false)∧(∀ z∈R.drop c.2.2,L x z=true))
     (Q:=fun c st2=>st'=st2∧c.1=none∧c.2.1≤k∧(∀ z∈R.take c.2.1,L x z=false)∧(∀ z∈R.drop c.2.1,L x z=true)) ?step2 ?fin2 ?init2) ?post2)
   case init2=>exact ⟨rfl,rfl,yau _,yad _,by dsimp only;omega,fun z hz=>by simp at hz,fun z hz=>by rw [ybn (by dsimp only;omega)] at hz;simp at hz⟩
   case fin2 =>
     rintro ⟨c1,l,r⟩ st2 ⟨rfl,e1,g1,g2,g3,g4,g5⟩;dsimp only at *;have:l=r:=by omega
     subst this;exact ⟨rfl,e1,g2,g4,g5⟩
   case step2 =>
     rintro y ⟨c1,l,r⟩ st2 _ hy ⟨rfl,e1,g1,g2,g3,g4,g5⟩;dsimp only at *;subst e1;by_cases hlt:l≥r
     · rw [if_pos hlt]
       have:l=r:=by omega
       subst this;exact zaf ⟨rfl,rfl,g2,g4,g5⟩
     · rw [if_neg hlt]
       have hm:(l+r)/2<R.length:=by omega
       refine zae (ZdE C kk ek (ZdA ea hm) sx (sR _ (yaw hm)) ?_);dsimp only;cases el:L x R[(l+r)/2] with
       | true =>
         rw [if_pos rfl];refine zaf ⟨rfl,rfl,by dsimp only;omega,by dsimp only;omega,by dsimp only;omega,g4,fun z hz=>?_⟩;obtain ⟨j,hj,q,rfl⟩:=ZcF hz;dsimp only at hj;rcases ybM ((l+r)/2) j with w | w
         · rcases O.neg x R[j] R[(l+r)/2] sx (sR _ (yaw q)) (sR _ (yaw hm)) el with v | v
           · exact v
           · rw [ZbQ rR w q] at v
             cases v
         · have:j=(l+r)/2:=by omega
           subst this;exact el
       | false =>
         rw [if_neg (by decide)];refine zaf ⟨rfl,rfl,by dsimp only;omega,g2,by dsimp only;omega,fun z hz=>?_,g5⟩;obtain ⟨j,hj,q,rfl⟩:=Zcz hz;dsimp only at hj;rcases ybM j ((l+r)/2) with w | w
         · exact O.step (sR _ (yaw q)) (sR _ (yaw hm)) sx el (ZbQ rR w hm)
         · have:j=(l+r)/2:=by omega
           subst this;exact el
   case post2 =>
     rintro ⟨c1,l,r⟩ st2 ⟨rfl,e1,g2,g4,g5⟩;dsimp only at *;subst e1;rw [moveDown'_eq];refine zae (za0 (zaf ⟨rfl,⟨sm.kind,sm.pend,sm.failed⟩,by omega,by omega,R.take l++(x::R.drop l),?_,?_,?_,?_⟩))
     · simp only [yac,yaB,yak,yaX]
       omega
     · show (bubble (arrOf st') (pre.length+k) (pre.length+k-(pre.length+l))).toList=_
       have:=Zec ea (k-l) (by omega);rw [hl,show k-(k-l)=l by omega] at this;rw [show pre.length+k-(pre.length+l)=k-l by omega,this,show k+1-A.length=k-A.length+1 by omega];simp only [yaf,ybK];rfl
     · refine yan.mpr ⟨rR.sublist (ybj _ _),ycc.mpr ⟨fun z hz=>O.asym _ _ (g5 z hz),rR.sublist (ybb _ _)⟩,fun z hz w hw=>?_⟩
       rcases yaj.mp hw with q | q
       · rw [q]
         exact g4 z hz
       · have r2:=rR
         rw [← yat l R] at r2;exact (yan.mp r2).2.2 z hz w q
     · rw [show k+1-A.length=k-A.length+1 by omega,ybo,yae hu,hx,← yaf]
       refine (List.perm_middle (l₁:=R.take l) (l₂:=R.drop l)).trans ?_;rw [yat];refine (List.Perm.cons x pR).trans ?_;exact (List.perm_append_singleton x _).symm
end
end Srt
namespace Srt
open PySem PyProof.Rows
abbrev Fall (L:Keyed→Keyed→Bool)(l:List Keyed):Prop:=l.Pairwise fun x y=>L x y=false
structure CR (st st':SortSt)(pre all D T:List Keyed):Prop where
 sa:Sa st st'
 arr:(arrOf st').toList=pre++(D++T)
 perm:(D++T).Perm all
section
variable {M:Model}{kd:SortKind}{S:Keyed→Prop}{L:Keyed→Keyed→Bool}
theorem Sa.arr {st st':SortSt}(h:Sa st st')(a:Array Keyed):Sa st (setArr st' a):=⟨h.kind,h.pend,h.failed⟩
theorem CR.get {st st':SortSt}{pre all D T:List Keyed}(h:CR st st' pre all D T){i:Nat}(hi:i<(D++T).length):(arrOf st')[pre.length+i]?=some (D++T)[i]:=by rw [← yaE,h.arr,yah (by omega),show pre.length+i-pre.length=i by omega];exact yae hi
theorem CR.ends {st st':SortSt}{pre all D T:List Keyed}{x y:Keyed}(h:CR st st' pre all (D++[y]) (x::T)){n:Nat}(hn:n=D.length+1):(arrOf st')[pre.length+n]?=some x∧(arrOf st')[pre.length+n-1]?=some y:=by
 subst hn;constructor
 · rw [← yaE,h.arr,yah (by omega),show pre.length+(D.length+1)-pre.length=D.length+1 by omega,yah (by simp)]
   simp
 · rw [← yaE,h.arr,yah (by omega),show pre.length+(D.length+1)-1-pre.length=D.length by omega,yaU (by simp),yah (by omega)]
   simp
theorem Ziy {D:List Keyed}(h:0<D.length):∃ D0 y,D=D0++[y]:=⟨D.dropLast,D.getLast (by intro e;rw [e] at h;simp at h),(List.dropLast_concat_getLast _).symm⟩
theorem Zjn (O:Ord S L){D0:List Keyed}{x y:Keyed}(sD:∀ z∈D0++[y],S z)(sx:S x)(r:Rise L (D0++[y]))(c:L x y=false):Rise L (D0++[y]++[x]):=by
 refine yan.mpr ⟨r,by simp,fun z hz w hw=>?_⟩;have hw:w=x:=by simpa using hw
 subst hw;rcases yai.mp hz with q | q
 · exact O.step (sD z hz) (sD y (by simp)) sx c ((yan.mp r).2.2 z q y (by simp))
 · have q:z=y:=by simpa using q
   rw [q];exact c
theorem Zjj (O:Ord S L){D0:List Keyed}{x y:Keyed}(sD:∀ z∈D0++[y],S z)(sx:S x)(r:Fall L (D0++[y]))(c:L y x=false):Fall L (D0++[y]++[x]):=by
 refine yan.mpr ⟨r,by simp,fun z hz w hw=>?_⟩;have hw:w=x:=by simpa using hw
 subst hw;rcases yai.mp hz with q | q
 · exact O.step sx (sD y (by simp)) (sD z hz) ((yan.mp r).2.2 z q y (by simp)) c
 · have q:z=y:=by simpa using q
   rw [q];exact c
theorem Zdq {D:List Keyed}(h:Fall L D):Rise L D.reverse:=List.pairwise_reverse.mpr h
theorem CR.next {st st':SortSt}{pre all D T:List Keyed}{x:Keyed}(h:CR st st' pre all D (x::T)):CR st st' pre all (D++[x]) T:=⟨h.sa,by rw [h.arr];simp,by have:=h.perm;simpa using this⟩
theorem CR.turn {st st':SortSt}{pre all D1 W T:List Keyed}(h:CR st st' pre all (D1++W) T):CR st (setArr st' (mirror (arrOf st') (pre.length+D1.length) (pre.length+D1.length+W.length) ((pre.length+D1.length+W.length-(pre.length+D1.length))/2))) pre all (D1++W.reverse) T:=by
 refine ⟨h.sa.arr _,?_,?_⟩
 · have e:(arrOf st').toList=(pre++D1)++(W++T):=by rw [h.arr];simp
   have:=ZgJ e;rw [yac] at this;show (mirror _ _ _ _).toList=_;rw [this];simp
 · refine List.Perm.trans ?_ h.perm
   exact (zah _ (List.reverse_perm W)).append_right _
theorem ZdG (C:Cmp M Ar E s kd S L) {st st0:SortSt} {pre all D T:List Keyed} {n nrem:Nat} {f:Nat→Option (Option Nat) × Nat→StateT SortSt Sem (ForInStep (Option (Option Nat) × Nat))} {Q:Option (Option Nat) × Nat→SortSt→Prop} (hk:kindOf st=kd) (sS:∀ x∈all,S x)
   (h:CR st st0 pre all D T) (r:Rise L D) (hn:D.length=n) (nD:0<n) (hnr:n+T.length=nrem)
   (hf:∀ x c,f x c=(do
     let __x ← ltAt' (pre.length+c.2) (pre.length+c.2-1)
     match __x with
     | some smaller=>if smaller=true then pure (ForInStep.done (none,c.2)) else pure (ForInStep.yield (none,c.2+1))
     | _=>pure (ForInStep.done (some none,c.2))))
   (h2:∀ st' D' T' m,CR st st' pre all D' T'→Rise L D'→D'.length=m→n≤m→m+T'.length=nrem→(m=nrem∨∃ D0 y x T0,D'=D0++[y]∧T'=x::T0∧L x y=true)→Q (none,m) st') :
   wpS M Ar E s (forIn [n:nrem] ((none,n):Option (Option Nat) × Nat) f) Q st0:=by
 have O:=C.ord;refine zao (I:=fun x c st'=>c.1=none∧c.2=x∧x≤nrem∧n≤x∧∃ D' T',CR st st' pre all D' T'∧Rise L D'∧D'.length=x∧x+T'.length=nrem) ?step ?fin ?init
 case init=>exact ⟨rfl,rfl,by omega,yad _,D,T,h,r,hn,hnr⟩
 case fin =>
   rintro ⟨c1,c2⟩ st' ⟨e1,e2,h3,h4,D',T',cr,r',hl,hT⟩;dsimp only at e1 e2;subst e1;rw [e2];exact h2 st' D' T' _ cr r' hl (by omega) (by omega) (.inl (by omega))
 case step =>
   rintro x ⟨c1,c2⟩ st' hx1 hx2 ⟨e1,e2,h3,h4,D',T',cr,r',hl,hT⟩;dsimp only at e1 e2;subst e1 e2;obtain ⟨D0,y,rfl⟩:=Ziy (D:=D') (by omega);cases T' with
   | nil=>simp at hT;omega
   | cons z T0 =>
     have hl':c2=D0.length+1:=by rw [← hl];simp
     obtain ⟨g1,g2⟩:=cr.ends hl';have sall:∀ w∈D0++[y]++z::T0,S w:=fun w hw=>sS w (cr.perm.mem_iff.mp hw)
     have sz:S z:=sall z (by simp);have sy:S y:=sall y (by simp);rw [hf];refine zae (ZdE C (cr.sa.kind.trans hk) g1 g2 sz sy ?_);dsimp only;cases e:L z y with
     | true =>
       rw [if_pos rfl];exact zaf (h2 st' _ _ _ cr r' hl (by omega) hT (.inr ⟨D0,y,z,T0,rfl,rfl,e⟩))
     | false =>
       rw [if_neg (by decide)];refine zaf ⟨rfl,rfl,by omega,by omega,D0++[y]++[z],T0,cr.next,Zjn O (fun w hw=>sall w (yaZ _ hw)) sz r' e,?_,?_⟩
       · simp only [yac,yak,ybv] at hl ⊢
         omega
       · simp only [yak] at hT
         omega
structure Dn (L:Keyed→Keyed→Bool)(D:List Keyed)(neq:Nat):Prop where
 fall:Fall L D
 lt:neq<D.length
 same:∀ x∈D.drop (D.length-(neq+1)),∀ y∈D.drop (D.length-(neq+1)),L x y=false
theorem Dn.turn {D:List Keyed}{neq:Nat}(h:Dn L D neq):Fall L (D.take (D.length-(neq+1))++(D.drop (D.length-(neq+1))).reverse):=by have f:=h.fall;rw [← yat (D.length-(neq+1)) D] at f;obtain ⟨f1,f2,f3⟩:=yan.mp f;refine yan.mpr ⟨f1,?_,fun x hx y hy=>f3 x hx y (ycb.mp hy)⟩;refine List.Pairwise.imp_of_mem (R:=fun _ _=>True) (fun {x y} hx hy _=>h.same x (ycb.mp hx) y (ycb.mp hy)) ?_;exact List.pairwise_of_forall fun _ _=>trivial
theorem Zb7 {i j:Nat}{st:SortSt}{Q:Unit→SortSt→Prop}(h:Q () (setArr st (mirror (arrOf st) i j ((j-i)/2)))):wpS M Ar E s (reverseSlice' i j) Q st:=by rw [reverseSlice'_eq];exact za0 h
theorem CR.turnEnd {st st':SortSt}{pre all D T:List Keyed}{neq n:Nat}(h:CR st st' pre all D T)(d:Dn L D neq)(hn:D.length=n) :
   CR st (setArr st' (mirror (arrOf st') (pre.length+n-(neq+1)) (pre.length+n) ((pre.length+n-(pre.length+n-(neq+1)))/2))) pre all (D.take (n-(neq+1))++(D.drop (n-(neq+1))).reverse) T:=by
 subst hn;have hl:=d.lt;have h':CR st st' pre all (D.take (D.length-(neq+1))++D.drop (D.length-(neq+1))) T:=by rw [yat];exact h
 have:=h'.turn;rw [yaB,yaX,Nat.min_eq_left (by omega),show pre.length+(D.length-(neq+1))+(D.length-(D.length-(neq+1)))=pre.length+D.length by omega,show pre.length+(D.length-(neq+1))=pre.length+D.length-(neq+1) by omega] at this;exact this
theorem Zd3 {D:List Keyed}{x:Keyed}{k:Nat}(h:k≤D.length):(D++[x]).drop ((D++[x]).length-(k+1))=D.drop (D.length-k)++[x]:=by rw [yac,List.length_singleton,show D.length+1-(k+1)=D.length-k by omega,List.drop_append_of_le_length (by omega)]
theorem Zg2 (C:Cmp M Ar E s kd S L) {st st0:SortSt} {pre all D T:List Keyed} {n nrem:Nat} {f:Nat→Option (Option Nat) × Nat × Nat→StateT SortSt Sem (ForInStep (Option (Option Nat) × Nat × Nat))} {Q:Option (Option Nat) × Nat × Nat→SortSt→Prop} (hk:kindOf st=kd) (sS:∀ x∈all,S x)
   (h:CR st st0 pre all D T) (r:Dn L D 0) (hn:D.length=n) (hnr:n+T.length=nrem)
   (hf : ∀ x c,f x c=(do
     let __x ← ltAt' (pre.length+c.2.1) (pre.length+c.2.1-1)
     match __x with
     | some smaller =>
       if smaller=true then
         if c.2.2 > 0 then do
           reverseSlice' (pre.length+c.2.1-(c.2.2+1)) (pre.length+c.2.1)
           pure (ForInStep.yield (none,c.2.1+1,0))
         else pure (ForInStep.yield (none,c.2.1+1,0))
       else do
         let __x ← ltAt' (pre.length+c.2.1-1) (pre.length+c.2.1)
         match __x with
         | some larger=>if larger=true then pure (ForInStep.done (none,c.2.1,c.2.2)) else pure (ForInStep.yield (none,c.2.1+1,c.2.2+1))
         | _=>pure (ForInStep.done (some none,c.2.1,c.2.2))
     | _=>pure (ForInStep.done (some none,c.2.1,c.2.2))))
   (h2:∀ st' D' T' m neq,CR st st' pre all D' T'→Dn L D' neq→D'.length=m→m+T'.length=nrem→Q (none,m,neq) st') :
   wpS M Ar E s (forIn [n:nrem] ((none,n,0):Option (Option Nat) × Nat × Nat) f) Q st0:=by
 have O:=C.ord;refine zao (I:=fun x c st'=>c.1=none∧c.2.1=x∧x≤nrem∧∃ D' T',CR st st' pre all D' T'∧Dn L D' c.2.2∧D'.length=x∧x+T'.length=nrem) ?step ?fin ?init
 case init=>exact ⟨rfl,rfl,by omega,D,T,h,r,hn,hnr⟩
 case fin =>
   rintro ⟨c1,c2,c3⟩ st' ⟨e1,e2,h3,D',T',cr,r',hl,hT⟩;dsimp only at e1 e2 r';subst e1;exact h2 st' D' T' _ _ cr r' (hl.trans e2.symm) (by omega)
 case step =>
   rintro x ⟨c1,c2,c3⟩ st' hx1 hx2 ⟨e1,e2,h3,D',T',cr,dn,hl,hT⟩;dsimp only at e1 e2 dn;subst e1 e2;obtain ⟨D0,y,eD⟩:=Ziy (D:=D') (by have:=dn.lt;omega);cases T' with
   | nil=>simp at hT;omega
   | cons z T0 =>
     have hl':c2=D0.length+1:=by rw [← hl,eD];simp
     have cr':=cr;rw [eD] at cr';obtain ⟨g1,g2⟩:=cr'.ends hl';have sall:∀ w∈D'++z::T0,S w:=fun w hw=>sS w (cr.perm.mem_iff.mp hw)
     have sz:S z:=sall z (by simp);have sy:S y:=sall y (by rw [eD];simp);have hle:=dn.lt;simp only [yak] at hT;rw [hf];refine zae (ZdE C (cr.sa.kind.trans hk) g1 g2 sz sy ?_);dsimp only;cases e:L z y with
     | true =>
       rw [if_pos rfl];have zl:∀ w∈D',L w z=false:=by
         intro w hw;have f:=dn.fall;rw [eD] at f hw;rcases yai.mp hw with q | q
         · exact O.step sz sy (sall w (by rw [eD];exact yaZ _ (yaZ _ q))) ((yan.mp f).2.2 w q y (by simp)) (O.asym _ _ e)
         · have q:w=y:=by simpa using q
           rw [q];exact O.asym _ _ e
       have mk:∀ D2:List Keyed,Fall L D2→(∀ w∈D2,L w z=false)→Dn L (D2++[z]) 0:=by
         intro D2 f2 z2;refine ⟨yan.mpr ⟨f2,by simp,fun w hw v hv=>?_⟩,by simp,fun u hu v hv=>?_⟩
         · have hv:v=z:=by simpa using hv
           rw [hv];exact z2 w hw
         · rw [Zd3 (yau _),Nat.sub_zero,ybn (yad _),yaP] at hu hv
           have hu:u=z:=by simpa using hu
           have hv:v=z:=by simpa using hv
           rw [hu,hv];exact O.irr z
       by_cases hq:c3 > 0
       · rw [if_pos hq]
         have ct:=cr.turnEnd dn hl;refine zae (Zb7 (zaf ⟨rfl,rfl,by omega,_,T0,ct.next,mk _ (by have:=dn.turn;rw [hl] at this;exact this) (fun w hw=>zl w ?_),?_,by omega⟩))
         · rcases yai.mp hw with q | q
           · exact ybe q
           · exact ybq (ycb.mp q)
         · simp only [yac,yaB,ybu,yaX,yak,ybv]
           omega
       · rw [if_neg hq]
         refine zaf ⟨rfl,rfl,by omega,D'++[z],T0,cr.next,mk _ dn.fall zl,?_,by omega⟩;simp only [yac,yak,ybv];omega
     | false =>
       rw [if_neg (by decide)];refine zae (ZdE C (cr.sa.kind.trans hk) g2 g1 sy sz ?_);dsimp only;cases e':L y z with
       | true =>
         rw [if_pos rfl];exact zaf (h2 st' _ _ _ _ cr dn hl (by simp only [yak];omega))
       | false =>
         rw [if_neg (by decide)];have yin:y∈D'.drop (D'.length-(c3+1)):=by rw [eD,yac,List.length_singleton,List.drop_append_of_le_length (by omega)];simp
         refine zaf ⟨rfl,rfl,by omega,D'++[z],T0,cr.next,⟨?_,by simp;omega,fun u hu v hv=>?_⟩,?_,by omega⟩
         · have f:=dn.fall
           rw [eD] at f ⊢;exact Zjj O (fun w hw=>sall w (by rw [eD];exact yaZ _ hw)) sz f e'
         · dsimp only at hu hv
           rw [Zd3 (by omega)] at hu hv;have sD:∀ w∈D'.drop (D'.length-(c3+1)),S w:=fun w hw=>sall w (yaZ _ (ybq hw))
           rcases yai.mp hu with q | q
           · rcases yai.mp hv with p | p
             · exact dn.same u q v p
             · have p:v=z:=by simpa using p
               rw [p];exact O.step sz sy (sD u q) (dn.same u q y yin) e'
           · have q:u=z:=by simpa using q
             rw [q];rcases yai.mp hv with p | p
             · exact O.step (sD v p) sy sz e (dn.same y yin v p)
             · have p:v=z:=by simpa using p
               rw [p];exact O.irr z
         · simp only [yac,yak,ybv]
           omega
theorem Zff (C:Cmp M Ar E s kd S L) {st:SortSt} {pre all:List Keyed} {Q:Option Nat→SortSt→Prop} (hk:kindOf st=kd) (sS:∀ x∈all,S x) (e:(arrOf st).toList=pre++all) (ne:0<all.length)
   (h:∀ st' R T,Sa st st'→(arrOf st').toList=pre++(R++T)→Rise L R→(R++T).Perm all→0<R.length→Q (some R.length) st'):wpS M Ar E s (countRun' pre.length all.length) Q st:=by
 have O:=C.ord;rw [countRun'_eq];obtain ⟨x0,T0,rfl⟩:∃ x T,all=x::T:=by
   cases all with
   | nil=>simp at ne
   | cons x T=>exact ⟨x,T,rfl⟩
 have c0:CR st st pre (x0::T0) [x0] T0:=⟨⟨rfl,rfl,rfl⟩,e,List.Perm.refl _⟩
 dsimp only;refine zae (ZdG C hk sS c0 (by simp) rfl (by decide) (by simp;omega) (fun x c=>rfl) fun st1 D T m c1 r1 l1 m1 t1 w1=>?_);dsimp only;by_cases z1:(m==(x0::T0).length)=true
 · rw [if_pos z1,← l1]
   exact zaf (h st1 D T c1.sa c1.arr r1 c1.perm (by omega))
 rw [if_neg z1];have z1':m≠(x0::T0).length:=by simpa using z1
 obtain ⟨D0,y,x,T1,eD,eT,hxy⟩:=w1.resolve_left z1';subst eD eT;have sall:∀ w∈D0++[y]++x::T1,S w:=fun w hw=>sS w (c1.perm.mem_iff.mp hw)
 have sx:S x:=sall x (by simp);have sD:∀ w∈D0++[y],S w:=fun w hw=>sall w (yaZ _ hw)
 have mk:∀ D2:List Keyed,Fall L D2→(∀ w∈D2,L w x=false)→Dn L (D2++[x]) 0:=by
   intro D2 f2 z2;refine ⟨yan.mpr ⟨f2,by simp,fun w hw v hv=>?_⟩,by simp,fun u hu v hv=>?_⟩
   · have hv:v=x:=by simpa using hv
     rw [hv];exact z2 w hw
   · rw [Zd3 (yau _),Nat.sub_zero,ybn (yad _),yaP] at hu hv
     have hu:u=x:=by simpa using hu
     have hv:v=x:=by simpa using hv
     rw [hu,hv];exact O.irr x
 simp only [yak] at t1;by_cases z2:m > 1
 · rw [if_pos z2]
   have hD0:0<D0.length:=by simp only [yac,yak,ybv] at l1;omega
   have e0:(arrOf st1)[pre.length]?=some (D0[0]'hD0):=by have:=c1.get (i:=0) (by simp;omega);rw [ybL] at this;rw [this,yci (by simp),yci hD0]
   have e1:(arrOf st1)[pre.length+m-1]?=some y:=by
     have hl':m=D0.length+1:=by rw [← l1];simp
     exact (c1.ends hl').2
   have s0:S (D0[0]'hD0):=sD _ (yaZ _ (yaw hD0));refine zae (ZdE C (c1.sa.kind.trans hk) e0 e1 s0 (sD y (by simp)) ?_);dsimp only;cases er:L (D0[0]'hD0) y with
   | true =>
     rw [if_pos rfl,← l1];exact zaf (h st1 _ _ c1.sa c1.arr r1 c1.perm (by omega))
   | false =>
     rw [if_neg (by decide)];have up0:∀ w∈D0++[y],L w (D0[0]'hD0)=false:=by
       intro w hw;obtain ⟨j,hj,rfl⟩:=yaW.mp hw;rcases Nat.eq_zero_or_pos j with q | q
       · subst q
         rw [yci hD0];exact O.irr _
       · have:=ZbQ r1 q hj
         rw [yci (i:=0) hD0] at this;exact this
     have upy:∀ w∈D0++[y],L y w=false:=by
       intro w hw;rcases yai.mp hw with q | q
       · exact (yan.mp r1).2.2 w q y (by simp)
       · have q:w=y:=by simpa using q
         rw [q];exact O.irr y
     have sy:S y:=sD y (by simp);have toy:∀ w∈D0++[y],L w y=false:=fun w hw=>O.step sy s0 (sD w hw) (up0 w hw) er
     have eqv:∀ w∈D0++[y],∀ v∈D0++[y],L w v=false:=fun w hw v hv=>O.step (sD v hv) sy (sD w hw) (toy w hw) (upy v hv)
     have xl:∀ w∈D0++[y],L w x=false:=fun w hw=>by
       rcases O.neg x w y sx (sD w hw) sy hxy with q | q
       · exact O.asym _ _ q
       · rw [toy w hw] at q
         cases q
     have cd0:=CR.turn (D1:=[]) (by simpa using c1);rw [ybv,ybL,l1] at cd0;have cd:=cd0.next;have dd:=mk ([]++(D0++[y]).reverse) (by
       rw [yaP];refine List.Pairwise.imp_of_mem (R:=fun _ _=>True) (fun {u v} hu hv _=>eqv u (ycb.mp hu) v (ycb.mp hv)) ?_;exact List.pairwise_of_forall fun _ _=>trivial) (fun w hw=>xl w (by rw [yaP] at hw;exact ycb.mp hw))
     have ld:([]++(D0++[y]).reverse++[x]).length=m+1:=by rw [← l1];simp
     have hTd:m+1+T1.length=(x0::T0).length:=by simp only [yak] at t1 ⊢;omega
     refine zae (Zb7 ?_);refine zae (wpS_lift (zaQ ⟨rfl,?_⟩));refine zae (Zg2 C hk sS cd dd ld hTd (fun x c=>rfl) fun st3 D3 T3 m3 neq c3 d3 l3 hT3=>?_);dsimp only;have p3:=d3.lt;by_cases hq:neq > 0
     · rw [if_pos hq]
       have ct:=c3.turnEnd d3 l3;have ft:=d3.turn;rw [l3] at ft;have lt3:(List.take (m3-(neq+1)) D3++(List.drop (m3-(neq+1)) D3).reverse).length=m3:=by simp only [yac,yaB,ybu,yaX];omega
       refine zae (Zb7 ?_);have ct2:=CR.turn (D1:=[]) (by simpa using ct);rw [ybv,ybL,lt3] at ct2;refine zae (Zb7 ?_);refine zae (ZdG C hk sS ct2 (by rw [yaP];exact Zdq ft) (by simp only [yaP,ybu];exact lt3) (by omega) hT3 (fun x c=>rfl) fun st5 D5 T5 m5 c5 r5 l5 n5 t5 w5=>?_);dsimp only;rw [← l5];exact zaf (h st5 D5 T5 c5.sa c5.arr r5 c5.perm (by omega))
     · rw [if_neg hq]
       have ct:=c3;have ft:=d3.fall;have lt3:=l3;have ct2:=CR.turn (D1:=[]) (by simpa using ct);rw [ybv,ybL,lt3] at ct2;refine zae (Zb7 ?_);refine zae (ZdG C hk sS ct2 (by rw [yaP];exact Zdq ft) (by simp only [yaP,ybu];exact lt3) (by omega) hT3 (fun x c=>rfl) fun st5 D5 T5 m5 c5 r5 l5 n5 t5 w5=>?_);dsimp only;rw [← l5];exact zaf (h st5 D5 T5 c5.sa c5.arr r5 c5.perm (by omega))
 · rw [if_neg z2]
   have hD0:D0=[]:=by simp only [yac,yak,ybv] at l1;exact ybA.mp (by omega)
   subst hD0;have cd:=c1.next;have dd:=mk ([]++[y]) (by simp) (fun w hw=>by
     have hw:w=y:=by simpa using hw
     rw [hw];exact O.asym _ _ hxy)
   have ld:([]++[y]++[x]).length=m+1:=by rw [← l1];simp
   have hTd:m+1+T1.length=(x0::T0).length:=by simp only [yak] at t1 ⊢;omega
   refine zae (wpS_lift (zaQ ⟨rfl,?_⟩));refine zae (Zg2 C hk sS cd dd ld hTd (fun x c=>rfl) fun st3 D3 T3 m3 neq c3 d3 l3 hT3=>?_);dsimp only;have p3:=d3.lt;by_cases hq:neq > 0
   · rw [if_pos hq]
     have ct:=c3.turnEnd d3 l3;have ft:=d3.turn;rw [l3] at ft;have lt3:(List.take (m3-(neq+1)) D3++(List.drop (m3-(neq+1)) D3).reverse).length=m3:=by simp only [yac,yaB,ybu,yaX];omega
     refine zae (Zb7 ?_);have ct2:=CR.turn (D1:=[]) (by simpa using ct);rw [ybv,ybL,lt3] at ct2;refine zae (Zb7 ?_);refine zae (ZdG C hk sS ct2 (by rw [yaP];exact Zdq ft) (by simp only [yaP,ybu];exact lt3) (by omega) hT3 (fun x c=>rfl) fun st5 D5 T5 m5 c5 r5 l5 n5 t5 w5=>?_);dsimp only;rw [← l5];exact zaf (h st5 D5 T5 c5.sa c5.arr r5 c5.perm (by omega))
   · rw [if_neg hq]
     have ct:=c3;have ft:=d3.fall;have lt3:=l3;have ct2:=CR.turn (D1:=[]) (by simpa using ct);rw [ybv,ybL,lt3] at ct2;refine zae (Zb7 ?_);refine zae (ZdG C hk sS ct2 (by rw [yaP];exact Zdq ft) (by simp only [yaP,ybu];exact lt3) (by omega) hT3 (fun x c=>rfl) fun st5 D5 T5 m5 c5 r5 l5 n5 t5 w5=>?_);dsimp only;rw [← l5];exact zaf (h st5 D5 T5 c5.sa c5.arr r5 c5.perm (by omega))
end
end Srt
namespace Srt
open PySem PyProof.Rows
def Pd (L:Keyed→Keyed→Bool):Nat→List (Nat × Nat × Nat)→List (List Keyed)→Prop
 | _,[],[]=>True
 | off,p::ps,R::rs=>p.1=off∧p.2.1=R.length∧0<R.length∧Rise L R∧Pd L (off+R.length) ps rs
 | _,_,_=>False
section
variable {S:Keyed→Prop}{L:Keyed→Keyed→Bool}
theorem Pd.len:∀ {off:Nat} {ps:List (Nat × Nat × Nat)} {rs:List (List Keyed)},Pd L off ps rs→ps.length=rs.length
 | _,[],[],_=>rfl
 | _,_::_,_::_,h=>by simp [Pd.len h.2.2.2.2]
 | _,[],_::_,h=>h.elim
 | _,_::_,[],h=>h.elim
theorem Pd.append:∀ {off:Nat} {ps qs:List (Nat × Nat × Nat)} {rs ts:List (List Keyed)},Pd L off ps rs→Pd L (off+rs.flatten.length) qs ts→Pd L off (ps++qs) (rs++ts)
 | _,[],_,[],_,_,h=>by simpa using h
 | _,_::_,_,_::_,_,h,h2=>⟨h.1,h.2.1,h.2.2.1,h.2.2.2.1,Pd.append h.2.2.2.2 (by simpa [yct] using h2)⟩
 | _,[],_,_::_,_,h,_=>h.elim
 | _,_::_,_,[],_,h,_=>h.elim
theorem Pd.split:∀ {off:Nat} {ps:List (Nat × Nat × Nat)} (rs:List (List Keyed)) {ts:List (List Keyed)},Pd L off ps (rs++ts)→∃ p1 p2,ps=p1++p2∧Pd L off p1 rs∧Pd L (off+rs.flatten.length) p2 ts
 | _,ps,[],_,h=>⟨[],ps,rfl,trivial,by simpa using h⟩
 | _,p::ps,R::rs,_,h=>by
   obtain ⟨p1,p2,e,h1,h2⟩:=Pd.split rs h.2.2.2.2;exact ⟨p::p1,p2,by rw [e];rfl,⟨h.1,h.2.1,h.2.2.1,h.2.2.2.1,h1⟩,by simpa [yct] using h2⟩
 | _,[],_::_,_,h=>h.elim
theorem Pd.pos:∀ {off:Nat} {ps:List (Nat × Nat × Nat)} {rs:List (List Keyed)},Pd L off ps rs→rs.length≤rs.flatten.length
 | _,[],[],_=>by simp
 | _,_::_,R::rs,h=>by
   have:=Pd.pos h.2.2.2.2;have:=h.2.2.1;simp only [ybw,yac,yak];omega
 | _,[],_::_,h=>h.elim
 | _,_::_,[],h=>h.elim
structure SI (L:Keyed→Keyed→Bool)(kd:SortKind)(all:List Keyed)(st:SortSt)(runs:List (List Keyed))(T:List Keyed):Prop where
 arr:(arrOf st).toList=runs.flatten++T
 perm:(runs.flatten++T).Perm all
 pend:Pd L 0 (pendingOf st).toList runs
 kind:kindOf st=kd
 failed:failedOf st=none
theorem split_at {α:Type}{l:List α}{i:Nat}(h:i+1<l.length):∃ l1 a b l2,l=l1++(a::b::l2)∧l1.length=i:=by refine ⟨l.take i,l[i],l[i+1],l.drop (i+2),?_,by rw [yaB];omega⟩;rw [← ybi (by omega),← ybi (by omega),yat]
end
section
variable {M:Model}{kd:SortKind}{S:Keyed→Prop}{L:Keyed→Keyed→Bool}
theorem Zca (C:Cmp M Ar E s kd S L){all:List Keyed}{st:SortSt}{runs:List (List Keyed)}{T:List Keyed}{i:Nat}{Q:Bool→SortSt→Prop}(sS:∀ x∈all,S x)(h:SI L kd all st runs T)(hi:i+1<runs.length)
   (q:∀ st' runs',SI L kd all st' runs' T→runs'.length+1=runs.length→runs'.flatten.length=runs.flatten.length→Q true st'):wpS M Ar E s (mergeAt' i) Q st:=by
 obtain ⟨r1,A,B,r2,er,hl⟩:=split_at hi;subst er;obtain ⟨p1,p2,ep,d1,d2⟩:=Pd.split r1 h.pend;have lp:=d1.len;obtain ⟨a,b,p3,rfl⟩:∃ a b p3,p2=a::b::p3:=by
   have:=d2.len
   match p2,this with
   | a::b::p3,_=>exact ⟨a,b,p3,rfl⟩
   | [],e=>simp at e
   | [_],e=>simp at e
 obtain ⟨a1,a2,a3,a4,b1,b2,b3,b4,d3⟩:=d2;rw [ybD] at a1 b1 d3;obtain ⟨as_,an,apw⟩:=a;obtain ⟨bs_,bn,bpw⟩:=b;dsimp only at a1 a2 b1 b2;subst a1 a2 b1 b2;have hpa:(pendingOf st)[i]?=some (r1.flatten.length,A.length,apw):=by rw [← yaE,ep,yah (by omega),show i-p1.length=0 by omega];rfl
 have hpb:(pendingOf st)[i+1]?=some (r1.flatten.length+A.length,B.length,bpw):=by rw [← yaE,ep,yah (by omega),show i+1-p1.length=1 by omega];rfl
 have earr:(arrOf st).toList=r1.flatten++(A++(B++(r2.flatten++T))):=by rw [h.arr];simp
 refine Zhx C h.kind h.failed (fun x hx=>sS x (h.perm.mem_iff.mp (by rw [← h.arr];exact hx))) ⟨earr,⟨_,hpa⟩,⟨_,hpb⟩,a4,b4,a3,b3⟩ fun st' R pw k' f' ar' rR pR pe'=>?_
 refine q st' (r1++(R::r2)) ⟨?_,?_,?_,k',f'⟩ ?_ ?_
 · rw [ar']
   simp
 · refine List.Perm.trans ?_ h.perm
   simp only [ybZ,ybw,yaf];refine zah _ ?_;rw [← yaf A];exact pR.append_right _
 · rw [pe']
   have lR:R.length=A.length+B.length:=by rw [pR.length_eq,yac]
   have ee:(((pendingOf st).setIfInBounds i (r1.flatten.length,A.length+B.length,pw)).eraseIdxIfInBounds (i+1)).toList=p1++((r1.flatten.length,A.length+B.length,pw)::p3):=by
     have sz:(pendingOf st).size=p1.length+(p3.length+2):=by rw [← yag,ep];simp
     rw [Array.eraseIdxIfInBounds,dif_pos (by rw [Array.size_setIfInBounds];omega)];have hp1:p1.length=i:=lp.trans hl;rw [Array.toList_eraseIdx,Array.toList_setIfInBounds,ep,List.set_append_right _ _ (by omega),show i-p1.length=0 by omega,List.set_cons_zero,List.eraseIdx_append_of_length_le (by omega),show i+1-p1.length=1 by omega];rfl
   rw [ee];refine Pd.append d1 ?_;rw [ybD];exact ⟨rfl,lR.symm,by show 0<R.length;omega,rR,by rw [lR,← yct];exact d3⟩
 · simp only [yac,yak]
   omega
 · simp only [ybZ,ybw,yac,pR.length_eq]
   omega
theorem Zg9 (p:Prop)[Decidable p](a:Nat):(if p then a-1 else a)≤a:=by split<;>omega
theorem SI.setLast {all:List Keyed} {st:SortSt} {runs:List (List Keyed)} {T:List Keyed} (h:SI L kd all st runs T) (pw:Nat):SI L kd all (setPending st ((pendingOf st).modify ((pendingOf st).size-1) fun (s1,len,_)=>(s1,len,pw))) runs T:=by
 refine ⟨h.arr,h.perm,?_,h.kind,h.failed⟩;show Pd L 0 ((pendingOf st).modify _ _).toList runs;rw [Array.toList_modify];generalize (pendingOf st).size-1=j;have:∀ (ps:List (Nat × Nat × Nat)) (rs:List (List Keyed)) (off j:Nat),Pd L off ps rs→Pd L off (ps.modify j fun (s1,len,_)=>(s1,len,pw)) rs:=by
   intro ps;induction ps with
   | nil=>intro rs off j h;simpa using h
   | cons p ps ih =>
     intro rs off j h;cases rs with
     | nil=>exact h.elim
     | cons R rs =>
       obtain ⟨p0,p1,p2⟩:=p;cases j with
       | zero=>exact h
       | succ j=>exact ⟨h.1,h.2.1,h.2.2.1,h.2.2.2.1,ih rs _ j h.2.2.2.2⟩
 exact this _ _ _ _ h.pend
theorem SI.push {all:List Keyed}{st st':SortSt}{runs:List (List Keyed)}{R T:List Keyed}(pe:Pd L 0 (pendingOf st').toList runs)(k:kindOf st'=kd)(f:failedOf st'=none)(ar:(arrOf st').toList=runs.flatten++(R++T))(pm:(runs.flatten++(R++T)).Perm all)(rR:Rise L R)(nR:0<R.length){lo n:Nat}
   (hlo:lo=runs.flatten.length) (hn:n=R.length):SI L kd all (setPending st' ((pendingOf st').push (lo,n,0))) (runs++[R]) T:=by
 subst hlo hn;refine ⟨?_,?_,?_,k,f⟩
 · show (arrOf st').toList=_
   rw [ar];simp
 · have e:(runs++[R]).flatten++T=runs.flatten++(R++T):=by simp
   rw [e];exact pm
 · show Pd L 0 ((pendingOf st').push _).toList _
   rw [ych];exact Pd.append pe ⟨by simp,rfl,nR,rR,trivial⟩
theorem Zfc (C:Cmp M Ar E s kd S L) {all:List Keyed} {st:SortSt} {Q:Unit→SortSt→Prop} (sS:∀ x∈all,S x) (k:kindOf st=kd) (f:failedOf st=none) (pe:pendingOf st=#[]) (ar:(arrOf st).toList=all)
   (h:∀ st',failedOf st'=none→(arrOf st').toList.Perm all→Rise L (arrOf st').toList→Q () st'):wpS M Ar E s sortRuns' Q st:=by
 have h0:SI L kd all st [] all:=⟨by simpa using ar,by simp,by rw [pe];trivial,k,f⟩
 have sz:(arrOf st).size=all.length:=by rw [← yag,ar]
 rw [sortRuns'_eq];refine zae (wpS_get ?_);dsimp only;rw [sz];generalize minRun' all.length all.length 0=mr;refine zae (zaV (zao (I:=fun x c st'=>c.1=none∧x≤c.2∧∃ runs T,SI L kd all st' runs T∧runs.flatten.length=c.2)
   (Q:=fun c st'=>c.1=none∧∃ runs,SI L kd all st' runs []) ?step ?fin ?init) ?post)
 case init=>exact ⟨rfl,yau _,[],all,h0,rfl⟩
 case fin =>
   rintro ⟨c1,lo⟩ st' ⟨e1,hx,runs,T,si,hl⟩;refine ⟨e1,runs,?_⟩;dsimp only at hx hl;have:=si.perm.length_eq;rw [yac] at this;have hT:T=[]:=ybA.mp (by omega);subst hT;exact si
 case post =>
   rintro ⟨c1,lo⟩ st' ⟨e1,runs,si⟩;dsimp only at e1 ⊢;subst e1;dsimp only;refine zae (zaV (zao (I:=fun x c st'=>c.1=none∧∃ runs,SI L kd all st' runs []∧(runs.length+x≤all.length∨runs.length≤1)) (Q:=fun c st'=>c.1=none∧∃ runs,SI L kd all st' runs []∧runs.length≤1) ?step5 ?fin5 ?init5) ?post5)
   case init5 =>
     refine ⟨rfl,runs,si,.inl ?_⟩;have h1:=si.pend.pos;have h2:=si.perm.length_eq;rw [yaH] at h2;omega
   case fin5 =>
     rintro ⟨c1,u⟩ st' ⟨e1,runs,si,hr⟩;refine ⟨e1,runs,si,?_⟩;omega
   case post5 =>
     rintro ⟨c1,u⟩ st' ⟨e1,runs,si,hr⟩;dsimp only at e1;subst e1;have e2:=si.arr;rw [yaH] at e2;refine zaf (h st' si.failed ?_ ?_)
     · have:=si.perm
       rw [yaH] at this;rw [e2];exact this
     · rw [e2]
       have pd:=si.pend
       match runs,hr,pd with
       | [],_,_=>simp
       | [R],_,pd =>
         match hq:(pendingOf st').toList,pd with
         | p::ps,pd=>simpa using pd.2.2.2.1
         | [],pd=>exact pd.elim
   case step5 =>
     rintro x ⟨c1,u⟩ st' _ hx ⟨e1,runs,si,hr⟩;dsimp only at e1;subst e1;have pl:(pendingOf st').size=runs.length:=by rw [← yag];exact si.pend.len
     refine zae (wpS_get ?_);by_cases z:(pendingOf st').size≤1
     · rw [if_pos z]
       exact zaf ⟨rfl,runs,si,by omega⟩
     · rw [if_neg z]
       refine zae (Zca C sS si (ybG (Nat.add_le_add_right (Zg9 _ _) 1) (by omega)) fun st4 runs4 si4 hl4 _=>?_);simp only [ycl,yaR,zaJ];exact zaf ⟨rfl,runs4,si4,by omega⟩
 case step =>
   rintro x ⟨c1,lo⟩ st' _ hx ⟨e1,hxl,runs,T,si,hl⟩;dsimp only at e1 hxl hl ⊢;subst e1;by_cases z:lo≥all.length
   · rw [if_pos z]
     refine zaf ⟨rfl,runs,?_⟩;have:=si.perm.length_eq;rw [yac] at this;have hT:T=[]:=ybA.mp (by omega);subst hT;exact si
   · rw [if_neg z]
     have lT:all.length-lo=T.length:=by have:=si.perm.length_eq;rw [yac] at this;omega
     rw [lT];have nT:0<T.length:=by omega
     have sT:∀ x∈T,S x:=fun x hx=>sS x (si.perm.mem_iff.mp (yaz _ hx))
     have cnt:=fun {Q:Option Nat→SortSt→Prop}=>Zff (Q:=Q) (M:=M) (Ar:=Ar) (E:=E) (s:=s) C (st:=st') (pre:=runs.flatten) (all:=T) si.kind sT si.arr nT
     rw [hl] at cnt;refine zae (cnt fun st1 R1 T1 sa1 ar1 rR1 pR1 nR1=>?_);dsimp only;have pm1:(runs.flatten++(R1++T1)).Perm all:=(zah _ pR1).trans si.perm;have l1:R1.length+T1.length=T.length:=by rw [← yac];exact pR1.length_eq
     by_cases z2:R1.length<mr
     · rw [if_pos z2]
       refine zae (wpS_lift (zaQ ⟨rfl,?_⟩));have hk:min T.length mr=R1.length+(T1.take (min T.length mr-R1.length)).length:=by rw [yaB];omega
       have bs:=fun {Q:Bool→SortSt→Prop}=>Zh4 (Q:=Q) (M:=M) (Ar:=Ar) (E:=E) (s:=s) C (st:=st1) (pre:=runs.flatten) (A:=R1) (U:=T1.take (min T.length mr-R1.length)) (post:=T1.drop (min T.length mr-R1.length)) (sa1.kind.trans si.kind)
         (fun x hx=>sT x (pR1.mem_iff.mp (by
           rcases yai.mp hx with q | q
           · exact yaZ _ q
           · exact yaz _ (ybe q)))) (by rw [yat];exact ar1) rR1 nR1
       rw [hl,← hk] at bs;refine zae (bs fun st2 R sa2 ar2 rR pR=>?_);simp only [ycl,yaR,zaJ];have hn:min T.length mr=R.length:=by rw [pR.length_eq,yac];exact hk
       have nR:0<R.length:=by omega
       generalize hT2:T1.drop (min T.length mr-R1.length)=T2 at *;have si2:SI L kd all st2 runs (R++T2):=by refine ⟨ar2,?_,by rw [sa2.pend,sa1.pend];exact si.pend,sa2.kind.trans (sa1.kind.trans si.kind),sa2.failed.trans (sa1.failed.trans si.failed)⟩;refine List.Perm.trans (zah _ ?_) pm1;refine (pR.append_right _).trans ?_;rw [yaf,← hT2,yat]
       generalize hnn:min T.length mr=nn at *;refine zae (wpS_get ?_);cases eb:(pendingOf st2).back? with
       | none =>
         dsimp only;refine zae (za0 (zaf ⟨rfl,by dsimp only;omega,_,T2,SI.push (st:=st2) si2.pend si2.kind si2.failed si2.arr si2.perm rR nR hl.symm hn,?_⟩));simp only [ybZ,ybw,List.flatten_nil,yaH,yac];omega
       | some p =>
         obtain ⟨s1,n1,w1⟩:=p;dsimp only;refine zae (zaV (zao (I:=fun _ c st3=>c.1=none∧∃ runs3,SI L kd all st3 runs3 (R++T2)∧runs3.flatten.length=lo) (Q:=fun c st3=>c.1=none∧∃ runs3,SI L kd all st3 runs3 (R++T2)∧runs3.flatten.length=lo) ?stepm (fun _ _ z=>z) ?initm) ?postm)
         case initm=>exact ⟨rfl,runs,si2,hl⟩
         case stepm =>
           rintro y ⟨c1,u⟩ st3 _ _ ⟨e3,runs3,si3,hl3⟩;dsimp only at e3;subst e3;refine zae (wpS_get ?_);have pl:(pendingOf st3).size=runs3.length:=by rw [← yag];exact si3.pend.len
           split
           next older he =>
             split
             · exact zaf ⟨rfl,runs3,si3,hl3⟩
             · have h1:(pendingOf st3).size > 1:=by
                 by_cases hz:(pendingOf st3).size > 1
                 · exact hz
                 · rw [if_neg hz] at he
                   cases he
               refine zae (Zca C sS si3 (by omega) fun st4 runs4 si4 _ hf4=>?_);simp only [ycl,yaR,zaJ];exact zaf ⟨rfl,runs4,si4,hf4.trans hl3⟩
           next=>exact zaf ⟨rfl,runs3,si3,hl3⟩
         case postm =>
           rintro ⟨c1,u⟩ st3 ⟨e3,runs3,si3,hl3⟩;dsimp only at e3;subst e3;dsimp only;refine zae (za0 ?_);have si4:=si3.setLast (power' all.length (2*s1+n1) (2*s1+n1+n1+nn) all.length);refine zae (za0 (zaf ⟨rfl,by dsimp only;omega,_,T2,SI.push (st:=st3) si4.pend si4.kind si4.failed si4.arr si4.perm rR nR hl3.symm hn,?_⟩));simp only [ybZ,ybw,List.flatten_nil,yaH,yac];omega
     · rw [if_neg z2]
       have si2:SI L kd all st1 runs (R1++T1):=⟨ar1,pm1,by rw [sa1.pend];exact si.pend,sa1.kind.trans si.kind,sa1.failed.trans si.failed⟩
       have rR:=rR1;have nR:=nR1;obtain ⟨nn,hn⟩:∃ nn,nn=R1.length:=⟨_,rfl⟩
       rw [← hn];refine zae (wpS_get ?_);cases eb:(pendingOf st1).back? with
       | none =>
         dsimp only;refine zae (za0 (zaf ⟨rfl,by dsimp only;omega,_,T1,SI.push (st:=st1) si2.pend si2.kind si2.failed si2.arr si2.perm rR nR hl.symm hn,?_⟩));simp only [ybZ,ybw,List.flatten_nil,yaH,yac];omega
       | some p =>
         obtain ⟨s1,n1,w1⟩:=p;dsimp only;refine zae (zaV (zao (I:=fun _ c st3=>c.1=none∧∃ runs3,SI L kd all st3 runs3 (R1++T1)∧runs3.flatten.length=lo) (Q:=fun c st3=>c.1=none∧∃ runs3,SI L kd all st3 runs3 (R1++T1)∧runs3.flatten.length=lo) ?stepm (fun _ _ z=>z) ?initm) ?postm)
         case initm=>exact ⟨rfl,runs,si2,hl⟩
         case stepm =>
           rintro y ⟨c1,u⟩ st3 _ _ ⟨e3,runs3,si3,hl3⟩;dsimp only at e3;subst e3;refine zae (wpS_get ?_);have pl:(pendingOf st3).size=runs3.length:=by rw [← yag];exact si3.pend.len
           split
           next older he =>
             split
             · exact zaf ⟨rfl,runs3,si3,hl3⟩
             · have h1:(pendingOf st3).size > 1:=by
                 by_cases hz:(pendingOf st3).size > 1
                 · exact hz
                 · rw [if_neg hz] at he
                   cases he
               refine zae (Zca C sS si3 (by omega) fun st4 runs4 si4 _ hf4=>?_);simp only [ycl,yaR,zaJ];exact zaf ⟨rfl,runs4,si4,hf4.trans hl3⟩
           next=>exact zaf ⟨rfl,runs3,si3,hl3⟩
         case postm =>
           rintro ⟨c1,u⟩ st3 ⟨e3,runs3,si3,hl3⟩;dsimp only at e3;subst e3;dsimp only;refine zae (za0 ?_);have si4:=si3.setLast (power' all.length (2*s1+n1) (2*s1+n1+n1+nn) all.length);refine zae (za0 (zaf ⟨rfl,by dsimp only;omega,_,T1,SI.push (st:=st3) si4.pend si4.kind si4.failed si4.arr si4.perm rR nR hl3.symm hn,?_⟩));simp only [ybZ,ybw,List.flatten_nil,yaH,yac];omega
end
end Srt
namespace Srt
open PySem PyProof.Rows
abbrev SInt (p:Keyed):Prop:=∃ n t,p.1=.int n t
abbrev LInt (x y:Keyed):Bool:=decide (numOf x.1<numOf y.1)
theorem cmp_int:Cmp (model prog w) Ar E s oneType' SInt LInt where
 lt:=fun x y st Q hx hy hk h=>by
   obtain ⟨x1,x2⟩:=x;obtain ⟨y1,y2⟩:=y;obtain ⟨n,t,ex⟩:=hx;obtain ⟨m,u,ey⟩:=hy;dsimp only at ex ey;subst ex ey;rw [lt'_eq];refine zae (wpS_get ?_);rw [hk,keyLt'_oneType];exact zae (wpS_lift (za1 (oneLt_int ⟨rfl,zaf h⟩)))
 asym:=fun x y h=>by
   have h:numOf x.1<numOf y.1:=by simpa using h
   simp;omega
 neg:=fun x y z _ _ _ h=>by
   have h:numOf x.1<numOf z.1:=by simpa using h
   simp;omega
theorem sort_ints {a:Addr} {vs:List Value} {ns:List Int} {n:Nat} {P:Fin→Shared→Prop} (ho:s.heap.get? a=some (seqObj "list" vs.toArray n)) (hI:IntsAre vs ns) (hz:vs.length≤sizeLine)
   (h:∀ (out:Array Value) (ns':List Int),IntsAre out.toList ns'→ns'.Perm ns→ns'.Pairwise (·≤·)→P (.done (.ret .none)) { s with heap:=sortedHeap s.heap a vs out }) :
   wpAny (model prog w) Ar (Builtin.«list.sort» ⟨[.ref a],[]⟩) P E s:=by
 rw [list_sort_plain];have la:a<s.heap.objs.size:=zad ho;refine zaa (listItems_at ho rfl (zaa (listUpdate_at ho rfl ?_ (hsz:=by simpa using hz))));obtain ⟨e1,h1⟩:∃ e1,(s.heap.update a (Obj.mapSeq fun _=>#[])).get? a=some (seqObj "list" #[] e1):=⟨_,get?_update_seq ho (fun _=>#[])⟩
 refine zaa (seqEpoch_at h1 rfl (zaa (wpAny_newTuple ?_ (by simpa using hz))));refine zaa (wpAny_newList (zaj ?_));have h6:(((s.heap.update a (Obj.mapSeq fun _=>#[])).push (seqObj "tuple" vs.toArray 0)).push (seqObj "list" #[] 0)).get? a=some (seqObj "list" #[] e1) :=
   zac _ (zac _ h1)
 show wpAny (model prog w) Ar _ P E { s with heap:=((s.heap.update a (Obj.mapSeq fun _=>#[])).push (seqObj "tuple" vs.toArray 0)).push (seqObj "list" #[] 0) };dsimp only;have pz:(pairsOf vs).size=vs.length:=pairsOf_size vs;have done:∀ st':SortSt,(arrOf st').toList.Perm (pairsOf vs).toList→Rise LInt (arrOf st').toList→P (.done (.ret .none)) { s with heap:=sortedHeap s.heap a vs ((arrOf st').map (·.2)) }:=by
   intro st' hp hs;have hp':(arrOf st').Perm (pairsOf vs):=Array.perm_iff_toList_perm.mpr hp;obtain ⟨ns',g1,g2,g3⟩:=sorted_out hI hp' (fun i j hij hj=>by
     have hj':j<(arrOf st').size:=by rw [hp'.size_eq];exact hj
     rw [K_eq (by omega),K_eq hj'];rcases ybM i j with q | q
     · have:=List.pairwise_iff_getElem.mp hs i j (by simp;omega) (by simpa using hj') q
       simp at this;exact this
     · have:i=j:=by omega
       subst this;exact Int.le_refl _)
   exact h _ ns' g1 g2 g3
 by_cases h2:vs.toArray.size<2
 · rw [if_pos h2,if_pos h2]
   refine zaa (zab ?_);rw [StateT.run_pure];refine zaa (zab ?_);dsimp only;refine zaa (seqEpoch_at h6 rfl (zaa (listUpdate_at h6 rfl ?_ (hsz2:=?_))))
   · simp only [zaR,yaR,zaJ]
     refine zab (done (SortSt.mk' general' (pairsOf vs) #[] 7 none) (List.Perm.refl _) ?_);show Rise LInt (pairsOf vs).toList;have hl:(pairsOf vs).toList.length<2:=by rw [yag,pz];simpa using h2
     match (pairsOf vs).toList,hl with
     | [],_=>simp
     | [_],_=>simp
     | _::_::_,hl=>simp at hl;omega
   · rw [ycr]
     exact yaN (Nat.le_of_eq pz) (Nat.le_succ_of_le hz)
 · rw [if_neg h2,if_neg h2]
   obtain ⟨v1,v2,rest,ev⟩:∃ v1 v2 rest,vs=v1::v2::rest:=by
     match vs,h2 with
     | [],h2=>simp at h2
     | [_],h2=>simp at h2
     | v1::v2::rest,_=>exact ⟨v1,v2,rest,rfl⟩
   have kk:keyKind' vs.toArray=pure oneType':=by subst ev;exact keyKind_ints hI
   rw [kk];refine zaa (zab ?_);refine zaa (zaF (Zfc (all:=(pairsOf vs).toList) (st:=SortSt.mk' oneType' (pairsOf vs) #[] 7 none) (Q:=fun _ st'=>(arrOf st').toList.Perm (pairsOf vs).toList∧failedOf st'=none∧Rise LInt (arrOf st').toList)
     cmp_int hI.intKeys rfl rfl rfl rfl fun st' f1 p1 r1=>⟨p1,f1,r1⟩) ?_ fun _ _ e=>e)
   rintro ⟨⟨⟩,st'⟩ s' ⟨rfl,hp,hf,hr⟩;dsimp only;refine zaa (seqEpoch_at h6 rfl (zaa (listUpdate_at h6 rfl ?_ (hsz2:=?_))))
   · rw [hf]
     simp only [zaR,yaR,zaJ];exact zab (done st' hp hr)
   · rw [ycr,← yag,hp.length_eq,yag]
     exact yaN (Nat.le_of_eq pz) (Nat.le_succ_of_le hz)
end Srt
namespace L2
open PySem PySem.Spec PyProof.Rows
theorem boot_sorted:bootBuiltins "sorted"=some (.builtin "sorted"):=by decide +kernel
end L2
namespace Srt
open PySem PyProof.Rows PySem.W
end Srt
namespace L2
open PySem PySem.Spec PyProof.Rows
end L2
namespace SG
open PySem PySem.Spec PyProof.Rows
def Ris (xs:Array Nat):Prop:=∀ i j (hj:j<xs.size) (h:i<j),xs[i]<xs[j]
theorem Ris.le {xs:Array Nat}(r:Ris xs){i j:Nat}(hj:j<xs.size)(h:i≤j):xs[i]≤xs[j]:=by
 rcases ybM i j with q | q
 · exact ybC (r i j hj q)
 · have:i=j:=Nat.le_antisymm h q
   subst this;exact yad _
theorem go_ok {xs:Array Nat} (r:Ris xs) (j:Nat):∀ (n lo hi:Nat),hi-lo≤n→lo≤hi→hi≤xs.size→(∀ i (h:i<xs.size),i<lo→xs[i]<j)→(∀ i (h:i<xs.size),hi≤i→j≤xs[i]) →
   (∀ i (h:i<xs.size),i<SetTable.below.go xs j n lo hi→xs[i]<j)∧(∀ i (h:i<xs.size),SetTable.below.go xs j n lo hi≤i→j≤xs[i])∧SetTable.below.go xs j n lo hi≤xs.size
 | 0,lo,hi,hn,h1,h2,a,b=>by
   have e:lo=hi:=by omega
   subst e;unfold SetTable.below.go;exact ⟨a,b,h2⟩
 | n + 1,lo,hi,hn,h1,h2,a,b=>by
   unfold SetTable.below.go;by_cases q:lo<hi
   · rw [if_pos q]
     have hm:(lo+hi)/2<xs.size:=by omega
     have eg:xs.getD ((lo+hi)/2) j=xs[(lo+hi)/2]:=by simp [Array.getD,hm]
     dsimp only;rw [eg];by_cases c:xs[(lo+hi)/2]<j
     · rw [if_pos c]
       refine go_ok r j n ((lo+hi)/2+1) hi (by omega) (by omega) h2 (fun i h hi'=>?_) b;exact ybG (r.le hm (by omega)) c
     · rw [if_neg c]
       refine go_ok r j n lo ((lo+hi)/2) (by omega) (by omega) (by omega) a (fun i h hi'=>?_);exact yaN (Nat.le_of_not_lt c) (r.le h hi')
   · rw [if_neg q]
     have e:lo=hi:=by omega
     subst e;exact ⟨a,b,h2⟩
theorem Zhp {xs:Array Nat}(r:Ris xs)(j:Nat):(∀ i (h:i<xs.size),i<SetTable.below xs j→xs[i]<j)∧(∀ i (h:i<xs.size),SetTable.below xs j≤i→j≤xs[i])∧SetTable.below xs j≤xs.size:=by unfold SetTable.below;exact go_ok r j xs.size 0 xs.size (by omega) (by omega) (yad _) (fun i h z=>absurd z (ycq _)) (fun i h z=>absurd h (by omega))
theorem ris_iff {xs:Array Nat}:Ris xs↔xs.toList.Pairwise (·<·):=by
 rw [List.pairwise_iff_getElem];constructor
 · intro r i j hi hj h
   have:=r i j (by simpa using hj) h;simpa using this
 · intro r i j hj h
   have:=r i j (by simp;omega) (by simpa using hj) h;simpa using this
theorem ris_put {xs:Array Nat}(r:Ris xs){j:Nat}(n:xs[SetTable.below xs j]?≠some j):Ris (SetTable.insertAt xs (SetTable.below xs j) j):=by
 obtain ⟨a,b,c⟩:=Zhp r j;have b':∀ i (h:i<xs.size),SetTable.below xs j≤i→j<xs[i]:=by
   intro i h q;have h1:=b i h q;rcases ybM j xs[i] with z | z
   · exact z
   · exfalso
     have e:xs[i]=j:=Nat.le_antisymm z h1;have hp:SetTable.below xs j<xs.size:=by omega
     have e2:xs[SetTable.below xs j]=j:=Nat.le_antisymm (by have:=r.le h q;omega) (b _ hp (yad _));apply n
     rw [yaG hp,e2]
 generalize SetTable.below xs j=p at a b' c;rw [ris_iff] at r ⊢;unfold SetTable.insertAt;have e:((xs.extract 0 p).push j++xs.extract p xs.size).toList=xs.toList.take p++j::xs.toList.drop p:=by simp [Array.toList_extract,List.extract];exact yam (by rw [yaX,yag];exact yad _)
 rw [e,yan];refine ⟨r.sublist (ybj _ _),?_,?_⟩
 · rw [ycc]
   refine ⟨fun y hy=>?_,r.sublist (ybb _ _)⟩;obtain ⟨i,hi,rfl⟩:=yaW.mp hy;rw [List.getElem_drop];have hl:p+i<xs.size:=by rw [yaX,yag] at hi;omega
   have:=b' (p+i) hl (by omega);simpa using this
 · intro y hy z hz
   have hy1:y<j:=by
     obtain ⟨i,hi,rfl⟩:=yaW.mp hy;rw [List.getElem_take];have hl:i<p:=by rw [yaB] at hi;omega
     have:=a i (by rw [yaB,yag] at hi;omega) hl;simpa using this
   rcases yaj.mp hz with rfl | hz
   · exact hy1
   · obtain ⟨i,hi,rfl⟩:=yaW.mp hz
     rw [List.getElem_drop];have hl:p+i<xs.size:=by rw [yaX,yag] at hi;omega
     have:=b' (p+i) hl (by omega);have:j<xs.toList[p+i]'(by simpa using hl):=by simpa using this
     omega
theorem Zdh {t:SetTable} {f:Nat→Int} {h:Int}:∀ (n:Nat) (p:SetTable.Probe) (j:Nat) (d:Option Nat),(∀ x,p.dummy=some x→t.slot x=.dummy)→SetTable.probe.go t f h n p=some (.empty j d)→(t.slot j=.empty)∧∀ x,d=some x→t.slot x=.dummy
 | 0,p,j,d,hd,e=>by unfold SetTable.probe.go at e;cases e
 | n + 1,p,j,d,hd,e=>by
   unfold SetTable.probe.go at e;have adv:∀ q:SetTable.Probe,(t.advance q).dummy=q.dummy:=by intro q;unfold SetTable.advance;split<;>rfl
   split at e
   · rename_i hs
     cases e;exact ⟨hs,hd⟩
   · rename_i hs
     refine Zdh n _ j d (fun x hx=>?_) e;rw [adv] at hx;cases hx;exact hs
   · split at e
     · cases e
     · refine Zdh n _ j d (fun x hx=>?_) e
       rw [adv] at hx;exact hd x hx
theorem Zgx {t:SetTable}{j:Nat}(h:t.slot j=.empty∨t.slot j=.dummy):t.place[SetTable.below t.place j]?≠some j:=by intro e;unfold SetTable.slot at h;simp only [e,beq_self_eq_true,za4] at h;rcases h with h | h<;>cases h
theorem free_not {t:SetTable}{h:Int}{j:Nat}{b:Bool}(e:t.freeSlot h=some (j,b)):t.place[SetTable.below t.place j]?≠some j:=by
 unfold SetTable.freeSlot at e;split at e
 · rename_i j0 d hp
   unfold SetTable.probe at hp;obtain ⟨h1,h2⟩:=Zdh _ _ _ _ (fun x hx=>by cases hx) hp;cases e;cases d with
   | none=>exact Zgx (.inl h1)
   | some x=>exact Zgx (.inr (h2 x rfl))
 · cases e
structure Good (bt:Bool)(t:SetTable):Prop where
 led:t.led=!bt
 ris:t.plain=true→Ris t.place
theorem Good.fresh (bt:Bool):Good bt (.fresh 0 0 (!bt)):=⟨rfl,fun _ i j hj=>absurd hj (ycq _)⟩
theorem Good.standIn {bt:Bool}{t:SetTable}(g:Good bt t)(n:Nat):Good bt (t.standIn n):=⟨g.led,fun h=>by cases h⟩
theorem Good.layNew {bt:Bool}{t:SetTable}(g:Good bt t)(es:Array (Int × Value))(h:Int)(x:Value):Good bt (layNew t es h x).2.1:=by
 unfold PySem.layNew;split
 · rename_i j b e
   show Good bt ((t.put j).1.orStandIn _);have gp:Good bt (t.put j).1:=⟨g.led,fun hp=>ris_put (g.ris hp) (free_not e)⟩
   unfold SetTable.orStandIn;split
   · exact gp
   · exact gp.standIn _
 · exact g.standIn _
theorem Good.relayAll {bt:Bool}{t:SetTable}(g:Good bt t)(es:Array (Int × Value))(n:Nat):Good bt (relayAll t es n).2.1:=by
 unfold PySem.relayAll;split
 · rename_i t' ord e
   have gt:Good bt t':=by unfold SetTable.relaid SetTable.laid at e;simp only [Option.bind_eq_bind,Option.bind_eq_some_iff,Option.pure_def] at e;obtain ⟨ow,_,e⟩:=e;cases e;refine ⟨g.led,fun _=>?_⟩;rw [ris_iff];show (List.map _ _).Pairwise _;rw [List.pairwise_map];refine List.Pairwise.filterMap (R:=(·<·)) _ (fun a a' haa b hb c hc=>?_) List.pairwise_lt_range;simp only [Option.map_eq_some_iff] at hb hc;obtain ⟨_,_,rfl⟩:=hb;obtain ⟨_,_,rfl⟩:=hc;exact haa
   dsimp only;split
   · exact gt
   · exact g.standIn _
 · exact g.standIn _
end SG
namespace SG
open PySem PySem.Spec PyProof.Rows
def iv:Value→Int
 | .int k _=>k
 | _=>0
def bt (w:World):Bool:=w.params.followText "set-order"
def ST (prog:Program)(w:World)(h:Heap)(a:Addr)(ks:List Int):Prop :=
 ∃ o es ep t,h.get? a=some o∧o.ExactSet∧o.data=.set es ep t∧ElemsOf (intKind prog w) es.toList∧es.size<scanBound∧t.fits es.size=true∧Good (bt w) t∧(es.toList.map fun e=>iv e.2)=ks∧ks.Nodup
section
theorem ST.but {h:Heap}{a d:Addr}{ks:List Int}(x:ST prog w h a ks)(k:∀ o,h.get? a=some o→h'.get? a=some o):ST prog w h' a ks:=let ⟨o,es,ep,t,e,r⟩:=x;⟨o,es,ep,t,k o e,r⟩
theorem ZgS {k:Int}{e:Int × Value}{es:List (Int × Value)}(el:ElemsOf (intKind prog w) es)(he:e∈es):(intKind prog w).is k e.2=true↔iv e.2=k:=by
 obtain ⟨⟨k',h1,_⟩,_⟩:=el e he;obtain ⟨t,e2⟩:=Value.isInt_shape h1;rw [e2];constructor
 · intro h
   exact (intKind prog w).inj _ _ _ (intKind_is prog w k' t) h
 · intro h
   have h:k'=k:=h;subst h;exact intKind_is prog w k' t
theorem ZhB {h:Heap}{a:Addr}{o:Obj}{t:SetTable}(ho:h.get? a=some o)(hd:o.data=.set es ep t)(es':Array (Int × Value))(t':SetTable) :
   (h.update a (Obj.putSet es' t')).get? a=some { o with data:=.set es' (ep+1) t' }:=by
 have q:=zaw (Obj.putSet es' t') ho (by rw [putSet_of es' t' hd];rfl);rw [putSet_of es' t' hd] at q;exact q
theorem Zck {es':Array (Int × Value)}(p:es'.toList.Perm es.toList):es'.size=es.size:=by rw [← yag,p.length_eq,yag]
theorem Zhh {g:Bool→Sem Unit}(hg:∀ (b:Bool) (s1:Shared) (Q':Unit→Shared→Prop),Q' () s1→wpAny (model prog w) A (g b) Q' E s1){a:Addr}{o:Obj}{t:SetTable}(ho:s.heap.get? a=some o)(hx:o.ExactSet)(hd:o.data=.set es ep t)
   {es1:Array (Int × Value)} {t2:SetTable} {wd:Bool} {R:Option Bool→Shared→Prop} (el:ElemsOf (intKind prog w) es1.toList) (hb:es1.size<scanBound) (hf:t2.fits es1.size=true) (gd:Good (bt w) t2) (nd:(es1.toList.map fun e=>iv e.2).Nodup)
   (q:∀ h' ks',Heap.SameBut a s.heap h'→ST prog w h' a ks'→ks'.Perm (es1.toList.map fun e=>iv e.2)→R (some true) { s with heap:=h' }) :
   wpAny (model prog w) A (do storeSet a es1 t2;if (!wd&&t2.tooFull)=true then (do g (relayAll t2 es1 (SetTable.grown es1.size)).2.2;storeSet a (relayAll t2 es1 (SetTable.grown es1.size)).1 (relayAll t2 es1 (SetTable.grown es1.size)).2.1;pure (some true)) else pure (some true)) R E s:=by
 refine zaa (zaS ho hd ?_ (zaE hb));have ho1:=ZhB ho hd es1 t2;have sb:=zap s.heap a (Obj.putSet es1 t2);split
 · have pp:=relayAll_perm t2 es1 (SetTable.grown es1.size)
   have pf:=relayAll_fits t2 es1 (SetTable.grown es1.size);have pg:=gd.relayAll es1 (SetTable.grown es1.size);generalize relayAll t2 es1 (SetTable.grown es1.size)=Z at pp pf pg ⊢;obtain ⟨es2,t3,gv⟩:=Z;have pp:es2.toList.Perm es1.toList:=pp;have hb2:es2.size<scanBound:=by rw [Zck pp];exact hb
   refine zaa (hg _ _ _ (zaa (zaS ho1 rfl ?_ (zaE hb2))));refine zab (q _ _ (sb.trans (zap _ a _)) ⟨_,es2,_,t3,ZhB ho1 rfl es2 t3,hx,rfl,el.perm pp,hb2,pf,pg,rfl,?_⟩ (pp.map _));exact (pp.map fun e=>iv e.2).nodup_iff.mpr nd
 · exact zab (q _ _ sb ⟨_,es1,_,t2,ho1,hx,rfl,el,hb,hf,gd,rfl,nd⟩ (.refl _))
theorem add_int {a:Addr} {ks:List Int} {k:Int} {tk:Tok} {Q:Bool→Shared→Prop} (hS:ST prog w s.heap a ks) (room:ks.length+1<scanBound)
   (q:∀ b h' ks',Heap.SameBut a s.heap h'→ST prog w h' a ks'→(∀ y,y∈ks'↔y∈ks∨y=k)→ks'.length≤ks.length+1→Q b { s with heap:=h' }):wpAny (model prog w) A (setAddHashed a (.int k tk) ((intKind prog w).hash k)) Q E s:=by
 obtain ⟨o,es,ep,t,ho,hx,hd,el,hb,hf,gd,rfl,nd⟩:=hS;have hk:=intKind_is prog w k tk;have lz:(es.toList.map fun e=>iv e.2).length=es.size:=by rw [yaa,yag]
 unfold setAddHashed;unfold setAddHashedIn;refine zaj (zaa (zai ho hd hf ?_));dsimp only;rw [byScan_of (x:=Value.int k tk) rfl hb el,if_pos rfl];unfold setAddByScan;refine zaa (zaa (zaQ (zaa (wpAny_setScan_of hk ho hd hf el ?_))));cases hr:List.findIdx? (fun e=>(intKind prog w).is k e.2) es.toList with
 | some j =>
   dsimp only;obtain ⟨hj,pj,_⟩:=List.findIdx?_eq_some_iff_getElem.mp hr;have hm:k∈es.toList.map fun e=>iv e.2:=yaD.mpr ⟨_,yaw hj,(ZgS el (yaw hj)).mp pj⟩
   refine zab (zab ?_);have:=q false s.heap _ (zaK a s.heap) ⟨o,es,ep,t,ho,hx,hd,el,hb,hf,gd,rfl,nd⟩ (fun y=>⟨.inl,fun z=>z.elim id fun e=>e ▸ hm⟩) (ycd _);exact this
 | none =>
   dsimp only;have hm:k∉es.toList.map fun e=>iv e.2:=by intro z;obtain ⟨e,he,e1⟩:=yaD.mp z;have:=List.findIdx?_eq_none_iff.mp hr e he;rw [(ZgS el he).mpr e1] at this;cases this
   have gw:∀ (b:Bool) (s1:Shared) (Q':Unit→Shared→Prop),Q' () s1→wpAny (model prog w) A (match b with | true=>rule "set.scan.the-table-gave-way" | false=>pure ()) Q' E s1:=fun b s1 Q' z=>by
     cases b
     · exact zab z
     · exact zaQ z
   have lp:=layNew_perm t es ((intKind prog w).hash k) (.int k tk);have lf:=layNew_fits t es ((intKind prog w).hash k) (.int k tk);have lg:=gd.layNew es ((intKind prog w).hash k) (.int k tk);generalize layNew t es ((intKind prog w).hash k) (.int k tk)=Z at lp lf lg ⊢;obtain ⟨es1,t1,wd,gv⟩:=Z;have lf:t1.fits es1.size=true:=lf;have lg:Good (bt w) t1:=lg;have lp:es1.toList.Perm (es.toList++[((intKind prog w).hash k,.int k tk)]):=by
     have:=lp
     rwa [ych] at this
   have el1:ElemsOf (intKind prog w) es1.toList:=(el.push hk rfl).perm lp;have l1:es1.size=es.size+1:=by have:=lp.length_eq;rw [yac,yag,yag] at this;exact this
   have hb1:es1.size<scanBound:=by rw [l1];rw [lz] at room;exact room
   have pm:(es1.toList.map fun e=>iv e.2).Perm ((es.toList.map fun e=>iv e.2)++[k]):=by
     have:=lp.map fun e=>iv e.2
     rwa [yaQ] at this
   have nd1:(es1.toList.map fun e=>iv e.2).Nodup:=by rw [pm.nodup_iff,List.nodup_append];exact ⟨nd,(by simp),fun x hx y hy e=>hm (by rw [yal.mp hy] at e;rw [← e];exact hx)⟩
   have fin:∀ h' ks',Heap.SameBut a s.heap h'→ST prog w h' a ks'→ks'.Perm (es1.toList.map fun e=>iv e.2)→Q true { s with heap:=h' }:=fun h' ks' sb st p=>by
     refine q true h' ks' sb st (fun y=>?_) ?_
     · rw [p.mem_iff,pm.mem_iff,yai,yal]
     · rw [p.length_eq,yaa,yag,l1,lz]
       exact yad _
   dsimp only;refine zaa (gw _ _ _ ?_);split
   · refine zaa ?_
     rw [hashByValue_scannable 8 (x:=Value.int k tk) rfl];refine zab (Zhh (fun b s1 Q' z=>gw b s1 Q' z) ho hx hd el1 hb1 ?_ ?_ nd1 fun h' ks' sb st p=>zab (fin h' ks' sb st p))
     · exact lf
     · exact lg
   · refine zaa (zab (Zhh (fun b s1 Q' z=>gw b s1 Q' z) ho hx hd el1 hb1 ?_ ?_ nd1 fun h' ks' sb st p=>zab (fin h' ks' sb st p)))
     · exact lf
     · exact lg
theorem upd_loop {R:Result→Shared→Prop} {I:Addr} {wr:List Addr} {n:Nat} {P:Nat→Value→Prop} {St:Nat→Heap→Prop} (W:Walks prog w A.in1 I fp wr n P St) (S:Addr) (hS:S∉fp) (val:Nat→Int) (hv:∀ i v,P i v→∃ t,v=.int (val i) t) (hb:n+1<scanBound) :
   ∀ (d i:Nat) (s:Shared) (ks:List Int),n-i=d→i≤n→St i s.heap→ST prog w s.heap S ks→(∀ y,y∈ks↔∃ j,j<i∧y=val j)→ks.length≤i →
   (∀ h' tk ks',(∀ b o,b≠S→b∉wr→s.heap.get? b=some o→h'.get? b=some o)→ST prog w h' S ks'→(∀ y,y∈ks'↔∃ j,j<n∧y=val j)→R (.ok (.ret .none)) { s with heap:=h',toks:=tk }) →
   codeAny (model prog w) A (Code.builtin "set.update.loop" ⟨[.ref S,.ref I],[]⟩) R s:=by
 have hSw:S∉wr:=fun z=>hS (W.sub _ z)
 intro d;induction d with
 | zero =>
   intro i s ks hd hi st hk hm hl q;have e:i=n:=by omega
   subst e;refine zaM F.entry_set_update_loop ?_;rw [zaC F.plain_set_update_loop _];refine zaa (m:=pyNext (.ref I)) (W.done s _ _ st fun h' tk k=>?_);exact zab (q h' tk ks (fun b o _ n2 e=>k b o n2 e) (hk.but (d:=S) fun o e=>k S o hSw e) hm)
 | succ d ih =>
   intro i s ks hd hi st hk hm hl q;refine zaM F.entry_set_update_loop ?_;rw [zaC F.plain_set_update_loop _];refine zaa (m:=pyNext (.ref I)) (W.item i s _ _ (by omega) st fun v h1 tk pv st1 k1=>?_);obtain ⟨t,rfl⟩:=hv i v pv;have hk1:ST prog w h1 S ks:=hk.but (d:=S) fun o e=>k1 S o hSw e
   refine zaa (m:=holding [Value.int (val i) t] (setAdd S (.int (val i) t))) (zaj ?_);unfold setAdd;refine zaj (zaa ((intKind prog w).pyHash (k:=val i) (intKind_is _ _ _ _) ?_));refine add_int (s:={ s with heap:=h1,toks:=tk+1 }) hk1 (by omega) fun b h2 ks2 sb st2 m2 l2=>?_
   refine zab ⟨za2 F.plain_set_update_loop _,ih (i+1) _ ks2 (by omega) (by omega) (W.frame _ h1 h2 st1 fun c hc o e=>?_) st2 (fun y=>?_) (by omega) fun h3 tk3 ks3 k3 st3 m3=>?_⟩
   · rw [sb.2 c (fun z=>hS (z ▸ hc))]
     exact e
   · rw [m2,hm]
     constructor
     · rintro (⟨j,hj,e⟩ | e)
       · exact ⟨j,by omega,e⟩
       · exact ⟨i,by omega,e⟩
     · rintro ⟨j,hj,e⟩
       by_cases c:j<i
       · exact .inl ⟨j,c,e⟩
       · have:j=i:=by omega
         subst this;exact .inr e
   · refine q h3 tk3 ks3 (fun c o n1 n2 e=>k3 c o n1 n2 ?_) st3 m3
     show h2.get? c=some o;rw [sb.2 c n1];exact k1 c o n2 e
theorem new_set (a:Value)(q:Q (.ref s.heap.objs.size) { s with heap:=s.heap.push { cls:=.type "set",dict:=none,data:=.set #[] 0 (.fresh 0 0 (!bt w)) } }) :
   codeAny (model prog w) A (.call (.builtin "set.__new__") ⟨[.type "set",a],[]⟩) (wants Q E) s:=by
 refine codeAny_of_tree ?_;refine zaa (m:=checkBuiltinCall "set.__new__" ⟨[.type "set",a],[]⟩) (wpAny_of_eq (PySem.F.newCall_set_1 a) (zab ⟨za2 PySem.F.plain_set_new _,zaM PySem.F.entry_set_new ?_⟩));rw [zaC PySem.F.plain_set_new _];unfold Builtin.«set.__new__»;unfold Builtin.Frozenset.newClass;have hsub:=sub_set_self;obtain ⟨hp,ge,dr,tk,os⟩:=s;dsimp only
 wp_walk
 refine wpAny_askSetting (zab ?_);simp only [newObj];exact zaa (wpAny_alloc (zab (zab q)))
def emptyObj (w:World):Obj:={ cls:=.type "set",dict:=none,data:=.set #[] 0 (.fresh 0 0 (!bt w)) }
theorem st_empty {h:Heap}{a:Addr}(e:h.get? a=some (emptyObj w)):ST prog w h a [] :=
 ⟨_,#[],0,.fresh 0 0 (!bt w),e,⟨rfl,rfl,rfl⟩,rfl,(fun x hx=>nomatch hx),(by decide),rfl,Good.fresh _,rfl,ycf⟩
set_option maxHeartbeats 3200000 in
theorem call_set {l:Addr} {its:Array Value} {ns:List Int} (hh:A.handled=none) (hl:s.heap.IsList l its) (hi:IntsAre its.toList ns) (hb:its.size+1<scanBound)
   (q:∀ (h':Heap) (tk:Nat) (ks:List Int),ST prog w h' s.heap.objs.size ks→(∀ y,y∈ks↔y∈ns)→(∀ b o,b<s.heap.objs.size→s.heap.get? b=some o→h'.get? b=some o)→Q (.ref s.heap.objs.size) { s with heap:=h',toks:=tk }) :
   wpAny (model prog w) A (call (.type "set") [.ref l]) Q E s:=by
 have ln:its.size=ns.length:=by rw [← yag];exact IntsAre.length hi
 obtain ⟨c,tl,hmro⟩:=PySem.F.called_set.mro;have hmade:=PySem.F.called_set.made;have hsub:=PySem.F.called_set.sub;refine wpAny_call (codeAny_of_tree ?_);refine zab ⟨Code.quiet_builtin _ (by decide +kernel),zaM F.entry_type_call ?_⟩;rw [Around.under_plain (weight_type_call_type "set" [.ref l] []) rfl];have h1:=PySem.F.called_set.notType;have h2:=PySem.F.called_set.canCreate;have hct:=PySem.F.typeCall_set_1 (.ref l)
 repeat (any_goals (first | assumption | wp_step))
 refine za3 (new_set (.ref l) (E:=E) (Q:=fun obj s1=>obj=.ref s.heap.objs.size∧s1={ s with heap:=s.heap.push (emptyObj w) }) ⟨rfl,rfl⟩) fun r s1 hr=>?_
 cases r with
 | error e=>exact hr
 | ok fl =>
   cases fl with
   | ret obj =>
     obtain ⟨rfl,rfl⟩:=hr;have hS:(s.heap.push (emptyObj w)).get? s.heap.objs.size=some (emptyObj w):=zag _ rfl;have hT:Shared.TypeIs { s with heap:=s.heap.push (emptyObj w) } (.ref s.heap.objs.size) "set":=⟨_,hS,rfl⟩
     have hli:=PySem.F.called_set.init.lookup;have hbi:=PySem.F.called_set.init.bind (.ref s.heap.objs.size)
     repeat (any_goals (first | assumption | wp_step))
     refine za3 (codeAny_call_builtin (R:=wants (fun r s2=>r=.none∧∃ h' tk ks,s2={ s with heap:=h',toks:=tk }∧ST prog w h' s.heap.objs.size ks∧(∀ y,y∈ks↔y∈ns)∧∀ b o,b<s.heap.objs.size→s.heap.get? b=some o→h'.get? b=some o) E) PySem.F.called_set.init.plain PySem.F.entry_set_init (check_set_init_1 hT ?_)) fun r2 s2 hr2=>?_
     · obtain ⟨ol,hol,hcl,nl,hdl⟩:=hl
       obtain ⟨ocls,odict,odata,oslots⟩:=ol;simp only at hcl hdl;subst hcl;subst hdl;have hol1:(s.heap.push (emptyObj w)).get? l=some { cls:=.type "list",dict:=odict,data:=.seq its nl,slots:=oslots }:=zac _ hol;have g1:=PySem.F.sub_list_set;have g2:=PySem.F.sub_list_frozenset;have g3:(Value.type "list"==Value.type "dict")=false:=by decide
       have hl1:(s.heap.push (emptyObj w)).IsList l its:=⟨_,hol1,rfl,nl,rfl⟩
       unfold Builtin.«set.__init__»;unfold noKeywords;unfold Builtin.Frozenset.updateFrom;generalize hPI:pyIter=PI
       wp_walk
       subst hPI;refine wpAny_pyIter_list hl1 (zaa (wpAny_runValue ?_));have lt:l<s.heap.objs.size:=zad hol;have hh3:A.in1.in1.in1.handled=none:=by simp [hh]
       have sz:(s.heap.push (emptyObj w)).objs.size=s.heap.objs.size+1:=zaN ..;have neI:l≠(s.heap.push (emptyObj w)).objs.size:=by rw [sz];exact yaA (ybs lt)
       have neS:s.heap.objs.size∉[(s.heap.push (emptyObj w)).objs.size,l]:=by
         rw [sz];intro z;rcases yaj.mp z with z | z
         · exact yaA (ybr _) z
         · exact ybJ lt (yal.mp z)
       refine upd_loop (Walks.list hh3 _ l neI its) s.heap.objs.size neS (fun i=>ns.getD i 0) (fun i v hv=>IntsAre.int_at hi i v (by rw [yaE];exact hv)) hb its.size 0 _ [] rfl (yau _) ⟨⟨_,zag _ rfl,rfl,rfl⟩,hl1.push _⟩ (st_empty (zac _ hS)) (fun y=>⟨fun z=>(nomatch z),fun ⟨j,hj,_⟩=>absurd hj (ycq _)⟩) (yad _) fun h' tk ks k st m=>?_
       refine zab (zab ⟨rfl,h',tk,ks,rfl,st,fun y=>?_,fun b o lb e=>?_⟩)
       · rw [m,ln]
         constructor
         · rintro ⟨j,hj,rfl⟩
           show ns.getD j 0∈ns;rw [yaC,yae hj];exact yaw hj
         · intro hy
           obtain ⟨j,hj,rfl⟩:=yaW.mp hy;refine ⟨j,hj,?_⟩;show _=ns.getD j 0;rw [yaC,yae hj];rfl
       · refine k b o (yaA lb) (fun z=>?_) (zac _ (zac _ e))
         have:=yal.mp z;rw [sz] at this;exact yaA (ybs lb) this
     · cases r2 with
       | error e=>exact hr2
       | ok f2 =>
         cases f2 with
         | ret r =>
           obtain ⟨rfl,h',tk,ks,rfl,st,m,k⟩:=hr2
           repeat (any_goals (first | assumption | wp_step))
           exact q _ _ _ st m k
         | _=>exact hr2.elim
   | _=>exact hr.elim
end
end SG
namespace SG
open PySem PySem.Spec PyProof.Rows
theorem slot_it_next:Slot "set_iterator" "__next__" "set_iterator.__next__" :=
 .of (owner:="set_iterator") (n:="__next__") (by rw [zaT,zaA];kernel_rfl) (by decide +kernel) (by decide +kernel) (by decide +kernel) (by first | exact .inl (by decide +kernel) | exact .inr (by decide +kernel)) (by rw [isSubtype_type];kernel_rfl)
theorem Zdt:Slot "set_iterator" "__iter__" "set_iterator.__iter__" :=
 .of (owner:="set_iterator") (n:="__iter__") (by rw [zaT,zaA];kernel_rfl) (by decide +kernel) (by decide +kernel) (by decide +kernel) (by first | exact .inl (by decide +kernel) | exact .inr (by decide +kernel)) (by rw [isSubtype_type];kernel_rfl)
theorem Zbl:entryFor table "set_iterator.__next__"=some Builtin.«set_iterator.__next__»:=entryFor_of_tree (by kernel_rfl)
theorem ZbJ (a:Value):argsOk "set_iterator.__next__" ⟨[a],[]⟩:=by unfold argsOk;kernel_rfl
theorem Zgg (a:Value):argsOk "set_iterator.__iter__" ⟨[a],[]⟩:=by unfold argsOk;kernel_rfl
theorem Zfh:entryFor table "set_iterator.__iter__"=some Builtin.«dict_keyiterator.__iter__»:=entryFor_alias (id':="dict_keyiterator.__iter__") (by kernel_rfl) (by first | rfl | decide +kernel | (unfold String.splitOn;simp +decide [String.splitOnAux])) (by decide +kernel) (by kernel_rfl)
theorem Ze7:entryFor table "set.__iter__"=some Builtin.«frozenset.__iter__»:=entryFor_alias (id':="frozenset.__iter__") (by kernel_rfl) rfl (by decide +kernel) (by kernel_rfl)
theorem Zdk {α:Type}:∀ (l:List α) {i:Nat} (h:i<l.length),(l[i]::l.eraseIdx i).Perm l
 | [],_,h=>absurd h (ycq _)
 | x::l,0,_=>.refl _
 | x::l,i+1,h=>by
   have:=Zdk l (i:=i) (by simpa using h);exact (List.Perm.swap _ _ _).trans (this.cons x)
theorem Ziz {α:Type}(next:Nat→Nat):∀ (n k:Nat) (l:List α) (out:Array α),l.length=n→(pickOrder.go next n k l out).toList.Perm (out.toList++l)
 | 0,k,l,out,h=>by
   have e:l=[]:=ybA.mp h;subst e;unfold pickOrder.go;rw [yaH]
 | n+1,k,l,out,h=>by
   unfold pickOrder.go;have hl:next k%l.length<l.length:=ybN _ (by omega);rw [yae hl];dsimp only;refine (Ziz next n (k+1) _ _ (by rw [List.length_eraseIdx];rw [if_pos hl];omega)).trans ?_;rw [ych,yaf];refine zah _ ?_;exact Zdk l hl
theorem Zd4 {α:Type}(next:Nat→Nat)(xs:Array α):(pickOrder next xs).toList.Perm xs.toList:=by unfold pickOrder;have:=Ziz next xs.size 0 xs.toList #[] (yag ..);simpa using this
def itObj (f:Value)(i:Int)(c:Value)(n ep:Nat):Obj:={ cls:=.type "set_iterator",dict:=none,data:=.fields #[f,rawInt i,c,rawInt n,rawInt ep],slots:=#[] }
section
variable {a:Addr}{o:Obj}{t:SetTable}
theorem Zc1 {Q:Bool→Shared→Prop}(q:Q (bt w) s):wpAny (model prog w) A setsByText Q E s:=by unfold setsByText;exact zaa (wpAny_askSetting (zab q))
theorem Zix {sl gi:Nat}{Q:Option (Value × Nat)→Shared→Prop}(hb:bt w=true)(ho:s.heap.get? a=some o)(hd:o.data=.set es ep t)(hf:t.fits es.size=true)(q:Q (((pickOrder (w.params.setOrder a ep) es)[gi]?).map fun e=>(e.2,sl)) s):wpAny (model prog w) A (setNext a sl gi ep) Q E s:=by unfold setNext;refine zaa (zai ho hd hf ?_);dsimp only;refine zaa (Zc1 ?_);rw [hb,if_pos rfl,if_neg (by simp)];unfold setWalk;refine zaa (zaa (zai ho hd hf ?_));dsimp only;refine zaa (Zc1 ?_);rw [hb,if_pos rfl];exact zaa (wpAny_askSetting (zab (zab q)))
theorem Zg4 {sl gi:Nat}{Q:Option (Value × Nat)→Shared→Prop}(hb:bt w=false)(hl:t.led=true)(hp:(!t.plain&&decide (es.size > 1))=false)(ho:s.heap.get? a=some o)(hd:o.data=.set es ep t)(hf:t.fits es.size=true)
   (q:Q (match es[SetTable.below t.place sl]?,t.place[SetTable.below t.place sl]? with | some (_,x),some j=>some (x,j+1) | _,_=>none) s):wpAny (model prog w) A (setNext a sl gi ep) Q E s:=by
 unfold setNext;refine zaa (zai ho hd hf ?_);dsimp only;refine zaa (Zc1 ?_);rw [hb,if_neg (by decide)];show wpAny _ _ (if (!t.plain&&decide (es.size > 1))=true then _ else _) _ _ _;rw [hp,if_neg (by decide)];refine zaa (m:=if (!t.led&&!es.isEmpty)=true then unsupported "set:maker-not-led" else pure ()) ?_;rw [hl,if_neg (by simp)];exact zab (zab q)
end
end SG
namespace SG
open PySem PySem.Spec PyProof.Rows
section
variable {a I:Addr}{o:Obj}{t:SetTable}
theorem Zdp {f c:Value}{i:Int}{n:Nat}(hI:s.heap.get? I=some (itObj f i c n ep)):s.TypeIs (.ref I) "set_iterator":=⟨_,hI,rfl⟩
theorem ZfA {h0:Heap}{R:Fin→Shared→Prop}{Q:Option Value→Shared→Prop}(hh:A.handled=none)(ex:Heap.ExtBut I h0 s.heap)(q:∀ g,Heap.ExtBut I h0 g→Q none { s with heap:=g }) :
   wpAny (model prog w) A.in1 (newExc (.type "StopIteration") [] >>= fun e=>raiseNew e) R (fun e s'=>wpAny (model prog w) A (do if ← isInstance e (.type "StopIteration") then pure none else throw e) Q E s') s:=by
 refine zaa ?_;simp only [newExc,newTuple];refine zaa (wpAny_newObj_type (zaa (m:=firstArgMember _ _) (wpAny_of_eq (a:=Value.none) (by first | rfl | (simp only [firstArgMember];rfl)) (wpAny_newObj_type ?_ (by size_fits)))) (by size_fits));simp only [raiseNew];refine zaa (wpAny_handled ?_);rw [show A.in1.handled=none from hh];refine zaa (zab (wpAny_throw ?_));exact zaa (wpAny_isInstance (T:="StopIteration") (b:=true) ⟨_,zag _ rfl,rfl⟩ isSubtype_stop (zab (q _ ((ex.push _).push _))))
theorem Zis {sl i n nx:Nat}{x:Value}{Q:Option Value→Shared→Prop}(hI:s.heap.get? I=some (itObj (rawInt sl) i (.ref a) n ep))(ho:s.heap.get? a=some o)(hd:o.data=.set es ep t)(hf:t.fits es.size=true)(sz:es.size=n)
   (hs:∀ {A:Around} {E:Value→Shared→Prop} {Q:Option (Value × Nat)→Shared→Prop},Q (some (x,nx)) s→wpAny (model prog w) A (setNext a sl i ep) Q E s)
   (q:∀ g,g.get? I=some (itObj (rawInt nx) (i+1:Nat) (.ref a) n ep)→Heap.SameBut I s.heap g→Q (some x) { s with heap:=g }):wpAny (model prog w) A (pyNext (.ref I)) Q E s:=by
 have hT:=Zdp hI;unfold pyNext;refine zaa (za1 (zaB (name:=Str.ofString "__next__") hT slot_it_next (zax slot_it_next hT Zbl ?_ (ZbJ _))));unfold Builtin.«set_iterator.__next__»;refine zaa (m:=slotArgs "__next__" 0 ⟨[.ref I],[]⟩) (zab (zaa (wpAny_fieldsOf hI rfl ?_)));dsimp only [rawInt];refine zaa (zaW ho hd hf ?_);rw [if_neg (by rw [sz];simp)];simp only [yao];refine zaa (hs ?_);dsimp only;refine zaa (zaH hI (by show 0<5;decide) fun g1 e1 s1=>?_);refine zaa (zaH e1 (by show 1<5;decide) fun g2 e2 s2=>?_);exact zab ⟨x,rfl,zab (q g2 e2 (s1.trans s2))⟩
theorem it_end {sl i n:Nat}{Q:Option Value→Shared→Prop}(hh:A.handled=none)(hI:s.heap.get? I=some (itObj (rawInt sl) i (.ref a) n ep))(ho:s.heap.get? a=some o)(hd:o.data=.set es ep t)(hf:t.fits es.size=true)(sz:es.size=n)
   (hs:∀ {A:Around} {E:Value→Shared→Prop} {Q:Option (Value × Nat)→Shared→Prop},Q none s→wpAny (model prog w) A (setNext a sl i ep) Q E s)
   (q:∀ g,Heap.ExtBut I s.heap g→Q none { s with heap:=g }):wpAny (model prog w) A (pyNext (.ref I)) Q E s:=by
 have hT:=Zdp hI;unfold pyNext;refine zaa (za1 (zaB (name:=Str.ofString "__next__") hT slot_it_next (zax slot_it_next hT Zbl ?_ (ZbJ _))));unfold Builtin.«set_iterator.__next__»;refine zaa (m:=slotArgs "__next__" 0 ⟨[.ref I],[]⟩) (zab (zaa (wpAny_fieldsOf hI rfl ?_)));dsimp only [rawInt];refine zaa (zaW ho hd hf ?_);rw [if_neg (by rw [sz];simp)];simp only [yao];refine zaa (hs ?_);dsimp only;refine zaa (zaH hI (by show 2<5;decide) fun g1 e1 s1=>?_);exact ZfA (s:={ s with heap:=g1 }) (h0:=s.heap) hh s1.extBut q
theorem dr_item {T:Addr}{pls:Array Value}{i n pl:Nat}{h0:Int}{x:Value}{Q:Option Value→Shared→Prop}(hI:s.heap.get? I=some (itObj (.ref T) i (.ref a) n ep))(hT0:IsTup s.heap T pls)(hp:pls[i]?=some (rawInt pl))(hx:es[pl]?=some (h0,x))(ho:s.heap.get? a=some o)(hd:o.data=.set es ep t)(hf:t.fits es.size=true)(sz:es.size=n)
   (q:∀ g,g.get? I=some (itObj (.ref T) (i+1:Nat) (.ref a) n ep)→Heap.SameBut I s.heap g→Q (some x) { s with heap:=g }):wpAny (model prog w) A (pyNext (.ref I)) Q E s:=by
 have hT:=Zdp hI;obtain ⟨oT,eT,_,nT,dT⟩:=hT0;unfold pyNext;refine zaa (za1 (zaB (name:=Str.ofString "__next__") hT slot_it_next (zax slot_it_next hT Zbl ?_ (ZbJ _))));unfold Builtin.«set_iterator.__next__»;refine zaa (m:=slotArgs "__next__" 0 ⟨[.ref I],[]⟩) (zab (zaa (wpAny_fieldsOf hI rfl ?_)));dsimp only [rawInt];refine zaa (zaW ho hd hf ?_);rw [if_neg (by rw [sz];simp)];refine zaa (wpAny_seqItems eT dT ?_);simp only [yao,hp,rawInt];unfold setNextDrawn;refine zaa (zaa (zai ho hd hf ?_));dsimp only;rw [if_neg (by simp),hx];refine zab (zaa (zaH hI (by show 1<5;decide) fun g2 e2 s2=>?_));exact zab ⟨x,rfl,zab (q g2 e2 s2)⟩
theorem dr_end {T:Addr}{pls:Array Value}{i n:Nat}{Q:Option Value→Shared→Prop}(hh:A.handled=none)(hI:s.heap.get? I=some (itObj (.ref T) i (.ref a) n ep))(hT0:IsTup s.heap T pls)(hp:pls[i]?=none)(ho:s.heap.get? a=some o)(hd:o.data=.set es ep t)(hf:t.fits es.size=true)(sz:es.size=n)
   (q:∀ g,Heap.ExtBut I s.heap g→Q none { s with heap:=g }):wpAny (model prog w) A (pyNext (.ref I)) Q E s:=by
 have hT:=Zdp hI;obtain ⟨oT,eT,_,nT,dT⟩:=hT0;unfold pyNext;refine zaa (za1 (zaB (name:=Str.ofString "__next__") hT slot_it_next (zax slot_it_next hT Zbl ?_ (ZbJ _))));unfold Builtin.«set_iterator.__next__»;refine zaa (m:=slotArgs "__next__" 0 ⟨[.ref I],[]⟩) (zab (zaa (wpAny_fieldsOf hI rfl ?_)));dsimp only [rawInt];refine zaa (zaW ho hd hf ?_);rw [if_neg (by rw [sz];simp)];refine zaa (wpAny_seqItems eT dT ?_);simp only [yao,hp];refine zaa (zaH hI (by show 0<5;decide) fun g1 e1 s1=>?_);refine zaa (zaH e1 (by show 2<5;decide) fun g2 e2 s2=>?_);exact ZfA (s:={ s with heap:=g2 }) (h0:=s.heap) hh (s1.trans s2).extBut q
theorem ZfT {f c:Value}{i:Int}{n:Nat}(hI:s.heap.get? I=some (itObj f i c n ep))(q:Q (.ref I) s):wpAny (model prog w) A (pyIter (.ref I)) Q E s:=by have hT:=Zdp hI;refine wpAny_pyIter_slot hT Zdt (zax Zdt hT Zfh ?_ (Zgg _));exact zab ⟨_,rfl,"set_iterator",_,hT,slot_it_next.lookup,q⟩
theorem ZeP {α:Type}:∀ (n:Nat) (l:List α) (s:Shared) (Q:List α→Shared→Prop),l.length=n→(∀ l' d,l'.Perm l→Q l' { s with drawn:=d })→wpAny (model prog w) A (drawOrder n l) Q E s
 | 0,l,s,Q,h,q=>by
   have e:l=[]:=ybA.mp h;subst e;unfold drawOrder;exact zab (q [] s.drawn (.refl _))
 | n+1,[],s,Q,h,q=>by cases h
 | n+1,x::l,s,Q,h,q=>by
   unfold drawOrder;refine zaa (?_:wpAny (model prog w) A (choose .order (x::l).length) _ E s);intro Γ p hΓ;refine ⟨by simp,?_⟩;have hl:=ybN ((model prog w).w.draws .order (s.drawn.get .order)) (show 0<(x::l).length by simp);generalize (model prog w).w.draws .order (s.drawn.get .order)%(x::l).length=i at hl ⊢;show wpAny _ _ _ _ _ _;rw [yae hl];dsimp only;refine zaa (ZeP n ((x::l).eraseIdx i) _ _ (by rw [List.length_eraseIdx,if_pos hl];simp at h ⊢;omega) fun l' d pl=>?_);exact zab (q _ d ((pl.cons _).trans (Zdk _ hl)))
end
end SG
namespace SG
open PySem PySem.Spec PyProof.Rows
structure Wk (prog:Program)(w:World)(h0 h2:Heap)(a:Addr)(ks:List Int)(I:Addr):Prop where
 ex:∃ (fp wr:List Addr) (vs:List Value) (ks':List Int) (St:Nat→Heap→Prop),(∀ A:Around,A.handled=none→Walks prog w A I fp wr vs.length (fun i v=>vs[i]?=some v) St)∧St 0 h2∧(∀ b∈fp,b<h2.objs.size)∧I∈fp∧(∀ b∈wr,h0.get? b=none)∧IntsAre vs ks'∧ks'.Perm ks∧(∀ b∈fp,b=a∨h0.get? b=none)
 old:∀ b o,h0.get? b=some o→h2.get? b=some o
section
variable {a I:Addr}{o:Obj}{t:SetTable}
theorem ZfI {l:List (Int × Value)}(el:ElemsOf (intKind prog w) l):IntsAre (l.map (·.2)) (l.map fun e=>iv e.2):=by
 induction l with
 | nil=>exact .nil
 | cons e l ih =>
   obtain ⟨⟨k,hk,_⟩,_⟩:=el e (.head _);obtain ⟨t,e2⟩:=Value.isInt_shape hk;have:=ih el.tail;rw [yaF,yaF,e2];constructor;exact this
theorem ZhM (hb:bt w=true) (hf:t.fits es.size=true) (hd:o.data=.set es ep t) (ne:a≠I):∀ A:Around,A.handled=none→Walks prog w A I [I,a] [I] ((pickOrder (w.params.setOrder a ep) es).toList.map (·.2)).length (fun i v=>((pickOrder (w.params.setOrder a ep) es).toList.map (·.2))[i]?=some v) (fun i h=>h.get? I=some (itObj (rawInt (0:Nat)) (i:Nat) (.ref a) es.size ep)∧h.get? a=some o):=fun A hh =>
 { sub := fun b hb=>yaj.mpr (.inl (yal.mp hb))
   frame:=fun i h h' st k=>⟨k I (by simp) _ st.1,k a (by simp) _ st.2⟩
   item:=fun i s Q E hi st q=>by
     have hi':i<(pickOrder (w.params.setOrder a ep) es).size:=by simpa using hi
     refine Zis (x:=((pickOrder (w.params.setOrder a ep) es)[i]).2) (nx:=0) st.1 st.2 hd hf rfl (fun z=>Zix hb st.2 hd hf ?_) fun g e1 e2=>q _ g s.toks ?_ ⟨e1,e2.extBut _ _ ne st.2⟩ fun b u hb e=>e2.extBut _ _ (fun z=>hb (yal.mpr z)) e
     · rw [yaG hi']
       exact z
     · rw [yay,yaE,yaG hi']
       rfl
   done:=fun s Q E st q=>by
     refine it_end hh st.1 st.2 hd hf rfl (fun z=>Zix hb st.2 hd hf ?_) fun g e2=>q g s.toks fun b u hb e=>e2 _ _ (fun z=>hb (yal.mpr z)) e
     rw [Array.getElem?_eq_none (by simp)];exact z
   self:=fun i s Q E st q=>ZfT st.1 q }
theorem ZgP (hb:bt w=false) (hl:t.led=true) (hp:(!t.plain&&decide (es.size > 1))=false) (hr:Ris t.place) (hf:t.fits es.size=true) (hd:o.data=.set es ep t) (ne:a≠I):∀ A:Around,A.handled=none→Walks prog w A I [I,a] [I] (es.toList.map (·.2)).length (fun i v=>(es.toList.map (·.2))[i]?=some v)
   (fun i h=>(∃ sl:Nat,h.get? I=some (itObj (rawInt sl) (i:Nat) (.ref a) es.size ep)∧(∀ j (q:j<t.place.size),j<i→t.place[j]<sl)∧(∀ j (q:j<t.place.size),i≤j→sl≤t.place[j]))∧h.get? a=some o):=fun A hh=>by
 have sp:t.place.size=es.size:=by unfold SetTable.fits at hf;simp at hf;exact hf.1
 have at_:∀ (i sl:Nat),i≤t.place.size→(∀ j (q:j<t.place.size),j<i→t.place[j]<sl)→(∀ j (q:j<t.place.size),i≤j→sl≤t.place[j])→SetTable.below t.place sl=i:=by
   intro i sl hi c1 c2;obtain ⟨b1,b2,b3⟩:=Zhp hr sl;rcases Nat.lt_trichotomy (SetTable.below t.place sl) i with q | q | q
   · have hq:SetTable.below t.place sl<t.place.size:=by omega
     have z1:=c1 _ hq q;have z2:=b2 _ hq (yad _);omega
   · exact q
   · have hq:i<t.place.size:=by omega
     have z1:=b1 _ hq q;have z2:=c2 _ hq (yad _);omega
 exact
 { sub := fun b hb=>yaj.mpr (.inl (yal.mp hb))
   frame:=fun i h h' st k=>⟨let ⟨sl,e,c⟩:=st.1;⟨sl,k I (by simp) _ e,c⟩,k a (by simp) _ st.2⟩
   item:=fun i s Q E hi st q=>by
     obtain ⟨⟨sl,e0,c1,c2⟩,ea⟩:=st;have hi':i<es.size:=by simpa using hi
     have hi2:i<t.place.size:=by omega
     have bl:=at_ i sl (by omega) c1 c2;refine Zis (x:=(es[i]).2) (nx:=t.place[i]+1) e0 ea hd hf rfl (fun z=>Zg4 hb hl hp ea hd hf ?_) fun g e1 e2=>q _ g s.toks ?_ ⟨⟨_,e1,fun j hj lt=>?_,fun j hj le=>?_⟩,e2.extBut _ _ ne ea⟩ fun b u hb e=>e2.extBut _ _ (fun z=>hb (yal.mpr z)) e
     · rw [bl,yaG hi',yaG hi2]
       exact z
     · rw [yay,yaE,yaG hi']
       rfl
     · have:=hr.le hi2 (show j≤i by omega)
       omega
     · have:=hr i j hj (by omega)
       omega
   done:=fun s Q E st q=>by
     obtain ⟨⟨sl,e0,c1,c2⟩,ea⟩:=st;have en:(es.toList.map (·.2)).length=es.size:=by simp
     rw [en] at e0 c1 c2;have bl:=at_ es.size sl (by omega) c1 c2;refine it_end hh e0 ea hd hf rfl (fun z=>Zg4 hb hl hp ea hd hf ?_) fun g e2=>q g s.toks fun b u hb e=>e2 _ _ (fun z=>hb (yal.mpr z)) e
     rw [bl,Array.getElem?_eq_none (yad _)];exact z
   self:=fun i s Q E st q=>let ⟨sl,e,_⟩:=st.1;ZfT e q }
theorem Zhb {T:Addr} {ls:List Nat} (hls:∀ j∈ls,j<es.size) (hf:t.fits es.size=true) (hd:o.data=.set es ep t) (ne:a≠I) (neT:T≠I):∀ A:Around,A.handled=none→Walks prog w A I [I,T,a] [I] (ls.map fun j=>(es.getD j (0,.none)).2).length (fun i v=>(ls.map fun j=>(es.getD j (0,.none)).2)[i]?=some v)
   (fun i h=>h.get? I=some (itObj (.ref T) (i:Nat) (.ref a) es.size ep)∧IsTup h T (ls.map fun (j:Nat)=>rawInt j).toArray∧h.get? a=some o):=fun A hh =>
 { sub := fun b hb=>yaj.mpr (.inl (yal.mp hb))
   frame:=fun i h h' st k=>⟨k I (by simp) _ st.1,let ⟨u,e,c⟩:=st.2.1;⟨u,k T (by simp) _ e,c⟩,k a (by simp) _ st.2.2⟩
   item:=fun i s Q E hi st q=>by
     obtain ⟨e0,eT,ea⟩:=st;have hi':i<ls.length:=by simpa using hi
     have hj:=hls ls[i] (yaw hi');refine dr_item (pl:=ls[i]) (h0:=(es[ls[i]]).1) (x:=(es[ls[i]]).2) e0 eT ?_ ?_ ea hd hf rfl fun g e1 e2=>q _ g s.toks ?_ ⟨e1,IsTup.extBut eT e2.extBut neT,e2.extBut _ _ ne ea⟩ fun b u hb e=>e2.extBut _ _ (fun z=>hb (yal.mpr z)) e
     · simp [hi']
     · rw [yaG hj]
     · rw [yay,yae hi']
       simp [Array.getD,hj]
   done:=fun s Q E st q=>by
     obtain ⟨e0,eT,ea⟩:=st;refine dr_end hh e0 eT ?_ ea hd hf rfl fun g e2=>q g s.toks fun b u hb e=>e2 _ _ (fun z=>hb (yal.mpr z)) e
     simp
   self:=fun i s Q E st q=>ZfT st.1 q }
theorem ZfF (el:ElemsOf (intKind prog w) es.toList):∀ {ls:List Nat},(∀ j∈ls,j<es.size)→IntsAre (ls.map fun j=>(es.getD j (0,.none)).2) (ls.map fun j=>iv (es.getD j (0,.none)).2)
 | [],_=>.nil
 | j::ls,h=>by
   have hj:=h j (.head _);have eg:es.getD j (0,.none)=es[j]:=by simp [Array.getD,hj]
   obtain ⟨⟨k,hk,_⟩,_⟩:=el es[j] (by simp);obtain ⟨t,e2⟩:=Value.isInt_shape hk;have:=ZfF el (ls:=ls) fun j hj=>h j (.tail _ hj)
   rw [yaF,yaF,eg,e2];constructor;exact this
theorem Zh0 (es:Array (Int × Value)):((List.range es.size).map fun j=>iv (es.getD j (0,.none)).2)=es.toList.map fun e=>iv e.2:=by
 refine List.ext_getElem (by simp) fun i h1 h2=>?_
 have hi:i<es.size:=by simpa using h1
 simp [Array.getD,hi]
theorem iter_set {ks:List Int} (hS:ST prog w s.heap a ks) (q:∀ I h2 d,Wk prog w s.heap h2 a ks I→Q (.ref I) { s with heap:=h2,drawn:=d }):wpAny (model prog w) A (pyIter (.ref a)) Q E s:=by
 obtain ⟨o,es,ep,t,ho,hx,hd,el,hb,hf,gd,rfl,nd⟩:=hS;have hT:s.TypeIs (.ref a) "set":=⟨_,ho,hx.1⟩
 have la:a<s.heap.objs.size:=zad ho;have fr:s.heap.get? s.heap.objs.size=none:=by
   cases e:s.heap.get? s.heap.objs.size with
   | none=>rfl
   | some u=>exact absurd (zad e) (ybt _)
 refine wpAny_pyIter_slot hT PySem.F.slot_set_iter (zax PySem.F.slot_set_iter hT Ze7 ?_ (PySem.F.args_set_iter_1 _));unfold Builtin.«frozenset.__iter__»;refine zaa (m:=Builtin.Frozenset.slot0 "__iter__" ⟨[.ref a],[]⟩) (zab ?_);refine zaa (m:=Builtin.Frozenset.sizeOf a) (zaa (zaW ho hd hf (zab ?_)));refine zaa (m:=setDrawn a) ?_;unfold setDrawn;refine zaa (zai ho hd hf (zaa (Zc1 (zab ?_))));show wpAny _ _ (if (!bt w&&(!t.plain&&decide (es.size > 1)))=true then _ else _) _ _ _;have mk:∀ (f:Value) (s1:Shared),s1.heap.get? a=some o→(∀ h2,h2=s1.heap.push (itObj f (0:Nat) (.ref a) es.size ep)→Q (.ref s1.heap.objs.size) { s1 with heap:=h2 })→wpAny (model prog w) A.in1 (do let e ← setEpoch a;let z ← newFields "set_iterator" [f,rawInt 0,Value.ref a,rawInt es.size,rawInt e];ret z) (fun fin s'=>∃ v,fin=Fin.done (Flow.ret v)∧∃ T' r,s'.TypeIs v T'∧typeLookup (Value.type T') (Str.ofString "__next__")=pure (some r)∧Q v s') E s1:=by intro f s1 e1 q1;refine zaa (wpAny_setEpoch_of e1 hd hf (zaa (m:=newFields _ _) (wpAny_newObj_type (zab ⟨_,rfl,"set_iterator",_,⟨_,zag _ rfl,rfl⟩,slot_it_next.lookup,?_⟩))));exact q1 _ rfl
 cases hbt:bt w with
 | true =>
   rw [ycl,Bool.false_and,if_neg (by decide)];refine zaa (zab (mk _ s ho fun h2 e2=>q _ h2 s.drawn ⟨⟨_,_,_,_,_,ZhM hbt hf hd (yaA la),⟨?_,?_⟩,?_,.head _,fun b hb=>?_,ZfI (el.perm (Zd4 _ es)),(Zd4 _ es).map _,fun b hb=>?_⟩,fun b u e=>?_⟩))
   · rw [e2];exact zag _ rfl
   · rw [e2];exact zac _ ho
   · intro b hb
     rw [e2,ZT.size_push];rcases yaj.mp hb with z | z
     · rw [z];exact ybr _
     · rw [yal.mp z];exact ybs la
   · rw [yal.mp hb];exact fr
   · rcases yaj.mp hb with z | z
     · rw [z];exact .inr fr
     · exact .inl (yal.mp z)
   · rw [e2];exact zac _ e
 | false =>
   have ld:t.led=true:=by rw [gd.led,hbt];rfl
   rw [Bool.not_false,Bool.true_and];cases hp:(!t.plain&&decide (es.size > 1)) with
   | false =>
     rw [if_neg (by decide)];have hr:Ris t.place:=by
       cases pl:t.plain with
       | true=>exact gd.ris pl
       | false =>
         rw [pl] at hp;have sp:t.place.size=es.size:=by unfold SetTable.fits at hf;simp at hf;exact hf.1
         simp at hp;intro i j hj hij;omega
     refine zaa (zab (mk _ s ho fun h2 e2=>q _ h2 s.drawn ⟨⟨_,_,_,_,_,ZgP hbt ld hp hr hf hd (yaA la),⟨⟨0,?_,fun j _ z=>absurd z (ycq _),fun j _ _=>yau _⟩,?_⟩,?_,.head _,fun b hb=>?_,ZfI el,.refl _,fun b hb=>?_⟩,fun b u e=>?_⟩))
     · rw [e2];exact zag _ rfl
     · rw [e2];exact zac _ ho
     · intro b hb
       rw [e2,ZT.size_push];rcases yaj.mp hb with z | z
       · rw [z];exact ybr _
       · rw [yal.mp z];exact ybs la
     · rw [yal.mp hb];exact fr
     · rcases yaj.mp hb with z | z
       · rw [z];exact .inr fr
       · exact .inl (yal.mp z)
     · rw [e2];exact zac _ e
   | true =>
     rw [if_pos rfl];refine zaa (ZeP es.size (List.range es.size) s _ ybz fun ls d pl=>?_);have hls:∀ j∈ls,j<es.size:=fun j hj=>ybW.mp (pl.mem_iff.mp hj)
     refine zaa (m:=newTuple _) (wpAny_newObj_type ?_ ?_)
     · have e0:(s.heap.push { cls:=.type "tuple",data:=.seq (ls.map fun (i:Nat)=>rawInt i).toArray }).get? a=some o:=zac _ ho
       have sz1:(s.heap.push { cls:=.type "tuple",data:=.seq (ls.map fun (i:Nat)=>rawInt i).toArray }).objs.size=s.heap.objs.size+1:=zaN ..;have l1:a≠(s.heap.push { cls:=.type "tuple",data:=.seq (ls.map fun (i:Nat)=>rawInt i).toArray }).objs.size:=by rw [sz1];exact yaA (ybs la)
       have l2:s.heap.objs.size≠(s.heap.push { cls:=.type "tuple",data:=.seq (ls.map fun (i:Nat)=>rawInt i).toArray }).objs.size:=by rw [sz1];exact yaA (ybr _)
       refine mk _ _ e0 fun h2 e2=>q _ h2 d ⟨⟨_,_,_,_,_,Zhb (a:=a) (T:=s.heap.objs.size) hls hf hd l1 l2,⟨?_,?_,?_⟩,?_,.head _,fun b hb=>?_,ZfF el hls,?_,fun b hb=>?_⟩,fun b u e=>?_⟩
       · rw [e2];exact zag _ rfl
       · rw [e2]
         exact ⟨_,zac _ (zag _ rfl),rfl,_,rfl⟩
       · rw [e2];exact zac _ e0
       · intro b hb
         rw [e2,ZT.size_push];show b<(s.heap.push _).objs.size+1;rw [sz1];simp only [yaj,ybd,zaU] at hb;rcases hb with z | z | z
         · rw [z];show (s.heap.push _).objs.size<_;rw [sz1];exact ybr _
         · rw [z];exact ybs (ybr _)
         · rw [z];exact ybs (ybs la)
       · rw [yal.mp hb]
         show s.heap.get? (s.heap.push _).objs.size=none;rw [sz1];cases e:s.heap.get? (s.heap.objs.size+1) with
         | none=>rfl
         | some u=>exact absurd (zad e) (ycu.mpr (ycd _))
       · have:=pl.map fun j=>iv (es.getD j (0,.none)).2
         rw [Zh0] at this;exact this
       · simp only [yaj,ybd,zaU] at hb
         rcases hb with z | z | z
         · rw [z]
           refine .inr ?_;show s.heap.get? (s.heap.push _).objs.size=none;rw [sz1];cases e:s.heap.get? (s.heap.objs.size+1) with
           | none=>rfl
           | some u=>exact absurd (zad e) (ycu.mpr (ycd _))
         · rw [z];exact .inr fr
         · exact .inl z
       · rw [e2];exact zac _ (zac _ e)
     · show (ls.map fun (i:Nat)=>rawInt i).toArray.size≤sizeLine
       rw [yav,yaa,pl.length_eq,ybz];exact zaE hb
end
end SG
namespace SG
open PySem PySem.Spec PyProof.Rows
section
variable {a:Addr}
theorem ZhI {vs:List Value}{acc:Array Value}(h:ItemsOf (fun i v=>vs[i]?=some v) acc vs.length):acc.toList=vs:=by
 refine List.ext_getElem (by rw [yag,h.1]) fun i h1 h2=>?_
 have:=h.2 i acc[i] (by rw [yaG (by simpa using h1)]);have this:vs[i]?=some acc[i]:=this;rw [yae h2] at this;rw [Array.getElem_toList];exact (Option.some.inj this).symm
theorem hint_set {Q:Bool→Shared→Prop}(tS:s.TypeIs (.ref a) "set")(q:Q false s):wpAny (model prog w) A (Builtin.List.listLengthHint (.ref a)) Q E s:=by
 unfold Builtin.List.listLengthHint;refine zaa (wpAny_specialOf tS PySem.F.slot_set_len.lookup ?_);generalize hid:("set.__len__":String)=nm
 wp_delta
 rw [show splitId nm=some ("set","__len__") from by subst hid;decide +kernel];subst hid;refine zaa (wpAny_isInstance (T:="set") (b:=true) tS sub_set_self (wpAny_ite_split (fun z=>absurd z (by decide)) fun _=>wpAny_ite_split (fun _=>?_) fun z=>absurd (by decide +kernel) z));exact zaa (wpAny_typeOf tS (zab q))
theorem ZgL {ks:List Int} {Q:List Value→Shared→Prop} (hh:A.handled=none) (hS:ST prog w s.heap a ks) (hz:ks.length≤sizeLine)
   (q:∀ h' tk d vs ks',(∀ b o,s.heap.get? b=some o→h'.get? b=some o)→s.heap.objs.size<h'.objs.size→IntsAre vs ks'→ks'.Perm ks→Q vs { s with heap:=h',drawn:=d,toks:=tk }):wpAny (model prog w) A (collect (.ref a)) Q E s:=by
 have la:a<s.heap.objs.size:=by obtain ⟨o,_,_,_,e,_⟩:=hS;exact zad e
 have tS:s.TypeIs (.ref a) "set":=by obtain ⟨o,_,_,_,e,x,_⟩:=hS;exact ⟨o,e,x.1⟩
 unfold collect;refine zaa (wpAny_runValue (zaM PySem.F.entry_proto_collect ?_));rw [zaC PySem.F.plain_proto_collect _];refine zaa (m:=newList []) (wpAny_newObj_type ?_);refine zab ⟨za2 PySem.F.plain_list_iadd _,zaM PySem.F.entry_list_iadd ?_⟩;rw [zaC PySem.F.plain_list_iadd _];have e1:∀ b o,s.heap.get? b=some o→(s.heap.push { cls:=.type "list",data:=.seq ([]:List Value).toArray }).get? b=some o:=fun b o e=>zac _ e
 have n1:(s.heap.push { cls:=.type "list",data:=.seq ([]:List Value).toArray }).get? s.heap.objs.size=some { cls:=.type "list",data:=.seq #[] }:=zag _ rfl;have S1:ST prog w (s.heap.push { cls:=.type "list",data:=.seq ([]:List Value).toArray }) a ks:=hS.but (d:=a) fun o e=>e1 _ _ e
 have z1:(s.heap.push { cls:=.type "list",data:=.seq ([]:List Value).toArray }).objs.size=s.heap.objs.size+1:=zaN ..;show wpAny _ A.in1 (Builtin.List.listExtendWith (.ref s.heap.objs.size) (.ref a) (.ref s.heap.objs.size)) _ _ _;generalize hG:(s.heap.push { cls:=.type "list",data:=.seq ([]:List Value).toArray })=g1 at e1 n1 S1 z1;have tS1:Shared.TypeIs { s with heap:=g1 } (.ref a) "set":=by obtain ⟨o,e,c⟩:=tS;exact ⟨o,e1 _ _ e,c⟩
 unfold Builtin.List.listExtendWith;refine zaa (wpAny_typeOf tS1 ?_);have h1:Builtin.List.listSameRef (.ref s.heap.objs.size) (.ref a)=false:=by show (s.heap.objs.size==a)=false;exact zaL.mpr (ybJ la)
 rw [if_neg (by rw [h1];decide)];refine zaa (iter_set (s:={ s with heap:=g1 }) S1 fun I g2 d W=>?_);have tS2:Shared.TypeIs { s with heap:=g2,drawn:=d } (.ref a) "set":=by obtain ⟨o,e,c⟩:=tS1;exact ⟨o,W.old _ _ e,c⟩
 refine zaa (zaj (hint_set tS2 ?_));obtain ⟨⟨fp,wr,vs,ks',St,Wf,st,lf,hI,hw,hi,pm,fn⟩,old⟩:=W;have Wa:=Wf A.in1 hh;have nS:s.heap.objs.size∉fp:=fun z=>by
   rcases fn _ z with y | y
   · exact ybJ la y
   · rw [show (Shared.heap { s with heap:=g1 }).get? s.heap.objs.size=_ from n1] at y
     cases y
 have n2:=old _ _ n1;have lv:vs.length≤sizeLine:=by rw [IntsAre.length hi,pm.length_eq];exact hz
 have fin:∀ (g:Heap) (c:Nat) (R:Result→Shared→Prop),St 0 g→(∀ b o,b≠s.heap.objs.size→g2.get? b=some o→g.get? b=some o)→g.get? s.heap.objs.size=some { cls:=.type "list",data:=.seq #[] c }→(∀ s',wpAny (model prog w) A (load s.heap.objs.size >>= fun o=>match o.data with | .seq xs _=>pure xs.toList | _=>unsupported "internal:collect") Q E s'→R (.ok (.ret (.ref s.heap.objs.size))) s') →
     codeAny (model prog w) A (Code.builtin "list.extend.loop" ⟨[.ref s.heap.objs.size,.ref I,.ref s.heap.objs.size],[]⟩) R { s with heap:=g,drawn:=d }:=by
   intro g c R st0 k0 g0 hR;refine codeAny_extend_loopS Wa.toS lv s.heap.objs.size nS (.ref s.heap.objs.size) vs.length 0 _ #[] c rfl (yau _) st0 g0 (ItemsOf.nil _) fun s' acc' c' hm hS' hacc=>?_
   have eh:∀ b o,s.heap.get? b=some o→s'.heap.get? b=some o:=fun b o e=>by
     refine hm.heap b o (fun z=>?_) (k0 b o (yaA (zad e)) (old _ _ (e1 _ _ e)));rcases yaj.mp z with z | z
     · exact yaA (zad e) z
     · have:=hw b z
       rw [show (Shared.heap { s with heap:=g1 }).get? b=some o from e1 _ _ e] at this;cases this
   obtain ⟨h',ge,dr,tk,os⟩:=s';have e1:ge=s.gens:=hm.gens;have e2:dr=d:=hm.drawn;have e3:os=s.os:=hm.os;subst e1 e2 e3;refine hR _ (zaa (wpAny_load hS' (zab ?_)));rw [ZhI hacc];exact q h' tk dr vs ks' eh (zad hS') hi pm
 refine wpAny_ite_split (fun _=>?_) (fun _=>zab ⟨za2 PySem.F.plain_extend_loop _,fin g2 _ _ st (fun b o _ e=>e) n2 fun s' z=>z⟩);refine zaa (zaQ (zaa ?_));refine zaa (m:=updateSeq s.heap.objs.size (·.push .none)) (zaY n2 rfl ?_);have n3:=zaw (Obj.mapSeq (·.push Value.none)) n2 rfl;refine zaY (hz:=by seq_fits) n3 rfl ?_;have n4:=zaw (Obj.mapSeq (·.pop)) n3 rfl;have oth:∀ b o,b≠s.heap.objs.size→g2.get? b=some o→((g2.update s.heap.objs.size (Obj.mapSeq (·.push Value.none))).update s.heap.objs.size (Obj.mapSeq (·.pop))).get? b=some o:=fun b o ne e=>(zas _ _ (Ne.symm ne)).trans ((zas _ _ (Ne.symm ne)).trans e)
 exact zab ⟨za2 PySem.F.plain_extend_loop _,fin _ _ _ (Wa.frame 0 _ _ st fun b hb o e=>oth b o (fun z=>nS (z ▸ hb)) e) oth n4 fun s' z=>z⟩
end
end SG
namespace SG
open PySem PySem.Spec PyProof.Rows Srt
section
variable {a:Addr}
theorem sorted_set {ks:List Int}(hh:Ar.handled=none)(hS:ST prog w s.heap a ks)(hz:ks.length≤sizeLine)
   (q:∀ (h':Heap) (tk:Nat) (d:Drawn) (l:Addr) (out:Array Value) (ns:List Int) (e:Nat),(∀ b o,s.heap.get? b=some o→h'.get? b=some o)→s.heap.objs.size≤l→h'.get? l=some (seqObj "list" out e)→IntsAre out.toList ns→ns.Perm ks→ns.Pairwise (·≤·)→Q (.ref l) { s with heap:=h',drawn:=d,toks:=tk }) :
   wpAny (model prog w) Ar (call (.builtin "sorted") [.ref a]) Q E s:=by
 refine Calls.call_function_entry kind_sorted plain_sorted entry_sorted (args_sorted1 _) ?_;unfold Builtin.«sorted»;refine zaa (m:=checkCount "sorted" 1 1 _) (zab (zaa (ZgL (show Ar.in1.handled=none from hh) hS hz fun h1 tk d vs ks' old lt hi pm=>?_)));have lv:vs.length≤sizeLine:=by rw [IntsAre.length hi,pm.length_eq];exact hz
 refine zaa (wpAny_newList ?_ (by simpa using lv));have oL:(h1.push (seqObj "list" vs.toArray 0)).get? h1.objs.size=some (seqObj "list" vs.toArray 0):=zag _ rfl;have la:s.heap.objs.size≤h1.objs.size:=ybC lt;show wpAny _ _ _ _ _ { s with heap:=h1.push (seqObj "list" vs.toArray 0),drawn:=d,toks:=tk };refine zaa (zaj (zax slot_list_sort ⟨_,oL,rfl⟩ entry_list_sort (sort_ints oL hi lv fun out ns' g1 g2 g3=>⟨_,rfl,?_⟩) (args_list_sort _)));obtain ⟨e,he⟩:=sortedHeap_at (out:=out) oL;refine zab ⟨_,rfl,q _ tk d h1.objs.size out ns' e (fun b o e=>?_) la he g1 (g2.trans pm) g3⟩;have e2:=old b o e;have lb:b<h1.objs.size:=zad e2;rw [sortedHeap_old (yaA lb) (by rw [size_push'];exact ybs lb)];exact zac _ e2
end
end SG
namespace L2
open PySem PySem.Spec PyProof.Rows
theorem Zgt:bootBuiltins "set"=some (.type "set"):=by decide +kernel
theorem Inv.redrawn (I:Inv X pins σ H s)(d:Drawn):Inv X pins σ H { s with drawn:=d }:=by exact ⟨I.ok,I.os,I.bare,I.base,I.loc,I.cell,I.free,I.freeC,I.pin,I.hok,I.len⟩
section
variable {e:Expr}{p p' pos:Pos}
end
end L2
namespace L2
open PySem PySem.Spec PyProof.Rows
def cxLam (P:Program)(w:World)(K:ZFr)(mg:Str→Option Value)(base:Heap)(N:List Str)(qual:Str)(scope:Scope)(f:Addr)(cd:Value)(cl:List (Str × Addr))(A:Around)(outer:List Env)(s:Shared)(H:Hp):Cx where
 prog:=P
 w:=w
 K:=K
 mg:=mg
 base:=base
 A:=A.deeper (PySem.W.envX qual scope s.heap.objs.size f cd cl)
 N:=N
 s₀:=s
 H₀:=H
 env:=PySem.W.envX qual scope s.heap.objs.size f cd cl
 outer:=outer
 stack:=PySem.W.envX qual scope s.heap.objs.size f cd cl::outer
 ex:=[]
 calm:=true
 fn:=fun _=>false
 pn:=[]
 xe:=fun _ _=>False
structure LamScope (p:Str)(caps:List Str)(sc:Scope):Prop where
 kind:sc.kind=.function
 co:sc.isCoroutine=false
 gen:sc.isGenerator=false
 nd:(p::caps).Nodup
 par:sc.names.lookup p=some .local
 cap:∀ x∈caps,sc.names.lookup x=some .free
 has:∀ x,sc.names.lookup x=some .free→x∈caps
 nocell:∀ x∈sc.names,x.2≠.cell
theorem LamScope.nolook {p:Str}{caps:List Str}(S:LamScope p caps sc)(x:Str):sc.names.lookup x≠some .cell:=fun h=>S.nocell _ (zaz h) rfl
structure LamCells (h:Heap)(caps:List Str)(cl:List (Str × Addr))(cvs:List V):Prop where
 at_:∀ (i:Nat) (x:Str),caps[i]?=some x→∃ (c:Addr) (u:Value) (v:V),cl.lookup x=some c∧h.IsCell c (some u)∧cvs[i]?=some v∧RelV v u
 inj:∀ x y c,cl.lookup x=some c→cl.lookup y=some c→x=y
 all:∀ x c,cl.lookup x=some c→∃ v,h.IsCell c v
 len:cvs.length=caps.length
abbrev Fz (o:Obj):HO:=.frz o (.own 0)
def CodeO (oc:Obj)(qual:Str):Prop:=∃ (vs:Array Value) (t:Tok),oc.data=.fields vs∧vs[1]?=some (.str qual t)
section
variable {k:Nat}{f c':Addr}{oc:Obj}{name p:Str}{caps:List Str}{params:Arguments}{body:Expr}{cl:List (Str × Addr)}{pm ctv:Value}{cvs:List V}{tb:TE}
theorem fn_lam (hcd:CodeO oc qual) (S:LamScope p caps scope) (C:LamCells base caps cl cvs)
   (hbody:∀ (A:Around) (outer:List Env) (s:Shared) (H:Hp),Room k (A.deeper (PySem.W.envX qual scope s.heap.objs.size f (.ref c') cl))→PE (cxLam P w K mg base (p::caps) qual scope f (.ref c') cl A outer s H) body tb) :
   FnOk P w K mg base CX0 (k+1) f (PySem.W.kla_fn name qual params body scope cl pm (.ref c') ctv) [p] (fun vs H Q _=>∃ x,vs=[x]∧H f=some (Fz (PySem.W.kla_obj name qual params body scope cl pm c' ctv))∧H c'=some (Fz oc)∧tb (some x::cvs.map some) H Q):=by
 refine ⟨fun vs H Q E h=>by obtain ⟨x,rfl,_⟩:=h;rfl,fun A outer s H args us vs Q E hr e0 hb r hsp=>?_⟩;obtain ⟨x,rfl,hf,hc,ht⟩:=hsp;obtain ⟨u,rfl,ru⟩:=r.one;have lim:s.heap.NoLimit:=e0.mod.nolimit.keeps fun b o e=>(e0.bs b o e).1
 have hfo:s.heap.get? f=some (PySem.W.kla_obj name qual params body scope cl pm c' ctv):=(e0.hok f _ hf).1;have hcr:s.heap.CodeRec (.ref c') qual:=by obtain ⟨vs,t,e1,e2⟩:=hcd;exact ⟨c',oc,vs,t,rfl,(e0.hok c' _ hc).1,e1,e2⟩
 refine PySem.W.kla_callFunE hr.depth hfo rfl S.co S.gen rfl hcr (hb _ _ _ _ ?_);refine wpAny_newFunctionEnv S.nocell (fun y hy=>?_) (fun h1 hns hsb=>⟨lim.fresh _ hsb,?_⟩) S.kind
 · have:y=(p,u):=by simpa using hy
   rw [this];exact S.par
 have hk:∀ b o,s.heap.get? b=some o→h1.get? b=some o:=fun b o e=>hsb.extBut b o (yaA (zad e)) (zac _ e)
 have kc:∀ {c:Addr} {v:Option Value},base.IsCell c v→h1.IsCell c v∧H c=none:=fun {c v} z=>by
   obtain ⟨o,e,d⟩:=z;exact ⟨⟨o,hk _ _ (e0.bs _ _ e).1,d⟩,(e0.bs _ _ e).2⟩
 have I:Inv (cxLam P w K mg base (p::caps) qual scope f (.ref c') cl A outer s H) [] (some x::cvs.map some) H { s with heap:=h1,toks:=s.toks+1 }:=by
   refine ⟨⟨e0.mod,S.kind,rfl,rfl,yad _,C.inj,fun y hy=>?_,(fun y c h=>nomatch h),fun _=>hr.hd,Around.frames_deeper e0.frames,.inr ⟨rfl,rfl⟩,fun b z=>absurd (show b∈([]:List Addr) from z) (by simp),e0.bs,e0.bsz,fun b _ _ z=>absurd (show b∈([]:List Addr) from z) (by simp),fun b z=>absurd (show b∈([]:List Addr) from z) (by simp),e0.funs,e0.frf⟩,
     rfl,e0.bare,Un.kept hk,⟨_,hns,fun i y v h1 h2 h3=>?_⟩,fun y c h=>?_,e0.hok.fresh (yad _),fun y c h=>?_,fun q hq=>absurd (show q∈([]:List (Addr × Obj)) from hq) (by simp),e0.hok.kept hk,?_⟩
   · have hy:scope.names.lookup y=some .cell∨scope.names.lookup y=some .free:=hy
     rcases hy with hy | hy
     · exact absurd hy (S.nolook y)
     · obtain ⟨i,hi,e⟩:=yaW.mp (S.has y hy)
       obtain ⟨c,_,_,h,_⟩:=C.at_ i y (by rw [yae hi,e]);exact ⟨c,h⟩
   · cases i with
     | zero =>
       cases (show p=y from Option.some.inj h1);cases (show x=v from Option.some.inj (Option.some.inj h2));exact ⟨u,ru,.inl ⟨S.par,by simp⟩⟩
     | succ i =>
       have h1:caps[i]?=some y:=h1;obtain ⟨c,u2,v2,e1,e2,e3,e4⟩:=C.at_ i y h1;have h2:(cvs.map some)[i]?=some (some v):=h2;rw [yay,e3] at h2;cases (show v2=v from Option.some.inj (Option.some.inj h2));exact ⟨u2,e4,.inr ⟨.inr (S.cap y (yaq h1)),c,e1,(kc e2).1⟩⟩
   · obtain ⟨v,e⟩:=C.all y c h
     exact ⟨v,(kc e).1⟩
   · obtain ⟨v,e⟩:=C.all y c h
     exact (kc e).2
   · show (some x::cvs.map some).length=(p::caps).length
     rw [yak,yak,yaa,C.len]
 refine PySem.W.kla_codeExpr (zaF (hbody A outer s H (hr.deeper _) [] _ _ H Q I ht) (fun v s' hs=>?_) fun e s' hs=>hs.elim);obtain ⟨v,H',J,rv,q⟩:=hs;exact ⟨v,H',J.os,J.bare,J.base,J.hok,rv,q⟩
end
def LamAt (P:Program)(w:World)(K:ZFr)(mg:Str→Option Value)(base:Heap)(k:Nat)(f:Addr)(ps:List Str)(sp:Sp):Prop :=
 ∃ fd:FuncData,FnOk P w K mg base CX0 k f fd ps sp∧Binds K fd ps []
def tCallV (P:Program)(w:World)(K:ZFr)(mg:Str→Option Value)(base:Heap)(k:Nat)(i:Nat)(t:TA):TE:=fun σ H Q=>∃ (f:Addr) (o:Obj) (fd:FuncData) (ps:List Str) (sp:Sp),
 σ[i]?=some (some (.ref f))∧H f=some (Fz o)∧o.data=.func fd∧LamAt P w K mg base k f ps sp∧t σ H fun vs H1=>H1 f=some (Fz o)∧sp vs H1 Q E0
section
variable {x:Str}{k:Nat}{e:Expr}{es:List Expr}{t:TA}{p pos:Pos}
theorem pe_callV (i:Nat)(hr:Room k X.A)(ha:PA X (e::es) t)(hN:X.N[i]?=some x:=by rfl)(hv:Vis X.env.scope x:=by first | exact Or.inl rfl | exact Or.inr (Or.inl rfl) | exact Or.inr (Or.inr rfl))(hd:(x==("__debug__":Str))=false:=by decide)(hcd:(x==("__classdict__":Str))=false:=by decide)
   (he:starEach (e::es) X.env=(false,eval e X.env)::starEach es X.env:=by rfl) (hpl:(backTo pos (starEach es X.env)).any (·.1)=false:=by rfl):PE X (.Call (.Name x p) (e::es) [] pos) (tCallV X.prog X.w X.K X.mg X.base k i t):=by
 intro pins s σ H Q I h;obtain ⟨f,o,fd,ps,sp,hs,hf,ho,⟨fd2,F,B⟩,h⟩:=h;have pn:PE X (.Name x p) (tVar i):=pv i hN hv hd hcd;refine zal (thn (pn pins s σ H (fun v H1=>v=.ref f∧H1=H) I ?_) fun u s1 ⟨v,H1,I1,r1,e1,e2⟩=>?_)
 · exact ⟨.ref f,hs,rfl,rfl⟩
 subst e1 e2;cases r1;have fa:∀ {s2:Shared} {H2:Hp},Inv X pins σ H2 s2→H2 f=some (Fz o)→PySem.W.FnAt f s2.heap:=fun {s2 H2} J z=>by
   obtain ⟨oc,od,dat,sl⟩:=o;have ho:dat=.func fd:=ho;subst ho;exact ⟨oc,od,fd,sl,(J.hok f _ z).1⟩
 refine PySem.W.callWith_F (fa I1 hf) (thn (ha pos pins s1 σ H1 _ I1 h) fun us s2 ⟨vs,H2,I2,r,hf2,q⟩=>⟨fa I2 hf2,?_⟩) he hpl;have q':sp (vs++[]) H2 Q E0:=by rw [yaH];exact q
 exact Zgd F hr B .nil pass0 I2 r q'
end
end L2
namespace L2
open PySem PySem.Spec PyProof.Rows
theorem Inv.grown {Pt c f:Addr} {ts more:Array Value} {oc fo:Obj} (I:Inv X pins σ H s) (hP:H Pt=some (.tbl ts)) (k:∀ b u,b≠Pt→s.heap.get? b=some u→h'.get? b=some u) (hP':h'.get? Pt=some { cls:=.none,data:=.fields (ts++more) })
   (hc:(s.heap.objs.size≤c∨H c=some (Fz oc))∧h'.get? c=some oc) (hf:s.heap.objs.size≤f) (hf':h'.get? f=some fo) (nc:c≠f) (ncP:c≠Pt):Inv X pins σ (upd (upd (upd H Pt (.tbl (ts++more))) c (Fz oc)) f (Fz fo)) { s with heap:=h',toks:=t' }:=by
 have lP:Pt<s.heap.objs.size:=zad (show s.heap.get? Pt=some _ from I.hok Pt _ hP);have nfP:f≠Pt:=ybJ (yax lP hf);have neF:∀ b u,s.heap.get? b=some u→b≠f:=fun b u e z=>absurd (yax (zad e) (by rw [z];exact hf)) (ybt _)
 have nF:H f=none:=I.hok.fresh hf;have same:∀ b o,H b=some o→b≠Pt→b≠c→upd (upd (upd H Pt (.tbl (ts++more))) c (Fz oc)) f (Fz fo) b=some o:=fun b o e n1 n2=>by
   rw [Zai (Zam e nF),Zai n2,Zai n1];exact e
 have keepAll:∀ b o,H b=some o→(∀ ps,o≠.tbl ps)→upd (upd (upd H Pt (.tbl (ts++more))) c (Fz oc)) f (Fz fo) b=some o:=fun b o e n=>by
   have n1:b≠Pt:=fun z=>by rw [z,hP] at e;cases e;exact n _ rfl
   by_cases n2:b=c
   · rcases hc.1 with z | z
     · have:=I.hok.fresh z
       rw [← n2,e] at this;cases this
     · rw [← n2,e] at z
       cases z;rw [Zai (Zam e nF),n2,Zab]
   · exact same b o e n1 n2
 refine I.step (g':=s.gens) (d':=s.drawn) (ch:=[]) (fun _ z=>nomatch z) (fun b u _ _ _ e n=>k b u (fun z=>by rw [z,hP] at n;cases n) e) (fun b u _ _ _ e n=>⟨u.slots,k b u (fun z=>by rw [z,hP] at n;cases n) e⟩) (fun b u _ e n=>?_) (fun b u _ e=>?_) (fun b xs e=>keepAll b _ e fun ps z=>by cases z) (fun b u v e=>keepAll b _ e fun ps z=>by cases z) (fun b ps e=>?_) (fun m hm=>?_) (fun b u e=>?_) I.bare
 · rw [Zai (neF b u e),Zai,Zai]
   · exact n
   · exact fun z=>by rw [z,hP] at n;cases n
   · intro z
     rcases hc.1 with y | y
     · rw [z] at e
       exact absurd (yax (zad e) y) (ybt _)
     · rw [z,y] at n
       cases n
 · by_cases z:b=Pt
   · rw [z];exact ⟨_,hP'⟩
   · exact ⟨u,k b u z e⟩
 · by_cases z:b=Pt
   · rw [z,hP] at e
     cases e;exact ⟨more,by rw [z,Zai (Ne.symm nfP),Zai (Ne.symm ncP),Zab]⟩
   · refine ⟨#[],?_⟩
     have n2:b≠c:=fun y=>by
       rcases hc.1 with q | q
       · have:=I.hok.fresh q
         rw [← y,e] at this;cases this
       · rw [← y,e] at q;cases q
     rw [same b _ e z n2];simp
 · obtain ⟨u,es,ep,ho,r⟩:=hm
   exact ⟨u,es,ep,k _ u (fun z=>by have:=I.free;rw [z,hP] at this;cases this) ho,r⟩
 · by_cases q1:b=f
   · rw [q1,Zab] at e
     cases e;rw [q1];exact ⟨hf',⟨fo,hf'⟩⟩
   · rw [Zai q1] at e
     by_cases q2:b=c
     · rw [q2,Zab] at e
       cases e;rw [q2];exact ⟨hc.2,⟨oc,hc.2⟩⟩
     · rw [Zai q2] at e
       by_cases q3:b=Pt
       · rw [q3,Zab] at e
         cases e;rw [q3];exact hP'
       · rw [Zai q3] at e
         refine (I.hok b u e).stay (fun c' v hc' q=>k c' v ?_ q) (fun c' q=>keepAll c' _ q fun ps z=>by cases z) fun c' xs q=>keepAll c' _ q fun ps z=>by cases z
         rcases hc' with z | z
         · rw [z];exact q3
         · intro y;rw [y,hP] at z;cases z
def Tb (H:Hp)(Pt:Addr)(qual:Str)(lp:Pos):Prop:=H Pt=some (.tbl #[])∨∃ (c:Addr) (oc:Obj),H Pt=some (.tbl #[rawInt lp.line,rawInt lp.col,.ref c])∧H c=some (Fz oc)∧CodeO oc qual∧c≠Pt
theorem Tb.same {Pt:Addr}{lp:Pos}(h:Tb H Pt qual lp)(s:Same H H'):Tb H' Pt qual lp:=by
 rcases h with h | ⟨c,oc,h1,h2,h3⟩
 · exact .inl (s _ _ h)
 · exact .inr ⟨c,oc,s _ _ h1,s _ _ h2,h3⟩
def SameT (Pt:Addr)(H H':Hp):Prop:=∀ b o,b≠Pt→H b=some o→H' b=some o
structure LamIn (X:Cx)(pn:Str)(caps:List Str)(ixs:List Nat)(scope:Scope)(clos:List (Str × Addr))(c Pt:Addr):Prop where
 sc:LamScope pn caps scope
 code:X.env.code=.ref c
 hd:PySem.W.CodeHd X.base c Pt
 cl:closureFor scope X.env=pure clos
 sub:∀ y a,clos.lookup y=some a→X.env.cells.lookup y=some a
 ix:∀ (i:Nat) (y:Str),caps[i]?=some y→∃ (j:Nat) (a:Addr),ixs[i]?=some j∧X.N[j]?=some y∧X.env.scope.names.lookup y=some .cell∧clos.lookup y=some a
 len:ixs.length=caps.length
 fn:∀ x,X.fn x=true
 blt:X.base.BuiltinsAt X.mg Pt
 ng:mainGlobals≠Pt
def valAt (σ:St)(j:Nat):V:=((σ[j]?).getD none).getD .non
structure Ready (P:Program)(w:World)(K:ZFr)(mg:Str→Option Value)(base:Heap)(k:Nat)(pn:Str)(tb:TE)(cvs:List V)(H0 H:Hp)(f:Addr):Prop where
 ex:∃ (o:Obj) (fd:FuncData) (c:Addr) (oc:Obj),H f=some (Fz o)∧o.data=.func fd∧H c=some (Fz oc)∧H0 f=none ∧
   LamAt P w K mg base k f [pn] (fun vs H Q _=>∃ x,vs=[x]∧H f=some (Fz o)∧H c=some (Fz oc)∧tb (some x::cvs.map some) H Q)
def tCallLam (P:Program)(w:World)(K:ZFr)(mg:Str→Option Value)(k:Nat)(pn:Str)(ixs:List Nat)(Pt:Addr)(qual:Str)(lp:Pos)(spg:Heap→Sp)(te tb:TE):TE:=fun σ H Q=>te σ H fun v H1 =>
 (∀ j∈ixs,∃ u,σ[j]?=some (some u))∧Tb H1 Pt qual lp∧∀ base' f H2,SameT Pt H1 H2→Tb H2 Pt qual lp→Ready P w K mg base' k pn tb (ixs.map (valAt σ)) H1 H2 f→spg base' [v,.ref f] H2 Q E0
section
open Classical in
noncomputable def withCells (h base:Heap) (clos:List (Str × Addr)):Heap:=hidT h (fun b=>if (∃ o,base.get? b=some o)∨∃ y,clos.lookup y=some b then none else some (.tbl #[]))
theorem Zcc {h:Heap}{b:Addr}{o:Obj}(e:h.get? b=some o)(a:(∃ o,base.get? b=some o)∨∃ y,clos.lookup y=some b):(withCells h base clos).get? b=some o :=
 Zhn e (by rw [if_pos a])
theorem Zdv {h:Heap}{b:Addr}{o:Obj}(e:(withCells h base clos).get? b=some o):h.get? b=some o∧((∃ o,base.get? b=some o)∨∃ y,clos.lookup y=some b):=by obtain ⟨e1,e2⟩:=ZiH e;refine ⟨e1,Classical.byContradiction fun n=>?_⟩;rw [if_neg n] at e2;cases e2
theorem Inv.env1 {pn:Str} {caps:List Str} {ixs:List Nat} {c Pt:Addr} (L:LamIn X pn caps ixs scope clos c Pt) (I:Inv X pins σ H s):Env0 X.prog X.w X.K X.mg (withCells s.heap X.base clos) X.A X.stack s H:=by
 have e0:=I.env0;have up:∀ b o,X.base.get? b=some o→(withCells s.heap X.base clos).get? b=some o:=fun b o e=>Zcc (e0.bs b o e).1 (.inl ⟨o,e⟩)
 refine ⟨e0.frames,?_,fun b o e=>?_,Nat.le_of_eq (ZfK _ _),?_,e0.frf,e0.hok,e0.bare⟩
 · obtain ⟨m1,m2,⟨mb,m3,m4⟩,m5⟩:=e0.mod
   exact ⟨m1.keeps up,m2.keeps up,⟨mb,m3.keeps up,m4⟩,m5.keeps up⟩
 · obtain ⟨e1,e2⟩:=Zdv e
   rcases e2 with ⟨o',e2⟩ | ⟨y,e2⟩
   · obtain ⟨a1,a2⟩:=e0.bs b o' e2
     exact ⟨e1,a2⟩
   · exact ⟨e1,I.freeC y b (L.sub y b e2)⟩
 · have cab:∀ y b,clos.lookup y=some b→X.s₀.heap.objs.size≤b:=fun y b e=>I.ok.cab y b (L.fn y) (L.sub y b e)
   have key:∀ l:List Env,(∀ e∈l,∀ Lf,e.frame=some Lf→(X.base.get? Lf=none→(withCells s.heap X.base clos).get? Lf=none))→s.heap.FunFrames X.base l→s.heap.FunFrames (withCells s.heap X.base clos) l:=by
     intro l;induction l with
     | nil=>exact fun _ _=>trivial
     | cons env rest ih =>
       intro h1 h2;obtain ⟨a1,⟨Lf,o,a2,a3,a4,a5⟩,a6⟩:=h2;exact ⟨a1,⟨Lf,o,a2,h1 env (.head _) Lf a2 a3,a4,a5⟩,ih (fun e he=>h1 e (.tail _ he)) a6⟩
   refine key X.stack (fun e he Lf hL hb=>?_) e0.funs;cases q:(withCells s.heap X.base clos).get? Lf with
   | none=>rfl
   | some o =>
     exfalso
     obtain ⟨q1,q2⟩:=Zdv q;rcases q2 with ⟨o',q2⟩ | ⟨y,q2⟩
     · rw [q2] at hb;cases hb
     · obtain ⟨v,oc,z1,z2⟩:=I.cell y Lf (L.sub y Lf q2)
       have out:e∈X.outer→False:=fun ho=>by
         have lt:∀ l:List Env,e∈l→X.s₀.heap.FunFrames X.base l→Lf<X.s₀.heap.objs.size:=by
           intro l;induction l with
           | nil=>intro z;cases z
           | cons env rest ih =>
             intro z h2;obtain ⟨_,⟨L2,o2,a2,_,a4,_⟩,a6⟩:=h2;rcases yaj.mp z with z | z
             · rw [← z,hL] at a2
               cases a2;exact zad a4
             · exact ih z a6
         exact absurd (lt X.outer ho I.ok.funs) (ycu.mpr (cab y Lf q2))
       rcases I.ok.stk with z | ⟨z,zf⟩
       · exact out (by rw [← z];exact he)
       · rw [z] at he
         rcases yaj.mp he with he | he
         · rw [he,zf] at hL
           cases hL;obtain ⟨m,⟨u,es,epn,hu,du,_⟩,_⟩:=I.loc;rw [hu] at z1;cases z1;rw [du] at z2;cases z2
         · exact out he
end
section
variable {pn g a1 a2:Str}{caps:List Str}{ixs:List Nat}{params:Arguments}{c Pt:Addr}{body e1:Expr}{lp p pos:Pos}{tb:TE}{k kg:Nat}{spg:Heap→Sp}
theorem cells_of (L:LamIn X pn caps ixs scope clos c Pt)(I:Inv X pins σ H s)(hv:∀ j∈ixs,∃ u,σ[j]?=some (some u)):LamCells (withCells s.heap X.base clos) caps clos (ixs.map (valAt σ)):=by
 refine ⟨fun i y hy=>?_,fun x y b h1 h2=>I.ok.inj x y b (L.sub _ _ h1) (L.sub _ _ h2),fun y b h=>?_,by rw [yaa];exact L.len⟩
 · obtain ⟨j,a,h1,h2,h3,h4⟩:=L.ix i y hy
   obtain ⟨v,hv⟩:=hv j (yaq h1);obtain ⟨m,hn,hl⟩:=I.loc;obtain ⟨u,ru,hlk⟩:=hl j y v h2 hv (.inr (.inl h3));rcases hlk with ⟨q,_⟩ | ⟨_,b,hb,hc⟩
   · rw [show X.env.kindOf y=_ from h3] at q
     cases q
   · have:b=a:=Option.some.inj (hb.symm.trans (L.sub y a h4))
     subst this;obtain ⟨o,ho,hd⟩:=hc;refine ⟨b,u,v,h4,⟨o,Zcc ho (.inr ⟨y,h4⟩),hd⟩,?_,ru⟩;rw [yay,h1];show some (valAt σ j)=some v;unfold valAt;rw [hv];rfl
 · obtain ⟨v,o,ho,hd⟩:=I.cell y b (L.sub _ _ h)
   exact ⟨v,o,Zcc ho (.inr ⟨y,h⟩),hd⟩
end
end L2
namespace L2
open PySem PySem.Spec PyProof.Rows
section
variable {pn g:Str}{ps:List Str}{caps:List Str}{ixs:List Nat}{params:Arguments}{c Pt:Addr}{body e1:Expr}{lp p pos:Pos}{tb:TE}{k kg:Nat}{spg:Heap→Sp}
theorem make_lam (L:LamIn X pn caps ixs scope clos c Pt)(hdef:defaultsOf params X.env=([],[]))(I:Inv X pins σ H s)(ht:Tb H Pt (X.env.qual++"<lambda>") lp)
   (q:∀ f c' oc pm ctv h' tk H2,H2 f=some (Fz (PySem.W.kla_obj "<lambda>" (X.env.qual++"<lambda>") params body scope clos pm c' ctv))→H2 c'=some (Fz oc)→CodeO oc (X.env.qual++"<lambda>")→H f=none→SameT Pt H H2→Tb H2 Pt (X.env.qual++"<lambda>") lp→Inv X pins σ H2 { s with heap:=h',toks:=tk }→Q (.ref f) { s with heap:=h',toks:=tk }) :
   wpAny (model X.prog X.w) X.A (eval (.Lambda params body scope lp) X.env) Q X.xe s:=by
 have hg:s.heap.Ns mainGlobals X.mg:=I.mod.glob.keeps I.bk;have C:PySem.W.CodeHd s.heap c Pt:=L.hd.keeps I.bk;have hB:s.heap.BuiltinsAt X.mg Pt:=by obtain ⟨bm,o,b1,b2,b3,b4,b5,r⟩:=L.blt;exact ⟨bm,o,b1,b2,b3,b4,I.bk _ _ b5,r⟩
 refine PySem.W.kla_eval hdef ?_;have lt:∀ {ts:Array Value},H Pt=some (.tbl ts)→Pt<s.heap.objs.size:=fun h=>zad (show s.heap.get? Pt=some _ from I.hok Pt _ h)
 rcases ht with h0 | ⟨c0,oc,h0,hc0,hco,ncP⟩
 · refine PySem.W.kla_makeFunction L.cl I.ok.glob hg L.code C (I.hok Pt _ h0) trivial rfl L.ng hB fun c' ctv h' tk hx hge hlt hrec htb=>?_
   obtain ⟨c2,oc,vs,t,e1,e2,e3,e4⟩:=hrec;cases e1;have ncP:c'≠Pt:=ybJ (yax (lt h0) hge);have lf:s.heap.objs.size≤h'.objs.size:=ybC (ybG hge hlt);have nf:h'.objs.size≠Pt:=ybJ (yax (lt h0) lf);have J:=I.grown (t':=tk) (more:=#[rawInt lp.line,rawInt lp.col,.ref c']) (h':=h'.push (PySem.W.kla_obj "<lambda>" (X.env.qual++"<lambda>") params body scope clos ((X.mg "__name__").getD .none) c' ctv)) h0 (fun b u ne e=>zac _ (hx b u ne e)) (zac _ htb) ⟨.inl hge,zac _ e2⟩ lf (zag _ rfl) (yaA hlt) ncP;have hfn:H h'.objs.size=none:=I.hok.fresh lf;have hcn:H c'=none:=I.hok.fresh hge;refine q h'.objs.size c' oc _ ctv _ tk _ Zab (by rw [Zai (yaA hlt),Zab]) ⟨vs,t,e3,e4⟩ hfn (fun b o n e=>?_) (.inr ⟨c',oc,?_,?_,⟨vs,t,e3,e4⟩,ncP⟩) J
   · rw [Zai (Zam e hfn),Zai (Zam e hcn),Zai n]
     exact e
   · rw [Zai (Ne.symm nf),Zai (Ne.symm ncP),Zab]
     rfl
   · rw [Zai (yaA hlt),Zab]
 · refine PySem.W.kla_makeFunctionHit (cv:=.ref c0) L.cl I.ok.glob hg L.code C (I.hok Pt _ h0) trivial ?_ hB fun ctv h' tk hk hsz=>?_
   · show (if ((lp.line:Int)==(lp.line:Int)&&(lp.col:Int)==(lp.col:Int))=true then some (Value.ref c0) else _)=_
     rw [if_pos (by simp)]
   have nf:h'.objs.size≠Pt:=ybJ (yax (lt h0) hsz);have lc:c0<s.heap.objs.size:=zad (I.hok c0 _ hc0).1;have ncf:c0≠h'.objs.size:=yaA (yax lc hsz);have J:=I.grown (t':=tk) (more:=#[]) (h':=h'.push (PySem.W.kla_obj "<lambda>" (X.env.qual++"<lambda>") params body scope clos ((X.mg "__name__").getD .none) c0 ctv)) h0 (fun b u _ e=>zac _ (hk b u e)) (by rw [Array.append_empty];exact zac _ (hk _ _ (I.hok Pt _ h0))) ⟨.inr hc0,zac _ (hk _ _ (I.hok c0 _ hc0).1)⟩ hsz (zag _ rfl) ncf ncP;have hfn:H h'.objs.size=none:=I.hok.fresh hsz;refine q h'.objs.size c0 oc _ ctv _ tk _ Zab (by rw [Zai ncf,Zab]) hco hfn (fun b o n e=>?_) (.inr ⟨c0,oc,?_,?_,hco,ncP⟩) J
   · rw [Zai (Zam e hfn)]
     by_cases z:b=c0
     · rw [z,Zab];rw [z,hc0] at e;exact e
     · rw [Zai z,Zai n];exact e
   · rw [Zai (Ne.symm nf),Zai (Ne.symm ncP),Zab,Array.append_empty]
   · rw [Zai ncf,Zab]
theorem ZeS (L:LamIn X pn caps ixs scope clos c Pt)(hdef:defaultsOf params X.env=([],[]))(hbnd:∀ (pm:Value) (c':Addr) (ctv u:Value),bindArgs (PySem.W.kla_fn "<lambda>" (X.env.qual++"<lambda>") params body scope clos pm (.ref c') ctv) ⟨[u],[]⟩=pure [(pn,u)])
   (hbody:∀ (base':Heap) (f c':Addr) (A:Around) (outer:List Env) (s:Shared) (H:Hp),Room k (A.deeper (PySem.W.envX (X.env.qual++"<lambda>") scope s.heap.objs.size f (.ref c') clos))→PE (cxLam X.prog X.w X.K X.mg base' (pn::caps) (X.env.qual++"<lambda>") scope f (.ref c') clos A outer s H) body tb)
   (Fg:∀ base',FnAt X.prog X.w X.K X.mg base' g ps kg (spg base')) (hr:Room kg X.A) (hg:Gl X g) (he1:PE X e1 te)
   (hs:starEach [e1,.Lambda params body scope lp] X.env=[(false,eval e1 X.env),(false,eval (.Lambda params body scope lp) X.env)]:=by rfl) (hs2:starEach [.Lambda params body scope lp] X.env=[(false,eval (.Lambda params body scope lp) X.env)]:=by rfl) (hdb:(g==("__debug__":Str))=false:=by decide) :
   PE X (.Call (.Name g p) [e1,.Lambda params body scope lp] [] pos) (tCallLam X.prog X.w X.K X.mg (k+1) pn ixs Pt (X.env.qual++"<lambda>") lp spg te tb):=by
 intro pins s σ H Q I h;obtain ⟨ff,fdf,_,mf,kp,_⟩:=Fg X.base;refine zal (Zdw I hg mf ?_ hdb);refine PySem.W.callWith_K (h₀:=X.base) I.ok.mod.kin kp ?_ (by rw [hs,hs2]) (by rw [hs2];rfl);rw [hs];show wpAny _ _ (spliced ((false,eval e1 X.env)::backTo pos [(false,eval (.Lambda params body scope lp) X.env)])) _ _ s;refine zan (thn (he1 pins s σ H _ I h) fun u s1 ⟨v,H1,I1,r1,hv,htb,q⟩=>?_);show wpAny _ _ (spliced ((false,eval (.Lambda params body scope lp) X.env)::backTo pos [])) _ _ s1;refine zan (make_lam L hdef I1 htb fun f c' oc pm ctv h' tk H2 e1 e2 e3 e4 e5 e6 J=>zaD ⟨J.kIn,?_⟩);obtain ⟨f2,fd2,G,m2,_,b2⟩:=Fg (withCells h' X.base clos);have ef:f2=ff:=by have:=m2.symm.trans mf;cases this;rfl
 subst ef;have C:=cells_of L J hv;have FL:=fn_lam (P:=X.prog) (w:=X.w) (K:=X.K) (mg:=X.mg) (base:=withCells h' X.base clos) (k:=k) (f:=f) (c':=c') (oc:=oc) (name:="<lambda>") (params:=params) (body:=body) (pm:=pm) (ctv:=ctv) (tb:=tb) e3 L.sc C (hbody _ f c');have R:Ready X.prog X.w X.K X.mg (withCells h' X.base clos) (k+1) pn tb (ixs.map (valAt σ)) H1 H2 f:=⟨_,_,c',oc,e1,rfl,e2,e4,_,FL,Binds.all fun us hl=>by
   match us,hl with
   | [u],_=>exact hbnd pm c' ctv u⟩
 have hq:=q _ f H2 e5 e6 R;have e0:=J.env1 L;have hl:[u,Value.ref f].length=ps.length:=by have:=G.len _ _ _ _ hq;rw [← this];rfl
 refine wpAny_call (za3 (G.run X.A X.stack _ H2 ⟨[u,.ref f],[]⟩ [u,.ref f] [v,.ref f] Q E0 hr e0 ?_ (.cons r1 (.cons rfl .nil)) hq) fun r s' hq=>?_)
 · have:=b2 { s1 with heap:=h',toks:=tk } [u,.ref f] J.kIn (by simpa using hl)
   simpa using this
 · cases r with
   | error e=>exact hq.elim
   | ok fl =>
     cases fl with
     | ret u=>exact J.after hq
     | next=>exact False.elim hq
     | brk=>exact False.elim hq
     | cont=>exact False.elim hq
end
end L2
namespace L2
open PySem PySem.Spec PyProof.Rows
def TabIn (base:Heap)(mg:Str→Option Value)(t:Addr × Addr):Prop:=PySem.W.CodeHd base t.1 t.2∧base.BuiltinsAt mg t.2∧mainGlobals≠t.2
theorem ZjT {mb:Str→Option Value}{k:Nat}{fa a:Addr}{x:Str}{s₁:Shared}{vs:List Value}{ns:List Int}{tabs:List (Addr × Addr)}
   (KX:K.In s₁.heap) (hns:s₁.heap.Ns mainGlobals mg) (hb:s₁.heap.Ns builtinsNs mb) (hbb:∀ x:Str,x≠"__name__"→mb x=bootBuiltins x) (hlim:s₁.heap.NoLimit) (hg:s₁.gens=#[])
   (hbm:∃ bm ob,mg "__builtins__"=some (.ref bm)∧bm≠builtinsNs∧s₁.heap.get? bm=some ob∧ob.cls=.type "module"∧ob.dict=some builtinsNs∧ob.data=.plain)
   (hT:PySem.W.TabsAt tabs s₁.heap) (hKT:∀ t∈tabs,K.lookup t.2=none)
   (ha:s₁.heap.get? a=some { cls:=.type "list",data:=.seq vs.toArray }) (hi:IntsAre vs ns) (hl:ns.length≤sizeLine) (hr:Room k callerA)
   (F:∀ base:Heap,K.In base→base.Ns mainGlobals mg→(∀ t∈tabs,TabIn base mg t)→FnOk P w K mg base CX0 k fa fd [x] sp) (hbind:∀ (s:Shared) (u:Value),BindsTo s fd ⟨[u],[]⟩ [(x,u)])
   (hsp:∀ H:Hp,(∀ t∈tabs,H t.2=some (.tbl #[]))→SqL K H a (ns.map V.int)→sp [.ref a] H (fun v _=>v=.bl true) fun _ _ _=>False) :
   codeAny (model P w) callerA (.call (.ref fa) ⟨[.ref a],[]⟩) (fun r s'=>r=.ok (.ret (.bool true))∧OldK s₁.heap s'.heap∧s'.os=s₁.os∧AllBare s'.gens) s₁:=by
 have rv:=Zc2 hi;have aT:a∉tabs.map (·.2):=fun z=>by
   obtain ⟨t,ht,e⟩:=yaD.mp z;have:=(hT t ht).2;rw [e,ha] at this;cases this
 obtain ⟨H,hH⟩:∃ H:Hp,H=fun b=>if b∈tabs.map (·.2) then some (.tbl #[]) else if b=a∧K.lookup a=none then some (.frz { cls:=.type "list",data:=.seq vs.toArray } (.lst (ns.map V.int))) else none:=⟨_,rfl⟩
 have hTab:∀ t∈tabs,H t.2=some (.tbl #[]):=fun t ht=>by rw [hH];exact if_pos (yaD.mpr ⟨t,ht,rfl⟩)
 have cases_:∀ b o,H b=some o→(b∈tabs.map (·.2)∧o=.tbl #[])∨(b=a∧K.lookup a=none∧o=.frz { cls:=.type "list",data:=.seq vs.toArray } (.lst (ns.map V.int))):=fun b o e=>by
   rw [hH] at e;dsimp only at e;by_cases z:b∈tabs.map (·.2)
   · rw [if_pos z] at e;cases e;exact .inl ⟨z,rfl⟩
   · rw [if_neg z] at e
     by_cases y:b=a∧K.lookup a=none
     · rw [if_pos y] at e;cases e;exact .inr ⟨y.1,y.2,rfl⟩
     · rw [if_neg y] at e;cases e
 have tabO:∀ b,b∈tabs.map (·.2)→s₁.heap.get? b=some (PySem.W.tabObj #[])∧K.lookup b=none:=fun b z=>by
   obtain ⟨t,ht,rfl⟩:=yaD.mp z;exact ⟨(hT t ht).2,hKT t ht⟩
 have hok:HOk P w H s₁.heap:=fun b o e=>by
   rcases cases_ b o e with ⟨z,rfl⟩ | ⟨rfl,_,rfl⟩
   · exact (tabO b z).1
   · exact ⟨ha,by rw [yaa];exact hl,vs,_,rv,ha⟩
 have base_of:∀ {b:Addr} {o:Obj},s₁.heap.get? b=some o→H b=none→(hidT s₁.heap H).get? b=some o:=fun e n=>Zhn e n
 have free_of:∀ {b:Addr} {o:Obj},s₁.heap.get? b=some o→o≠PySem.W.tabObj #[]→o≠{ cls:=.type "list",data:=.seq vs.toArray }→H b=none:=fun {b o} e n1 n2=>by
   cases q:H b with
   | none=>rfl
   | some u =>
     rcases cases_ b u q with ⟨z,_⟩ | ⟨z,_⟩
     · rw [(tabO b z).1] at e;cases e;exact absurd rfl n1
     · rw [z,ha] at e;cases e;exact absurd rfl n2
 have nsK:∀ {b:Addr} {m:Str→Option Value},s₁.heap.Ns b m→(hidT s₁.heap H).Ns b m:=fun {b m} ⟨o,es,ep,e,d,r⟩=>⟨o,es,ep,base_of e (free_of e (fun z=>by rw [z] at d;cases d) fun z=>by rw [z] at d;cases d),d,r⟩
 have hKb:K.In (hidT s₁.heap H):=fun b o e=>base_of (KX b o e) (by
   cases q:H b with
   | none=>rfl
   | some u =>
     rcases cases_ b u q with ⟨z,_⟩ | ⟨z,z2,_⟩
     · rw [(tabO b z).2] at e;cases e
     · rw [z,z2] at e;cases e)
 have hM:Mod K mg (hidT s₁.heap H):=⟨hKb,nsK hns,⟨mb,nsK hb,hbb⟩,let ⟨mc,h1,h2⟩:=hlim;⟨mc,nsK h1,h2⟩⟩
 have e0:Env0 P w K mg (hidT s₁.heap H) callerA [] s₁ H:=⟨rfl,hM,fun b o e=>ZiH e,Nat.le_of_eq (ZfK _ _),trivial,fun b hb=>absurd (show b∈([]:List Addr) from hb) (by simp),hok,.of_eq hg⟩
 have hTI:∀ t∈tabs,TabIn (hidT s₁.heap H) mg t:=fun t ht=>by
   obtain ⟨o,vs0,file,tf,flags,tg,inF,text,tt,c1,c2,c3,rest⟩:=(hT t ht).1;obtain ⟨bm,ob,b1,b2,b3,b4,b5,b6⟩:=hbm;obtain ⟨og,es,ep,g1,g2,_⟩:=hns;refine ⟨⟨o,vs0,file,tf,flags,tg,inF,text,tt,base_of c1 (free_of c1 (fun z=>by rw [z] at c2;cases c2) fun z=>by rw [z] at c3;cases c3),c2,c3,rest⟩,⟨bm,ob,b1,b2,fun z=>?_,fun z=>?_,base_of b3 (free_of b3 (fun z=>by rw [z] at b4;cases b4) fun z=>by rw [z] at b6;cases b6),b4,b5,b6⟩,fun z=>?_⟩
   · rw [z,g1] at b3;cases b3;rw [g2] at b6;cases b6
   · have:=(hT t ht).2;rw [← z,b3] at this;cases this;cases b4
   · have:=(hT t ht).2;rw [← z,g1] at this;cases this;cases g2
 have hSq:SqL K H a (ns.map V.int):=by
   cases hk:K.lookup a with
   | some o =>
     have e:=KX a o hk;rw [ha] at e;cases e;exact .inr ⟨_,vs.toArray,_,hk,rfl,rfl,rfl,by rw [yav,hi.length];exact hl,by simpa using rv⟩
   | none =>
     refine .inl (.inr ⟨{ cls:=.type "list",data:=.seq vs.toArray },?_⟩);rw [hH];exact (if_neg aT).trans (if_pos ⟨rfl,hk⟩)
 refine za3 ((F _ hKb (nsK hns) hTI).run callerA [] s₁ H ⟨[.ref a],[]⟩ [.ref a] [.ref a] _ _ hr e0 (hbind s₁ (.ref a)) (.cons rfl .nil) (hsp H hTab hSq)) fun r s' h=>?_
 cases r with
 | error e=>exact h.elim
 | ok fl =>
   cases fl with
   | next=>exact False.elim h
   | brk=>exact False.elim h
   | cont=>exact False.elim h
   | ret u =>
     obtain ⟨v,H',os,bare,un,hok',r',q⟩:=h;have q':v=.bl true:=q;subst q';obtain rfl:u=Value.bool true:=r';refine ⟨rfl,⟨fun b o e=>?_,fun b o e=>un.there b o e (by simp)⟩,os,bare⟩;cases q:H b with
     | none=>exact .inl (un.keep b o e q (by intro z;exact absurd (show b∈([]:List Addr) from z) (by simp)) (by simp))
     | some u =>
       rcases cases_ b u q with ⟨z,rfl⟩ | ⟨z,z2,rfl⟩
       · obtain ⟨t,ht,rfl⟩:=yaD.mp z
         rw [(hT t ht).2] at e;cases e;obtain ⟨more,hm⟩:=un.tbls _ _ q;have hP:=hok' _ _ hm;exact .inr (.inl ⟨((hT t ht).1.tab (hT t ht).2).isCodeTable,rfl,#[],more,rfl,hP⟩)
       · have e2:=(hok' _ _ (un.frzs b _ _ q)).1
         rw [z,ha] at e;cases e;exact .inl e2
end L2
namespace Att
open PySem PySem.Spec PyProof.Rows PySem.W
theorem ZfJ:∀ {ns:List Int} {z:Int},z∈ns→Builtin.Int.intBits z≤WData.weightAll (ns.map WData.int)
 | n::r,_,.head _=>by
   show _≤WData.weight (.int n)+1+WData.weightAll (r.map WData.int);have:WData.weight (.int n)=Builtin.Int.intBits n:=by simp only [WData.weight,Builtin.Int.intBits]
   omega
 | n::r,z,.tail _ h=>by
   show _≤WData.weight (.int n)+1+WData.weightAll (r.map WData.int);have:=ZfJ h;omega
theorem attach_bits {l:OpenLaw}{n:Nat}{q:Program}{loose:List Str}{YP:World→Heap→Prop}{d:DefRec}(hn:l.most=some n)(hdf:d.params.defaults=[])
   (call:∀ (w:World) (s₀ s₁:Shared) (mg mb:Str→Option Value) (fa a:Addr) (vs:List Value) (ns:List Int),Ground q loose [] XP w s₀ mg mb s₁.heap→YP w s₁.heap→mg d.name=some (.ref fa) →
     s₁.heap.get? a=some { cls:=.type "list",data:=.seq vs.toArray }→IntsAre vs ns→ns.length≤n→(∀ z∈ns,Builtin.Int.intBits z≤2^20)→s₁.gens=#[] →
     codeAny (model l.prog w) callerA (.call (.ref fa) ⟨[.ref a],[]⟩) (fun r s'=>r=.ok (.ret (.bool true))∧OldK s₁.heap s'.heap∧s'.os=s₁.os∧AllBare s'.gens) s₁) :
   WalkO q loose XP YP l.row.toRowW d [] (fun f vs=>PySem.call f vs):=by
 intro w s₀ s₁ mg mb G Y fa o pm cd doc dV kV ho hd hcd hD hmg hg args vals as hpre hlay hrd hwl hlo;obtain ⟨a,vs,ns,rfl,rfl,hobj,hints,hlen⟩:=ZjQ hn hpre hwl;have hbits:∀ z∈ns,Builtin.Int.intBits z≤2^20:=fun z hz=>by
   have h1:WData.layable (WData.list (ns.map WData.int))=true:=by have h2:([WData.list (ns.map WData.int)].all WData.layable)=true:=hlay;simpa using h2
   unfold WData.layable at h1;simp only [ybl,yaL] at h1;have h3:WData.weightAll (ns.map WData.int)≤2^20:=h1.2;exact yaN (ZfJ hz) h3
 refine enter_call (za3 (call w s₀ s₁ mg mb fa a vs ns G Y hmg hobj hints hlen hbits hg) fun r s' ⟨e,h2,h3,h4⟩=>?_);subst e;exact ⟨.inl ⟨.bool true,.bool true,[],rfl,fun _=>rfl,.bool true,Zjq l _,fun _=>⟨List.Pairwise.nil,fun _ hm=>(nomatch hm)⟩⟩,h2,h3,h4⟩
end Att
namespace L2
open PySem PySem.Spec PyProof.Rows
theorem walk_ofT {l:PySem.W.OpenLaw} {n k:Nat} {q:Program} {loose:List Str} {YP:World→Heap→Prop} {d:DefRec} {K:Params→ZFr} {tabs:World→List (Addr × Addr)} {sp:World→Sp} {x:Str}
   (hn:l.most=some n) (hn2:n≤sizeLine) (hdf:d.params.defaults=[]) (hr:Room k callerA)
   (hY:∀ (w:World) (h:Heap),YP w h→(K w.params).In h)
   (hT:∀ (w:World) (s₀:Shared) (mg mb:Str→Option Value) (h:Heap),PySem.W.Ground q loose [] XP w s₀ mg mb h→(K w.params).In h→PySem.W.TabsAt (tabs w) h) (hKT:∀ w,∀ t∈tabs w,(K w.params).lookup t.2=none)
   (F:∀ (w:World) (mg:Str→Option Value) (fa:Addr) (h:Heap),(K w.params).In h→h.Ns mainGlobals mg→mg d.name=some (.ref fa) →
     ∃ fd:FuncData,(∀ (s:Shared) (u:Value),BindsTo s fd ⟨[u],[]⟩ [(x,u)]) ∧
       ∀ base:Heap,(K w.params).In base→base.Ns mainGlobals mg→(∀ t∈tabs w,TabIn base mg t)→FnOk l.prog w (K w.params) mg base CX0 k fa fd [x] (sp w))
   (hsp:∀ (w:World) (H:Hp) (a:Addr) (ns:List Int),ns.length≤n→(∀ z∈ns,Builtin.Int.intBits z≤2^20)→(∀ t∈tabs w,H t.2=some (.tbl #[]))→SqL (K w.params) H a (ns.map V.int)→sp w [.ref a] H (fun v _=>v=.bl true) fun _ _ _=>False) :
   PySem.W.WalkO q loose XP YP l.row.toRowW d [] (fun f vs=>PySem.call f vs):=by
 refine Att.attach_bits hn hdf fun w s₀ s₁ mg mb fa a vs ns G Y hmg hobj hints hlen hbits hg=>?_
 have KX:=hY w _ Y;obtain ⟨fd,hb,hF⟩:=F w mg fa _ KX G.T.g hmg;exact ZjT KX G.T.g G.T.b G.T.builtins G.T.nolimit hg G.T.bmain (hT w s₀ mg mb _ G KX) (hKT w) hobj hints (yaN hlen hn2) hr hF hb fun H h1 h2=>hsp w H a ns hlen hbits h1 h2
theorem ZiK:OpR X (binaryOp .Mult) (rI IntMulOk fun i j=>.int (i*j)):=opI fun _ _ _ _ _ _ _ hc q=>mul_int q hc
theorem ZeA {i j:Int}(h1:Builtin.Int.intBits i≤2^20)(h2:Builtin.Int.intBits j≤2^20):IntMulOk i j:=by
 unfold IntMulOk Builtin.Int.intTooBig;have:¬ (((Builtin.Int.intBits i:Int)+(Builtin.Int.intBits j:Int)) > ((bitsLine:Nat):Int)):=by have hb:bitsLine=2^27:=rfl;rw [hb];omega
 simp [this]
end L2
namespace L2
open PySem PySem.Spec PyProof.Rows
def DefAtC (K:ZFr)(mg:Str→Option Value)(x:Str)(st:Stmt)(ps:List Str)(c:Addr):Prop:=∃ f fd,Fun K x x st f fd∧mg x=some (.ref f)∧Binds K fd ps []∧fd.code=.ref c
theorem FnAt.ofC {x:Str}{st:Stmt}{ps:List Str}{k:Nat}{c:Addr}(d:DefAtC K mg x st ps c)(S:FnScope N ps (defScope st))(len:∀ vs H Q E,sp vs H Q E→vs.length=ps.length)
   (hbody:∀ (f:Addr) (A:Around) (outer:List Env) (s:Shared) (H:Hp) (vs:List V) (Q:VK) (E:XK),Room k (A.deeper (envOfC x (defScope st) s.heap.objs.size f (.ref c)))→sp vs H Q E →
     ∃ t,PSs (cxOf CX0 P w K mg base N x (defScope st) f (.ref c) A outer s H E).nox (defBody st) t∧t { nx:=fun _ H'=>Q .non H',rt:=Q } (start N vs) H):FnAt P w K mg base x ps (k+1) sp:=by
 obtain ⟨f,fd,F,m,b,hc⟩:=d;refine ⟨f,fd,?_,m,F.kp,b⟩;obtain ⟨oc,od,kV,doc,pm,an,cdv,ct,osl,rfl,lk,hcd⟩:=F.ex;have hc:cdv=.ref c:=hc;subst hc;refine fn_of lk hcd S len fun A outer s H vs Q E hr hsp=>?_
 obtain ⟨t,h,q⟩:=hbody f A outer s H vs Q E hr hsp;exact ⟨t,h.nox,q⟩
theorem Zed {p:Str}{caps:List Str}(h1:sc.kind=.function)(h2:sc.isCoroutine=false)(h3:sc.isGenerator=false)(h4:(p::caps).Nodup)(h5:sc.names.lookup p=some .local)(h6:∀ x∈caps,sc.names.lookup x=some .free)(h7:∀ q∈sc.names,q.2=.free→q.1∈caps)(h8:∀ q∈sc.names,q.2≠.cell):LamScope p caps sc :=
 ⟨h1,h2,h3,h4,h5,h6,fun x hx=>h7 _ (zaz hx) rfl,h8⟩
def AllIn (cells:List (Str × Addr)):List (Str × Addr)→Prop
 | []=>True
 | p::r=>cells.lookup p.1=some p.2∧AllIn cells r
theorem AllIn.mem {cells:List (Str × Addr)}:∀ {l:List (Str × Addr)},AllIn cells l→∀ p∈l,cells.lookup p.1=some p.2
 | _::_,h,_,.head _=>h.1
 | _::_,h,_,.tail _ hp=>h.2.mem _ hp
def IxOk (N:List Str)(sc:Scope)(clos:List (Str × Addr)):List Str→List Nat→Prop
 | [],[]=>True
 | y::cs,j::js=>(N[j]?=some y∧sc.names.lookup y=some .cell∧∃ a,clos.lookup y=some a)∧IxOk N sc clos cs js
 | _,_=>False
theorem IxOk.get:∀ {cs:List Str} {js:List Nat},IxOk N sc clos cs js→js.length=cs.length∧∀ (i:Nat) (y:Str),cs[i]?=some y→∃ (j:Nat) (a:Addr),js[i]?=some j∧N[j]?=some y∧sc.names.lookup y=some .cell∧clos.lookup y=some a
 | [],[],_=>⟨rfl,fun i y h=>by cases h⟩
 | [],_::_,h=>h.elim
 | _::_,[],h=>h.elim
 | y::cs,j::js,⟨⟨h1,h2,a,h3⟩,h4⟩=>by
   obtain ⟨l,g⟩:=IxOk.get h4;refine ⟨by rw [yak,yak,l],fun i z hz=>?_⟩;cases i with
   | zero=>cases (show y=z from Option.some.inj hz);exact ⟨j,a,rfl,h1,h2,h3⟩
   | succ i=>exact g i z hz
section
variable {x pn:Str}{f c Pt:Addr}{outer:List Env}{E:XK}{caps:List Str}{ixs:List Nat}
theorem ZgF (T:TabIn base mg (c,Pt))(S:LamScope pn caps scope)(cl:closureFor scope (envOfC x sc s.heap.objs.size f (.ref c))=pure clos)(al:AllIn (envOfC x sc s.heap.objs.size f (.ref c)).cells clos)(ix:IxOk N sc clos caps ixs) :
   LamIn (cxOf CX0 P w K mg base N x sc f (.ref c) A outer s H E).nox pn caps ixs scope clos c Pt :=
 ⟨S,rfl,T.1,cl,fun y a h=>al.mem _ (zaz h),ix.get.2,ix.get.1,fun _=>rfl,T.2.1,T.2.2⟩
end
end L2
namespace L2
open PySem PySem.Spec PyProof.Rows
def tabAt (K:ZFr)(x:Str):Addr × Addr:=(PySem.W.tabIn K x).getD (0,0)
def tabsOk (K:ZFr)(xs:List Str):Bool:=xs.all (fun x=>(PySem.W.tabIn K x).isSome&&(K.lookup (tabAt K x).2).isNone)&&decide ((xs.map fun x=>(tabAt K x).2).Nodup)
def recsOk (q:Program)(xs:List Str):Bool:=xs.all fun x=>((recsOf q).find? fun e=>e.name==x).isSome
theorem ZdM {xs:List Str}(h:tabsOk K xs=true){x:Str}(hx:x∈xs):PySem.W.tabIn K x=some (tabAt K x)∧K.lookup (tabAt K x).2=none:=by unfold tabsOk at h;rw [ybl] at h;have:=List.all_eq_true.mp h.1 x hx;rw [ybl] at this;refine ⟨?_,by simpa using this.2⟩;obtain ⟨t,ht⟩:=ycg.mp this.1;unfold tabAt;rw [ht];rfl
theorem Zf4 {xs:List Str}(h:tabsOk K xs=true):(xs.map fun x=>(tabAt K x).2).Nodup:=by unfold tabsOk at h;rw [ybl] at h;exact yaS h.2
theorem DefAt.toC {h:Heap}{x:Str}{st:Stmt}{ps:List Str}{t:Addr × Addr}(X:K.In h)(G:h.Ns mainGlobals mg)(d:DefAt K mg x st ps)(ht:PySem.W.tabIn K x=some t):DefAtC K mg x st ps t.1:=by obtain ⟨f,fd,F,m,b⟩:=d;refine ⟨f,fd,F,m,b,?_⟩;obtain ⟨oc,od,kV,doc,pm,an,cdv,ct,osl,rfl,lk,hcd⟩:=F.ex;exact PySem.W.law_code (c:=t.1) (P:=t.2) X G ht m (X _ _ lk) rfl
theorem walk_tabs {l:PySem.W.OpenLaw} {n k:Nat} {q:Program} {loose:List Str} {YP:World→Heap→Prop} {d:DefRec} {K:Params→ZFr} {sp:World→Sp} {x:Str} (xs:List Str)
   (hn:l.most=some n) (hn2:n≤sizeLine) (hdf:d.params.defaults=[]) (hr:Room k callerA)
   (hY:∀ (w:World) (h:Heap),YP w h→(K w.params).In h) (ok:∀ P,tabsOk (K P) xs=true) (rok:recsOk q xs=true)
   (F:∀ (w:World) (mg:Str→Option Value) (fa:Addr) (h:Heap),(K w.params).In h→h.Ns mainGlobals mg→mg d.name=some (.ref fa) →
     ∃ fd:FuncData,(∀ (s:Shared) (u:Value),BindsTo s fd ⟨[u],[]⟩ [(x,u)]) ∧
       ∀ base:Heap,(K w.params).In base→base.Ns mainGlobals mg→(∀ y∈xs,TabIn base mg (tabAt (K w.params) y))→FnOk l.prog w (K w.params) mg base CX0 k fa fd [x] (sp w))
   (hsp:∀ (w:World) (H:Hp) (a:Addr) (ns:List Int),ns.length≤n→(∀ z∈ns,Builtin.Int.intBits z≤2^20)→(∀ y∈xs,H (tabAt (K w.params) y).2=some (.tbl #[]))→(xs.map fun x=>(tabAt (K w.params) x).2).Nodup→SqL (K w.params) H a (ns.map V.int)→sp w [.ref a] H (fun v _=>v=.bl true) fun _ _ _=>False) :
   PySem.W.WalkO q loose XP YP l.row.toRowW d [] (fun f vs=>PySem.call f vs):=by
 refine walk_ofT (x:=x) (tabs:=fun w=>xs.map (tabAt (K w.params))) hn hn2 hdf hr hY (fun w s₀ mg mb h G KX=>?_) (fun w t ht=>?_) (fun w mg fa h KX G m=>?_) fun w H a ns h1 h2 h3 h4=>hsp w H a ns h1 h2 (fun y hy=>h3 _ (yaD.mpr ⟨y,hy,rfl⟩)) (Zf4 (ok _)) h4
 · intro t ht
   obtain ⟨y,hy,rfl⟩:=yaD.mp ht;obtain ⟨r,hr⟩:=ycg.mp (List.all_eq_true.mp rok y hy);exact PySem.W.tab_of G.T KX hr (ZdM (ok _) hy).1
 · obtain ⟨y,hy,rfl⟩:=yaD.mp ht
   exact (ZdM (ok _) hy).2
 · obtain ⟨fd,hb,hF⟩:=F w mg fa h KX G m
   exact ⟨fd,hb,fun base h1 h2 h3=>hF base h1 h2 fun y hy=>h3 _ (yaD.mpr ⟨y,hy,rfl⟩)⟩
end L2
namespace L2
open PySem PySem.Spec PyProof.Rows
def noT (H:Hp):Hp:=fun b=>match H b with
 | some (.tbl _)=>none
 | o=>o
section
variable {H2:Hp}{b l Pt:Addr}{o o':HO}{q:Str}{lp:Pos}
theorem Zan (e:H b=some o)(n:∀ ts,o≠.tbl ts):noT H b=some o:=by unfold noT;rw [e];cases o<;>first | rfl | exact absurd rfl (n _)
theorem Zag (e:noT H b=some o):H b=some o∧∀ ts,o≠.tbl ts:=by
 unfold noT at e;split at e
 · cases e
 · rename_i h
   refine ⟨e,fun ts z=>?_⟩;rw [z] at e;exact h _ e
theorem Zcf (e:H b=none):noT H b=none:=by unfold noT;rw [e]
theorem noT_sub:Same (noT H) H:=fun _ _ e=>(Zag e).1
theorem Same.noT (s:Same H H'):Same (noT H) (noT H'):=fun b o e=>Zan (s _ _ (Zag e).1) (Zag e).2
theorem noT_upd (n:∀ ts,o≠.tbl ts)(hb:H b=none∨∃ o',noT H b=some o'):noT (upd H b o)=upd (noT H) b o:=by
 funext c;by_cases z:c=b
 · rw [z,Zab]
   exact Zan Zab n
 · rw [Zai z]
   unfold L2.noT;rw [Zai z]
theorem nl (xs:List V)(ts:Array Value):HO.lst xs≠.tbl ts:=fun z=>by cases z
theorem nt (xs:List V)(ts:Array Value):HO.tup xs≠.tbl ts:=fun z=>by cases z
theorem ni (C dx:Addr)(fs:List (Str × V))(ts:Array Value):HO.ins C dx fs≠.tbl ts:=fun z=>by cases z
theorem nd (kvs:List (Key × V))(ts:Array Value):HO.dK kvs≠.tbl ts:=fun z=>by cases z
theorem Tb.ne (h:Tb H Pt q lp)(e:H b=some o)(n:∀ ts,o≠.tbl ts):b≠Pt:=fun z=>by
 rcases h with h | ⟨_,_,h,_⟩<;>(rw [← z,e] at h;exact n _ (Option.some.inj h))
theorem Tb.sameT {P1 P2:Addr}{q1 q2:Str}{l1 l2:Pos}(h:Tb H P2 q2 l2)(s:SameT P1 H H')(t:Tb H P1 q1 l1)(n:P2≠P1):Tb H' P2 q2 l2:=by
 rcases h with h | ⟨c,oc,h1,h2,h3⟩
 · exact .inl (s _ _ n h)
 · exact .inr ⟨c,oc,s _ _ n h1,s _ _ (Tb.ne t h2 fun _ z=>by cases z) h2,h3⟩
def Soft:HO→Prop
 | .tbl _=>False
 | .frz _ _=>False
 | _=>True
theorem Tb.put (h:Tb H Pt q lp)(e:H l=some o)(n:Soft o):Tb (upd H l o') Pt q lp:=by
 have ne:l≠Pt:=Tb.ne h e fun ts z=>by rw [z] at n;exact n
 rcases h with h | ⟨c,oc,h1,h2,h3⟩
 · exact .inl (by rw [Zai (Ne.symm ne)];exact h)
 · refine .inr ⟨c,oc,by rw [Zai (Ne.symm ne)];exact h1,?_,h3⟩
   have:c≠l:=fun z=>by rw [z,e] at h2;cases h2;exact n
   rw [Zai this];exact h2
end
abbrev Tabs:=List (Addr × Str × Pos)
def Tbs (ts:Tabs)(H:Hp):Prop:=∀ t∈ts,Tb H t.1 t.2.1 t.2.2
def TabsUq (ts:Tabs):Prop:=∀ t∈ts,∀ u∈ts,t.1=u.1→t=u
structure Nx (ts:Tabs)(H H':Hp):Prop where
 same:Same (noT H) (noT H')
 tb:Tbs ts H'
structure Nb (ts:Tabs)(m:Addr)(H H':Hp):Prop where
 same:∀ b o,b≠m→noT H b=some o→noT H' b=some o
 tb:Tbs ts H'
section
variable {ts:Tabs}{H2:Hp}{b l m:Addr}{o o':HO}
theorem Tbs.same (h:Tbs ts H)(s:Same H H'):Tbs ts H':=fun t ht=>Tb.same (h t ht) s
theorem Tbs.nx (h:Tbs ts H)(s:Same H H'):Nx ts H H':=⟨s.noT,h.same s⟩
theorem Tbs.put (h:Tbs ts H)(e:H l=some o)(n:Soft o):Tbs ts (upd H l o'):=fun t ht=>Tb.put (h t ht) e n
theorem Nx.trans (a:Nx ts H H')(b:Nx ts H' H2):Nx ts H H2:=⟨a.same.trans b.same,b.tb⟩
theorem Nx.at (a:Nx ts H H')(e:noT H b=some o):noT H' b=some o:=a.same _ _ e
theorem Nx.free (a:Nx ts H H')(e:noT H' b=none):noT H b=none:=a.same.free e
theorem Nx.nb (a:Nx ts H H'):Nb ts m H H':=⟨fun b o _ e=>a.same _ _ e,a.tb⟩
theorem Nb.trans (a:Nb ts m H H')(b:Nb ts m H' H2):Nb ts m H H2:=⟨fun c o n e=>b.same _ _ n (a.same _ _ n e),b.tb⟩
theorem Nx.new (h:Tbs ts H)(e:H l=none):Nx ts H (upd H l o'):=h.nx (Same.new e)
theorem Nx.put (a:Nx ts H H')(e:noT H l=none)(e':H' l=some o)(n:Soft o):Nx ts H (upd H' l o'):=by
 refine ⟨fun b x z=>?_,a.tb.put e' n⟩;have z2:=Zag (a.same _ _ z);have:b≠l:=fun y=>by rw [y,e] at z;cases z
 exact Zan (by rw [Zai this];exact z2.1) z2.2
theorem Nb.put (a:Nb ts m H H')(e':H' m=some o)(n:Soft o):Nb ts m H (upd H' m o'):=by refine ⟨fun b x y z=>?_,a.tb.put e' n⟩;have z2:=Zag (a.same _ _ y z);exact Zan (by rw [Zai y];exact z2.1) z2.2
theorem Nb.of_new (a:Nb ts m H H')(e:noT H m=none):Nx ts H H':=⟨fun b o z=>a.same _ _ (fun y=>by rw [y,e] at z;cases z) z,a.tb⟩
theorem Tbs.grow {P1:Addr}{q1:Str}{l1:Pos}(u:TabsUq ts)(h:Tbs ts H)(hm:(P1,q1,l1)∈ts)(s:SameT P1 H H')(t':Tb H' P1 q1 l1):Nx ts H H':=by
 have t:=h _ hm;refine ⟨fun b o e=>?_,fun x hx=>?_⟩
 · obtain ⟨e1,e2⟩:=Zag e
   exact Zan (s _ _ (Tb.ne t e1 e2) e1) e2
 · by_cases z:x.1=P1
   · have:=u x hx _ hm z
     rw [this];exact t'
   · exact Tb.sameT (h x hx) s t z
theorem SqL.noT {a:Addr}(h:SqL K (noT H) a xs):SqL K H a xs:=noT_sub.seq h
end
section
variable {x m:Str}{ps:List Str}{j k:Nat}{sp':Sp}
theorem FnAt.imp (F:FnAt P w K mg base x ps k sp)(h:∀ vs H Q E,sp' vs H Q E→sp vs H Q E):FnAt P w K mg base x ps k sp':=by obtain ⟨f,fd,a,b⟩:=F;exact ⟨f,fd,a.imp h,b⟩
end
end L2
namespace L2
open PySem PySem.Spec PyProof.Rows Srt SG
theorem hu1 {k:Nat}(hr:Room k A):A.units+1<cLine:=ybG (by omega) (hu64 hr)
section
variable {td ty tx tv:TE}{Q:VK}
end
theorem Zd7:∀ {vs:List Value} {ns:List Int},vs.length=ns.length→(∀ (j:Nat) (v:Value),vs[j]?=some v→∃ i t,ns[j]?=some i∧v=Value.int i t)→IntsAre vs ns
 | [],[],_,_=>.nil
 | [],_::_,h,_=>by cases h
 | _::_,[],h,_=>by cases h
 | v::vs,n::ns,h,g=>by
   obtain ⟨i,t,e,rfl⟩:=g 0 v rfl;cases (show n=i from Option.some.inj e);exact .cons n t (Zd7 (Nat.succ.inj h) fun j v e=>g (j+1) v e)
section
variable {x:Str}{p pos:Pos}
theorem Zi2 {ps:List Str}{k:Nat}(F:MakeAt X.prog X.w X.K X.mg X.base x C ps k sp)(hr:Room (k+1) X.A)(hg:Gl X x)(hdb:(x==("__debug__":Str))=false:=by decide):PE X (.Call (.Name x p) [] [] pos) (tMake C sp [] E0 tNil):=by obtain ⟨hm,f,fd,M,F,b⟩:=F;exact pe_make0 M F hr hg hm b .nil pass0 hdb
end
def rSortD:List V→Hp→VK→Prop:=fun xs H Q=>∃ (a:Addr) (kvs:List (Key × V)) (ns:List Int),xs=[.ref a]∧H a=some (.dK kvs)∧kvs.map (·.1)=ns.map Sum.inl∧∀ (l:Addr) (ns':List Int),H l=none→ns'.Perm ns→ns'.Pairwise (·≤·)→Q (.ref l) (upd H l (.lst (ns'.map V.int)))
theorem ZbC (hc:X.calm=true:=by rfl):CallR X (.builtin "sorted") rSortD:=by
 intro pins s σ H xs us Q I r h;obtain ⟨a,kvs,ns,rfl,ha,hk,q⟩:=h;obtain ⟨u,rfl,ru⟩:=r.one;cases (show u=Value.ref a from ru);obtain ⟨hz,lo,vs,kv,o,es,ep,g1,g2,g3,g4,g5,g6⟩:=dk_of I.hok ha;have lk:kvs.length=vs.length:=kv.length;have ln:ns.length=kvs.length:=by have:=congrArg List.length hk;rw [yaa,yaa] at this;exact this.symm
 refine Calls.call_function_entry kind_sorted plain_sorted entry_sorted (args_sorted1 _) ?_;unfold Builtin.«sorted»;refine zaa (m:=checkCount "sorted" 1 1 _) (zab ?_);refine zaa (PySem.W.kdu_collect (A:=X.A.in1) (PySem.W.kdl_dict (knd:=mixKind X.prog X.w) (kvs:=vs) (ep:=ep) lo) (show X.A.in1.handled=none from I.ok.hd hc) ⟨o,es,g1,g2,g3,g4,g5,g6⟩ (by omega) fun h1 tk acc old hacc=>?_);have hi:IntsAre acc.toList ns:=by
   refine Zd7 (by rw [yag,hacc.1];omega) fun j v hv=>?_
   obtain ⟨k,y,e1,e2⟩:=hacc.2 j v (by rw [← yaE];exact hv);have ek:(vs.map (·.1))[j]?=some k:=by rw [yay,e1];rfl
   rw [← kv.keys,hk,yay] at ek;cases en:ns[j]? with
   | none=>rw [en] at ek;cases ek
   | some i =>
     rw [en] at ek;cases (show Sum.inl i=k from Option.some.inj ek);rw [ZhR] at e2;rcases ZaG e2 with ⟨i',t,z1,z2⟩ | ⟨x,t,z1,z2⟩
     · cases z1
       exact ⟨i,t,rfl,z2⟩
     · cases z1
 have lv:acc.toList.length≤sizeLine:=by rw [IntsAre.length hi];omega
 refine zaa (wpAny_newList ?_ (by simpa using lv));have oL:(h1.push (seqObj "list" acc.toList.toArray 0)).get? h1.objs.size=some (seqObj "list" acc.toList.toArray 0):=zag _ rfl;show wpAny _ _ _ _ _ { s with heap:=h1.push (seqObj "list" acc.toList.toArray 0),toks:=tk };refine zaa (zaj (zax slot_list_sort ⟨_,oL,rfl⟩ entry_list_sort (Srt.sort_ints oL hi lv fun out ns' g1 g2 g3=>⟨_,rfl,?_⟩) (args_list_sort _)));obtain ⟨e,he⟩:=sortedHeap_at (out:=out) oL;have I1:Inv X pins σ H { s with heap:=h1,toks:=tk }:=I.kept old;have lo2:(ns'.map V.int).length≤sizeLine:=by rw [yaa,g2.length_eq];omega
 refine zab ⟨_,rfl,.ref h1.objs.size,_,I1.laid (t':=tk) (o:=.lst (ns'.map V.int)) (fun b u e2=>?_) (yad _) ⟨lo2,out.toList,e,Zc2 g1,by rw [Array.toArray_toList];exact he⟩,rfl,q _ ns' (I1.hok.fresh (yad _)) g2 g3⟩;have lb:b<h1.objs.size:=zad e2;rw [sortedHeap_old (yaA lb) (by rw [size_push'];exact ybs lb)];exact zac _ e2
end L2
namespace L2
open PySem PySem.Spec PyProof.Rows
section
variable {p:Addr}
end
section
variable {o e:Expr}{es:List Expr}{m:Str}{ta:TE}{t:TA}{apos pos:Pos}
end
end L2
namespace BM
structure Ent where
 key:Nat
 ps:List Nat
 loc:Nat
def kys (es:List Ent):List Nat:=es.map (·.key)
def tot:List Ent→Nat
 | []=>0
 | e::r=>e.ps.length+tot r
def ahs:Nat→List Ent→List Nat
 | _,[]=>[]
 | a,e::r=>a::ahs (a+e.ps.length) r
def flat:List Ent→List Nat
 | []=>[]
 | e::r=>e.ps.map (fun p=>256*e.key+p)++flat r
structure EsOk (es:List Ent):Prop where
 up:Up 0 (kys es)
 klt:∀ e∈es,e.key<256
 pup:∀ e∈es,Up 0 e.ps
 plt:∀ e∈es,∀ p∈e.ps,p<256
 ne:∀ e∈es,e.ps≠[]
def loE (k:Nat)(es:List Ent):List Ent:=es.filter fun e=>decide (e.key<k)
def miE (k:Nat)(es:List Ent):List Ent:=es.filter fun e=>decide (e.key=k)
def hiE (k:Nat)(es:List Ent):List Ent:=es.filter fun e=>decide (k<e.key)
def plcE (k:Nat)(es:List Ent):List Nat:=match miE k es with
 | []=>[]
 | e::_=>e.ps
def keepE (k:Nat)(ps:List Nat)(a:Nat)(es:List Ent):List Ent:=loE k es++(if ps=[] then [] else [⟨k,ps,a⟩])++hiE k es
theorem above {k:Nat}{es:List Ent}(h:∀ e∈es,k<e.key):loE k es=[]∧miE k es=[]∧hiE k es=es:=by
 refine ⟨ybc.mpr fun e he=>?_,ybc.mpr fun e he=>?_,ybP.mpr fun e he=>?_⟩
 · have:=h e he;simp;omega
 · have:=h e he;simp;omega
 · exact yap (h e he)
theorem Ziq {a:Nat}{es:List Ent}(h:Up a (kys es)):∀ e∈es,a≤e.key:=fun e he=>h.of_lt _ (yaD.mpr ⟨e,he,rfl⟩)
theorem split:∀ {a:Nat} {es:List Ent} (k:Nat),Up a (kys es)→es=loE k es++miE k es++hiE k es
 | _,[],_,_=>rfl
 | a,e::r,k,h=>by
   obtain ⟨h1,h2⟩:a≤e.key∧Up (e.key+1) (kys r):=h;have ab:=Ziq h2;rcases Nat.lt_trichotomy e.key k with c | c | c
   · have ih:=split k h2
     have e1:loE k (e::r)=e::loE k r:=ycm (yap c);have e2:miE k (e::r)=miE k r:=ybB (by simp;omega);have e3:hiE k (e::r)=hiE k r:=ybB (by simp;omega);rw [e1,e2,e3,ybK,ybK,← ih]
   · obtain ⟨a1,a2,a3⟩:=above (k:=k) (es:=r) fun x hx=>by have:=ab x hx;omega
     have e1:loE k (e::r)=loE k r:=ybB (by simp;omega);have e2:miE k (e::r)=e::miE k r:=ycm (yap c);have e3:hiE k (e::r)=hiE k r:=ybB (by simp;omega);rw [e1,e2,e3,a1,a2,a3];rfl
   · obtain ⟨a1,a2,a3⟩:=above (k:=k) (es:=r) fun x hx=>by have:=ab x hx;omega
     have e1:loE k (e::r)=loE k r:=ybB (by simp;omega);have e2:miE k (e::r)=miE k r:=ybB (by simp;omega);have e3:hiE k (e::r)=e::hiE k r:=ycm (yap c);rw [e1,e2,e3,a1,a2,a3];rfl
theorem Zbw:∀ {a:Nat} {es:List Ent} (k:Nat),Up a (kys es)→miE k es=[]∨∃ e,miE k es=[e]∧e.key=k∧e∈es
 | _,[],_,_=>.inl rfl
 | a,e::r,k,h=>by
   obtain ⟨h1,h2⟩:a≤e.key∧Up (e.key+1) (kys r):=h;by_cases c:e.key=k
   · obtain ⟨a1,a2,a3⟩:=above (k:=k) (es:=r) fun x hx=>by have:=Ziq h2 x hx;omega
     have e2:miE k (e::r)=e::miE k r:=ycm (yap c);exact .inr ⟨e,by rw [e2,a2],c,.head _⟩
   · have e2:miE k (e::r)=miE k r:=ybB (by simp;omega)
     rw [e2];rcases Zbw k h2 with z | ⟨x,z1,z2,z3⟩
     · exact .inl z
     · exact .inr ⟨x,z1,z2,.tail _ z3⟩
theorem ZdO {k:Nat}{es:List Ent}{e:Ent}(h:e∈loE k es):e∈es∧e.key<k:=⟨(yas.mp h).1,yaS (yas.mp h).2⟩
theorem Zd5 {k:Nat}{es:List Ent}{e:Ent}(h:e∈hiE k es):e∈es∧k<e.key:=⟨(yas.mp h).1,yaS (yas.mp h).2⟩
theorem Up.append {b:Nat}:∀ {a:Nat} {xs ys:List Nat},Up a xs→(∀ x∈xs,x<b)→Up b ys→a≤b→Up a (xs++ys)
 | _,[],_,_,_,h,l=>h.mono l
 | a,x::xs,ys,h,hb,h2,_=>by
   obtain ⟨h1,h3⟩:a≤x∧Up (x+1) xs:=h;exact ⟨h1,h3.append (fun y hy=>hb y (.tail _ hy)) h2 (hb x (.head _))⟩
theorem Ze0 (p:Nat→Bool)(es:List Ent):kys (es.filter fun e=>p e.key)=(kys es).filter p:=by unfold kys;rw [ybY];rfl
theorem ZaN:∀ x y:List Ent,tot (x++y)=tot x+tot y
 | [],y=>by show tot y=0+tot y;omega
 | e::r,y=>by
   show e.ps.length+tot (r++y)=e.ps.length+tot r+tot y;rw [ZaN r y];omega
theorem ZbS:∀ (a:Nat) (x y:List Ent),ahs a (x++y)=ahs a x++ahs (a+tot x) y
 | _,[],_=>rfl
 | a,e::r,y=>by
   show a::ahs (a+e.ps.length) (r++y)=a::(ahs (a+e.ps.length) r++ahs (a+(e.ps.length+tot r)) y);rw [ZbS,yct]
theorem Zbo:∀ (a:Nat) (es:List Ent),(ahs a es).length=es.length
 | _,[]=>rfl
 | a,e::r=>congrArg (·+1) (Zbo (a+e.ps.length) r)
theorem ZfY:∀ (a:Nat) (es:List Ent) (i:Nat),i<es.length→(ahs a es)[i]?=some (a+tot (es.take i))
 | _,[],_,h=>by cases h
 | a,e::r,0,_=>rfl
 | a,e::r,i+1,h=>by
   show (ahs (a+e.ps.length) r)[i]?=some (a+(e.ps.length+tot (r.take i)));rw [ZfY (a+e.ps.length) r i (Nat.lt_of_succ_lt_succ h),yct]
theorem Zfl (m:Int):∀ (a b:Nat) (es:List Ent),(b:Int)=a+m→(ahs a es).map (fun (x:Nat)=>(x:Int)+m)=(ahs b es).map (fun (x:Nat)=>(x:Int))
 | _,_,[],_=>rfl
 | a,b,e::r,h=>by
   show ((a:Int)+m)::(ahs (a+e.ps.length) r).map _=(b:Int)::(ahs (b+e.ps.length) r).map _;rw [Zfl m (a+e.ps.length) (b+e.ps.length) r (by omega),h]
theorem Zb1:∀ x y:List Ent,flat (x++y)=flat x++flat y
 | [],_=>rfl
 | e::r,y=>by
   show e.ps.map _++flat (r++y)=e.ps.map _++flat r++flat y;rw [Zb1 r y,yaf]
theorem Za9:∀ es:List Ent,(flat es).length=tot es
 | []=>rfl
 | e::r=>by
   show (e.ps.map _++flat r).length=e.ps.length+tot r;rw [yac,yaa,Za9 r]
theorem ZbX {n:Nat}:∀ {es:List Ent},(∀ e∈es,∀ p∈e.ps,p<256)→(n∈flat es↔∃ e∈es,e.key=n/256∧n%256∈e.ps)
 | [],_=>by
   constructor
   · intro h;cases h
   · rintro ⟨_,h,_⟩;cases h
 | e :: r,h=>by
   show n∈e.ps.map _++flat r↔_;rw [yai,ZbX (fun x hx=>h x (.tail _ hx))];constructor
   · rintro (z | ⟨x,x1,x2⟩)
     · obtain ⟨p,hp,rfl⟩:=yaD.mp z
       have:=h e (.head _) p hp;exact ⟨e,.head _,by omega,by rw [show (256*e.key+p)%256=p by omega];exact hp⟩
     · exact ⟨x,.tail _ x1,x2⟩
   · rintro ⟨x,x1,x2,x3⟩
     rcases yaj.mp x1 with rfl | x1
     · exact .inl (yaD.mpr ⟨_,x3,by omega⟩)
     · exact .inr ⟨x,x1,x2,x3⟩
theorem ZaP {n:Nat}{es:List Ent}(h:EsOk es):n∈flat es↔n%256∈plcE (n/256) es:=by
 rw [ZbX h.plt];rcases Zbw (n/256) h.up with z | ⟨e,z1,z2,z3⟩
 · have:plcE (n/256) es=[]:=by unfold plcE;rw [z]
   rw [this];constructor
   · rintro ⟨x,x1,x2,x3⟩
     have:x∈miE (n/256) es:=yas.mpr ⟨x1,yap x2⟩;rw [z] at this;cases this
   · intro x;cases x
 · have:plcE (n/256) es=e.ps:=by unfold plcE;rw [z1]
   rw [this];constructor
   · rintro ⟨x,x1,x2,x3⟩
     have:x∈miE (n/256) es:=yas.mpr ⟨x1,yap x2⟩;rw [z1] at this;cases yal.mp this;exact x3
   · intro x
     exact ⟨e,z3,z2,x⟩
theorem Zfb {k:Nat}:∀ {a:Nat} {ps:List Nat},Up a ps→Up (256*k+a) (ps.map fun p=>256*k+p)
 | _,[],_=>trivial
 | a,p::r,h=>by
   obtain ⟨h1,h2⟩:a≤p∧Up (p+1) r:=h;exact ⟨by show 256*k+a≤256*k+p;omega,Zfb h2⟩
theorem ZiM:∀ {a:Nat} {es:List Ent},Up a (kys es)→(∀ e∈es,Up 0 e.ps)→(∀ e∈es,∀ p∈e.ps,p<256)→Up (256*a) (flat es)
 | _,[],_,_,_=>trivial
 | a,e::r,h,h2,h3=>by
   obtain ⟨g1,g2⟩:a≤e.key∧Up (e.key+1) (kys r):=h;have u1:=(Zfb (k:=e.key) (h2 e (.head _))).mono (a:=256*a) (by omega);refine u1.append (b:=256*(e.key+1)) (fun x hx=>?_) (ZiM g2 (fun x hx=>h2 x (.tail _ hx)) fun x hx=>h3 x (.tail _ hx)) (by omega);obtain ⟨p,hp,rfl⟩:=yaD.mp hx;have:=h3 e (.head _) p hp;omega
theorem EsOk.flat_up {es:List Ent}(h:EsOk es):Up 0 (flat es):=ZiM h.up h.pup h.plt
theorem lo_up {k:Nat}{es:List Ent}(h:Up 0 (kys es)):Up 0 (kys (loE k es)):=by have:=Ze0 (fun x=>decide (x<k)) es;show Up 0 (kys (es.filter fun e=>decide (e.key<k)));rw [this];exact h.filter
theorem hi_up {k:Nat}{es:List Ent}(h:Up 0 (kys es)):Up (k+1) (kys (hiE k es)):=by have:=Ze0 (fun x=>decide (k<x)) es;show Up (k+1) (kys (es.filter fun e=>decide (k<e.key)));rw [this];exact Zes h.filter fun p hp=>yaS (yas.mp hp).2
theorem Zcy {k:Nat} {a:Nat} {es:List Ent} {e:Ent} (h:e∈keepE k ps a es):(e∈es∧e.key≠k)∨(ps≠[]∧e=⟨k,ps,a⟩):=by
 unfold keepE at h;rcases yai.mp h with h | h
 · rcases yai.mp h with h | h
   · exact .inl ⟨(ZdO h).1,yaA (ZdO h).2⟩
   · split at h
     · cases h
     · rename_i n
       exact .inr ⟨n,yal.mp h⟩
 · exact .inl ⟨(Zd5 h).1,ybJ (Zd5 h).2⟩
theorem EsOk.keep {k:Nat}{a:Nat}{es:List Ent}(h:EsOk es)(hk:k<256)(hu:Up 0 ps)(hl:∀ p∈ps,p<256):EsOk (keepE k ps a es):=by
 refine ⟨?_,fun e he=>?_,fun e he=>?_,fun e he=>?_,fun e he=>?_⟩
 · unfold keepE kys
   rw [yaQ,yaQ,yaf];refine Up.append (b:=k) (lo_up h.up) (fun x hx=>?_) ?_ (yau _)
   · obtain ⟨e,he,rfl⟩:=yaD.mp hx
     exact (ZdO he).2
   · have:=hi_up (k:=k) h.up
     split
     · exact this.mono (ycd _)
     · exact ⟨yad _,this⟩
 · rcases Zcy he with ⟨z,_⟩ | ⟨_,rfl⟩
   · exact h.klt e z
   · exact hk
 · rcases Zcy he with ⟨z,_⟩ | ⟨_,rfl⟩
   · exact h.pup e z
   · exact hu
 · rcases Zcy he with ⟨z,_⟩ | ⟨_,rfl⟩
   · exact h.plt e z
   · exact hl
 · rcases Zcy he with ⟨z,_⟩ | ⟨z,rfl⟩
   · exact h.ne e z
   · exact z
theorem mi_keep {k j:Nat}{a:Nat}{es:List Ent}:miE j (keepE k ps a es)=if j=k then (if ps=[] then [] else [⟨k,ps,a⟩]) else miE j es:=by
 unfold keepE miE;rw [ybV,ybV];by_cases c:j=k
 · subst c
   rw [if_pos rfl];have l1:(loE j es).filter (fun e=>decide (e.key=j))=[]:=ybc.mpr fun e he=>by have:=(ZdO he).2;simp;omega
   have l2:(hiE j es).filter (fun e=>decide (e.key=j))=[]:=ybc.mpr fun e he=>by have:=(Zd5 he).2;simp;omega
   rw [l1,l2];split<;>simp
 · rw [if_neg c]
   have l3:(if ps=[] then [] else [(⟨k,ps,a⟩:Ent)]).filter (fun e=>decide (e.key=j))=[]:=by
     split
     · rfl
     · simp;omega
   rw [l3,yaH];unfold loE hiE;rw [List.filter_filter,List.filter_filter];rcases Nat.lt_or_gt_of_ne c with d | d
   · rw [show (es.filter fun e=>decide (e.key=j)&&decide (k<e.key))=[] from ybc.mpr fun e he=>by simp;omega,yaH]
     exact ybO fun e he=>by by_cases z:e.key=j<;>simp [z,d]
   · rw [show (es.filter fun e=>decide (e.key=j)&&decide (e.key<k))=[] from ybc.mpr fun e he=>by simp;omega,yaP]
     exact ybO fun e he=>by by_cases z:e.key=j<;>simp [z];omega
theorem Zhm {k j:Nat}{a:Nat}{es:List Ent}:plcE j (keepE k ps a es)=if j=k then ps else plcE j es:=by
 unfold plcE;rw [mi_keep];by_cases c:j=k
 · rw [if_pos c,if_pos c]
   by_cases n:ps=[]
   · rw [if_pos n,n]
   · rw [if_neg n]
 · rw [if_neg c,if_neg c]
def belE (n:Nat)(es:List Ent):Nat:=tot (loE (n/256) es)+((plcE (n/256) es).filter fun p=>decide (p<n%256)).length
theorem Zhs {n:Nat}{es:List Ent}(h:EsOk es):((flat es).filter fun x=>decide (x<n)).length=belE n es:=by
 have hs:=split (n/256) h.up;have f1:(flat (loE (n/256) es)).filter (fun x=>decide (x<n))=flat (loE (n/256) es):=ybP.mpr fun x hx=>by
   obtain ⟨e,e1,e2,e3⟩:=(ZbX fun e he=>h.plt e (ZdO he).1).mp hx;have:=(ZdO e1).2;exact yap (by omega)
 have f3:(flat (hiE (n/256) es)).filter (fun x=>decide (x<n))=[]:=ybc.mpr fun x hx=>by
   obtain ⟨e,e1,e2,e3⟩:=(ZbX fun e he=>h.plt e (Zd5 he).1).mp hx;have:=(Zd5 e1).2;simp;omega
 have f2:((flat (miE (n/256) es)).filter fun x=>decide (x<n)).length=((plcE (n/256) es).filter fun p=>decide (p<n%256)).length:=by
   rcases Zbw (n/256) h.up with z | ⟨e,z1,z2,z3⟩
   · unfold plcE;rw [z];rfl
   · unfold plcE
     rw [z1];show ((e.ps.map (fun p=>256*e.key+p)++[]).filter _).length=_;rw [yaH,ybY,yaa];refine congrArg List.length (ybO fun p hp=>?_);have:=h.plt e z3 p hp;show decide (256*e.key+p<n)=decide (p<n%256);exact ybF.mpr ⟨fun _=>by omega,fun _=>by omega⟩
 have:((flat (loE (n/256) es++miE (n/256) es++hiE (n/256) es)).filter fun x=>decide (x<n)).length=belE n es:=by rw [Zb1,Zb1,ybV,ybV,yac,yac,f1,f3,f2,Za9];rfl
 rw [← hs] at this;exact this
end BM
namespace BM
theorem ahs_ge:∀ (a:Nat) (es:List Ent) (x:Nat),x∈ahs a es→a≤x
 | _,[],_,h=>by cases h
 | a,e::r,x,h=>by
   rcases yaj.mp (show x∈a::ahs (a+e.ps.length) r from h) with z | z
   · omega
   · have:=ahs_ge _ r x z
     omega
theorem ahs_up:∀ (a:Nat) (es:List Ent),(∀ e∈es,e.ps≠[])→Up a (ahs a es)
 | _,[],_=>trivial
 | a,e::r,ne=>by
   have l0:0<e.ps.length:=List.length_pos_iff.mpr (ne e (.head _));exact ⟨yad _,(ahs_up (a+e.ps.length) r fun e he=>ne e (.tail _ he)).mono (by omega)⟩
theorem Zgw:∀ (a:Nat) (es:List Ent) (k:Nat),a≤k→k<a+tot es→∃ (n:Nat) (e:Ent) (x p:Nat),((ahs a es).filter fun y=>decide (y≤k)).length=n+1∧es[n]?=some e∧(ahs a es)[n]?=some x∧x≤k∧e.ps[k-x]?=some p∧(flat es)[k-a]?=some (256*e.key+p)
 | a,[],k,h1,h2=>by
   have:tot []=0:=rfl;omega
 | a,e :: r,k,h1,h2=>by
   have h2:k<a+(e.ps.length+tot r):=h2;have ea:ahs a (e::r)=a::ahs (a+e.ps.length) r:=rfl;have ef:flat (e::r)=e.ps.map (fun p=>256*e.key+p)++flat r:=rfl;rw [ea,ef];by_cases hk:k<a+e.ps.length
   · have hl:k-a<e.ps.length:=by omega
     refine ⟨0,e,a,e.ps[k-a],?_,rfl,rfl,h1,yae hl,?_⟩
     · rw [yba,if_pos (yap h1)]
       rw [ybc.mpr fun y hy=>by
         have:=ahs_ge _ r y hy;simp only [yaL];omega]
       rfl
     · rw [yaU (by rw [yaa];exact hl),yay,yae hl]
       rfl
   · obtain ⟨n,e',x,p,h3,h4,h5,h6,h7,h8⟩:=Zgw (a+e.ps.length) r k (by omega) (by omega)
     refine ⟨n+1,e',x,p,?_,h4,h5,h6,h7,?_⟩
     · rw [yba,if_pos (yap h1),yak,h3]
     · rw [yah (by rw [yaa];omega),yaa,show k-a-e.ps.length=k-(a+e.ps.length) by omega]
       exact h8
end BM
namespace ZL
open PySem
abbrev ZipH (h:Heap)(z TI TO T:Addr)(b:Bool):Prop :=
 h.get? z=some { cls:=.type "zip",dict:=none,data:=.fields #[rawInt T,.bool b,.bool false,.ref TI,.ref TO],slots:=#[] }
theorem alive {M:Model}{a:Addr}{Q:Option Obj→Shared→Prop}(h:Q (s.heap.get? a) s):wpAny M A (loadIfAlive a) Q E s:=fun _ _ _=>h
theorem notFree {z TI TO T:Addr}{b:Bool}{o:Obj}{Q:Bool→Shared→Prop}(hz:ZipH s.heap z TI TO T b)(hT:s.heap.get? T=some o)(q:∀ h',ZipH h' z TI TO T true→Heap.SameBut z s.heap h'→Q false { s with heap:=h' }) :
   wpAny (model prog w) A (Builtin.SmallTypes.ownedTupleIsFree (.ref z)) Q E s:=by
 unfold Builtin.SmallTypes.ownedTupleIsFree;refine zaa (wpAny_field hz rfl (x:=rawInt T) rfl ?_);show wpAny _ _ (loadIfAlive (T:Int).toNat >>= _) _ _ _;refine zaa (alive ?_);rw [yao,hT];show wpAny _ _ (field (.ref z) 1 >>= _) _ _ _;refine zaa (wpAny_field hz rfl (x:=.bool b) rfl ?_);cases b
 · refine zaa (zaH hz (by simp) fun h1 hz1 hs1=>zab (q h1 hz1 hs1))
 · exact zab (q s.heap hz (zaK ..))
theorem ZjE {z TI TO i1 i2 l1 l2 T:Addr}{k1 k2:Nat}{xs ys:Array Value}{x y:Value}{b:Bool}{o:Obj}(D:ZipApart z TI TO i1 i2 l1 l2)
   (hz:ZipH s.heap z TI TO T b) (hT:s.heap.get? T=some o) (hTI:IsPair s.heap TI (.ref i1) (.ref i2))
   (h1:s.heap.IsListIter i1 l1 k1) (h2:s.heap.IsListIter i2 l2 k2) (hl1:s.heap.IsList l1 xs) (hl2:s.heap.IsList l2 ys) (hx:xs[k1]?=some x) (hy:ys[k2]?=some y)
   (hQ:∀ h',ZipH h' z TI TO T true→h'.IsListIter i1 l1 (k1+1)→h'.IsListIter i2 l2 (k2+1)→IsPair h' s.heap.objs.size x y →
     (∀ c o,c≠z→c≠i1→c≠i2→s.heap.get? c=some o→h'.get? c=some o)→Q (.ref s.heap.objs.size) { s with heap:=h' }) :
   wpAny (model prog w) A (Builtin.«zip.__next__» ⟨[.ref z],[]⟩) (fun fin s'=>∃ v,fin=.done (.ret v)∧Q v s') E s:=by
 show wpAny _ _ (field (.ref z) 2 >>= _) _ _ _;refine zaa (wpAny_field hz rfl (x:=.bool false) rfl ?_);show wpAny _ _ (field (.ref z) 3 >>= _) _ _ _;refine zaa (wpAny_field hz rfl (x:=.ref TI) rfl ?_);refine zaa (wpAny_seqItems hTI rfl ?_);show wpAny _ _ (Builtin.SmallTypes.ownedTupleIsFree (.ref z) >>= _) _ _ _;refine zaa (notFree hz hT fun h₁ hz₁ hs₁=>?_);rw [if_neg (by decide)];refine zaa ?_;rw [← Array.forIn_toList];simp only [List.forIn_cons,List.forIn_nil];refine zaa (zaa (zaj ?_));show wpAny _ _ (Builtin.SmallTypes.nextOf (.ref i1) >>= _) _ _ _;refine zaa (wpAny_nextOf_list_item (h1.extBut hs₁.extBut D.i1z) (hl1.extBut hs₁.extBut D.l1z) hx fun h₂ h1₂ hs₂=>zab (zab ?_));refine zaa (zaa (zaj ?_));show wpAny _ _ (Builtin.SmallTypes.nextOf (.ref i2) >>= _) _ _ _;refine zaa (wpAny_nextOf_list_item ((h2.extBut hs₁.extBut D.i2z).extBut hs₂.extBut D.i12.symm) ((hl2.extBut hs₁.extBut D.l2z).extBut hs₂.extBut D.l2i1) hy fun h₃ h2₃ hs₃=>zab (zab (zab ?_)));show wpAny _ _ (newTuple [x,y] >>= _) _ _ _;refine zaa (wpAny_newTuple (zab ⟨_,rfl,?_⟩));have hsz:h₃.objs.size=s.heap.objs.size:=by rw [hs₃.1,hs₂.1,hs₁.1]
 have up:∀ c o,h₃.get? c=some o→(h₃.push { cls:=.type "tuple",data:=.seq #[x,y] }).get? c=some o:=fun c o e=>zac _ e
 have hT₃:IsPair (h₃.push { cls:=.type "tuple",data:=.seq #[x,y] }) h₃.objs.size x y:=zag _ rfl;show Q (.ref h₃.objs.size) _;rw [hsz] at hT₃ ⊢;exact hQ _ (up _ _ (hs₃.extBut _ _ D.i2z.symm (hs₂.extBut _ _ D.i1z.symm hz₁))) ((h1₂.extBut hs₃.extBut D.i12).at fun o e=>up _ o e) (h2₃.at fun o e=>up _ o e) hT₃ fun c o c1 c2 c3 e=>up c o (hs₃.extBut _ _ c3 (hs₂.extBut _ _ c2 (hs₁.extBut _ _ c1 e)))
theorem held_end {z TI TO i1 i2 l1 l2 T:Addr}{k1 k2:Nat}{xs ys:Array Value}{b:Bool}{o:Obj}{Q:Fin→Shared→Prop}(hh:A.handled=none)(D:ZipApart z TI TO i1 i2 l1 l2)
   (hz:ZipH s.heap z TI TO T b) (hT:s.heap.get? T=some o) (hTI:IsPair s.heap TI (.ref i1) (.ref i2))
   (h1:s.heap.IsListIter i1 l1 k1) (h2:s.heap.IsListIter i2 l2 k2) (hl1:s.heap.IsList l1 xs) (hl2:s.heap.IsList l2 ys) (hend:xs[k1]?=none∨ys[k2]?=none)
   (hE:∀ h' e,(∀ c o,c≠z→c≠i1→c≠i2→s.heap.get? c=some o→h'.get? c=some o)→(∃ o,h'.get? e=some o∧o.cls=.type "StopIteration")→E (.ref e) { s with heap:=h' }) :
   wpAny (model prog w) A (Builtin.«zip.__next__» ⟨[.ref z],[]⟩) Q E s:=by
 show wpAny _ _ (field (.ref z) 2 >>= _) _ _ _;refine zaa (wpAny_field hz rfl (x:=.bool false) rfl ?_);show wpAny _ _ (field (.ref z) 3 >>= _) _ _ _;refine zaa (wpAny_field hz rfl (x:=.ref TI) rfl ?_);refine zaa (wpAny_seqItems hTI rfl ?_);show wpAny _ _ (Builtin.SmallTypes.ownedTupleIsFree (.ref z) >>= _) _ _ _;refine zaa (notFree hz hT fun h₁ hz₁ hs₁=>?_);rw [if_neg (by decide)];refine zaa ?_;rw [← Array.forIn_toList];simp only [List.forIn_cons,List.forIn_nil];refine zaa (zaa (zaj ?_));show wpAny _ _ (Builtin.SmallTypes.nextOf (.ref i1) >>= _) _ _ _;cases hx:xs[k1]? with
 | none =>
   refine zaa (wpAny_nextOf_list_end hh (h1.extBut hs₁.extBut D.i1z) (hl1.extBut hs₁.extBut D.l1z) hx fun h₂ e hs₂ he=>?_);exact hE h₂ e (fun c o c1 c2 c3 x=>hs₂ _ _ c2 (hs₁.extBut _ _ c1 x)) he
 | some x =>
   have hy:ys[k2]?=none:=by rcases hend with h | h;rw [hx] at h;cases h;exact h
   refine zaa (wpAny_nextOf_list_item (h1.extBut hs₁.extBut D.i1z) (hl1.extBut hs₁.extBut D.l1z) hx fun h₂ h1₂ hs₂=>zab (zab ?_));refine zaa (zaa (zaj ?_));show wpAny _ _ (Builtin.SmallTypes.nextOf (.ref i2) >>= _) _ _ _;refine zaa (wpAny_nextOf_list_end hh ((h2.extBut hs₁.extBut D.i2z).extBut hs₂.extBut D.i12.symm) ((hl2.extBut hs₁.extBut D.l2z).extBut hs₂.extBut D.l2i1) hy fun h₄ e hs₄ he=>?_);exact hE h₄ e (fun c o c1 c2 c3 x=>hs₄ _ _ c3 (hs₂.extBut _ _ c2 (hs₁.extBut _ _ c1 x))) he
theorem Zjf {z TI TO i1 i2 l1 l2 T:Addr}{k1 k2:Nat}{xs ys:Array Value}{x y:Value}{b:Bool}{o:Obj}{Q:Option Value→Shared→Prop}(D:ZipApart z TI TO i1 i2 l1 l2)
   (hz:ZipH s.heap z TI TO T b) (hT:s.heap.get? T=some o) (hTI:IsPair s.heap TI (.ref i1) (.ref i2))
   (h1:s.heap.IsListIter i1 l1 k1) (h2:s.heap.IsListIter i2 l2 k2) (hl1:s.heap.IsList l1 xs) (hl2:s.heap.IsList l2 ys) (hx:xs[k1]?=some x) (hy:ys[k2]?=some y)
   (hQ:∀ h',ZipH h' z TI TO T true→h'.IsListIter i1 l1 (k1+1)→h'.IsListIter i2 l2 (k2+1)→IsPair h' s.heap.objs.size x y →
     (∀ c o,c≠z→c≠i1→c≠i2→s.heap.get? c=some o→h'.get? c=some o)→Q (some (.ref s.heap.objs.size)) { s with heap:=h' }) :
   wpAny (model prog w) A (pyNext (.ref z)) Q E s:=by
 have hT':s.TypeIs (.ref z) "zip":=⟨_,hz,rfl⟩
 unfold pyNext;exact zaa (za1 (zaB (name:=Str.ofString "__next__") hT' F.slot_zip_next
   (zax F.slot_zip_next hT' F.entry_zip_next
     (ZjE D hz hT hTI h1 h2 hl1 hl2 hx hy fun h' a1 a2 a3 a4 a5=>zab (hQ h' a1 a2 a3 a4 a5)) (F.args_zip_next_1 _))))
theorem ZfU {z TI TO i1 i2 l1 l2 T:Addr}{k1 k2:Nat}{xs ys:Array Value}{b:Bool}{o:Obj}{Q:Option Value→Shared→Prop}(hh:A.handled=none)(D:ZipApart z TI TO i1 i2 l1 l2)
   (hz:ZipH s.heap z TI TO T b) (hT:s.heap.get? T=some o) (hTI:IsPair s.heap TI (.ref i1) (.ref i2))
   (h1:s.heap.IsListIter i1 l1 k1) (h2:s.heap.IsListIter i2 l2 k2) (hl1:s.heap.IsList l1 xs) (hl2:s.heap.IsList l2 ys) (hend:xs[k1]?=none∨ys[k2]?=none)
   (hQ:∀ h',(∀ c o,c≠z→c≠i1→c≠i2→s.heap.get? c=some o→h'.get? c=some o)→Q none { s with heap:=h' }):wpAny (model prog w) A (pyNext (.ref z)) Q E s:=by
 have hT':s.TypeIs (.ref z) "zip":=⟨_,hz,rfl⟩
 unfold pyNext;refine zaa (za1 (zaB (name:=Str.ofString "__next__") hT' F.slot_zip_next
   (zax F.slot_zip_next hT' F.entry_zip_next (held_end hh D hz hT hTI h1 h2 hl1 hl2 hend fun h' e hk he=>?_) (F.args_zip_next_1 _))))
 obtain ⟨o,ho,hc⟩:=he;refine zaa (wpAny_isInstance (T:="StopIteration") (b:=true) ⟨o,ho,hc⟩ isSubtype_stop ?_);exact zab (hQ _ hk)
structure ZI (z TI TO i1 i2 l1 l2:Addr)(xs ys:Array Value)(m i:Nat)(Ts:List Addr)(h:Heap):Prop where
 zz:(i=0∧IsZip h z TI TO .none∧∃ a b,IsPair h TO a b)∨(∃ T0 b,Ts[0]?=some T0∧ZipH h z TI TO T0 b)
 ti:IsPair h TI (.ref i1) (.ref i2)
 it1:h.IsListIter i1 l1 i
 it2:h.IsListIter i2 l2 i
 li1:h.IsList l1 xs
 li2:h.IsList l2 ys
 len:Ts.length=i
 nd:Ts.Nodup
 new:∀ T∈Ts,m≤T
 tup:∀ (j:Nat) (T:Addr),Ts[j]?=some T→∃ x y,xs[j]?=some x∧ys[j]?=some y∧IsPair h T x y
theorem ZI.next {z TI TO i1 i2 l1 l2:Addr} {xs ys:Array Value} {m i:Nat} {Ts:List Addr} {Q:Option Value→Shared→Prop} (I:ZI z TI TO i1 i2 l1 l2 xs ys m i Ts s.heap) (D:ZipApart z TI TO i1 i2 l1 l2) (M:∀ c∈[z,TI,TO,i1,i2,l1,l2],c<m) (hm:m≤s.heap.objs.size) (hx:i<xs.size) (hy:i<ys.size)
   (hQ:∀ h',ZI z TI TO i1 i2 l1 l2 xs ys m (i+1) (Ts++[s.heap.objs.size]) h'→(∀ c o,c≠z→c≠TO→c≠i1→c≠i2→s.heap.get? c=some o→h'.get? c=some o)→Q (some (.ref s.heap.objs.size)) { s with heap:=h' }) :
   wpAny (model prog w) A (pyNext (.ref z)) Q E s:=by
 have ge:∀ T∈Ts,∀ c∈[z,TI,TO,i1,i2,l1,l2],T≠c:=fun T hT c hc e=>absurd (M c hc) (ycu.mpr (e ▸ I.new T hT))
 have fresh:s.heap.objs.size∉Ts:=fun h=>by
   obtain ⟨j,hj⟩:=List.getElem?_of_mem h;obtain ⟨x,y,_,_,hp⟩:=I.tup j _ hj;exact absurd (zad hp) (ybt _)
 have nd:(Ts++[s.heap.objs.size]).Nodup:=by rw [List.nodup_append];exact ⟨I.nd,(by simp),fun a ha b hb e=>fresh (by rw [yal.mp hb] at e;exact e ▸ ha)⟩
 have new:∀ T∈Ts++[s.heap.objs.size],m≤T:=fun T hT=>(yai.mp hT).elim (I.new T) fun h=>by rw [yal.mp h];exact hm
 have tup:∀ h':Heap,IsPair h' s.heap.objs.size xs[i] ys[i]→(∀ c o,c≠z→c≠TO→c≠i1→c≠i2→s.heap.get? c=some o→h'.get? c=some o)→∀ (j:Nat) (T:Addr),(Ts++[s.heap.objs.size])[j]?=some T→∃ x y,xs[j]?=some x∧ys[j]?=some y∧IsPair h' T x y:=fun h' hp hk j T hj=>by
   by_cases hji:j<Ts.length
   · rw [yaU hji] at hj
     obtain ⟨x,y,e1,e2,hp'⟩:=I.tup j T hj;have hT:=yaq hj;exact ⟨x,y,e1,e2,hk T _ (ge T hT z (by simp)) (ge T hT TO (by simp)) (ge T hT i1 (by simp)) (ge T hT i2 (by simp)) hp'⟩
   · rw [yah (ycu.mp hji)] at hj
     have hj0:j-Ts.length=0:=by
       rcases Nat.eq_zero_or_pos (j-Ts.length) with e | e
       · exact e
       · rw [List.getElem?_eq_none (by show 1≤j-Ts.length;exact e)] at hj
         cases hj
     rw [hj0] at hj;have eT:s.heap.objs.size=T:=by simpa using hj
     have ej:j=i:=by have:=I.len;omega
     subst eT;subst ej;exact ⟨_,_,yaG hx,yaG hy,hp⟩
 rcases I.zz with ⟨hi,hz,a,b,hTO⟩ | ⟨T0,b,hT0,hz⟩
 · refine wpAny_pyNext_zip_item D hz I.ti hTO I.it1 I.it2 I.li1 I.li2 (yaG hx) (yaG hy) fun h' a1 a2 a3 a4 a5 a6 hk=>hQ h' ⟨.inr ⟨s.heap.objs.size,false,?_,a1⟩,hk _ _ D.TIz D.TITO D.TIi1 D.TIi2 I.ti,a3,a4,I.li1.at fun o e=>hk _ o D.l1z D.l1TO D.l1i1 D.l1i2 e,I.li2.at fun o e=>hk _ o D.l2z D.l2TO D.l2i1 D.l2i2 e,by rw [yac,I.len];rfl,nd,new,tup h' a5 hk⟩ hk
   have:Ts=[]:=ybA.mp (I.len.trans hi);rw [this];rfl
 · obtain ⟨x0,y0,_,_,hp0⟩:=I.tup 0 T0 hT0
   refine Zjf D hz hp0 I.ti I.it1 I.it2 I.li1 I.li2 (yaG hx) (yaG hy) fun h' a1 a3 a4 a5 hk=>hQ h' ⟨.inr ⟨T0,true,?_,a1⟩,hk _ _ D.TIz D.TIi1 D.TIi2 I.ti,a3,a4,I.li1.at fun o e=>hk _ o D.l1z D.l1i1 D.l1i2 e,I.li2.at fun o e=>hk _ o D.l2z D.l2i1 D.l2i2 e,by rw [yac,I.len];rfl,nd,new,tup h' a5 fun c o c1 _ c3 c4 e=>hk c o c1 c3 c4 e⟩ fun c o c1 _ c3 c4 e=>hk c o c1 c3 c4 e
   rw [yaU (yaT.mp hT0).1];exact hT0
theorem ZI.stop {z TI TO i1 i2 l1 l2:Addr}{xs ys:Array Value}{m i:Nat}{Ts:List Addr}{Q:Option Value→Shared→Prop}(hh:A.handled=none)(I:ZI z TI TO i1 i2 l1 l2 xs ys m i Ts s.heap)(D:ZipApart z TI TO i1 i2 l1 l2)(hx:xs.size≤i)
   (hQ:∀ h',(∀ c o,c≠z→c≠TO→c≠i1→c≠i2→s.heap.get? c=some o→h'.get? c=some o)→Q none { s with heap:=h' }) :
   wpAny (model prog w) A (pyNext (.ref z)) Q E s:=by
 rcases I.zz with ⟨hi,hz,a,b,hTO⟩ | ⟨T0,b,hT0,hz⟩
 · exact wpAny_pyNext_zip_end hh D hz I.ti hTO I.it1 I.it2 I.li1 I.li2 (.inl (Array.getElem?_eq_none hx)) hQ
 · obtain ⟨x0,y0,_,_,hp0⟩:=I.tup 0 T0 hT0
   exact ZfU hh D hz hp0 I.ti I.it1 I.it2 I.li1 I.li2 (.inl (Array.getElem?_eq_none hx)) fun h' hk=>hQ h' fun c o c1 _ c3 c4 e=>hk c o c1 c3 c4 e
theorem ZI.but {z TI TO i1 i2 l1 l2 S:Addr}{xs ys:Array Value}{m i:Nat}{Ts:List Addr}{h:Heap}(I:ZI z TI TO i1 i2 l1 l2 xs ys m i Ts h)(hS:S∉[z,TI,TO,i1,i2,l1,l2])(hT:S<m)(k:∀ c o,c≠S→h.get? c=some o→h'.get? c=some o):ZI z TI TO i1 i2 l1 l2 xs ys m i Ts h':=by
 have ne:∀ c∈[z,TI,TO,i1,i2,l1,l2],c≠S:=fun c hc e=>hS (e ▸ hc)
 refine ⟨?_,k _ _ (ne TI (by simp)) I.ti,I.it1.at fun o e=>k _ o (ne i1 (by simp)) e,I.it2.at fun o e=>k _ o (ne i2 (by simp)) e,I.li1.at fun o e=>k _ o (ne l1 (by simp)) e,I.li2.at fun o e=>k _ o (ne l2 (by simp)) e,I.len,I.nd,I.new,fun j T hj=>?_⟩
 · rcases I.zz with ⟨hi,hz,a,b,hTO⟩ | ⟨T0,b,hT0,hz⟩
   · exact .inl ⟨hi,k _ _ (ne z (by simp)) hz,a,b,k _ _ (ne TO (by simp)) hTO⟩
   · exact .inr ⟨T0,b,hT0,k _ _ (ne z (by simp)) hz⟩
 · obtain ⟨x,y,e1,e2,hp⟩:=I.tup j T hj
   exact ⟨x,y,e1,e2,k _ _ (fun e=>absurd hT (ycu.mpr (e ▸ I.new T (yaq hj)))) hp⟩
theorem ext_zip {R:Result→Shared→Prop}{z TI TO i1 i2 l1 l2 S:Addr}{xs ys:Array Value}{m:Nat}(hh:A.in1.handled=none)(D:ZipApart z TI TO i1 i2 l1 l2)(M:∀ c∈[z,TI,TO,i1,i2,l1,l2],c<m)(hS:S∉[z,TI,TO,i1,i2,l1,l2])(hSm:S<m)(hxy:xs.size=ys.size)(hn:xs.size≤sizeLine)(res:Value) :
   ∀ (k i:Nat) (s:Shared) (acc:Array Value) (c:Nat) (Ts:List Addr),xs.size-i=k→i≤xs.size→ZI z TI TO i1 i2 l1 l2 xs ys m i Ts s.heap→m≤s.heap.objs.size→s.heap.get? S=some { cls:=.type "list",dict:=none,data:=.seq acc c,slots:=#[] }→acc.toList=Ts.map Value.ref →
   (∀ (h':Heap) (acc':Array Value) (c':Nat) (Ts':List Addr),(∀ b o,b∉[S,z,TO,i1,i2]→s.heap.get? b=some o→h'.get? b=some o)→h'.get? S=some { cls:=.type "list",dict:=none,data:=.seq acc' c',slots:=#[] }→acc'.toList=Ts'.map Value.ref→Ts'.length=xs.size→Ts'.Nodup→(∀ T∈Ts',m≤T)→(∀ (j:Nat) (T:Addr),Ts'[j]?=some T→∃ x y,xs[j]?=some x∧ys[j]?=some y∧IsPair h' T x y)→R (.ok (.ret res)) { s with heap:=h' }) →
   codeAny (model prog w) A (.builtin "list.extend.loop" ⟨[.ref S,.ref z,res],[]⟩) R s:=by
 have nS:∀ c∈[z,TI,TO,i1,i2,l1,l2],c≠S:=fun c hc e=>hS (e ▸ hc)
 intro k;induction k with
 | zero =>
   intro i s acc c Ts hk hi st hm hA ha hR;have hin:i=xs.size:=by omega
   subst hin;refine zaM F.entry_extend_loop ?_;rw [zaC F.plain_extend_loop _];show wpAny _ A.in1 (pyNext (.ref z) >>= _) _ _ s;refine zaa (st.stop hh D (yad _) fun h' hk=>?_);have ge:∀ T∈Ts,∀ c∈[z,TI,TO,i1,i2,l1,l2],T≠c:=fun T hT c hc e=>absurd (M c hc) (ycu.mpr (e ▸ st.new T hT))
   refine zab (hR h' acc c Ts (fun b o hb e=>?_) (hk S _ (nS z (by simp)).symm (nS TO (by simp)).symm (nS i1 (by simp)).symm (nS i2 (by simp)).symm hA) ha st.len st.nd st.new fun j T hj=>?_)
   · simp only [yaj,ybd,zaU,not_or] at hb
     exact hk b o hb.2.1 hb.2.2.1 hb.2.2.2.1 hb.2.2.2.2 e
   · obtain ⟨x,y,e1,e2,hp⟩:=st.tup j T hj
     have hT:=yaq hj;exact ⟨x,y,e1,e2,hk T _ (ge T hT z (by simp)) (ge T hT TO (by simp)) (ge T hT i1 (by simp)) (ge T hT i2 (by simp)) hp⟩
 | succ k ih =>
   intro i s acc c Ts hk hi st hm hA ha hR;have hlt:i<xs.size:=by omega
   refine zaM F.entry_extend_loop ?_;rw [zaC F.plain_extend_loop _];show wpAny _ A.in1 (pyNext (.ref z) >>= _) _ _ s;refine zaa (st.next D M hm hlt (hxy ▸ hlt) fun h1 st1 hk1=>?_);have hA1:=hk1 S _ (nS z (by simp)).symm (nS TO (by simp)).symm (nS i1 (by simp)).symm (nS i2 (by simp)).symm hA;have sz:acc.size=i:=by rw [← yag,ha,yaa,st.len]
   show wpAny _ A.in1 (updateSeq S (·.push (.ref s.heap.objs.size)) >>= _) _ _ _;refine zaa ?_;have oth:∀ b o,b≠S→h1.get? b=some o→(h1.update S (Obj.mapSeq (·.push (Value.ref s.heap.objs.size)))).get? b=some o:=fun b o hb e=>(zas _ _ (Ne.symm hb)).trans e
   have hm1:m≤(h1.update S (Obj.mapSeq (·.push (Value.ref s.heap.objs.size)))).objs.size:=by have:=(zap h1 S (Obj.mapSeq (·.push (Value.ref s.heap.objs.size)))).1;rw [this];obtain ⟨x,y,_,_,hp⟩:=st1.tup i s.heap.objs.size (by rw [yah (by rw [st.len];exact yad _),st.len,ybU];rfl);exact yaN hm (ybC (zad hp))
   refine zaY hA1 rfl (zab ⟨za2 F.plain_extend_loop _,ih (i+1) { s with heap:=h1.update S (Obj.mapSeq (·.push (Value.ref s.heap.objs.size))) } (acc.push (.ref s.heap.objs.size)) _ (Ts++[s.heap.objs.size]) (by omega) hlt (st1.but hS hSm oth) hm1 (zaw _ hA1 rfl) (by rw [ych,ha,yaQ];rfl) fun h' acc' c' Ts' hk' b1 b2 b3 b4 b5 b6=>?_⟩)
     (by rw [sz];omega) (by show (acc.push _).size≤sizeLine+1;rw [Array.size_push,sz];omega)
   refine hR h' acc' c' Ts' (fun b o hb e=>hk' b o hb (oth b o (fun z=>hb (by rw [z];exact yaJ)) (hk1 b o ?_ ?_ ?_ ?_ e))) b1 b2 b3 b4 b5 b6
   all_goals (simp only [yaj,ybd,zaU,not_or] at hb)
   · exact hb.2.1
   · exact hb.2.2.1
   · exact hb.2.2.2.1
   · exact hb.2.2.2.2
theorem ZjU:typeLookup (.type "zip") "__len__"=pure none:=by rw [zaT,zaA];kernel_rfl
theorem ZhZ:typeLookup (.type "zip") "__length_hint__"=pure none:=by rw [zaT,zaA];kernel_rfl
theorem call_list_zip {z TI TO i1 i2 l1 l2:Addr}{xs ys:Array Value}{a b:Value}(hh:A.handled=none)(D:ZipApart z TI TO i1 i2 l1 l2)(hxy:xs.size=ys.size)(hn:xs.size≤sizeLine)
   (hz:IsZip s.heap z TI TO .none) (hTI:IsPair s.heap TI (.ref i1) (.ref i2)) (hTO:IsPair s.heap TO a b) (h1:s.heap.IsListIter i1 l1 0) (h2:s.heap.IsListIter i2 l2 0) (hl1:s.heap.IsList l1 xs) (hl2:s.heap.IsList l2 ys)
   (hQ:∀ (h':Heap) (acc':Array Value) (c':Nat) (Ts:List Addr),(∀ b o,b∉[z,TO,i1,i2]→s.heap.get? b=some o→h'.get? b=some o)→h'.get? s.heap.objs.size=some { cls:=.type "list",dict:=none,data:=.seq acc' c',slots:=#[] }→acc'.toList=Ts.map Value.ref→Ts.length=xs.size→Ts.Nodup→(∀ T∈Ts,s.heap.objs.size<T)→(∀ (j:Nat) (T:Addr),Ts[j]?=some T→∃ x y,xs[j]?=some x∧ys[j]?=some y∧IsPair h' T x y)→Q (.ref s.heap.objs.size) { s with heap:=h' }) :
   wpAny (model prog w) A (call (.type "list") [.ref z]) Q E s:=by
 have lt:∀ {c o},s.heap.get? c=some o→c<s.heap.objs.size:=fun e=>zad e
 have M:∀ c∈[z,TI,TO,i1,i2,l1,l2],c<s.heap.objs.size:=by
   intro c hc;simp only [yaj,ybd,zaU] at hc;rcases hc with rfl | rfl | rfl | rfl | rfl | rfl | rfl
   · exact lt hz
   · exact lt hTI
   · exact lt hTO
   · obtain ⟨_,e,_⟩:=h1;exact lt e
   · obtain ⟨_,e,_⟩:=h2;exact lt e
   · obtain ⟨_,e,_⟩:=hl1;exact lt e
   · obtain ⟨_,e,_⟩:=hl2;exact lt e
 refine callType_codes (Q₁:=fun obj s₁=>obj=.ref s.heap.objs.size∧s₁={ s with heap:=s.heap.push { cls:=.type "list",data:=.seq #[] } }) PySem.F.called_list (PySem.F.typeCall_list_1 _) PySem.F.entry_list_init
   (code_list_new _ ⟨rfl,rfl⟩) fun obj s₁ h₁=>?_
 obtain ⟨rfl,rfl⟩:=h₁;have hS:(s.heap.push { cls:=.type "list",data:=.seq #[] }).get? s.heap.objs.size=some { cls:=.type "list",data:=.seq #[] }:=zag _ rfl;refine ⟨⟨_,hS,rfl⟩,PySem.F.args_list_init_2 _ _,?_⟩;have pk:∀ b o,s.heap.get? b=some o→(s.heap.push { cls:=.type "list",data:=.seq #[] }).get? b=some o:=fun b o e=>zac _ e
 have I0:ZI z TI TO i1 i2 l1 l2 xs ys (s.heap.objs.size+1) 0 [] (s.heap.push { cls:=.type "list",data:=.seq #[] }):=⟨.inl ⟨rfl,pk _ _ hz,a,b,pk _ _ hTO⟩,pk _ _ hTI,h1.at fun o e=>pk _ o e,h2.at fun o e=>pk _ o e,hl1.at fun o e=>pk _ o e,hl2.at fun o e=>pk _ o e,rfl,ycf,(fun T h=>nomatch h),fun j T h=>by simp at h⟩
 have hszp:(s.heap.push { cls:=.type "list",data:=.seq #[] }).objs.size=s.heap.objs.size+1:=zaN ..;have hSf:s.heap.objs.size∉[z,TI,TO,i1,i2,l1,l2]:=fun hc=>ybt _ (M _ hc)
 have M1:∀ c∈[z,TI,TO,i1,i2,l1,l2],c<s.heap.objs.size+1:=fun c hc=>ybs (M c hc)
 have hQ':∀ (h':Heap) (acc':Array Value) (c':Nat) (Ts:List Addr),(∀ b o,b∉[s.heap.objs.size,z,TO,i1,i2]→(s.heap.push { cls:=.type "list",data:=.seq #[] }).get? b=some o→h'.get? b=some o)→h'.get? s.heap.objs.size=some { cls:=.type "list",dict:=none,data:=.seq acc' c',slots:=#[] }→acc'.toList=Ts.map Value.ref→Ts.length=xs.size→Ts.Nodup→(∀ T∈Ts,s.heap.objs.size+1≤T)→(∀ (j:Nat) (T:Addr),Ts[j]?=some T→∃ x y,xs[j]?=some x∧ys[j]?=some y∧IsPair h' T x y)→Q (.ref s.heap.objs.size) { s with heap:=h' }:=fun h' acc' c' Ts k b1 b2 b3 b4 b5 b6=>hQ h' acc' c' Ts (fun c o hc e=>k c o (fun hm=>(yaj.mp hm).elim (fun z=>absurd (lt e) (by rw [z];exact ybt _)) hc) (pk c o e)) b1 b2 b3 b4 (fun T hT=>b5 T hT) b6
 clear hQ;generalize hSe:s.heap.objs.size=S at *;generalize s.heap.push { cls:=.type "list",data:=.seq #[] }=h0 at *;have nS:∀ c∈[z,TI,TO,i1,i2,l1,l2],c≠S:=fun c hc e=>hSf (e ▸ hc)
 have hzz:IsZip h0 z TI TO .none:=by
   rcases I0.zz with ⟨_,h,_⟩ | ⟨T0,_,h,_⟩
   · exact h
   · simp at h
 show wpAny _ _ (do let old ← Builtin.List.listItems (.ref S);Builtin.List.listUpdate (.ref S) (fun _=>#[]);letGo old.toList.reverse;Builtin.List.listExtendWith (.ref S) (.ref z) .none) _ _ _;refine zaa ?_;unfold Builtin.List.listItems;refine zaa (wpAny_seqItems hS rfl (zab ?_));show wpAny _ _ (updateSeq S (fun _=>#[]) >>= fun _=>letGo (#[]:Array Value).toList.reverse >>= fun _=>Builtin.List.listExtendWith (.ref S) (.ref z) .none) _ _ _;refine zaa (zaY hS rfl ?_);have hS₂:=zaw (Obj.mapSeq (fun _=>(#[]:Array Value))) hS rfl;have oth:∀ b o,b≠S→h0.get? b=some o→(h0.update S (Obj.mapSeq (fun _=>(#[]:Array Value)))).get? b=some o:=fun b o hb e=>(zas _ _ (Ne.symm hb)).trans e
 have sz1:=(zap h0 S (Obj.mapSeq (fun _=>(#[]:Array Value)))).1;generalize h0.update S (Obj.mapSeq (fun _=>(#[]:Array Value)))=g1 at hS₂ oth sz1 ⊢;refine zaa (wpAny_letGo ?_);unfold Builtin.List.listExtendWith;have hTz:Shared.TypeIs { s with heap:=g1 } (.ref z) "zip":=⟨_,oth _ _ (nS z (by simp)) hzz,rfl⟩
 refine zaa (wpAny_typeOf (T:="zip") hTz ?_);have e1:Builtin.List.listSameRef (.ref S) (.ref z)=false:=by simp [Builtin.List.listSameRef,(nS z (by simp)).symm]
 rw [if_neg (by rw [e1];decide)];refine zaa (wpAny_pyIter_zip (oth _ _ (nS z (by simp)) hzz) ?_);refine zaa (zaj ?_);unfold Builtin.List.listLengthHint;refine zaa (wpAny_specialOf hTz ZjU ?_);show wpAny _ _ (specialOf (Value.ref z) (Str.ofString "__length_hint__") >>= _) _ _ _;refine zaa (wpAny_specialOf hTz ZhZ ?_);refine zab ?_;show wpAny _ _ (rule "list.extend.makes-room" >>= fun _=>Builtin.List.listTouch (.ref S) >>= fun _=>again (.builtin "list.extend.loop" ⟨[.ref S,.ref z,.none],[]⟩)) _ _ _;refine zaa (zaQ (zaa ?_));show wpAny _ _ (updateSeq S (·.push .none) >>= fun _=>updateSeq S (·.pop)) _ _ _;refine zaa (zaY hS₂ rfl ?_);have hS₃:=zaw (Obj.mapSeq (·.push Value.none)) hS₂ rfl;refine zaY (hz:=by seq_fits) hS₃ rfl ?_;have hS₄:=zaw (Obj.mapSeq (·.pop)) hS₃ rfl;have oth2:∀ b o,b≠S→h0.get? b=some o→((g1.update S (Obj.mapSeq (·.push Value.none))).update S (Obj.mapSeq (·.pop))).get? b=some o :=
   fun b o hb e=>(zas _ _ (Ne.symm hb)).trans ((zas _ _ (Ne.symm hb)).trans (oth b o hb e))
 have sz2:((g1.update S (Obj.mapSeq (·.push Value.none))).update S (Obj.mapSeq (·.pop))).objs.size=S+1:=by rw [(zap _ S (Obj.mapSeq (·.pop))).1,(zap g1 S (Obj.mapSeq (·.push Value.none))).1,sz1,hszp]
 refine zab ⟨za2 F.plain_extend_loop _,ext_zip (by exact hh) D M1 hSf (ybr _) hxy hn .none xs.size 0 { s with heap:=(g1.update S (Obj.mapSeq (·.push Value.none))).update S (Obj.mapSeq (·.pop)) } #[] _ [] rfl (yau _) (I0.but hSf (ybr _) oth2) (Nat.le_of_eq sz2.symm) hS₄ rfl fun h' acc' c' Ts k b1 b2 b3 b4 b5 b6=>⟨rfl,hQ' h' acc' c' Ts (fun b o hb e=>k b o hb (oth2 b o (fun z=>hb (by rw [z];exact yaJ)) e)) b1 b2 b3 b4 b5 b6⟩⟩
end ZL
namespace L2
open PySem PySem.Spec PyProof.Rows
theorem Inv.grownZ (I:Inv X pins σ H s)(k:∀ b u,s.heap.get? b=some u→h'.get? b=some u)(hH:∀ b,b<s.heap.objs.size→H' b=H b)(ok:HOk X.prog X.w H' h'):Inv X pins σ H' { s with heap:=h',toks:=t' } :=
 I.un ⟨fun b o e _ _ _=>k b o e,fun b o e _ _ _=>⟨o.slots,k b o e⟩,fun b o e n _=>by rw [hH b (zad e)];exact n,fun b o e _=>⟨o,k b o e⟩,fun b xs e=>by rw [hH b (I.hok.lt e)];exact e,fun b o u e=>by rw [hH b (I.hok.lt e)];exact e,fun b ps e=>⟨#[],by rw [hH b (I.hok.lt e),e];simp⟩⟩ ok
def PrOf (H:Hp)(us:List V)(ps:List (V × V)):Prop:=Paired (fun v p=>∃ t:Addr,v=.ref t∧H t=some (.tup [p.1,p.2])) us ps
def lay (L:List (Addr × HO))(H:Hp):Hp:=fun b=>match L.lookup b with
 | some o=>some o
 | none=>H b
theorem lk_mem {b:Addr}{o:HO}(h:L.lookup b=some o):(b,o)∈L:=by
 induction L with
 | nil=>cases h
 | cons p L ih =>
   obtain ⟨a,u⟩:=p;rw [ybk] at h;by_cases e:b=a
   · subst e
     rw [BEq.rfl] at h;cases h;exact .head _
   · rw [beq_false_of_ne e] at h
     exact .tail _ (ih h)
theorem lay_old {b:Addr}(h:∀ p∈L,p.1≠b):lay L H b=H b:=by
 unfold lay;have:L.lookup b=none:=by
   cases e:L.lookup b with
   | none=>rfl
   | some o=>exact absurd (show ((b,o):Addr × HO).1=b from rfl) (h (b,o) (lk_mem e))
 rw [this]
theorem Zhv {b:Addr}{o:HO}:lay ((b,o)::L) H b=some o:=by unfold lay;rw [ybk,BEq.rfl]
theorem Zhq {a b:Addr}{o:HO}(h:b≠a):lay ((a,o)::L) H b=lay L H b:=by unfold lay;rw [ybk,beq_false_of_ne h]
theorem ZjF {b:Addr}{o:HO}(h:lay L H b=some o):(b,o)∈L∨((∀ p∈L,p.1≠b)∧H b=some o):=by
 unfold lay at h;cases e:L.lookup b with
 | none =>
   rw [e] at h;refine .inr ⟨fun p hp z=>?_,h⟩;have:=List.lookup_eq_none_iff.mp e p hp;rw [z] at this;simp at this
 | some u =>
   rw [e] at h;obtain rfl:u=o:=Option.some.inj h;exact .inl (lk_mem e)
theorem ZiS {H:Hp}:∀ {ts:List Addr} {os:List HO},ts.Nodup→ts.length=os.length→∀ (j:Nat) (t:Addr) (o:HO),ts[j]?=some t→os[j]?=some o→lay (ts.zip os) H t=some o
 | [],_,_,_,j,t,o,h,_=>by simp at h
 | _::_,[],_,hl,_,_,_,_,_=>by simp at hl
 | t0::ts,o0::os,nd,hl,0,t,o,h1,h2=>by
   simp only [List.getElem?_cons_zero,zaZ] at h1 h2;subst h1 h2;exact Zhv
 | t0::ts,o0::os,nd,hl,j+1,t,o,h1,h2=>by
   rw [List.getElem?_cons_succ] at h1 h2;have n:=ybS.mp nd;show lay ((t0,o0)::ts.zip os) H t=_;rw [Zhq fun z:t=t0=>n.1 (by rw [← z];exact yaq h1)];exact ZiS n.2 (Nat.succ.inj hl) j t o h1 h2
def tLZip (K:ZFr)(ta:TA):TE:=fun σ H Q=>ta σ H fun vs H1=>∃ a b xs ys,vs=[.ref a,.ref b]∧SqL K H1 a xs∧SqL K H1 b ys∧xs.length=ys.length∧∀ (p:Addr) (us:List V) (H2:Hp),Same H1 H2→H1 p=none→H2 p=some (.lst us)→PrOf H2 us (xs.zip ys)→(∀ t,V.ref t∈us→H1 t=none)→Q (.ref p) H2
theorem ZfG {α β:Type}{F:α→β→Prop}:∀ {us:List α} {ps:List β},us.length=ps.length→(∀ (j:Nat) u p,us[j]?=some u→ps[j]?=some p→F u p)→Paired F us ps
 | [],[],_,_=>.nil
 | [],_::_,h,_=>by simp at h
 | _::_,[],h,_=>by simp at h
 | u::us,p::ps,h,f=>.cons (f 0 u p rfl rfl) (ZfG (Nat.succ.inj h) fun j u' p' h1 h2=>f (j+1) u' p' (by simpa using h1) (by simpa using h2))
theorem Zfy:∀ ts:List Addr,Vals (ts.map V.ref) (ts.map Value.ref)
 | []=>.nil
 | _::ts=>.cons rfl (Zfy ts)
section
variable {a b:Expr}{ta:TA}{p p' pos:Pos}
theorem ZgY (K:ZFr) (hc:X.calm=true) (hgl:Gl X "list") (hml:X.mg "list"=none) (hgz:Gl X "zip") (hmz:X.mg "zip"=none) (ha:PA X [a,b] ta) (hK:X.K=K:=by rfl)
   (hs1:starEach [.Call (.Name "zip" p') [a,b] [] pos'] X.env=[(false,eval (.Call (.Name "zip" p') [a,b] [] pos') X.env)]:=by rfl) (hs:starEach [a,b] X.env=[(false,eval a X.env),(false,eval b X.env)]:=by rfl) (hs2:starEach [b] X.env=[(false,eval b X.env)]:=by rfl) :
   PE X (.Call (.Name "list" p) [.Call (.Name "zip" p') [a,b] [] pos'] [] pos) (tLZip K ta):=by
 subst hK;intro pins s σ H Q I h;refine zal (Zcb I hgl hml boot_list (zam ?_ hs1 rfl));rw [hs1];show wpAny _ _ (spliced ((false,eval (.Call (.Name "zip" p') [a,b] [] pos') X.env)::backTo pos [])) _ _ s;refine zan ?_;refine zal (Zcb I hgz hmz Zhw (zam (thn (ha pos' pins s σ H _ I h) fun us s1 ⟨vs,H1,I1,r1,q1⟩=>?_) (by rw [hs,hs2]) (by rw [hs2];rfl)));obtain ⟨l1,l2,xs,ys,rfl,hx,hy,hxy,q⟩:=q1;cases r1 with
 | cons r rr =>
   cases rr with
   | cons r' rr =>
     cases rr;cases r;cases r';obtain ⟨its,rv,pl1,zx⟩:=I1.list hx;obtain ⟨jts,rw_,pl2,_⟩:=I1.list hy;refine call_zip_2 pl1.isList pl2.isList fun g k1 k2 k3 k4 k5 k6 k7=>?_
     have lt1:l1<s1.heap.objs.size:=by obtain ⟨o,e,_⟩:=pl1.isList;exact zad e
     have lt2:l2<s1.heap.objs.size:=by obtain ⟨o,e,_⟩:=pl2.isList;exact zad e
     have D:ZipApart (s1.heap.objs.size+4) (s1.heap.objs.size+2) (s1.heap.objs.size+3) s1.heap.objs.size (s1.heap.objs.size+1) l1 l2:=by constructor<;>(intro q;simp only [Addr] at *;omega)
     have e1:its.toArray.size=xs.length:=by rw [yav,← rv.length]
     have e2:jts.toArray.size=ys.length:=by rw [yav,← rw_.length]
     refine zaD (ZL.call_list_zip (s:={ s1 with heap:=g }) (I.ok.hd hc) D (by rw [e1,e2,hxy]) (by rw [e1];exact zx) k1 k2 k3 k4 k5 (pl1.isList.at fun o e=>k7 _ o e) (pl2.isList.at fun o e=>k7 _ o e) fun h' acc' c' Ts hk hS' hacc hlen nd new tup=>?_);have gs:g.objs.size=s1.heap.objs.size+5:=k6;have keep0:∀ c u,s1.heap.get? c=some u→h'.get? c=some u:=fun c u e=>hk c u (fun hm=>by
       have hlt:c<s1.heap.objs.size:=zad e;simp only [yaj,ybd,zaU] at hm;simp only [Addr] at *;rcases hm with q | q | q | q<;>omega) (k7 c u e)
     have lz:(xs.zip ys).length=xs.length:=by rw [List.length_zip,← hxy,Nat.min_self]
     have lT:Ts.length=xs.length:=hlen.trans e1;have pos5:∀ q∈(g.objs.size,HO.lst (Ts.map V.ref))::Ts.zip ((xs.zip ys).map fun p=>HO.tup [p.1,p.2]),s1.heap.objs.size≤q.1:=fun q hq=>by
       rcases yaj.mp hq with e | e
       · subst e
         show s1.heap.objs.size≤g.objs.size;omega
       · obtain ⟨a1,_⟩:=List.of_mem_zip (a:=q.1) (b:=q.2) e
         have h1:g.objs.size<q.1:=new _ a1;exact yaN (by rw [gs];exact Nat.le_add_right _ _) (ybC h1)
     have old:∀ c,c<s1.heap.objs.size→lay ((g.objs.size,HO.lst (Ts.map V.ref))::Ts.zip ((xs.zip ys).map fun p=>HO.tup [p.1,p.2])) H1 c=H1 c:=fun c hc=>lay_old fun q hq e=>by
       have:=pos5 q hq;rw [e] at this;exact absurd hc (ycu.mpr this)
     have hok:HOk X.prog X.w (lay ((g.objs.size,HO.lst (Ts.map V.ref))::Ts.zip ((xs.zip ys).map fun p=>HO.tup [p.1,p.2])) H1) h':=fun c o e=>by
       rcases ZjF e with m | ⟨_,e⟩
       · rcases yaj.mp m with e | m
         · cases e
           refine ⟨by rw [yaa,lT];exact zx,acc'.toList,c',by rw [hacc];exact Zfy Ts,hS'⟩
         · obtain ⟨j,hj⟩:=List.getElem?_of_mem m
           obtain ⟨hj1,hj2⟩:=List.getElem?_zip_eq_some.mp hj;obtain ⟨x,y,ex,ey,hp⟩:=tup j c hj1;rw [yay,Option.map_eq_some_iff] at hj2;obtain ⟨⟨x',y'⟩,hz,rfl⟩:=hj2;obtain ⟨hx',hy'⟩:=List.getElem?_zip_eq_some.mp hz;obtain ⟨u,hu,ru⟩:=rv.get hx';obtain ⟨v,hv,rv'⟩:=rw_.get hy';have eu:u=x:=by
             have:its[j]?=some x:=by simpa using ex
             rw [hu] at this;cases this;rfl
           have ev:v=y:=by
             have:jts[j]?=some y:=by simpa using ey
             rw [hv] at this;cases this;rfl
           subst eu ev;exact ⟨by show 2≤sizeLine;decide,[u,v],.cons ru (.cons rv' .nil),_,hp,rfl,_,rfl⟩
       · refine (I1.hok c o e).stay (fun d v _ q=>keep0 d v q) (fun d q=>?_) fun d xs q=>?_
         · rw [old d (I1.hok.lt q)];exact q
         · rw [old d (I1.hok.lt q)];exact q
     have I2:=I1.grownZ (t':=s1.toks) keep0 old hok;refine ⟨.ref g.objs.size,_,I2,rfl,q g.objs.size (Ts.map V.ref) _ (fun d u e=>by rw [old d (I1.hok.lt e)];exact e) (I1.hok.fresh (by show s1.heap.objs.size≤g.objs.size;omega)) Zhv (ZfG (by rw [yaa,lT,lz]) fun j u pr h1 h2=>?_) fun t ht=>?_⟩
     · rw [yay,Option.map_eq_some_iff] at h1
       obtain ⟨T,hT,rfl⟩:=h1;refine ⟨T,rfl,?_⟩;have:=new T (yaq hT);rw [Zhq fun z=>by rw [z] at this;exact ybt _ this];exact ZiS nd (by rw [yaa,lz,lT]) j T _ hT (by rw [yay,h2];rfl)
     · obtain ⟨T,hT,e⟩:=yaD.mp ht
       cases e;have:g.objs.size<t:=new t hT;exact I1.hok.fresh (yaN (by rw [gs];exact Nat.le_add_right _ _) (ybC this))
end
end L2
namespace L2
open PySem PySem.Spec PyProof.Rows
section
variable {td ty tx:TE}{Q:VK}
end
end L2
namespace L2
open PySem PySem.Spec PyProof.Rows
theorem ZjI {n:Nat}:gOwn 2 (gTup K n (gCons (gName 0) (gCons (gName 1) gNil))):=by intro v σ H Q h;simp only [gTup,gCons,gName,gNil] at h ⊢;obtain ⟨a,xs,e1,e2,e3,u,r,e4,u1,r1,e5,e6,q⟩:=h;exact ⟨a,xs,e1,e2,e3,u,r,e4,u1,r1,e5,e6,⟨by simp,by rcases σ with _ | ⟨_,_ | ⟨_,_⟩⟩<;>simp⟩,q⟩
end L2
namespace L2
open PySem PySem.Spec PyProof.Rows
def tDSet (td ty tx:TE):TE:=fun σ H Q=>td σ H fun x H1=>∃ a,x=.ref a∧IsD H1 a∧ty σ H1 fun y H2=>tx σ H2 fun z H3=>∃ kvs k,H3 a=some (.dK kvs)∧y=kV k∧kvs.length<sizeLine ∧
 (∀ v,valV kvs k=some v→Q v H3)∧(valV kvs k=none→Q z (upd H3 a (.dK (putK kvs k z))))
section
variable {o e f:Expr}{apos cpos:Pos}{td ty tx:TE}
theorem d_setDef {a:Addr}{k:Key}{u r:Value}{z:V}(I:Inv X pins σ H s)(e:H a=some (.dK kvs))(ry:RelV (kV k) u)(rz:RelV z r)(hl:kvs.length<sizeLine)
   (h1:∀ v w' s',valV kvs k=some v→Inv X pins σ H s'→RelV v w'→Q w' s') (h2:valV kvs k=none→∀ s',Inv X pins σ (upd H a (.dK (putK kvs k z))) s'→Q r s') :
   wpAny (model X.prog X.w) A (call (.builtin "dict.setdefault") [.ref a,u,r]) Q E s:=by
 obtain ⟨zz,hd,vs,rel,dd⟩:=dk_of I.hok e;refine call_meetsIn PySem.F.slot_dict_setdefault dd.typeIs PySem.F.entry_dict_setdefault (PySem.F.args_dict_setdefault_3 _ _ _) (kt_meets_setdefault (mixKind X.prog X.w) a (Zhg ry) hd r) ⟨vs,dd,by rw [← rel.length];exact zz,fun v hv=>?_,fun hn h' dd' hs=>?_⟩
 · have:=rel.val k
   rw [hv] at this;cases l:valV kvs k with
   | none=>rw [l] at this;exact absurd this (by intro q;cases q)
   | some v' =>
     rw [l] at this;exact h1 v' v _ l (I.tok _) this
 · have l:valV kvs k=none:=by
     have:=rel.val k;rw [hn] at this;cases l:valV kvs k with
     | none=>rfl
     | some v'=>rw [l] at this;exact absurd this (by intro q;cases q)
   refine h2 l _ ?_;have he:∃ q,h'.get? a=some q:=let ⟨q,_,_,hq,_⟩:=dd';⟨q,hq⟩
   exact Zf9 I (by rw [e];exact True.intro) hs he (dk_new (by have:=ZcC kvs k z;omega) hd (rel.put k rz) dd')
theorem pe_dset (ho:PE X o td)(he:PE X e ty)(hf:PE X f tx)(m:M2 X o "setdefault" apos e f cpos):PE X (.Call (.Attribute o "setdefault" apos) [e,f] [] cpos) (tDSet td ty tx):=by
 intro pins s σ H Q I h;refine wpAny_Call_method m.base m.few m.line PySem.F.plainAttrs_dict PySem.F.slot_dict_setdefault PySem.F.type_dict_setdefault (thn (ho pins s σ H _ I h) fun u s1 ⟨x,H1,I1,rx,a,ex,d,q1⟩=>?_);subst ex;obtain rfl:u=Value.ref a:=rx;obtain ⟨t1,t2,_⟩:=isD_at I1 d;refine ⟨t1,t2,?_⟩;rw [m.trees];refine Calls.callWith_builtin rfl (Calls.evalArgs_plain (zan (thn (he pins s1 σ H1 _ I1 q1) fun iv s2 ⟨y,H2,I2,ry,q2⟩ =>
   zan (thn (hf pins s2 σ H2 _ I2 q2) fun fv s3 ⟨z,H3,I3,rz,kvs,k,ea,ey,hl,q3,q4⟩=>zaD ?_))))
 subst ey;exact d_setDef I3 ea ry rz hl (fun v w' s4 l I4 rw'=>⟨v,H3,I4,rw',q3 v l⟩) fun l s4 I4=>⟨z,_,I4,rz,q4 l⟩
end
end L2
namespace L2
open PySem PySem.Spec PyProof.Rows
section
variable {x:Str}{ps:List Str}{k:Nat}{e:Expr}{es:List Expr}{t:TA}{p pos:Pos}
end
section
variable {ts:Tabs}{p:Addr}
end
end L2
namespace Lcg
def it:Nat→Nat→Nat
 | 0,i=>i
 | n+1,i=>it n (5*i+1)
theorem Zil:∀ n i,4*it n i+1=5^n*(4*i+1)
 | 0,i=>by rw [it,Nat.pow_zero,Nat.one_mul]
 | n+1,i=>by
   rw [it,Zil n,ybT,Nat.mul_assoc];congr 1
   omega
theorem it_add:∀ n m i,it (n+m) i=it m (it n i)
 | 0,m,i=>by rw [ybD,it]
 | n+1,m,i=>by rw [Nat.add_right_comm,it,it_add n,it]
theorem sq (M v:Nat):(1+4*M*(2*v+1))*(1+4*M*(2*v+1))=1+4*(M*2)*(2*(v+M*(2*v+1)*(2*v+1))+1):=by grind
theorem five:∀ k,∃ v,5^(2^k)=1+4*2^k*(2*v+1)
 | 0=>⟨0,by decide⟩
 | k+1=>by
   obtain ⟨v,e⟩:=five k;exact ⟨_,by rw [ybT 2,Nat.pow_mul,e,Nat.pow_two];exact sq _ v⟩
theorem step (k i:Nat):∃ v,it (2^k) i=i+2^k+2^k*2*v:=by
 obtain ⟨v,e⟩:=five k;have h:=Zil (2^k) i;rw [e] at h;generalize it (2^k) i=x at h ⊢;generalize 2^k=M at h ⊢;refine ⟨(2*v+1)*2*i+v,?_⟩;have e2:(1+4*M*(2*v+1))*(4*i+1)=4*(i+M+M*2*((2*v+1)*2*i+v))+1:=by grind
 rw [e2] at h;omega
theorem reach:∀ k i j,∃ n,n<2^k∧it n i%2^k=j%2^k
 | 0,i,j=>⟨0,by decide,by rw [Nat.pow_zero,Nat.mod_one,Nat.mod_one]⟩
 | k + 1,i,j=>by
   obtain ⟨n,hn,e⟩:=reach k i j;by_cases h:it n i%2^(k+1)=j%2^(k+1)
   · exact ⟨n,by rw [ybT];omega,h⟩
   · refine ⟨n+2^k,by rw [ybT];omega,?_⟩
     obtain ⟨v,es⟩:=step k (it n i);rw [it_add,es];rw [ybT] at h ⊢;rw [yce];generalize it n i=x at e h ⊢;have p:0<2^k:=Nat.two_pow_pos k;generalize 2^k=M at e h p ⊢;have d1:=Nat.mod_mul (x:=x) (a:=M) (b:=2);have d2:=Nat.mod_mul (x:=j) (a:=M) (b:=2);have d3:=Nat.mod_mul (x:=x+M) (a:=M) (b:=2);rw [d1,d2,e] at h;rw [d3,d2,Nat.add_mod_right,e,Nat.add_div_right _ p];congr 2
     have:x/M%2≠j/M%2:=fun z=>h (by rw [z])
     omega
end Lcg
namespace SG
open PySem PySem.SetTable
theorem Zh3 (M:Nat):∀ n i,Lcg.it n (i%M)%M=Lcg.it n i%M
 | 0,i=>Nat.mod_mod _ _
 | n+1,i=>by
   rw [Lcg.it,Lcg.it,← Zh3 M n (5*(i%M)+1),← Zh3 M n (5*i+1)];congr 2
   rw [Nat.add_mod,Nat.mul_mod,Nat.mod_mod,← Nat.mul_mod,← Nat.add_mod]
section
variable {mask:Nat}{owner:Array (Option Nat)}
def Fr (owner:Array (Option Nat))(j:Nat):Prop:=(owner.getD j (some 0)).isNone=true
theorem ZjP (mask i:Nat):i≤runEnd mask i:=by unfold runEnd;split<;>omega
theorem Zjx {mask i:Nat}(h:i≤mask):runEnd mask i≤mask:=by unfold runEnd;split<;>omega
theorem ZeV:∀ (n i p j:Nat),i≤mask→layClean.free mask owner n i p=some j→j≤mask∧Fr owner j
 | 0,_,_,_,_,h=>by cases h
 | n + 1,i,p,j,hi,h=>by
   unfold layClean.free at h;split at h
   · rename_i k hk
     cases h;have hm:=ybW.mp (List.mem_of_find?_eq_some hk);have:=Zjx hi;exact ⟨by omega,by simpa [Fr] using List.find?_some hk⟩
   · exact ZeV n _ _ j (by show (i*5+1+p/32)%(mask+1)≤mask;have:=ybN (i*5+1+p/32) (show 0<mask+1 by omega);omega) h
theorem Zjm {n i p:Nat}(h:Fr owner i):layClean.free mask owner (n+1) i p≠none:=by
 unfold layClean.free;split
 · exact fun z=>by cases z
 · rename_i hk
   have:=List.find?_eq_none.mp hk 0 (ybW.mpr (by have:=ZjP mask i;omega));exact absurd h (by simpa [Fr] using this)
theorem ZfM {n i p:Nat}(h:layClean.free mask owner n (leap mask i p).1 (leap mask i p).2≠none):layClean.free mask owner (n+1) i p≠none:=by
 unfold layClean.free;split
 · exact fun z=>by cases z
 · exact h
theorem Zfx:∀ (n f i:Nat),i≤mask→n<f→Fr owner (Lcg.it n i%(mask+1))→layClean.free mask owner f i 0≠none
 | 0,f+1,i,hi,_,h=>Zjm (by rw [Lcg.it,ycs (by omega)] at h;exact h)
 | n+1,f+1,i,hi,hf,h=>by
   refine ZfM ?_;show layClean.free mask owner f ((i*5+1+0/32)%(mask+1)) (0/32)≠none;rw [Nat.zero_div,ybL];refine Zfx n f _ (by have:=ybN (i*5+1) (show 0<mask+1 by omega);omega) (by omega) ?_;rw [Zh3,Nat.mul_comm];exact h
 | 0,0,_,_,h,_=>absurd h (ybt 0)
 | n+1,0,_,_,h,_=>absurd h (ycq _)
theorem Zgy {k:Nat}(hk:mask+1=2^k){j:Nat}(hj:j≤mask)(h:Fr owner j):∀ (d f i p:Nat),i≤mask→p<32^d→d+2^k≤f→layClean.free mask owner f i p≠none
 | 0,f,i,p,hi,hp,hf=>by
   have p0:p=0:=by rw [Nat.pow_zero] at hp;omega
   obtain ⟨n,hn,e⟩:=Lcg.reach k i j;rw [← hk,ycs (show j<mask+1 by omega)] at e;rw [p0];exact Zfx n f i hi (by omega) (by rw [e];exact h)
 | d+1,0,i,p,hi,hp,hf=>by omega
 | d + 1,f+1,i,p,hi,hp,hf=>by
   refine ZfM (Zgy hk hj h d f _ _ ?_ ?_ (by omega))
   · show (i*5+1+p/32)%(mask+1)≤mask
     have:=ybN (i*5+1+p/32) (show 0<mask+1 by omega);omega
   · show p/32<32^d
     rw [ybT] at hp;exact Nat.div_lt_of_lt_mul (by rw [Nat.mul_comm];exact hp)
theorem bits_lt (h:Int):bits h<2^64:=by unfold bits;have h1:=Int.emod_nonneg h (b:=(2^64:Int)) (by decide);have h2:=Int.emod_lt_of_pos h (b:=(2^64:Int)) (by decide);omega
theorem ZhE {k:Nat}(hk:mask+1=2^k){j:Nat}(hj:j≤mask)(hf:Fr owner j)(h:Int):∃ j,layClean.free mask owner (turns mask) (bits h%(mask+1)) (bits h)=some j∧j≤mask∧Fr owner j:=by
 have hi:bits h%(mask+1)≤mask:=by have:=ybN (bits h) (show 0<mask+1 by omega);omega
 have:=Zgy hk hj hf 13 (turns mask) (bits h%(mask+1)) (bits h) hi (Nat.lt_trans (bits_lt h) (by decide)) (by unfold turns;omega);obtain ⟨x,e⟩:=Option.ne_none_iff_exists'.mp this;exact ⟨x,e,ZeV _ _ _ _ hi e⟩
end
theorem ZfV {α:Type}(y:α)(r:List (Option α)):(some y::r).filterMap id=y::r.filterMap id:=rfl
theorem ZgQ {α β:Type}{f g:α→Option β}(h:∀ x,f x=g x)(l:List α):l.filterMap f=l.filterMap g:=by rw [show f=g from funext h]
theorem Ze6 {α:Type}(x:α):∀ (l:List (Option α)) (j:Nat),l[j]?=some none→((l.set j (some x)).filterMap id).Perm (x::l.filterMap id)
 | [],_,h=>by cases h
 | none::r,0,_=>by simp
 | some y::r,0,h=>by simp at h
 | none::r,j+1,h=>by
   rw [List.set_cons_succ,List.filterMap_cons_none rfl,List.filterMap_cons_none rfl];exact Ze6 x r j (by simpa using h)
 | some y::r,j+1,h=>by
   rw [List.set_cons_succ,ZfV,ZfV];exact ((Ze6 x r j (by simpa using h)).cons y).trans (List.Perm.swap x y _)
theorem Zfn {α:Type}:∀ (l:List (Option α)),(l.filterMap id).length<l.length→∃ j,j<l.length∧l[j]?=some none
 | [],h=>absurd h (ybt 0)
 | none::r,_=>⟨0,Nat.succ_pos _,rfl⟩
 | some y::r,h=>by
   rw [ZfV,yak,yak] at h;obtain ⟨j,h1,h2⟩:=Zfn r (by omega);exact ⟨j+1,by rw [yak];omega,by simpa using h2⟩
theorem Zho {mask k:Nat} (hk:mask+1=2^k):∀ (hs:List Int) (owner:Array (Option Nat)) (m:Nat),owner.size=mask+1→(owner.toList.filterMap id).Perm (List.range m)→m+hs.length≤mask+1 →
   ∃ owner',hs.foldl (init:=some (owner,m)) (fun acc h=>do let (owner,k) ← acc;let j ← layClean.free mask owner (turns mask) (bits h%(mask+1)) (bits h);pure (owner.setIfInBounds j (some k),k+1))=some (owner',m+hs.length)∧owner'.size=mask+1∧(owner'.toList.filterMap id).Perm (List.range (m+hs.length))
 | [],owner,m,h1,h2,_=>⟨owner,rfl,h1,h2⟩
 | h :: r,owner,m,h1,h2,h3=>by
   rw [yak] at h3;have lf:=h2.length_eq;rw [ybz] at lf;obtain ⟨j,hj,hn⟩:=Zfn owner.toList (by rw [lf,yag,h1];omega);rw [yag,h1] at hj;have fr:Fr owner j:=by unfold Fr;rw [yaE] at hn;rw [Array.getD_eq_getD_getElem?,hn];rfl
   obtain ⟨x,ex,hx,fx⟩:=ZhE hk (show j≤mask by omega) fr h;have nx:owner.toList[x]?=some none:=by
     unfold Fr at fx;rw [Array.getD_eq_getD_getElem?] at fx;rw [yaE];cases e:owner[x]? with
     | none=>rw [e] at fx;cases fx
     | some v =>
       rw [e] at fx;cases v with
       | none=>rfl
       | some w=>cases fx
   obtain ⟨o',e1,e2,e3⟩:=Zho hk r (owner.setIfInBounds x (some m)) (m+1) (by rw [Array.size_setIfInBounds];exact h1) (by
     rw [Array.toList_setIfInBounds];refine (Ze6 m _ x nx).trans ?_;rw [List.range_succ];exact (h2.cons m).trans (List.perm_append_singleton m _).symm) (by omega)
   refine ⟨o',?_,e2,by rw [yak,show m+(r.length+1)=m+1+r.length by omega];exact e3⟩;rw [ybE,yak,show m+(r.length+1)=m+1+r.length by omega,← e1];congr 1
   show (layClean.free mask owner (turns mask) (bits h%(mask+1)) (bits h)).bind _=_;rw [ex];rfl
theorem Ze3 {mask k finger moves:Nat}{led plain:Bool}(hk:mask+1=2^k)(hs:Array Int)(hn:hs.size≤mask+1):∃ t order,laid mask finger moves led plain hs=some (t,order)∧order.toList.Perm (List.range hs.size)∧t.mask=mask∧t.dummies=#[]∧t.led=led∧t.plain=plain∧t.finger=finger∧t.place.toList.Pairwise (·<·)∧t.place.size=hs.size:=by
 obtain ⟨o,e1,e2,e3⟩:=Zho hk hs.toList (Array.replicate (mask+1) none) 0 (by rw [Array.size_replicate]) (by simp) (by rw [yag];omega);rw [ybD,yag] at e1 e3;have el:layClean mask hs=some o:=by unfold layClean;rw [← Array.foldl_toList,e1];rfl
 have snd:(((List.range (mask+1)).filterMap fun j=>(o.getD j none).map (j,·)).map (·.2))=o.toList.filterMap id:=by
   rw [List.map_filterMap];have:o.toList=(List.range (mask+1)).map fun j=>o.getD j none:=by
     refine List.ext_getElem (by rw [yag,e2,yaa,ybz]) fun i h1 h2=>?_
     rw [List.getElem_map,List.getElem_range,Array.getD_eq_getD_getElem?,Array.getElem_toList,yaG (by rw [yag] at h1;exact h1)];rfl
   rw [this,List.filterMap_map];refine ZgQ (fun j=>?_) _;show Option.map _ ((o.getD j none).map _)=o.getD j none;cases o.getD j none<;>rfl
 unfold laid;rw [el];refine ⟨_,_,rfl,?_,rfl,rfl,rfl,rfl,rfl,?_,?_⟩
 · rw [List.toList_toArray,snd]
   exact e3
 · rw [List.toList_toArray]
   refine List.Pairwise.sublist ?_ (List.pairwise_lt_range (n:=mask+1));rw [List.map_filterMap];have:(fun (x:Nat)=>Option.map (·.1) ((o.getD x none).map (x,·)))=fun x=>if (o.getD x none).isSome then some x else none:=by funext x;cases o.getD x none<;>rfl
   rw [this];have e:(List.range (mask+1)).filterMap (fun x=>if (o.getD x none).isSome then some x else none)=(List.range (mask+1)).filter fun x=>(o.getD x none).isSome:=by rw [← List.filterMap_eq_filter];refine ZgQ (fun x=>?_) _;simp [Option.guard]
   rw [e];exact List.filter_sublist
 · rw [yav,yaa]
   have:=e3.length_eq;rw [← snd,yaa,ybz] at this;exact this
end SG
namespace SG
open PySem PySem.Spec PyProof.Rows
theorem Zhd (n:Nat):∀ (f j:Nat),n<2^(j+f)→∃ k,SetTable.sizeAbove.go n f (2^j)=2^k∧n<2^k∧(2^k≤2^j∨2^k≤2*n)
 | 0,j,h=>⟨j,rfl,h,.inl (yad _)⟩
 | f + 1,j,h=>by
   unfold SetTable.sizeAbove.go;split
   · rename_i c
     obtain ⟨k,e,h1,h2⟩:=Zhd n f (j+1) (by rw [show j+1+f=j+(f+1) by omega];exact h);rw [ybT] at e h2;refine ⟨k,e,h1,?_⟩;rcases h2 with h2 | h2
     · exact .inr (by omega)
     · exact .inr h2
   · rename_i c
     exact ⟨j,rfl,by omega,.inl (yad _)⟩
theorem above {n:Nat}(h:n<100000):∃ k,SetTable.sizeAbove n=2^k∧n<2^k∧2^k≤2*n+8:=by obtain ⟨k,e,h1,h2⟩:=Zhd n 64 3 (Nat.lt_trans h (by decide));exact ⟨k,e,h1,by rcases h2 with h2 | h2<;>omega⟩
theorem reord {order:Array Nat}(p:order.toList.Perm (List.range es.size)):(order.filterMap (es[·]?)).toList.Perm es.toList:=by rw [Array.toList_filterMap];exact (p.filterMap _).trans (by rw [filterMap_getElem?_range])
structure SA (prog:Program)(w:World)(h:Heap)(a:Addr)(o:Obj)(es:Array (Int × Value))(ep:Nat)(t:SetTable):Prop where
 ho:h.get? a=some o
 hx:o.ExactSet
 hd:o.data=.set es ep t
 el:ElemsOf (intKind prog w) es.toList
 hb:es.size<scanBound
 hf:t.fits es.size=true
 gd:Good (bt w) t
 nd:(es.toList.map fun e=>iv e.2).Nodup
theorem SA.st {h:Heap}{a:Addr}{o:Obj}{t:SetTable}(x:SA prog w h a o es ep t):ST prog w h a (es.toList.map fun e=>iv e.2) :=
 ⟨o,es,ep,t,x.ho,x.hx,x.hd,x.el,x.hb,x.hf,x.gd,rfl,x.nd⟩
theorem ST.sa {h:Heap}{a:Addr}{ks:List Int}(x:ST prog w h a ks):∃ o es ep t,SA prog w h a o es ep t∧(es.toList.map fun e=>iv e.2)=ks :=
 let ⟨o,es,ep,t,h1,h2,h3,h4,h5,h6,h7,h8,h9⟩:=x
 ⟨o,es,ep,t,⟨h1,h2,h3,h4,h5,h6,h7,h8 ▸ h9⟩,h8⟩
theorem SA.store {a:Addr}{o:Obj}{es':Array (Int × Value)}{t t':SetTable}{h:Heap}(x:SA prog w h a o es ep t)(el:ElemsOf (intKind prog w) es'.toList)(hb:es'.size<scanBound)(hf:t'.fits es'.size=true)(gd:Good (bt w) t')(nd:(es'.toList.map fun e=>iv e.2).Nodup) :
   SA prog w (h.update a (Obj.putSet es' t')) a { o with data:=.set es' (ep+1) t' } es' (ep+1) t':=⟨ZhB x.ho x.hd es' t',x.hx,rfl,el,hb,hf,gd,nd⟩
theorem Zgs {bt:Bool}{t:SetTable}(l:t.led=!bt)(r:t.place.toList.Pairwise (·<·)):Good bt t:=⟨l,fun _=>ris_iff.mpr r⟩
theorem ZiT {t:SetTable}{n:Nat}(h1:t.place.size=n)(h2:t.place.size+t.dummies.size≤t.mask):t.fits n=true:=by unfold SetTable.fits SetTable.fill;rw [ybl,zaG,yaL];exact ⟨h1,h2⟩
theorem relay {a:Addr}{o:Obj}{wanted:Nat}{t:SetTable}{Q:Unit→Shared→Prop}(x:SA prog w s.heap a o es ep t)(hn:es.size≤wanted)(hw:wanted<100000)
   (q:∀ es' t',es'.toList.Perm es.toList→SA prog w (s.heap.update a (Obj.putSet es' t')) a { o with data:=.set es' (ep+1) t' } es' (ep+1) t'→t'.dummies=#[]→(∃ k,t'.mask+1=2^k)→wanted≤t'.mask→Q () { s with heap:=s.heap.update a (Obj.putSet es' t') }) :
   wpAny (model prog w) A (setRelay a wanted) Q E s:=by
 obtain ⟨k,ek,h1,h2⟩:=above hw;unfold setRelay;refine zaa (zai x.ho x.hd x.hf ?_);dsimp only;rw [if_neg (by rw [ek,sizeLine_eq];omega)];have hp:0<2^k:=Nat.two_pow_pos k;obtain ⟨t',order,e1,e2,e3,e4,e5,e6,e7,e8,e9⟩:=Ze3 (mask:=2^k-1) (k:=k) (finger:=t.finger) (moves:=t.movedTo (2^k-1)) (led:=t.led) (plain:=t.plain) (by omega) (es.map (·.1)) (by rw [ycr];omega);rw [ycr] at e2 e9;have pe:=reord e2;have sz:=Zck pe;have er:t.relaid (es.map (·.1)) wanted=some (t',order):=by unfold SetTable.relaid;rw [ek];exact e1
 rw [er];have hf:t'.fits (order.filterMap (es[·]?)).size=true:=ZiT (by rw [sz,e9]) (by rw [e4,e9,e3];show es.size+0≤_;omega);have X:=x.store (es':=order.filterMap (es[·]?)) (t':=t') (x.el.perm pe) (by rw [sz];exact x.hb) hf (Zgs (e5.trans x.gd.led) e8) ((pe.map fun e=>iv e.2).nodup_iff.mpr x.nd);refine zaa ?_;show wpAny _ _ (if ((order.filterMap (es[·]?)).size != es.size)=true then _ else _) _ _ _;rw [if_neg (by rw [sz,zaR];decide)];refine zab ?_;refine zaS x.ho x.hd (q _ t' pe X e4 ⟨k,by rw [e3];omega⟩ (by rw [e3];omega)) (zaE (by rw [sz];exact x.hb))
end SG
namespace SG
open PySem PySem.Spec PyProof.Rows
theorem room {a:Addr}{o:Obj}{more:Nat}{t:SetTable}{Q:Unit→Shared→Prop}(x:SA prog w s.heap a o es ep t)(hm:es.size+more<10000)
   (q:∀ h' o' es' ep' t',Heap.SameBut a s.heap h'→SA prog w h' a o' es' ep' t'→es'.toList.Perm es.toList→((∃ k,t.mask+1=2^k)→∃ k,t'.mask+1=2^k)→es.size+more≤t'.mask→(t.dummies=#[]→t'.dummies=#[])→Q () { s with heap:=h' }) :
   wpAny (model prog w) A (setRoomFor a more) Q E s:=by
 unfold setRoomFor;refine zaa (zai x.ho x.hd x.hf ?_);have hf:=x.hf;unfold SetTable.fits SetTable.fill at hf;rw [ybl,zaG,yaL] at hf;dsimp only;unfold SetTable.roomFor;split
 · rename_i wanted hw
   split at hw
   · cases hw
     refine relay x (by rw [hf.1];omega) (by rw [hf.1];omega) fun es' t' pe X d2 hk hle=>q _ _ es' _ t' (zap _ a _) X pe (fun _=>hk) ?_ fun _=>d2
     rw [hf.1] at hle;omega
   · cases hw
 · rename_i hw
   split at hw
   · exact (hw _ rfl).elim
   · rename_i c
     unfold SetTable.fill at c;exact zab (q s.heap o es ep t (zaK a s.heap) x (.refl _) id (by omega) id)
theorem int_of (el:ElemsOf (intKind prog w) es.toList){e:Int × Value}(he:e∈es.toList):∃ k t,e=((intKind prog w).hash k,Value.int k t):=by obtain ⟨⟨k,h1,h2⟩,_⟩:=el e he;obtain ⟨t,e2⟩:=Value.isInt_shape h1;obtain ⟨a,b⟩:=e;cases h2;cases e2;exact ⟨k,t,rfl⟩
theorem ZfN {ss:List Addr}{Q:Bool→Shared→Prop}(q:Q true s)(h:∀ a∈ss,∃ o es ep t,SA prog w s.heap a o es ep t):wpAny (model prog w) A (setsQuiet ss) Q E s:=by
 unfold setsQuiet;refine zaa (wpAny_forIn_list _ (fun l b s'=>b=(none,())∧s'=s∧∀ a∈l,a∈ss) _ ?_ ?_ _ _ ⟨rfl,rfl,fun _ h=>h⟩)
 · rintro a rest b s' ⟨rfl,rfl,ha⟩
   obtain ⟨o,es,ep,t,x⟩:=h a (ha a (.head _));unfold setEntries;refine zaa (zaa (zai x.ho x.hd x.hf (zab ?_)));refine zaa ?_;rw [← Array.forIn_toList];refine wpAny_forIn_list _ (fun l b s2=>b=(none,())∧s2=s'∧∀ e∈l,e∈es.toList) _ ?_ ?_ _ _ ⟨rfl,rfl,fun _ h=>h⟩
   · rintro e rest2 b s2 ⟨rfl,rfl,he⟩
     obtain ⟨k,tk,rfl⟩:=int_of x.el (he e (.head _));exact zab ⟨rfl,rfl,fun y hy=>he y (.tail _ hy)⟩
   · rintro b s2 ⟨rfl,rfl,_⟩
     exact zab ⟨rfl,rfl,fun y hy=>ha y (.tail _ hy)⟩
 · rintro b s' ⟨rfl,rfl,_⟩
   exact zab q
theorem Zg7 {a f:Addr} {o fo:Obj} {fes:Array (Int × Value)} {fep:Nat} {t ft:SetTable} {Q:Array (Int × Value)→Shared→Prop} (x:SA prog w s.heap a o es ep t) (y:SA prog w s.heap f fo fes fep ft)
   (q:∀ es' h' fo' fep' ft',es'.toList.Perm es.toList→Heap.SameBut f s.heap h'→SA prog w h' f fo' fes fep' ft'→Q es' { s with heap:=h' }):wpAny (model prog w) A (setWalkUnseen a [f] (some f)) Q E s:=by
 have led:=x.gd.led;have fled:=y.gd.led;have q0:∀ es',es'.toList.Perm es.toList→Q es' s:=fun es' p=>q es' s.heap fo fep ft p (zaK f s.heap) y
 unfold setWalkUnseen;refine zaa (zai x.ho x.hd x.hf ?_);dsimp only;refine zaa (Zc1 ?_);split
 · rename_i c
   unfold setWalk;refine zaa (zai x.ho x.hd x.hf ?_);dsimp only;refine zaa (Zc1 ?_);split
   · refine zaa (wpAny_askSetting (zab (q0 _ (Zd4 _ _))))
   · rename_i nb
     have nb:bt w=false:=by simpa using nb
     have tl:t.led=true:=by rw [led,nb];rfl
     have nd:(!t.plain&&decide (es.size > 1))=false:=by
       rw [nb,tl,Bool.false_or,Bool.true_and,ycp,yaL] at c;rcases c with c | c
       · rw [c];rfl
       · rw [yaI (by omega),Bool.and_false]
     show wpAny _ _ (if (!t.plain&&decide (es.size > 1))=true then _ else _) _ _ _;rw [nd,if_neg (by decide)];refine zaa ?_;show wpAny _ _ (if (!t.led&&decide (es.size > 1))=true then _ else _) _ _ _;rw [tl,if_neg (by simp)];exact zab (zab (q0 es (.refl _)))
 · rename_i c
   refine zaa (ZfN ?_ ?_)
   · rw [if_neg (by decide)]
     refine zaa (zaQ (zaa (zai y.ho y.hd y.hf ?_)));dsimp only;split
     · refine zaa (zaS y.ho y.hd (zab ?_) (zaE y.hb))
       exact q es _ _ _ _ (.refl _) (zap _ f _) (y.store y.el y.hb y.hf ⟨by show (ft.led&&t.led)=_;rw [led,fled,Bool.and_self],fun hp=>y.gd.ris (by have hp:(ft.plain&&t.plain)=true:=hp;rw [ybl] at hp;exact hp.1)⟩ y.nd)
     · exact zab (q0 es (.refl _))
   · intro b hb
     rcases yaj.mp hb with rfl | hb
     · exact ⟨_,_,_,_,x⟩
     · rw [yal.mp hb]
       exact ⟨_,_,_,_,y⟩
theorem SA.but {h:Heap}{a:Addr}{o:Obj}{t:SetTable}(x:SA prog w h a o es ep t)(e:h'.get? a=h.get? a):SA prog w h' a o es ep t:=⟨e.trans x.ho,x.hx,x.hd,x.el,x.hb,x.hf,x.gd,x.nd⟩
theorem Zft {a b:Addr}{o bo:Obj}{bep:Nat}{t:SetTable}{Q:Unit→Shared→Prop}{each:Sem Unit}(ne:a≠b)(x:SA prog w s.heap a o #[] ep (.fresh 0 0 (!bt w)))(y:SA prog w s.heap b bo es bep t)
   (q:∀ h' ks,Heap.SameBut a s.heap h'→ST prog w h' a ks→ks.Perm (es.toList.map fun e=>iv e.2)→Q () { s with heap:=h' }):wpAny (model prog w) A (setMerge a b each) Q E s:=by
 unfold setMerge;rw [if_neg (by rw [zaG];exact ne)];refine zaa (zai y.ho y.hd y.hf ?_);dsimp only;split
 · rename_i c
   have e0:es=#[]:=by simpa using c
   subst e0;exact zab (q s.heap [] (zaK a s.heap) x.st (.refl _))
 · rename_i c
   refine zaa (room x (by have:=y.hb;unfold scanBound at this;show 0+es.size<10000;omega) fun h1 o1 es1 ep1 t1 sb x1 pe hk hle hd=>?_);have z1:es1=#[]:=by have:=pe.length_eq;rw [yag] at this;exact Array.eq_empty_of_size_eq_zero this
   subst z1;have hk:=hk ⟨3,rfl⟩;have hd:=hd rfl;refine zaa (zai x1.ho x1.hd x1.hf ?_);dsimp only;have hf:=x1.hf;unfold SetTable.fits at hf;rw [ybl,zaG] at hf;have f0:t1.fill=0:=by unfold SetTable.fill;rw [hf.1,hd];rfl
   have y1:SA prog w h1 b bo es bep t:=y.but (sb.2 b ne.symm);unfold SetTable.road;rw [f0,if_neg (by decide)];have hled:(t1.led&&t.led)=!bt w:=by rw [x1.gd.led,y.gd.led,Bool.and_self]
   have hle:es.size≤t1.mask:=by have:0+es.size≤t1.mask:=hle;omega
   by_cases cr:(t1.mask==t.mask&&t.dummies.isEmpty)=true
   · rw [if_pos cr]
     dsimp only;refine zaS x1.ho x1.hd ?_ (zaE y.hb);exact q _ _ (sb.trans (zap _ a _)) (x1.store (t':={ t with finger:=t1.finger,led:=t1.led&&t.led,moves:=t1.moves,plain:=t1.plain&&t.plain }) y.el y.hb y.hf ⟨hled,fun hp=>y.gd.ris (by have hp:(t1.plain&&t.plain)=true:=hp;rw [ybl] at hp;exact hp.2)⟩ y.nd).st (.refl _)
   · rw [if_neg cr]
     dsimp only;obtain ⟨k,hk⟩:=hk;obtain ⟨t',order,e1,e2,e3,e4,e5,e6,e7,e8,e9⟩:=Ze3 (mask:=t1.mask) (k:=k) (finger:=t1.finger) (moves:=t1.moves) (led:=t1.led&&t.led) (plain:=t1.plain&&t.plain) hk (es.map (·.1)) (by rw [ycr];omega);rw [ycr] at e2 e9;have pp:=reord e2;have sz:=Zck pp;rw [e1];have hf':t'.fits (order.filterMap (es[·]?)).size=true:=ZiT (by rw [sz,e9]) (by rw [e4,e9,e3];show es.size+0≤_;omega);refine zaa ?_;show wpAny _ _ (if ((order.filterMap (es[·]?)).size != es.size)=true then _ else _) _ _ _;rw [if_neg (by rw [sz,zaR];decide)];refine zab ?_;refine zaS x1.ho x1.hd ?_ (zaE (by rw [sz];exact y.hb));exact q _ _ (sb.trans (zap _ a _)) (x1.store (y.el.perm pp) (by rw [sz];exact y.hb) hf' (Zgs (e5.trans hled) e8) ((pp.map fun e=>iv e.2).nodup_iff.mpr y.nd)).st (pp.map _)
theorem ZhO {a b:Addr}{o bo:Obj}{fes:Array (Int × Value)}{bep:Nat}{ft t:SetTable}{Q:Unit→Shared→Prop}{each:Sem Unit}(ne:a≠b)(x:SA prog w s.heap a o fes ep ft)(y:SA prog w s.heap b bo es bep t)(hne:fes.size≠0)(hb:fes.size+es.size+1<scanBound)
   (he:∀ s' (Q':Unit→Shared→Prop),SA prog w s'.heap b bo es bep t→Q' () s'→wpAny (model prog w) A each Q' E s')
   (q:∀ h' ks,Heap.SameBut a s.heap h'→ST prog w h' a ks→(∀ z,z∈ks↔z∈(fes.toList.map fun e=>iv e.2)∨z∈es.toList.map fun e=>iv e.2)→ks.length≤fes.size+es.size→Q () { s with heap:=h' }):wpAny (model prog w) A (setMerge a b each) Q E s:=by
 unfold setMerge;rw [if_neg (by rw [zaG];exact ne)];refine zaa (zai y.ho y.hd y.hf ?_);dsimp only;split
 · rename_i c
   have e0:es=#[]:=by simpa using c
   subst e0;refine zab (q s.heap _ (zaK a s.heap) x.st (fun z=>?_) (by rw [yaa,yag];exact yad _));simp
 · rename_i c
   refine zaa (room x (by unfold scanBound at hb;omega) fun h1 o1 es1 ep1 t1 sb x1 pe hk hle hd=>?_);have s1:=Zck pe;refine zaa (zai x1.ho x1.hd x1.hf ?_);dsimp only;have hf:=x1.hf;unfold SetTable.fits at hf;rw [ybl,zaG] at hf;have f0:(t1.fill != 0)=true:=by unfold SetTable.fill;rw [bne_iff_ne];omega
   have y1:SA prog w h1 b bo es bep t:=y.but (sb.2 b ne.symm);unfold SetTable.road;rw [if_pos f0];dsimp only;refine zaa (Zg7 (s:={ s with heap:=h1 }) y1 x1 fun es' h2 o2 ep2 t2 pw sb2 x2=>?_);rw [← Array.forIn_toList];have y2:SA prog w h2 b bo es bep t:=y1.but (sb2.2 b ne.symm);refine zaa (wpAny_forIn_list _ (fun l _ s'=>∃ h' ks,s'={ s with heap:=h' }∧Heap.SameBut a s.heap h'∧ST prog w h' a ks∧(∀ e∈l,e∈es.toList)∧(∀ z,(z∈ks∨z∈l.map fun e=>iv e.2)↔z∈(fes.toList.map fun e=>iv e.2)∨z∈es.toList.map fun e=>iv e.2)∧ks.length+l.length≤fes.size+es.size) _ ?_ ?_ _ _ ⟨h2,_,rfl,sb.trans sb2,x2.st,fun e h=>pw.mem_iff.mp h,fun z=>?_,?_⟩)
   · rintro e rest u s' ⟨h',ks,rfl,sb',st,hm,hz,hl⟩
     obtain ⟨k,tk,rfl⟩:=int_of y.el (hm e (.head _));rw [yak] at hl;refine zaa (zaj (add_int (s:={ s with heap:=h' }) st (by omega) fun bb h3 ks3 sb3 st3 m3 l3=>?_));have y3:SA prog w h3 b bo es bep t:=y.but ((sb3.2 b ne.symm).trans (sb'.2 b ne.symm));refine zaa (he _ _ y3 ?_);refine zaa (zai y3.ho y3.hd y3.hf ?_);dsimp only;rw [if_neg (by rw [zaR];decide)];refine zab ⟨h3,ks3,rfl,sb'.trans sb3,st3,fun e h=>hm e (.tail _ h),fun z=>?_,by omega⟩;rw [← hz z,m3 z,yaF,yaj];show (z∈ks∨z=k)∨_↔z∈ks∨z=k∨_;rw [or_assoc]
   · rintro u s' ⟨h',ks,rfl,sb',st,_,hz,hl⟩
     refine zab (q h' ks sb' st (fun z=>?_) hl);rw [← hz z];simp
   · rw [(pe.map fun e=>iv e.2).mem_iff,(pw.map fun e=>iv e.2).mem_iff]
   · rw [yaa,yag,yag,Zck pw,s1]
     exact yad _
end SG
namespace SG
open PySem PySem.Spec PyProof.Rows
theorem Zio:Slot "set" "__or__" "set.__or__" :=
 .of (owner:="set") (n:="__or__") (by rw [zaT,zaA];kernel_rfl) (by decide +kernel) (by decide +kernel) (by decide +kernel) (by first | exact .inl (by decide +kernel) | exact .inr (by decide +kernel)) (by rw [isSubtype_type];kernel_rfl)
theorem entry_or:entryFor table "set.__or__"=some Builtin.«frozenset.__or__»:=entryFor_alias (id':="frozenset.__or__") (by kernel_rfl) (by first | rfl | decide +kernel | (unfold String.splitOn;simp +decide [String.splitOnAux])) (by decide +kernel) (by kernel_rfl)
theorem args_or (a b:Value):argsOk "set.__or__" ⟨[a,b],[]⟩:=by unfold argsOk;kernel_rfl
theorem fills_or:fillsNumberSlot (.type "set") Operator.BitOr.info.2=pure true :=
 fillsNumberSlot_of (id:="set.__or__") (r:=some (.builtin "set.__ror__")) (by rw [zaT,zaA];kernel_rfl) (by decide +kernel) (by rw [zaT,zaA];kernel_rfl)
theorem Zga {a:Addr}{Q:Bool→Shared→Prop}(hT:s.TypeIs (.ref a) "set")(q:Q true s):wpAny (model prog w) A (Builtin.Frozenset.isAnySet (.ref a)) Q E s:=by unfold Builtin.Frozenset.isAnySet;refine zaa (wpAny_isInstance hT sub_set_self ?_);exact zab q
theorem base_set {a:Addr}(hT:s.TypeIs (.ref a) "set")(q:Q (.type "set") s):wpAny (model prog w) A (Builtin.Frozenset.baseOf a) Q E s:=by unfold Builtin.Frozenset.baseOf;refine zaa (wpAny_isInstance hT sub_set_self ?_);exact zab q
theorem new_obj (q:Q (.ref s.heap.objs.size) { s with heap:=s.heap.push { cls:=.type "set",dict:=none,data:=.set #[] 0 (.fresh 0 0 (!bt w)) } }):wpAny (model prog w) A (newSet (.type "set")) Q E s:=by unfold newSet;refine zaa (m:=setsByText) ?_;unfold setsByText;refine zaa (wpAny_askSetting (zab ?_));simp only [newObj];exact zaa (wpAny_alloc (zab q))
theorem ST.type {a:Addr}{ks:List Int}(x:ST prog w s.heap a ks):s.TypeIs (.ref a) "set":=by obtain ⟨o,es,ep,t,ho,hx,_⟩:=x;exact ⟨o,ho,hx.1⟩
theorem ZjV {a b:Addr}{bo:Obj}{bep:Nat}{t:SetTable}{Q:Unit→Shared→Prop}{each:Sem Unit}(ne:a≠b)(y:SA prog w s.heap b bo #[] bep t)(q:Q () s):wpAny (model prog w) A (setMerge a b each) Q E s:=by unfold setMerge;rw [if_neg (by rw [zaG];exact ne)];refine zaa (zai y.ho y.hd y.hf ?_);exact zab q
theorem Ze1 {id:String}{r b:Addr}{ob:Obj}{eb:Array (Int × Value)}{pb:Nat}{tb:SetTable}{Q:Unit→Shared→Prop}(y:SA prog w s.heap b ob eb pb tb)
   (h:wpAny (model prog w) A (setMerge r b (Builtin.Frozenset.unchanged id b pb)) Q E s):wpAny (model prog w) A (Builtin.Frozenset.updateFrom id r (.ref b)) Q E s:=by
 unfold Builtin.Frozenset.updateFrom;refine zaa (Zga y.st.type ?_);rw [if_pos rfl];refine zaa (zab ?_);unfold Builtin.Frozenset.merge;exact zaa (wpAny_setEpoch_of y.ho y.hd y.hf h)
theorem ZfZ {id:String}{b:Addr}{ob:Obj}{eb:Array (Int × Value)}{pb:Nat}{tb:SetTable}{Q:Unit→Shared→Prop}(y:SA prog w s.heap b ob eb pb tb)(q:Q () s):wpAny (model prog w) A (Builtin.Frozenset.unchanged id b pb) Q E s:=by unfold Builtin.Frozenset.unchanged;refine zaa (wpAny_setEpoch_of y.ho y.hd y.hf ?_);rw [if_neg (by rw [zaR];decide)];exact zab q
theorem or_set {a b:Addr}{ks ls:List Int}(hA:ST prog w s.heap a ks)(hB:ST prog w s.heap b ls)(ne:a≠b)(hb:ks.length+ls.length+1<scanBound)
   (q:∀ h' ms,ST prog w h' s.heap.objs.size ms→(∀ z,z∈ms↔z∈ks∨z∈ls)→(∀ c o,c<s.heap.objs.size→s.heap.get? c=some o→h'.get? c=some o)→Q (.ref s.heap.objs.size) { s with heap:=h' }) :
   wpAny (model prog w) A (binaryOp .BitOr (.ref a) (.ref b)) Q E s:=by
 refine wpAny_binaryOp_same hA.type hB.type fills_or Zio (zax Zio hA.type entry_or ?_ (args_or _ _));have tA:=hA.type;have tB:=hB.type;unfold Builtin.«frozenset.__or__»;show wpAny (model prog w) A.in1 (do
   let (self,other) ← Builtin.Frozenset.slot1 "__or__" ⟨[.ref a,.ref b],[]⟩
   let (l,r):=if false then (other,self) else (self,other)
   if !(← Builtin.Frozenset.isAnySet l <&&> Builtin.Frozenset.isAnySet r) then rule s!"frozenset.{"__or__"}.declined";return ← ret .notImplemented
   ret (← (fun id (l:Addr) (r:Value)=>do
     let result ← Builtin.Frozenset.copyOf l
     if r != .ref l then holding [result] (Builtin.Frozenset.updateFrom id (← Builtin.Frozenset.addrOf result) r)
     return result:String→Addr→Value→Sem Value) s!"frozenset.{"__or__"}" (← Builtin.Frozenset.addrOf l) r)) _ E s
 refine zaa (m:=Builtin.Frozenset.slot1 "__or__" ⟨[.ref a,.ref b],[]⟩) (wpAny_of_eq (show Builtin.Frozenset.slot1 "__or__" ⟨[.ref a,.ref b],[]⟩=pure (.ref a,.ref b) from by simp [Builtin.Frozenset.slot1,slotArgs]) ?_);dsimp only;rw [if_neg (by decide)];dsimp only;refine zaa ?_;refine zaa (Zga tA ?_);refine Zga tB ?_;rw [if_neg (by decide)];refine zaa (zab ?_);refine zaa ?_;unfold Builtin.Frozenset.copyOf;refine zaa (zaa (base_set tA (zaa (new_obj (zaa (zab ?_))))));have hE:(s.heap.push (emptyObj w)).get? s.heap.objs.size=some (emptyObj w):=zag _ rfl;have x0:SA prog w (s.heap.push (emptyObj w)) s.heap.objs.size (emptyObj w) #[] 0 (.fresh 0 0 (!bt w)):=⟨hE,⟨rfl,rfl,rfl⟩,rfl,(fun x hx=>nomatch hx),(by decide),rfl,Good.fresh _,ycf⟩
 have old:∀ c o,c<s.heap.objs.size→s.heap.get? c=some o→(s.heap.push (emptyObj w)).get? c=some o:=fun c o _ e=>zac _ e
 obtain ⟨oa,ea,pa,ta,xa,rfl⟩:=hA.sa;obtain ⟨ob,eb,pb,tb,xb,rfl⟩:=hB.sa;have la:a<s.heap.objs.size:=zad xa.ho;have lb:b<s.heap.objs.size:=zad xb.ho;have xa0:SA prog w (s.heap.push (emptyObj w)) a oa ea pa ta:=xa.but ((old _ _ la xa.ho).trans xa.ho.symm);have xb0:SA prog w (s.heap.push (emptyObj w)) b ob eb pb tb:=xb.but ((old _ _ lb xb.ho).trans xb.ho.symm);have na:s.heap.objs.size≠a:=ybJ la;have nb:s.heap.objs.size≠b:=ybJ lb;have bne:(Value.ref b != Value.ref a)=true:=by rw [bne_iff_ne];exact fun z=>ne (by cases z;rfl)
 rw [yaa,yaa,yag,yag] at hb;show wpAny _ _ _ _ _ { s with heap:=s.heap.push (emptyObj w) };by_cases e0:ea.size=0
 · have z0:ea=#[]:=Array.eq_empty_of_size_eq_zero e0
   subst z0;refine zaa (ZjV (s:={ s with heap:=s.heap.push (emptyObj w) }) na xa0 (zab ?_));rw [if_pos bne];refine zaa (zab (zaa (zaj (Ze1 (s:={ s with heap:=s.heap.push (emptyObj w) }) xb0 (Zft (s:={ s with heap:=s.heap.push (emptyObj w) }) nb x0 xb0 fun h' ms sb st pm=>zab (zab ⟨_,rfl,(fun z=>by cases z),q h' ms st (fun z=>?_) fun c o lc e=>?_⟩))))))
   · rw [pm.mem_iff]
     simp
   · rw [sb.2 c (yaA lc)]
     exact old c o lc e
 · refine zaa (Zft (s:={ s with heap:=s.heap.push (emptyObj w) }) na x0 xa0 fun h1 ks sb st pm=>zab ?_)
   rw [if_pos bne];have xb1:SA prog w h1 b ob eb pb tb:=xb0.but (sb.2 b (Ne.symm nb));obtain ⟨o1,e1,p1,t1,x1,rfl⟩:=st.sa;have l1:e1.size=ea.size:=by have:=pm.length_eq;rw [yaa,yaa,yag,yag] at this;exact this
   refine zaa (zab (zaa (zaj (Ze1 (s:={ s with heap:=h1 }) xb1 (ZhO (s:={ s with heap:=h1 }) nb x1 xb1 (by omega) (by omega) (fun s' Q' y z=>ZfZ y z) fun h' ms sb2 st2 mm _=>zab (zab ⟨_,rfl,(fun z=>by cases z),q h' ms st2 (fun z=>?_) fun c o lc e=>?_⟩))))))
   · rw [mm,pm.mem_iff]
   · rw [sb2.2 c (yaA lc),sb.2 c (yaA lc)]
     exact old c o lc e
end SG
namespace L2
open PySem PySem.Spec PyProof.Rows
def tSortOr (K:ZFr)(t1 t2:TE):TE:=fun σ H Q=>t1 σ H fun x H1=>∃ (l1:Addr) (ns1:List Int),x=.ref l1∧SqL K H1 l1 (ns1.map V.int)∧ns1.length≤2000∧t2 σ H1 fun y H2=>∃ (l2:Addr) (ns2:List Int),y=.ref l2∧SqL K H2 l2 (ns2.map V.int)∧ns2.length≤2000 ∧
 ∀ (p:Addr) (ks:List Int),H2 p=none→ks.Pairwise (·<·)→(∀ z,z∈ks↔z∈ns1∨z∈ns2)→Q (.ref p) (upd H2 p (.lst (ks.map V.int)))
section
variable {e1 e2:Expr}{t1 t2:TE}{p p1 p2 pos q1 q2 bp:Pos}
theorem st_len {h:Heap}{a:Addr}{ks ns:List Int}(st:SG.ST prog w h a ks)(mem:∀ y,y∈ks↔y∈ns):ks.length≤ns.length:=by obtain ⟨_,_,_,_,_,_,_,_,_,_,_,_,nd⟩:=st;exact nd.length_le_of_subset fun y hy=>(mem y).mp hy
theorem Zgc (K:ZFr)(hc:X.calm=true)(hgl:Gl X "sorted")(hml:X.mg "sorted"=none)(hgr:Gl X "set")(hmr:X.mg "set"=none)(he1:PE X e1 t1)(he2:PE X e2 t2)(hK:X.K=K:=by rfl)
   (hs1:starEach [.BinOp (.Call (.Name "set" p1) [e1] [] q1) .BitOr (.Call (.Name "set" p2) [e2] [] q2) bp] X.env=[(false,eval (.BinOp (.Call (.Name "set" p1) [e1] [] q1) .BitOr (.Call (.Name "set" p2) [e2] [] q2) bp) X.env)]:=by rfl) (hs2:starEach [e1] X.env=[(false,eval e1 X.env)]:=by rfl) (hs3:starEach [e2] X.env=[(false,eval e2 X.env)]:=by rfl) :
   PE X (.Call (.Name "sorted" p) [.BinOp (.Call (.Name "set" p1) [e1] [] q1) .BitOr (.Call (.Name "set" p2) [e2] [] q2) bp] [] pos) (tSortOr K t1 t2):=by
 subst hK;intro pins s σ H Q I h;refine zal (Zcb I hgl hml boot_sorted (PyProof.Rows.callWith_builtin1 ?_ hs1 rfl));rw [hs1];show wpAny _ _ (spliced ((false,eval (.BinOp (.Call (.Name "set" p1) [e1] [] q1) .BitOr (.Call (.Name "set" p2) [e2] [] q2) bp) X.env)::backTo pos [])) _ _ s;refine zan (wpAny_BinOp ?_);refine zal (Zcb I hgr hmr Zgt (zam ?_ hs2 rfl));rw [hs2];show wpAny _ _ (spliced ((false,eval e1 X.env)::backTo q1 [])) _ _ s;refine zan (thn (he1 pins s σ H _ I h) fun u s1 ⟨x,H1,I1,r1,l,ns,ex,hq,hn,q⟩=>?_);subst ex;cases r1;obtain ⟨its,rv,pl,hz⟩:=I1.list hq;have hi:=ZeZ rv;have li:its.length=ns.length:=by rw [← rv.length,yaa]
 refine zaD (SG.call_set (its:=its.toArray) (ns:=ns) (I.ok.hd hc) pl.isList (by simpa using hi) (by rw [yav,li];unfold scanBound;omega) fun h2 tk ks st mem old=>?_);have old':∀ b o,s1.heap.get? b=some o→h2.get? b=some o:=fun b o z=>old b o (zad z) z
 have I2:Inv X pins σ H1 { s1 with heap:=h2,toks:=tk }:=I1.kept old';have lk:=st_len st mem;obtain ⟨o,es,ep,t,ho,hx,hd,rest⟩:=st;have nf:H1 s1.heap.objs.size=none:=I1.hok.fresh (yad _);have I3:Inv X ((s1.heap.objs.size,o)::pins) σ H1 { s1 with heap:=h2,toks:=tk }:=I2.pins_of fun b hb=>by
   rcases yaj.mp hb with rfl | hb
   · exact ⟨ho,nf,ybJ I1.lt,I1.nofs (yad _),fun v z=>by rw [hd] at z;cases z⟩
   · exact I2.pin b (yaz _ hb)
 refine zal (Zcb I3 hgr hmr Zgt (zam ?_ hs3 rfl));rw [hs3];show wpAny _ _ (spliced ((false,eval e2 X.env)::backTo q2 [])) _ _ _;refine zan (thn (he2 _ _ σ H1 _ I3 q) fun u s2 ⟨y,H2,I4,r2,l2,ns2,ey,hq2,hn2,q⟩=>?_);subst ey;cases r2;have ho2:s2.heap.get? s1.heap.objs.size=some o:=(I4.pin (s1.heap.objs.size,o) (yaz _ (.head _))).1;have I4':Inv X pins σ H2 s2:=I4.pins_of fun b hb=>I4.pin b (yaz _ (.tail _ hb))
 obtain ⟨its2,rv2,pl2,hz2⟩:=I4'.list hq2;have hi2:=ZeZ rv2;have li2:its2.length=ns2.length:=by rw [← rv2.length,yaa]
 refine zaD (SG.call_set (its:=its2.toArray) (ns:=ns2) (I.ok.hd hc) pl2.isList (by simpa using hi2) (by rw [yav,li2];unfold scanBound;omega) fun h4 tk4 ks4 st4 mem4 old4=>?_);have old4':∀ b o,s2.heap.get? b=some o→h4.get? b=some o:=fun b o z=>old4 b o (zad z) z
 have I5:Inv X pins σ H2 { s2 with heap:=h4,toks:=tk4 }:=I4'.kept old4';have st1:SG.ST X.prog X.w h4 s1.heap.objs.size ks:=⟨o,es,ep,t,old4' _ _ ho2,hx,hd,rest⟩
 have lk4:=st_len st4 mem4;have ne:s1.heap.objs.size≠s2.heap.objs.size:=yaA (zad ho2);refine SG.or_set (s:={ s2 with heap:=h4,toks:=tk4 }) st1 st4 ne (by unfold scanBound;omega) fun h5 ms st5 mem5 old5=>?_
 have old5':∀ b o,h4.get? b=some o→h5.get? b=some o:=fun b o z=>old5 b o (zad z) z
 have I6:Inv X pins σ H2 { s2 with heap:=h5,toks:=tk4 }:=I5.kept old5';have lm:ms.length≤sizeLine:=by obtain ⟨o,es,ep,t,_,_,_,_,hb,_,_,rfl,_⟩:=st5;rw [yaa,yag];exact zaE hb
 have nd:ms.Nodup:=by obtain ⟨_,_,_,_,_,_,_,_,_,_,_,_,z⟩:=st5;exact z
 refine zaD (SG.sorted_set (s:={ s2 with heap:=h5,toks:=tk4 }) (I.ok.hd hc) st5 lm fun h6 tk6 d l6 out ns6 e6 old6 le6 at6 hi6 pm6 so6=>?_);have lo:(ns6.map V.int).length≤sizeLine:=by rw [yaa,pm6.length_eq];exact lm
 have I7:Inv X pins σ (upd H2 l6 (.lst (ns6.map V.int))) { s2 with heap:=h6,toks:=tk6 }:=I6.laid (t':=tk6) (o:=.lst (ns6.map V.int)) old6 le6 ⟨lo,out.toList,e6,Zc2 hi6,by rw [Array.toArray_toList];exact at6⟩;refine ⟨.ref l6,_,I7.redrawn d,rfl,q l6 ns6 (I6.hok.fresh le6) ?_ fun y=>?_⟩
 · have nd6:ns6.Nodup:=pm6.nodup_iff.mpr nd
   exact List.Pairwise.imp₂ (fun a b h1 h2=>by omega) so6 nd6
 · rw [pm6.mem_iff,mem5,mem,mem4]
end
end L2
local macro_rules | `(tactic| walk_at "r")=>`(tactic| exact L2.Room.mono (by assumption) (by decide))
namespace L2
open PySem PySem.Spec PyProof.Rows
section
variable {a b:Expr}{ta tb:TE}{pos:Pos}
theorem Zei {op:CmpOp}{r:R2}(ho:OpR X (compareOp op) r)(ha:PE X a ta)(hb:PE X b tb)(hm:behindInMarks op b=false:=by exact nomark _):PE X (.Compare a [op] [b] pos) (tOp r ta tb):=pe_cmpR ho ha hb hm
theorem ZaH {op:CmpOp}{r:R2}(ho:OpR X (compareOp op) r)(ha:PE X a ta)(hb:PE X b tb)(hm:behindInMarks op b=false:=by exact nomark _):PT X (.Compare a [op] [b] pos) (tTest (tOp r ta tb)):=pt_cmpR ho ha hb hm
theorem Za5 {r:R2}(hr:IxR X r)(ha:PE X a ta)(hb:PE X b tb)(hs:PlainIx b:=by exact fun _ _=>rfl):PE X (.Subscript a b pos) (tOp r ta tb):=pe_ix hr ha hb hs
theorem ZaK {x:Str}{i:Int}{tk:Tok}(hm:X.mg x=some (.int i tk))(hg:Gl X x:=by rfl)(hd:(x==("__debug__":Str))=false:=by decide):PE X (.Name x pos) (tC (.int i)):=ZiP hg hm ⟨_,rfl⟩ hd
theorem Zas {i:Nat}{x:Str}{e:Expr}(he:PE X e te)(hN:X.N.Nodup:=by assumption)(hi:X.N[i]?=some x:=by rfl)(hx:Loc X.env.scope x:=by walk_at "l")(hs:swapsWith e (some (.Name x pos')) pos.line X.env=pure false:=by rfl)(hf:X.fn x=true∨X.env.scope.names.lookup x=some .local:=by first | exact .inl rfl | exact .inr rfl | assumption):PS X (.Assign [.Name x pos'] e pos) (tAsg te (gName i)):=ps_set hN hi hx he hs hf
theorem Za4 {i:Nat}{x:Str}(hN:X.N.Nodup:=by assumption)(hi:X.N[i]?=some x:=by rfl)(hx:Loc X.env.scope x:=by walk_at "l")(hf:X.fn x=true∨X.env.scope.names.lookup x=some .local:=by first | exact .inl rfl | exact .inr rfl | assumption):PG X (.Name x pos) (gName i):=ZaS hN hi hx hf
end
end L2
namespace L2
open PySem
theorem oT{H:Hp}{b:Addr}{o:HO}(e:noT H b=some o):H b=some o:=(Zag e).1
theorem sL{K:ZFr}{H:Hp}{b:Addr}{xs:List V}(e:noT H b=some (.lst xs)):SqL K H b xs:=SqL.of (Zag e).1
theorem nU{H:Hp}{b:Addr}{xs:List V}:noT (upd H b (.lst xs)) b=some (.lst xs):=Zan Zab (nl _)
end L2
namespace My
open PySem L2 BM PyProof.Rows
def top (i:Nat):Stmt:=PySem.Challenge.pw_runmarks_k38_sets_moved.main.body.getD i (.Pass ⟨0,0,0,0⟩)
abbrev Zdd:Stmt:=top 7
theorem jaI:FnScope ["thing"] ["thing"] (defScope Zdd):=by walk_at "s"
abbrev ZeU:Stmt:=top 8
theorem jbh:FnScope ["word","place"] ["word","place"] (defScope ZeU):=by walk_at "s"
abbrev ZcG:Stmt:=top 9
theorem jat:FnScope ["place"] ["place"] (defScope ZcG):=by walk_at "s"
abbrev Zby:Stmt:=top 10
theorem jU:FnScope ["word"] ["word"] (defScope Zby):=by walk_at "s"
abbrev ZdW:Stmt:=top 11
theorem jaP:FnScope ["word","by_two","by_four","by_eight","by_sixteen"] ["word"] (defScope ZdW):=by walk_at "s"
abbrev Zcp:Stmt:=top 12
theorem jam:FnScope ["word","place"] ["word","place"] (defScope Zcp):=by walk_at "s"
abbrev ZeQ:Stmt:=top 13
theorem jbi:FnScope ["word","k","passed"] ["word","k"] (defScope ZeQ):=by walk_at "s"
abbrev Zcx:Stmt:=top 14
theorem jau:FnScope ["word"] ["word"] (defScope Zcx):=by walk_at "s"
abbrev Zda:Stmt:=top 15
theorem jaJ:FnScope ["word"] ["word"] (defScope Zda):=by walk_at "s"
abbrev ZcM:Stmt:=top 16
theorem jav:FnScope ["first","last"] ["first","last"] (defScope ZcM):=by walk_at "s"
abbrev ZdS:Stmt:=top 17
theorem jaQ:FnScope ["places","word","place"] ["places"] (defScope ZdS):=by walk_at "s"
abbrev ZcX:Stmt:=top 18
theorem jaw:FnScope ["word","places"] ["word"] (defScope ZcX):=by walk_at "s"
abbrev Zd0:Stmt:=top 19
theorem jaR:FnScope ["word","runs","first","behind"] ["word"] (defScope Zd0):=by walk_at "s"
abbrev ZbZ:Stmt:=top 20
theorem j5:FnScope ["runs","word","first","last"] ["runs"] (defScope ZbZ):=by walk_at "s"
abbrev ZeO:Stmt:=top 21
theorem jbj:FnScope ["word","by","whole"] ["word","by"] (defScope ZeO):=by walk_at "s"
abbrev Zgh:Stmt:=top 28
theorem jbE:FnScope ["word","begins"] ["word"] (defScope Zgh):=by walk_at "s"
abbrev Zik:Stmt:=top 29
theorem jbY:FnScope ["word","as_list","as_bits","as_runs"] ["word"] (defScope Zik):=by walk_at "s"
abbrev Zgf:Stmt:=top 30
theorem jbF:FnScope ["stretch","place"] ["stretch","place"] (defScope Zgf):=by walk_at "s"
abbrev ZeD:Stmt:=top 32
theorem jbk:FnScope ["many","goes_on","low","high","looks","at"] ["many","goes_on"] (defScope ZeD):=by walk_at "s"
abbrev Zbm:Stmt:=top 33
theorem Zez:FnScope ["keys","key"] ["keys","key"] (defScope Zbm):=by walk_at "s"
abbrev Za2:Stmt:=top 34
theorem jV:FnScope ["aheads","k","behind","looks"] ["aheads","k"] (defScope Za2):=by walk_at "s"
abbrev ZbP:Stmt:=top 42
theorem j6:FnScope ["thing"] ["thing"] (defScope ZbP):=by walk_at "s"
abbrev Zde:Stmt:=top 44
theorem jaK:FnScope ["numbers","words","n"] ["numbers"] (defScope Zde):=by walk_at "s"
abbrev Zdl:Stmt:=top 45
theorem jaL:FnScope ["words"] ["words"] (defScope Zdl):=by walk_at "s"
abbrev Zdf:Stmt:=top 46
theorem jaM:FnScope ["pairs","made","key","stretch"] ["pairs"] (defScope Zdf):=by walk_at "s"
abbrev s_moved:Stmt:=top 48
theorem jbG:FnScope ["marks","by","keys_on","words","key","low","high","new_key","word"] ["marks","by"] (defScope s_moved):=by walk_at "s"
abbrev ZbU:Stmt:=top 50
theorem j7:FnScope ["one","other"] ["one","other"] (defScope ZbU):=by walk_at "s"
abbrev ZeW:Stmt:=top 51
theorem jbl:FnScope ["one","other"] ["one","other"] (defScope ZeW):=by walk_at "s"
abbrev ZcD:Stmt:=top 53
theorem jax:FnScope ["_law_script","_law_k"] ["_law_script","_law_k"] (defScope ZcD):=by walk_at "s"
abbrev ZdR:Stmt:=top 54
theorem jaS:FnScope ["_law_found"] ["_law_found"] (defScope ZdR):=by walk_at "s"
abbrev ZdZ:Stmt:=top 55
theorem jaT:FnScope ["_law_cell","_law_k","_law_number"] ["_law_cell","_law_k"] (defScope ZdZ):=by walk_at "s"
abbrev ZeT:Stmt:=top 56
theorem jbm:FnScope ["_law_places","_law_word_here","_law_place"] ["_law_places"] (defScope ZeT):=by walk_at "s"
abbrev ZeK:Stmt:=top 57
theorem jbn:FnScope ["_law_places","_law_runs_here","_law_place"] ["_law_places"] (defScope ZeK):=by walk_at "s"
abbrev ZdI:Stmt:=top 58
theorem jaU:FnScope ["_law_places","_law_runs_here"] ["_law_places"] (defScope ZdI):=by walk_at "s"
abbrev ZdV:Stmt:=top 59
theorem jG:FnScope ["_law_number","_law_home","_law_key","_law_at","_law_rest","_law_some"] ["_law_number","_law_home"] (defScope ZdV):=by walk_at "s"
abbrev Ze2:Stmt:=top 60
theorem jbo:FnScope ["_law_script","_law_home","_law_way","_law_sets_here","_law_k","_law_number","_law_one","_law_cell","_law_at","_law_ones","_law_others"] ["_law_script"] (defScope Ze2):=by walk_at "s"
abbrev ZeN:Stmt:=top 61
theorem jbp:FnScope ["_law_numbers","_law_by_here","_law_number","_law_told_here","_law_key","_law_kind","_law_body"] ["_law_numbers"] (defScope ZeN):=by walk_at "s"
abbrev Zh7:Stmt:=top 62
theorem jbZ:FnScope ["_law_found","_law_numbers","_law_many"] ["_law_found","_law_numbers"] (defScope Zh7):=by walk_at "s"
abbrev Ze8:Stmt:=top 63
theorem jbq:FnScope ["_law_numbers","_law_book_here","_law_k"] ["_law_numbers"] (defScope Ze8):=by walk_at "s"
abbrev Zex:Stmt:=top 64
theorem jbr:FnScope ["_law_found","_law_numbers","_law_last"] ["_law_found","_law_numbers"] (defScope Zex):=by walk_at "s"
abbrev ZhJ:Stmt:=top 65
theorem jb0:FnScope ["_law_cell","_law_number","_law_way","_law_by_here"] ["_law_cell"] (defScope ZhJ):=by walk_at "s"
abbrev ZeH:Stmt:=top 66
theorem jbL:FnScope ["_law_script","_law_ones","_law_others","_law_a","_law_b","_law_by_here","_law_stayed","_law_found"] ["_law_script"] (defScope ZeH):=by walk_at "s"
abbrev ZbL:Stmt:=inClass (top 23) 0
abbrev ZaY:Stmt:=inClass (top 23) 1
theorem j8:FnScope ["self"] ["self"] (defScope ZaY):=by walk_at "s"
abbrev Za1:Stmt:=inClass (top 23) 2
theorem jad:FnScope ["self","place"] ["self","place"] (defScope Za1):=by walk_at "s"
abbrev ZaO:Stmt:=inClass (top 23) 3
theorem jW:FnScope ["self","place"] ["self","place"] (defScope ZaO):=by walk_at "s"
abbrev ZaL:Stmt:=inClass (top 23) 4
theorem jO:FnScope ["self","k"] ["self","k"] (defScope ZaL):=by walk_at "s"
abbrev Zba:Stmt:=inClass (top 24) 0
theorem ji:FnScope ["self","places"] ["self","places"] (defScope Zba):=by walk_at "s"
abbrev Zb0:Stmt:=inClass (top 24) 1
theorem jA:FnScope ["self"] ["self"] (defScope Zb0):=by walk_at "s"
abbrev ZbV:Stmt:=inClass (top 24) 2
theorem jB:FnScope ["self"] ["self"] (defScope ZbV):=by walk_at "s"
abbrev ZbW:Stmt:=inClass (top 24) 3
theorem jC:FnScope ["self"] ["self"] (defScope ZbW):=by walk_at "s"
abbrev Zbh:Stmt:=inClass (top 25) 0
theorem jm:FnScope ["self","word"] ["self","word"] (defScope Zbh):=by walk_at "s"
abbrev Zb2:Stmt:=inClass (top 25) 1
theorem jH:FnScope ["self"] ["self"] (defScope Zb2):=by walk_at "s"
abbrev Zb9:Stmt:=inClass (top 25) 2
theorem jI:FnScope ["self"] ["self"] (defScope Zb9):=by walk_at "s"
abbrev Zb8:Stmt:=inClass (top 25) 3
theorem jJ:FnScope ["self"] ["self"] (defScope Zb8):=by walk_at "s"
abbrev Zbg:Stmt:=inClass (top 26) 0
theorem jn:FnScope ["self","runs"] ["self","runs"] (defScope Zbg):=by walk_at "s"
abbrev Zb6:Stmt:=inClass (top 26) 1
theorem jK:FnScope ["self"] ["self"] (defScope Zb6):=by walk_at "s"
abbrev Zb5:Stmt:=inClass (top 26) 2
theorem jL:FnScope ["self"] ["self"] (defScope Zb5):=by walk_at "s"
abbrev Zb4:Stmt:=inClass (top 26) 3
theorem jM:FnScope ["self"] ["self"] (defScope Zb4):=by walk_at "s"
abbrev Zcn:Stmt:=inClass (top 43) 0
theorem jP:FnScope ["self"] ["self"] (defScope Zcn):=by walk_at "s"
abbrev Zea:Stmt:=inClass (top 43) 1
theorem jay:FnScope ["self","n","stretch","place"] ["self","n"] (defScope Zea):=by walk_at "s"
abbrev Zeg:Stmt:=inClass (top 43) 5
theorem jaz:FnScope ["self","n","stretch"] ["self","n"] (defScope Zeg):=by walk_at "s"
abbrev ZdC:Stmt:=inClass (top 43) 6
theorem jan:FnScope ["self"] ["self"] (defScope ZdC):=by walk_at "s"
abbrev Zc5:Stmt:=inClass (top 43) 7
theorem jae:FnScope ["self","n","at"] ["self","n"] (defScope Zc5):=by walk_at "s"
abbrev ZcU:Stmt:=inClass (top 43) 8
theorem j9:FnScope ["self","n","before"] ["self","n"] (defScope ZcU):=by walk_at "s"
abbrev Zci:Stmt:=inClass (top 43) 9
theorem jQ:FnScope ["self","n","before"] ["self","n"] (defScope Zci):=by walk_at "s"
abbrev ZcI:Stmt:=inClass (top 43) 10
theorem jaa:FnScope ["self","k","at"] ["self","k"] (defScope ZcI):=by walk_at "s"
abbrev Zcw:Stmt:=inClass (top 43) 11
theorem jX:FnScope ["self","numbers","key","stretch"] ["self"] (defScope Zcw):=by walk_at "s"
abbrev Zdo:Stmt:=inClass (top 43) 12
theorem jao:FnScope ["self"] ["self"] (defScope Zdo):=by walk_at "s"
abbrev ZdB:Stmt:=inClass (top 43) 14
theorem jap:FnScope ["self"] ["self"] (defScope ZdB):=by walk_at "s"
abbrev Zch:Stmt:=inClass (top 43) 17
theorem jR:FnScope ["self"] ["self"] (defScope Zch):=by walk_at "s"
abbrev ZbO:Stmt:=inClass (top 43) 18
theorem jD:FnScope ["self","key","at"] ["self","key"] (defScope ZbO):=by walk_at "s"
abbrev Zcu:Stmt:=inClass (top 43) 20
theorem jY:FnScope ["self","key","stretch"] ["self","key"] (defScope Zcu):=by walk_at "s"
abbrev Zbz:Stmt:=inClass (top 43) 22
theorem jx:FnScope ["self","k"] ["self","k"] (defScope Zbz):=by walk_at "s"
abbrev Zc8:Stmt:=inClass (top 43) 23
theorem jaf:FnScope ["self","key"] ["self","key"] (defScope Zc8):=by walk_at "s"
abbrev ZcB:Stmt:=inClass (top 43) 24
theorem jab:FnScope ["self","at","key"] ["self","at","key"] (defScope ZcB):=by walk_at "s"
abbrev Zcd:Stmt:=inClass (top 43) 25
theorem jS:FnScope ["self","at"] ["self","at"] (defScope Zcd):=by walk_at "s"
abbrev ZdH:Stmt:=inClass (top 43) 26
theorem jaq:FnScope ["self","key","stretch","at","behind","ahead","more","mine"] ["self","key","stretch"] (defScope ZdH):=by walk_at "s"
structure Blt (mg:Str→Option Value):Prop where
 len:mg "len"=none
 range:mg "range"=none
 isi:mg "isinstance"=none
 int:mg "int"=none
 bool:mg "bool"=none
 lst:mg "list"=none
 sorted:mg "sorted"=none
 st:mg "set"=none
 zip:mg "zip"=none
 ValueError:mg "ValueError"=none
structure CD_ListStretch (K:ZFr)(mg:Str→Option Value)(C:Addr):Prop where
 at_:mg "ListStretch"=some (.ref C)
 c:Cls K C
 init:MakerAt K C "ListStretch.__init__" Zba ["self","places"]
 m_kind:MDefAt K C "kind" "ListStretch.kind" Zb0 ["self"]
 m_body:MDefAt K C "body" "ListStretch.body" ZbV ["self"]
 m_word:MDefAt K C "word" "ListStretch.word" ZbW ["self"]
 m_told:MDefAt K C "told" "Stretch.told" ZbL ["self"]
 m_many:MDefAt K C "many" "Stretch.many" ZaY ["self"]
 m_has:MDefAt K C "has" "Stretch.has" Za1 ["self","place"]
 m_below:MDefAt K C "below" "Stretch.below" ZaO ["self","place"]
 m_chosen:MDefAt K C "chosen" "Stretch.chosen" ZaL ["self","k"]
 n_places:NoAttr K C "places"
structure CD_BitStretch (K:ZFr)(mg:Str→Option Value)(C:Addr):Prop where
 at_:mg "BitStretch"=some (.ref C)
 c:Cls K C
 init:MakerAt K C "BitStretch.__init__" Zbh ["self","word"]
 m_kind:MDefAt K C "kind" "BitStretch.kind" Zb2 ["self"]
 m_body:MDefAt K C "body" "BitStretch.body" Zb9 ["self"]
 m_word:MDefAt K C "word" "BitStretch.word" Zb8 ["self"]
 m_told:MDefAt K C "told" "Stretch.told" ZbL ["self"]
 m_many:MDefAt K C "many" "Stretch.many" ZaY ["self"]
 m_has:MDefAt K C "has" "Stretch.has" Za1 ["self","place"]
 m_below:MDefAt K C "below" "Stretch.below" ZaO ["self","place"]
 m_chosen:MDefAt K C "chosen" "Stretch.chosen" ZaL ["self","k"]
 n_ones:NoAttr K C "ones"
structure CD_RunStretch (K:ZFr)(mg:Str→Option Value)(C:Addr):Prop where
 at_:mg "RunStretch"=some (.ref C)
 c:Cls K C
 init:MakerAt K C "RunStretch.__init__" Zbg ["self","runs"]
 m_kind:MDefAt K C "kind" "RunStretch.kind" Zb6 ["self"]
 m_body:MDefAt K C "body" "RunStretch.body" Zb5 ["self"]
 m_word:MDefAt K C "word" "RunStretch.word" Zb4 ["self"]
 m_told:MDefAt K C "told" "Stretch.told" ZbL ["self"]
 m_many:MDefAt K C "many" "Stretch.many" ZaY ["self"]
 m_has:MDefAt K C "has" "Stretch.has" Za1 ["self","place"]
 m_below:MDefAt K C "below" "Stretch.below" ZaO ["self","place"]
 m_chosen:MDefAt K C "chosen" "Stretch.chosen" ZaL ["self","k"]
 n_runs:NoAttr K C "runs"
structure CD_Marks (K:ZFr)(mg:Str→Option Value)(C:Addr):Prop where
 at_:mg "Marks"=some (.ref C)
 c:Cls K C
 init:MakerAt K C "Marks.__init__" Zcn ["self"]
 m_put:MDefAt K C "put" "Marks.put" Zea ["self","n"]
 m_has:MDefAt K C "has" "Marks.has" Zeg ["self","n"]
 m_many:MDefAt K C "many" "Marks.many" ZdC ["self"]
 m_below:MDefAt K C "below" "Marks.below" Zc5 ["self","n"]
 m_onward:MDefAt K C "onward" "Marks.onward" ZcU ["self","n"]
 m_backward:MDefAt K C "backward" "Marks.backward" Zci ["self","n"]
 m_chosen:MDefAt K C "chosen" "Marks.chosen" ZcI ["self","k"]
 m_numbers:MDefAt K C "numbers" "Marks.numbers" Zcw ["self"]
 m_told:MDefAt K C "told" "Marks.told" Zdo ["self"]
 m_book:MDefAt K C "book" "Marks.book" ZdB ["self"]
 m_key_list:MDefAt K C "key_list" "Marks.key_list" Zch ["self"]
 m_stretch_at:MDefAt K C "stretch_at" "Marks.stretch_at" ZbO ["self","key"]
 m_word_at:MDefAt K C "word_at" "Marks.word_at" Zcu ["self","key"]
 m_check_place:MDefAt K C "check_place" "Marks.check_place" Zbz ["self","k"]
 m_found:MDefAt K C "found" "Marks.found" Zc8 ["self","key"]
 m_stands:MDefAt K C "stands" "Marks.stands" ZcB ["self","at","key"]
 m_ahead_of:MDefAt K C "ahead_of" "Marks.ahead_of" Zcd ["self","at"]
 m_keep:MDefAt K C "keep" "Marks.keep" ZdH ["self","key","stretch"]
 ty:TyIns K C
 i_Marks:IsiTo K mg C "Marks" true
 n_keyed:NoAttr K C "keyed"
 n_aheads:NoAttr K C "aheads"
 n_stretches:NoAttr K C "stretches"
 n_held:NoAttr K C "held"
local macro_rules | `(tactic| walk_at "vc")=>`(tactic| ((try dsimp only [tSortOr,tDSet,tLZip,tSeq,tNext,tAsg,gName,tVar,tC,tOp,tUn,rI,rI0,rU,rEq,rNe,tRet,tDrop,tIfS,tTest,tB,tAnd,tOr,tNot,tAndV,tNotV,tIf,tCall,tNil,tCons,tTup,tLst,tCB,tBM,tBM0,rIxL,rIxT,gSub,rSetL,rAppend,rBitLen,rCat,rRep,iRng1,iList,iTup,iZip,tCallV,tCallLam,tNever,rSortD,tDGet,tDGet2,sDPut,tChain,tNoTest,ZiI,Zgo,rLen,rListOf,tDNewK,tMeD,rExtend,tMake,tFld,sFld,gTup,gLst,gCons,gNil,tSl,tNoPart,tPart,rSlL,L2.start,capSt]); (try simp only [tSortOr,tDSet,tLZip,tSeq,tNext,tAsg,gName,tVar,tC,tOp,tUn,rI,rI0,rU,rEq,rNe,scal_ii,scal_bb,scal_ss,tRet,tDrop,tIfS,tTest,tB,tAnd,tOr,tNot,tAndV,tNotV,tIf,tCall,tNil,tCons,tTup,tLst,tCB,tBM,tBM0,tyV_int,tyV_list,rIxL,rIxT,gSub,rSetL,rAppend,rBitLen,rCat,rRep,iRng1,iList,iTup,iZip,tCallV,tCallLam,tNever,rSortD,tDGet,tDGet2,sDPut,tChain,tNoTest,rIsi_int,ZiZ,ZiI,Zgo,rLen,rListOf,tDNewK,tMeD,rExtend,tMake,tFld,sFld,gTup,gLst,gCons,gNil,tSl,tNoPart,tPart,rSlL,tyV_str,CDiv,CMul,CPow,CShl,L2.start,capSt,List.map_cons,List.map_nil,List.length_cons,List.length_nil,List.append_nil,List.nil_append,List.cons_append,List.getElem?_cons_zero,List.getElem?_cons_succ,List.set_cons_zero,List.set_cons_succ,List.getD_cons_zero,List.getD_cons_succ,rep0,rep1,rep2,rep3,rep4,rep5,rep6,rep7,rep8,rep9,rep10,rep11,Nat.reduceAdd,Nat.reduceSub,Int.reduceLT,Int.reduceLE,Int.reducePow,Int.reduceNeg,Int.reduceMul,Int.reduceAdd,Int.reduceSub,Int.reduceToNat,Int.reduceEq,reduceIte,Option.some.injEq,V.int.injEq,V.bl.injEq,V.ref.injEq,V.str.injEq,V.ty.injEq,List.cons.injEq,exists_and_left,exists_eq_left,exists_eq_left',exists_eq_right,exists_eq',exists_eq,and_true,true_and,Int.zero_add,decide_eq_true_eq,Bool.not_eq_true',decide_eq_false_iff_not,if_true,if_false,Bool.false_eq_true,Bool.true_eq_false,ite_not,not_true_eq_false,not_false_eq_true,Bool.not_true,Bool.not_false,decide_true,decide_false,or_true,true_or,reduceCtorEq,false_and,and_false,exists_false,false_or,or_false])))
def mixI (c k:Int):Int:=((c*48271+k*7919+104729)%2147483647)*((c*48271+k*7919+104729)%2147483647)%2147483629
def spMixed:Sp:=fun vs H Q _=>∃ c k:Int,vs=[.int c,.int k]∧Q (.int (mixI c k)) H
theorem ok_mixed (d:DefAt K mg "_law_mixed" ZdZ ["_law_cell","_law_k"]):FnAt P w K mg base "_law_mixed" ["_law_cell","_law_k"] 1 spMixed:=by
 refine FnAt.of d jaT ?_ ?_;walk_at "F";have nd:=jaT.nd;obtain ⟨c,k,rfl,q⟩:=h;refine ⟨_,(Zaf (Zas (i:=2) (Zah Zau (Zah Zay (Zah Zay (Zah ZaZ (pv 0) Zad) (Zah ZaZ (pv 1) Zad)) Zad) Zad))
     (Zae (Zak (Zah Zau (Zah ZaZ (pv 2) (pv 2)) Zad)))),?_⟩
 walk_at "vc";have h1:=Int.emod_nonneg (c*48271+k*7919+104729) (b:=2147483647) (by decide);have h2:=Int.emod_lt_of_pos (c*48271+k*7919+104729) (b:=2147483647) (by decide);exact ⟨.inl ⟨by omega,by omega⟩,q⟩
def spCell (K:ZFr):Sp:=fun vs H Q _=>∃ (a:Addr) (ns:List Int) (k:Nat),vs=[.ref a,.int k]∧SqL K H a (ns.map V.int)∧Q (.int (ns.getD k 0)) H
theorem Zhz (B:Blt mg)(d:DefAt K mg "_law_cell_at" ZcD ["_law_script","_law_k"]):FnAt P w K mg base "_law_cell_at" ["_law_script","_law_k"] 1 (spCell K):=by
 refine FnAt.of d jax ?_ ?_;walk_at "F";have nd:=jax.nd;obtain ⟨a,ns,k,rfl,hS,q⟩:=h;refine ⟨_,(Zaf (ZaC (ZaH Zc6 (pv 1) (Zaw (ZaF K) rfl B.len zar (Zaa (pv 0) Zac))) (Zae (Zak (Za5 (Zar K) (pv 0) (pv 1)))) Zao)
     (Zae (Zak Zad))),?_⟩
 walk_at "vc";refine ⟨_,.inl hS,?_⟩;rw [yaa];by_cases hk:k<ns.length
 · rw [if_pos (by omega)]
   refine ⟨_,hS,.int (ns.getD k 0),Zc0 ?_,q⟩;rw [yay,yae hk,yaC,yae hk];rfl
 · rw [if_neg (by omega)]
   have e:ns.getD k 0=0:=by rw [yaC,List.getElem?_eq_none (by omega)];rfl
   rw [e] at q;exact q
def spWhole:Sp:=fun vs H Q _=>∃ i:Int,vs=[.int i]∧Q (.bl true) H
theorem ok_whole (B:Blt mg)(d:DefAt K mg "_law_whole" ZdR ["_law_found"]):FnAt P w K mg base "_law_whole" ["_law_found"] 1 spWhole:=by refine FnAt.of d jaS ?_ ?_;walk_at "F";have nd:=jaS.nd;obtain ⟨k,rfl,q⟩:=h;refine ⟨_,(Zae (Zak (ZcR (Zaw (Zcm K) rfl B.isi ZcE (Zaa (pv 0) (Zaa (Zel (v:=.ty "int") rfl B.int boot_int rfl) Zac))) (ZcO (pe_not (Zaw (Zcm K) rfl B.isi ZcE (Zaa (pv 0) (Zaa (Zel (v:=.ty "bool") rfl B.bool boot_bool rfl) Zac)))))))),?_⟩;walk_at "vc";exact q
def halv (lo hi m:Nat):List Nat:=if h:lo<hi then (lo+hi)/2::(if (lo+hi)/2<m then halv ((lo+hi)/2+1) hi m else halv lo ((lo+hi)/2) m) else []
termination_by hi-lo
decreasing_by all_goals omega
def spHalved (P:Program)(w:World)(K:ZFr)(mg:Str→Option Value)(base:Heap):Sp:=fun vs H Q _=>∃ (n m:Nat) (f:Addr) (pn:Str) (tb:TE) (cvs:List V) (H0:Hp),vs=[.int n,.ref f]∧m≤n∧n≤1000∧Ready P w K mg base 1 pn tb cvs H0 H f ∧
 (∀ (H':Hp) (i:Nat) (R:VK),Same H H'→i<n→R (.bl (decide (i<m))) H'→tb (some (.int i)::cvs.map some) H' R)∧∀ t l H',Same H H'→H t=none→H l=none→H' t=some (.tup [.int m,.ref l])→H' l=some (.lst (pint (halv 0 n m)))→Q (.ref t) H'
structure HalvI (n m:Nat)(f l:Addr)(H:Hp)(σ:L2.St)(H':Hp):Prop where
 ex:∃ (lo hi:Nat) (pr:List Nat) (v5:Option V),σ=[some (.int n),some (.ref f),some (.int lo),some (.int hi),some (.ref l),v5]∧lo≤m∧m≤hi∧hi≤n∧pr.length+(hi-lo)≤n∧pr++halv lo hi m=halv 0 n m∧H' l=some (.lst (pint pr))
 same:Same H H'
def gapN:L2.St→Nat
 | _::_::some (.int lo)::some (.int hi)::_=>(hi-lo).toNat
 | _=>0
theorem Zjp (d:DefAt K mg "halved" ZeD ["many","goes_on"]):FnAt P w K mg base "halved" ["many","goes_on"] 2 (spHalved P w K mg base):=by
 refine FnAt.of d jbk ?_ ?_;walk_at "F";have nd:=jbk.nd;obtain ⟨n,m,fl,pn,tb,cvs,H0,rfl,mn,n1000,⟨o,fd,c',oc,hf,hfd,hc,nf,LA⟩,htb,q⟩:=h;refine ⟨_,(Zaf (Zas (i:=2) Zad)
     (Zaf (Zas (i:=3) (pv 0))
     (Zaf (Zas (i:=4) (ZaJ Zac))
     (Zaf (ZeY zak (ZaH Zc6 (pv 2) (pv 3)) (Zaf (Zas (i:=5) (Zah Zaq (Zah Zay (pv 2) (pv 3)) Zad))
     (Zaf (ZaM (ZcP K zaq zau zav Za6 (pv 4) (Zaa (pv 5) Zac)))
     (Zae (ZaC (Zbx (pe_callV (k:=1) 1 (hr.mono (by decide)) (Zaa (pv 5) Zac))) (Zae (Zas (i:=2) (Zah Zay (pv 5) Zad))) (Zae (Zas (i:=3) (pv 5))))))))
     (Zae (Zak (ZaR (Zaa (pv 2) (Zaa (pv 4) Zac))))))))),?_⟩
 walk_at "vc";refine ⟨yau _,fun l nl=>?_⟩;refine ZeB (HalvI n m fl l H) (fun σ _=>gapN σ) ⟨⟨0,n,[],_,rfl,yau _,mn,yad _,by show 0+(n-0)≤n;omega,rfl,Zab⟩,Same.new nl⟩ ?_ (fun σ H R R' h ⟨v,e,v2,e',i,j,e1,e2,k,e3,q⟩=>⟨v,e,v2,e',i,j,e1,e2,k,e3,h _ _ q⟩);rintro σ H1 ⟨⟨lo,hi,pr,v5,rfl,h1,h2,h3,h4,h5,h6⟩,sm⟩;walk_at "vc";have nlf:fl≠l:=fun z=>by rw [z,nl] at hf;cases hf
 have nlc:c'≠l:=fun z=>by rw [z,nl] at hc;cases hc
 by_cases lt:lo<hi
 · rw [if_pos (by omega)]
   have em:((lo:Int)+(hi:Int))/2=(((lo+hi)/2:Nat):Int):=by omega
   rw [em];have hv:halv lo hi m=(lo+hi)/2::(if (lo+hi)/2<m then halv ((lo+hi)/2+1) hi m else halv lo ((lo+hi)/2) m):=by rw [halv,dif_pos lt]
   rw [hv] at h5;have l1:lo≤(lo+hi)/2:=by omega
   have l2:(lo+hi)/2<hi:=by omega
   generalize (lo+hi)/2=mid at h5 hv l1 l2 ⊢;have s2:Same H (upd H1 l (.lst (pint pr++[V.int mid]))):=sm.put nl;have hl2:upd H1 l (.lst (pint pr++[V.int mid])) l=some (.lst (pint (pr++[mid]))):=by rw [Zab];unfold pint;rw [yaQ];rfl
   refine ⟨⟨_,SqL.of h6⟩,_,h6,small1000 (by rw [Zal];omega),?_⟩;generalize upd H1 l (.lst (pint pr++[V.int mid]))=H2 at s2 hl2 ⊢;refine ⟨o,s2 _ _ hf,fd,hfd,_,_,LA,s2 _ _ hf,_,rfl,s2 _ _ hf,s2 _ _ hc,htb H2 mid _ s2 (by omega) ⟨_,rfl,?_⟩⟩;by_cases c:mid<m
   · rw [if_pos c] at h5
     rw [yap c,if_pos rfl];refine ⟨⟨⟨mid+1,hi,pr++[mid],_,rfl,by omega,h2,h3,by rw [yac];show pr.length+1+_≤_;omega,by rw [yaf];exact h5,hl2⟩,s2⟩,?_⟩;show (((hi:Int)-((mid:Int)+1)).toNat)<((hi:Int)-(lo:Int)).toNat
     omega
   · rw [if_neg c] at h5
     rw [yaI c,if_neg (by decide)];refine ⟨⟨⟨lo,mid,pr++[mid],_,rfl,h1,by omega,by omega,by rw [yac];show pr.length+1+_≤_;omega,by rw [yaf];exact h5,hl2⟩,s2⟩,?_⟩;show (((mid:Int)-(lo:Int)).toNat)<((hi:Int)-(lo:Int)).toNat
     omega
 · rw [if_neg (by omega)]
   refine ⟨by decide,fun t nt=>?_⟩;have e1:lo=m:=by omega
   have hv:halv lo hi m=[]:=by rw [halv,dif_neg lt]
   rw [hv,yaH] at h5;have sT:=Same.new (o:=.tup [V.int lo,V.ref l]) nt;refine q t l _ (sm.trans sT) (sm.free nt) nl (by rw [Zab,e1]) ?_;rw [← h5];exact sT _ _ h6
def cnt (p:Int→Bool)(ks:List Int):Nat:=(ks.filter p).length
def Pre (p:Int→Bool)(ks:List Int):Prop:=∀ (i:Nat) (k:Int),ks[i]?=some k→p k=decide (i<cnt p ks)
def spHK (pr:Int→Int→Bool)(df:Int)(c P1:Addr)(qual:Str)(lp:Pos):Sp:=fun vs H Q _=>∃ (a:Addr) (ks:List Int) (y:Int),vs=[.ref a,.int y]∧H a=some (.lst (ks.map V.int))∧ks.length≤1000∧Pre (pr y) ks∧Tb H P1 qual lp ∧
 ∀ t l H',SameT P1 H H'→Tb H' P1 qual lp→H t=none→H l=none→H' t=some (.tup [.int ((cnt (pr y) ks:Int)-df),.ref l])→H' l=some (.lst (pint (halv 0 ks.length (cnt (pr y) ks))))→Q (.ref t) H'
theorem cnt_le (p:Int→Bool)(ks:List Int):cnt p ks≤ks.length:=ybp _ _
theorem freeT {H2:Hp}{Pt b:Addr}{q:Str}{lp:Pos}(s:SameT Pt H H2)(t:Tb H2 Pt q lp)(f:H2 b=none):H b=none:=by
 cases e:H b with
 | none=>rfl
 | some o =>
   by_cases z:b=Pt
   · rw [z] at f
     rcases t with h | ⟨_,_,h,_⟩<;>(rw [f] at h;cases h)
   · rw [s _ _ z e] at f
     cases f
def lpK:Pos:=match defBody Zbm with | [.Return (some (.Call _ [_,.Lambda _ _ _ p] _ _)) _]=>p | _=>⟨0,0,0,0⟩
def lpC:Pos:=match defBody Za2 with | .Assign _ (.Call _ [_,.Lambda _ _ _ p] _ _) _::_=>p | _=>⟨0,0,0,0⟩
def qK:Str:=(Str.ofString "halved_keys"++Str.ofString ".<locals>.")++Str.ofString "<lambda>"
def qC:Str:=(Str.ofString "halved_counts"++Str.ofString ".<locals>.")++Str.ofString "<lambda>"
theorem ZiL {ks:List Int}{i:Nat}(h:i<ks.length):atI (ks.map V.int) (i:Int)=some (.int (ks.getD i 0)):=Zc0 (by rw [yay,yaC,yae h];rfl)
section
variable {c1 P1 c2 P2:Addr}
theorem ok_hkeys (B:Blt mg)(T_halved_keys:TabIn base mg (c1,P1))(jZ:∀ base,FnAt P w K mg base "halved" ["many","goes_on"] 2 (spHalved P w K mg base))(d:DefAtC K mg "halved_keys" Zbm ["keys","key"] c1):FnAt P w K mg base "halved_keys" ["keys","key"] 3 (spHK (fun y k=>decide (k<y)) 0 c1 P1 qK lpK):=by
 refine FnAt.ofC d Zez (fun vs H Q E h=>?_) (fun f A outer s H vs Q E hr h=>?_)
 · obtain ⟨a,ks,y,rfl,_⟩:=h
   rfl
 obtain ⟨a,ks,y,rfl,ha,hl,hp,hT,q⟩:=h;refine ⟨_,(Zae (Zak (ZeS (k:=0) (caps:=["key","keys"]) (ixs:=[1,0]) (ZgF T_halved_keys (Zed rfl rfl rfl (by decide +kernel) rfl (by decide +kernel) (by decide +kernel) (by decide +kernel)) rfl ⟨rfl,⟨rfl,trivial⟩⟩ ⟨⟨rfl,rfl,_,rfl⟩,⟨⟨rfl,rfl,_,rfl⟩,trivial⟩⟩) rfl (fun _ _ _ _=>rfl) (fun _ _ _ _ _ _ _ _=>(Zei Zc6 (Za5 (Zar K) (pv 2) (pv 0)) (pv 1))) jZ (hr.mono (by decide)) rfl (Zaw (ZaF K) rfl B.len zar (Zaa (pv 0) Zac))))),?_⟩;walk_at "vc";refine ⟨_,.inl (SqL.of ha),fun j hj=>?_,hT,fun base' fl H2 sT hT2 R=>?_⟩
 · simp only [yaj,ybd,zaU] at hj
   rcases hj with rfl | rfl
   · exact ⟨_,rfl⟩
   · exact ⟨_,rfl⟩
 rw [yaa];have naP:a≠P1:=fun z=>by
   rcases hT with h | ⟨_,_,h,_⟩<;>(rw [← z,ha] at h;cases h)
 have ha2:=sT a _ naP ha;refine ⟨ks.length,cnt (fun k=>decide (k<y)) ks,fl,_,_,_,H,rfl,cnt_le _ _,hl,R,fun H' i R' s' hi hR=>?_,fun t l H' s' f1 f2 h1 h2=>?_⟩
 · walk_at "vc"
   refine ⟨a,rfl,_,SqL.of (s' _ _ ha2),.int (ks.getD i 0),ZiL hi,_,rfl,y,rfl,?_⟩;have e:decide (ks.getD i 0<y)=decide (i<cnt (fun k=>decide (k<y)) ks):=hp i _ (by rw [yaC,yae hi];rfl);rw [e];exact hR
 · refine q t l H' (fun b o n e=>s' _ _ (sT b o n e)) (hT2.same s') (freeT sT hT2 f1) (freeT sT hT2 f2) ?_ h2
   rw [Int.sub_zero];exact h1
theorem Zij (B:Blt mg)(T_halved_counts:TabIn base mg (c2,P2))(jZ:∀ base,FnAt P w K mg base "halved" ["many","goes_on"] 2 (spHalved P w K mg base))(d:DefAtC K mg "halved_counts" Za2 ["aheads","k"] c2):FnAt P w K mg base "halved_counts" ["aheads","k"] 3 (spHK (fun y k=>decide (k≤y)) 1 c2 P2 qC lpC):=by
 refine FnAt.ofC d jV (fun vs H Q E h=>?_) (fun f A outer s H vs Q E hr h=>?_)
 · obtain ⟨a,ks,y,rfl,_⟩:=h
   rfl
 obtain ⟨a,ks,y,rfl,ha,hl,hp,hT,q⟩:=h;have nd:=jV.nd;refine ⟨_,(Zaf (ZdQ (ZeS (k:=0) (caps:=["k","aheads"]) (ixs:=[1,0]) (ZgF T_halved_counts (Zed rfl rfl rfl (by decide +kernel) rfl (by decide +kernel) (by decide +kernel) (by decide +kernel)) rfl ⟨rfl,⟨rfl,trivial⟩⟩ ⟨⟨rfl,rfl,_,rfl⟩,⟨⟨rfl,rfl,_,rfl⟩,trivial⟩⟩) rfl (fun _ _ _ _=>rfl) (fun _ _ _ _ _ _ _ _=>(Zei ZcK (Za5 (Zar K) (pv 2) (pv 0)) (pv 1))) jZ (hr.mono (by decide)) rfl (Zaw (ZaF K) rfl B.len zar (Zaa (pv 0) Zac))) (ZbF K rfl (ZaA (Za4 (i:=2)) (ZaA (Za4 (i:=3)) Zbp))))
     (Zae (Zak (ZaR (Zaa (Zah ZaX (pv 2) Zad) (Zaa (pv 3) Zac)))))),?_⟩
 walk_at "vc";refine ⟨_,.inl (SqL.of ha),fun j hj=>?_,hT,fun base' fl H2 sT hT2 R=>?_⟩
 · simp only [yaj,ybd,zaU] at hj
   rcases hj with rfl | rfl
   · exact ⟨_,rfl⟩
   · exact ⟨_,rfl⟩
 rw [yaa];have naP:a≠P2:=fun z=>by
   rcases hT with h | ⟨_,_,h,_⟩<;>(rw [← z,ha] at h;cases h)
 have ha2:=sT a _ naP ha;refine ⟨ks.length,cnt (fun k=>decide (k≤y)) ks,fl,_,_,_,H,rfl,cnt_le _ _,hl,R,fun H' i R' s' hi hR=>?_,fun t l H' s' f1 f2 h1 h2=>?_⟩
 · walk_at "vc"
   refine ⟨a,rfl,_,SqL.of (s' _ _ ha2),.int (ks.getD i 0),ZiL hi,_,rfl,y,rfl,?_⟩;have e:decide (ks.getD i 0≤y)=decide (i<cnt (fun k=>decide (k≤y)) ks):=hp i _ (by rw [yaC,yae hi];rfl);rw [e];exact hR
 · refine ⟨t,rfl,_,SqT.of h1,rfl,_,_,rfl,_,_,rfl,rfl,_,rfl,by decide,fun p np=>?_⟩
   have sP:=Same.new (o:=.tup [V.int ((cnt (fun k=>decide (k≤y)) ks:Int)-1),V.ref l]) np;exact q p l _ (fun b o n e=>sP _ _ (s' _ _ (sT b o n e))) ((hT2.same s').same sP) (freeT sT hT2 (s'.free np)) (freeT sT hT2 f2) Zab (sP _ _ h2)
end
def Tups (H:Hp):List V→List (Nat × Nat)→Prop:=Paired fun v r=>∃ t,v=.ref t∧H t=some (.tup [.int (r.1:Nat),.int (r.2:Nat)])
def RunsL (H:Hp)(p:Addr)(rs:List (Nat × Nat)):Prop:=∃ vs,H p=some (.lst vs)∧Tups H vs rs
theorem Tups.same (h:Tups H vs rs)(s:Same H H'):Tups H' vs rs:=Paired.mapP h fun _ _ ⟨t,e,ht⟩=>⟨t,e,s _ _ ht⟩
theorem RunsL.same {p:Addr}(h:RunsL H p rs)(s:Same H H'):RunsL H' p rs:=let ⟨vs,e,t⟩:=h;⟨vs,s _ _ e,t.same s⟩
theorem Tups.length (h:Tups H vs rs):vs.length=rs.length:=Paired.length h
theorem Tups.snoc:∀ {vs:List V} {rs:List (Nat × Nat)} {t:Addr} {r:Nat × Nat},Tups H vs rs→H t=some (.tup [.int (r.1:Nat),.int (r.2:Nat)])→Tups H (vs++[.ref t]) (rs++[r])
 | _,_,_,_,.nil,h=>.cons ⟨_,rfl,h⟩ .nil
 | _,_,_,_,.cons r q,h=>.cons r (Tups.snoc q h)
theorem Tups.last:∀ {vs:List V} {rs:List (Nat × Nat)} {r:Nat × Nat},Tups H vs (rs++[r])→∃ vs0 t,vs=vs0++[.ref t]∧Tups H vs0 rs∧H t=some (.tup [.int (r.1:Nat),.int (r.2:Nat)])
 | _,[],_,.cons ⟨t,e,h⟩ .nil=>⟨[],t,by rw [e];rfl,.nil,h⟩
 | _,_::_,_,.cons q r=>by
   obtain ⟨vs0,t,e,h1,h2⟩:=Tups.last r;exact ⟨_::vs0,t,by rw [e];rfl,.cons q h1,h2⟩
def pairD (r:Nat × Nat):PyData:=.tuple [.int (r.1:Nat),.int (r.2:Nat)]
theorem Zce {K:ZFr}{H:Hp}:∀ {vs:List V} {rs:List (Nat × Nat)},Tups H vs rs→RdDs K H vs (rs.map pairD)
 | _,_,.nil=>.nil
 | _,_,.cons ⟨t,e,h⟩ r=>by
   subst e;exact .cons (.tup (SqT.of h) (.cons (.int _) (.cons (.int _) .nil))) (Zce r)
theorem Zcr:∀ rs:List (Nat × Nat),PyData.canLayAll0 (rs.map pairD)=true
 | []=>rfl
 | r::rs=>by
   rw [yaF];simp only [PyData.canLayAll0,pairD,PyData.canLay0,Zcr rs,Bool.and_self]
theorem ZcQ:∀ rs:List (Nat × Nat),PyData.depthAll (rs.map pairD)≤1
 | []=>by decide
 | r::rs=>by
   have:=ZcQ rs;rw [yaF];simp only [PyData.depthAll,pairD,PyData.depth];omega
theorem ZbH (rs:List (Nat × Nat)):SeqAt.shaped (.list (rs.map pairD))=true:=by
 have h1:=ZcQ rs;have h2:PyData.depth (.list (rs.map pairD))≤64:=by simp only [PyData.depth];omega
 show (PyData.canLay0 (.list (rs.map pairD))&&decide (PyData.depth (.list (rs.map pairD))≤64))=true;rw [ybl];exact ⟨by simp only [PyData.canLay0];exact Zcr rs,yap h2⟩
theorem Zeb (rs qs:List (Nat × Nat)):SeqAt.noMix (.list (rs.map pairD)) (.list (qs.map pairD))=true :=
 zaI (.list (.tuple [.int,.int])) rfl _ _ (zaX fun _=>rfl) (zaX fun _=>rfl)
theorem Zdg:∀ rs qs:List (Nat × Nat),PySem.Spec.sameAll (rs.map pairD) (qs.map pairD)=decide (rs=qs)
 | [],[]=>by simp [PySem.Spec.sameAll]
 | [],_::_=>by simp [PySem.Spec.sameAll]
 | _::_,[]=>by simp [PySem.Spec.sameAll]
 | (a,b)::r,(c,d)::q=>by
   simp only [yaF,PySem.Spec.sameAll,PySem.Spec.same,pairD,Zdg r q,Bool.and_true];rw [ybR];simp;omega
section
variable {Q:VK}{a b:Addr}
theorem Zh5 {qs:List (Nat × Nat)}(h1:RunsL H a rs)(h2:RunsL H b qs)(q:Q (.bl (!decide (rs=qs))) H):rNeD K (.ref a) (.ref b) H Q:=by obtain ⟨vs,e1,t1⟩:=h1;obtain ⟨us,e2,t2⟩:=h2;exact ⟨_,_,.lst (SqL.of e1) (Zce t1),.lst (SqL.of e2) (Zce t2),ZbH rs,ZbH qs,Zeb rs qs,by simp only [PySem.Spec.same];rw [Zdg];exact q⟩
theorem ZeG {qs:List (Nat × Nat)}(h1:RunsL H a rs)(h2:RunsL H b qs)(q:Q (.bl (decide (rs=qs))) H):rEqD K (.ref a) (.ref b) H Q:=by obtain ⟨vs,e1,t1⟩:=h1;obtain ⟨us,e2,t2⟩:=h2;exact ⟨_,_,.lst (SqL.of e1) (Zce t1),.lst (SqL.of e2) (Zce t2),ZbH rs,ZbH qs,Zeb rs qs,by simp only [PySem.Spec.same];rw [Zdg];exact q⟩
end
theorem Tups.upd {H:Hp}{r:Addr}{xs ys:List V}{vs:List V}{rs:List (Nat × Nat)}(h:Tups H vs rs)(e:H r=some (.lst xs)):Tups (upd H r (.lst ys)) vs rs :=
 Paired.mapP h fun _ _ ⟨t,z,ht⟩=>⟨t,z,by rw [Zai (ne_of ht e (by intro q;cases q))];exact ht⟩
theorem ixN_last {v:V}:ixN (vs++[v]).length (-1)=some vs.length:=by
 have hl:(vs++[v]).length=vs.length+1:=by simp
 unfold ixN;rw [hl,if_neg (by decide),if_pos (by omega)];congr 1
 omega
theorem set_last {v u:V}:(vs++[v]).set vs.length u=vs++[u]:=by rw [List.set_append_right _ _ (yad _),ybU];rfl
theorem Up.lt256 (h:Up 0 ps)(hk:∀ p∈ps,p<256):ps.length≤256:=by
 have:∀ (qs:List Nat) (a:Nat),Up a qs→(∀ p∈qs,p<256)→a≤256→qs.length+a≤256:=by
   intro qs;induction qs with
   | nil=>intro a _ _ h;show 0+a≤256;omega
   | cons p r ih =>
     intro a u w _;have h1:=w p yaJ;have h2:=u.1;have:=ih (p+1) u.2 (fun q hq=>w q (yaM _ hq)) h1;rw [yak];omega
 exact this ps 0 h hk (by omega)
def spBelow:Sp:=fun vs H Q _=>∃ p:Nat,vs=[.int p]∧p≤1000∧Q (.int ((2^p-1:Nat):Int)) H
theorem Zcs (d:DefAt K mg "all_below" ZcG ["place"]):FnAt P w K mg base "all_below" ["place"] 1 spBelow:=by
 refine FnAt.of d jat ?_ ?_;walk_at "F";have nd:=jat.nd;obtain ⟨p,rfl,hp,q⟩:=h;refine ⟨_,(Zae (Zak (Zah ZaX (Zah ZbD Zad (pv 0)) Zad))),?_⟩;walk_at "vc";refine ⟨⟨by omega,by omega,by decide⟩,?_⟩;have e:(1:Int)*2^(p:Int).toNat-1=((2^p-1:Nat):Int):=by have:0<2^p:=ybx (by decide);rw [yao,ycv,Int.ofNat_sub this];simp
 rw [e];exact q
def spSpan:Sp:=fun vs H Q _=>∃ a b:Nat,vs=[.int a,.int b]∧a≤b+1∧b<1000∧Q (.int (wd (List.range' a (b+1-a)):Nat)) H
theorem Zgm (jj:FnAt P w K mg base "all_below" ["place"] 1 spBelow)(d:DefAt K mg "span_word" ZcM ["first","last"]):FnAt P w K mg base "span_word" ["first","last"] 2 spSpan:=by
 refine FnAt.of d jav ?_ ?_;walk_at "F";have nd:=jav.nd;obtain ⟨x,y,rfl,h1,h2,q⟩:=h;refine ⟨_,(Zae (Zak (Zah ZaX (Zaj jj (Zaa (Zah Zay (pv 1) Zad) Zac)) (Zaj jj (Zaa (pv 0) Zac))))),?_⟩;walk_at "vc";refine ⟨y+1,by rw [Int.natCast_add];rfl,by omega,x,rfl,by omega,?_⟩;walk_at "vc";have e:=Zeq (y+1-x) x;rw [show x+(y+1-x)=y+1 by omega] at e;have p1:0<2^x:=ybx (by decide);have p2:0<2^(y+1):=ybx (by decide);have e2:((2^(y+1)-1:Nat):Int)-((2^x-1:Nat):Int)=((wd (List.range' x (y+1-x)):Nat):Int):=by omega
 rw [e2];exact q
def spDrop:Sp:=fun vs H Q _=>∃ w:Nat,vs=[.int w]∧Q (.int ((w &&& (w-1):Nat):Int)) H
theorem Zcl (d:DefAt K mg "without_first" Zby ["word"]):FnAt P w K mg base "without_first" ["word"] 1 spDrop:=by
 refine FnAt.of d jU ?_ ?_;walk_at "F";have nd:=jU.nd;obtain ⟨n,rfl,q⟩:=h;refine ⟨_,(Zae (Zak (Zah Zbc (pv 0) (Zah ZaX (pv 0) Zad)))),?_⟩;walk_at "vc";have e:Builtin.bitAnd (n:Int) ((n:Int)-1)=((n &&& (n-1):Nat):Int):=by
   cases n with
   | zero=>decide
   | succ m =>
     rw [bitAnd_pp (by omega) (by omega)];have e1:((m+1:Nat):Int).toNat=m+1:=yao _;have e2:(((m+1:Nat):Int)-1).toNat=m+1-1:=by omega
     rw [e1,e2]
 rw [e];exact q
def spCount:Sp:=fun vs H Q _=>∃ ps:List Nat,vs=[.int (wd ps:Nat)]∧Up 0 ps∧(∀ p∈ps,p<256)∧Q (.int ps.length) H
structure LowC (mg:Str→Option Value):Prop where
 a:∃ t,mg "LOWER_1"=some (.int 38597363079105398474523661669562635951089994888546854679819194669304376546645 t)
 b:∃ t,mg "LOWER_2"=some (.int 23158417847463239084714197001737581570653996933128112807891516801582625927987 t)
 c:∃ t,mg "LOWER_4"=some (.int 6811299366900952671974763824040465167839410862684739061144563765171360567055 t)
 d:∃ t,mg "LOWER_8"=some (.int 450552876409790643671482431940419874915447411150352389258589821042463539455 t)
theorem Zh9 (L:LowC mg)(d:DefAt K mg "counted" ZdW ["word"]):FnAt P w K mg base "counted" ["word"] 2 spCount:=by
 obtain ⟨⟨t1,jah⟩,⟨t2,jai⟩,⟨t4,jaj⟩,⟨t8,jak⟩⟩:=L;refine FnAt.of d jaP ?_ ?_;walk_at "F";have nd:=jaP.nd;obtain ⟨ps,rfl,up,h256,q⟩:=h;refine ⟨_,(Zaf (Zas (i:=1) (Zah Zay (Zah Zbc (pv 0) (ZaK jah)) (Zah Zbc (Zah ZdP (pv 0) Zad) (ZaK jah))))
     (Zaf (Zas (i:=2) (Zah Zay (Zah Zbc (pv 1) (ZaK jai)) (Zah Zbc (Zah ZdP (pv 1) Zad) (ZaK jai))))
     (Zaf (Zas (i:=3) (Zah Zay (Zah Zbc (pv 2) (ZaK jaj)) (Zah Zbc (Zah ZdP (pv 2) Zad) (ZaK jaj))))
     (Zaf (Zas (i:=4) (Zah Zay (Zah Zbc (pv 3) (ZaK jak)) (Zah Zbc (Zah ZdP (pv 3) Zad) (ZaK jak))))
     (Zae (Zak (Zah Zau (pv 4) Zad))))))),?_⟩
 walk_at "vc";rw [swarI (k:=1) (n:=128) (d:=2) (w:=wd ps) (by rw [msk1];rfl) rfl];rw [swarI (k:=2) (n:=64) (d:=4) (by rw [msk2];rfl) rfl];rw [swarI (k:=4) (n:=32) (d:=16) (by rw [msk4];rfl) rfl];rw [swarI (k:=8) (n:=16) (d:=256) (by rw [msk8];rfl) rfl];rw [countI up h256];exact q
def spOnes:Sp:=fun vs H Q _=>∃ (ps:List Nat) (k:Nat),vs=[.int (wd ps:Nat),.int k]∧Up 0 ps∧(∀ p∈ps,p<256)∧k≤1000∧Q (.int (ps.filter fun p=>decide (p<k)).length) H
theorem Zfg (jj:FnAt P w K mg base "all_below" ["place"] 1 spBelow)(jf:FnAt P w K mg base "counted" ["word"] 2 spCount)(d:DefAt K mg "ones_below" Zcp ["word","place"]):FnAt P w K mg base "ones_below" ["word","place"] 3 spOnes:=by refine FnAt.of d jam ?_ ?_;walk_at "F";have nd:=jam.nd;obtain ⟨ps,k,rfl,up,h256,hk,q⟩:=h;refine ⟨_,(Zae (Zak (Zaj jf (Zaa (Zah Zbc (pv 0) (Zaj jj (Zaa (pv 1) Zac))) Zac)))),?_⟩;walk_at "vc";refine ⟨k,rfl,hk,?_⟩;walk_at "vc";refine ⟨ps.filter fun p=>decide (p<k),?_,up.filter,fun p hp=>h256 p (yas.mp hp).1,q⟩;rw [bitAnd_pp (yaV _) (yaV _),yao,yao,wd_mask k up]
def spLast:Sp:=fun vs H Q _=>∃ ps:List Nat,vs=[.int (wd ps:Nat)]∧Up 0 ps∧Q (match ps.getLast? with | none=>.non | some p=>.int (p:Nat)) H
def spFirst:Sp:=fun vs H Q _=>∃ ps:List Nat,vs=[.int (wd ps:Nat)]∧Up 0 ps∧Q (match ps with | []=>.non | p::_=>.int (p:Nat)) H
theorem Zgr (d:DefAt K mg "last_one" Zda ["word"]):FnAt P w K mg base "last_one" ["word"] 1 spLast:=by
 refine FnAt.of d jaJ ?_ ?_;walk_at "F";have nd:=jaJ.nd;obtain ⟨ps,rfl,up,q⟩:=h;refine ⟨_,(Zaf (ZaC (ZaH Zbd (pv 0) Zad) (Zae (Zak Zbv)) Zao)
     (Zae (Zak (Zah ZaX (pe_bm0K K PySem.F.plainAttrs_int PySem.F.slot_int_bit_length PySem.F.type_int_bit_length ZjC (pv 0)) Zad)))),?_⟩
 walk_at "vc";rcases ybf ps with rfl | ⟨qs,p,rfl⟩
 · rw [if_pos (show ((wd []:Nat):Int)=0 from rfl)]
   exact q
 · rw [ybg] at up q ⊢
   have h0:0<wd (qs++[p]):=by
     rw [Za8];have:0<2^p:=ybx (by decide);show 0<wd qs+(2^p+0)
     omega
   rw [if_neg (by omega),ZfS up];have e:((p+1:Nat):Int)-1=(p:Nat):=by omega
   rw [e];rw [ybI] at q;exact q
theorem Zf2 (jbM:FnAt P w K mg base "last_one" ["word"] 1 spLast)(d:DefAt K mg "first_one" Zcx ["word"]):FnAt P w K mg base "first_one" ["word"] 2 spFirst:=by
 refine FnAt.of d jau ?_ ?_;walk_at "F";have nd:=jau.nd;obtain ⟨ps,rfl,up,q⟩:=h;refine ⟨_,(Zae (Zak (Zaj jbM (Zaa (Zah Zbc (pv 0) (Zfu ZeJ (pv 0))) Zac)))),?_⟩;walk_at "vc";cases ps with
 | nil=>exact ⟨[],rfl,trivial,q⟩
 | cons p r =>
   refine ⟨[p],?_,⟨yau _,trivial⟩,q⟩;rw [ZhP up.2];rfl
def fstN:L2.St→Nat
 | some (.int w)::_=>w.toNat
 | _=>0
def spBit:Sp:=fun vs H Q _=>∃ (w k:Nat),vs=[.int w,.int k]∧Q (.int ((w.testBit k).toNat:Nat)) H
theorem Zjz (d:DefAt K mg "bit_at" ZeU ["word","place"]):FnAt P w K mg base "bit_at" ["word","place"] 1 spBit:=by
 refine FnAt.of d jbh ?_ ?_;walk_at "F";have nd:=jbh.nd;obtain ⟨v,k,rfl,q⟩:=h;refine ⟨_,(Zae (Zak (Zah Zbc (Zah ZdP (pv 0) (pv 1)) Zad))),?_⟩;walk_at "vc";refine ⟨by omega,?_⟩;have e:Builtin.bitAnd ((v:Int)/2^((k:Nat):Int).toNat) 1=((v.testBit k).toNat:Nat):=by
   rw [bitAnd_m1,yao];have e1:(v:Int)/2^k%2=((v/2^k%2:Nat):Int):=by rw [Int.natCast_emod,Int.natCast_ediv,Int.natCast_pow];rfl
   rw [e1,Nat.testBit_eq_decide_div_mod_eq];by_cases h1:v/2^k%2=1
   · rw [yap h1,h1]
     rfl
   · rw [yaI h1]
     have:v/2^k%2=0:=by omega
     rw [this];rfl
 rw [e];exact q
def spOneAt:Sp:=fun vs H Q _=>∃ (ps:List Nat) (k:Nat),vs=[.int (wd ps:Nat),.int k]∧Up 0 ps∧k<ps.length∧k≤1000∧Q (.int (ps.getD k 0:Nat)) H
structure OneI (ps:List Nat)(k:Nat)(H:Hp)(i:Nat)(σ:L2.St)(H':Hp):Prop where
 ex:∃ v,σ=[some (.int (wd (ps.drop i):Nat)),some (.int k),v]
 hp:H'=H
theorem ZjA (B:Blt mg)(jy:FnAt P w K mg base "without_first" ["word"] 1 spDrop)(jc:FnAt P w K mg base "first_one" ["word"] 2 spFirst)(d:DefAt K mg "one_at" ZeQ ["word","k"]):FnAt P w K mg base "one_at" ["word","k"] 3 spOneAt:=by
 refine FnAt.of d jbi ?_ ?_;walk_at "F";have nd:=jbi.nd;obtain ⟨ps,k,rfl,up,hk,h1000,q⟩:=h;refine ⟨_,(Zaf (Za0 zak rfl (ZbK rfl B.range (Zaa (pv 1) Zac)) (Za4 (i:=2)) (Zae (Zas (i:=0) (Zaj jy (Zaa (pv 0) Zac)))))
     (Zae (Zak (Zaj jc (Zaa (pv 0) Zac))))),?_⟩
 walk_at "vc";refine ⟨by omega,by omega,loopR (OneI ps k H) ⟨⟨none,rfl⟩,rfl⟩ ?_ ?_⟩
 · rintro i σ H' hi ⟨⟨v,rfl⟩,rfl⟩
   have hi2:i<ps.length:=by omega
   have ud:Up 0 (ps.drop i):=up.drop i;have e:ps.drop i=ps[i]::ps.drop (i+1):=ybi hi2;walk_at "vc";refine ⟨_,rfl,⟨some (.int (i:Int)),?_⟩,rfl⟩;rw [e] at ud ⊢;rw [Zen ud.2]
 · rintro σ H' ⟨⟨v,rfl⟩,rfl⟩
   rw [yao];walk_at "vc";refine ⟨ps.drop k,rfl,up.drop k,?_⟩;rw [ybi hk];rw [yaC,yae hk] at q;exact q
def spPushed:Sp:=fun vs H Q _=>∃ (w k:Nat),vs=[.int w,.int k]∧w<2^256∧k≤255∧∀ p,H p=none→Q (.ref p) (upd H p (.tup [.int ((w*2^k%2^256:Nat):Int),.int ((w*2^k/2^256:Nat):Int)]))
theorem Zjl (cP:∃ t,mg "PLACES"=some (.int 256 t))(jj:FnAt P w K mg base "all_below" ["place"] 1 spBelow)(d:DefAt K mg "pushed" ZeO ["word","by"]):FnAt P w K mg base "pushed" ["word","by"] 2 spPushed:=by
 obtain ⟨tP,ja⟩:=cP;refine FnAt.of d jbj ?_ ?_;walk_at "F";have nd:=jbj.nd;obtain ⟨v,k,rfl,hv,hk,q⟩:=h;refine ⟨_,(Zaf (Zas (i:=2) (Zah ZbD (pv 0) (pv 1)))
     (Zae (Zak (ZaR (Zaa (Zah Zbc (pv 2) (Zaj jj (Zaa (ZaK ja) Zac))) (Zaa (Zah ZdP (pv 2) (ZaK ja)) Zac)))))),?_⟩
 walk_at "vc";have big:(2:Nat)^256≤2^1000:=ybH (by decide) (by decide);refine ⟨⟨by omega,by omega,by rw [Int.natAbs_natCast];exact yax hv big⟩,256,rfl,by decide,?_⟩;walk_at "vc";refine ⟨by decide,fun p hp=>?_⟩;have e1:((v:Int)*2^((k:Nat):Int).toNat)=((v*2^k:Nat):Int):=by rw [yao,Int.natCast_mul,Int.natCast_pow];rfl
 have e2:Builtin.bitAnd ((v:Int)*2^((k:Nat):Int).toNat) ((2^256-1:Nat):Int)=((v*2^k%2^256:Nat):Int):=by rw [e1,bitAnd_pp (yaV _) (yaV _),yao,yao,Nat.and_two_pow_sub_one_eq_mod]
 have e3:((v:Int)*2^((k:Nat):Int).toNat)/115792089237316195423570985008687907853269984665640564039457584007913129639936=((v*2^k/2^256:Nat):Int):=by rw [e1,Int.natCast_ediv];rfl
 rw [e2,e3];exact q p hp
def spRunsOf:Sp:=fun vs H Q _=>∃ ps:List Nat,vs=[.int (wd ps:Nat)]∧Up 0 ps∧(∀ p∈ps,p<256)∧∀ (r:Addr) (H':Hp),Same H H'→H r=none→RunsL H' r (runsOf ps)→Q (.ref r) H'
structure RoI (ps:List Nat)(r:Addr)(H:Hp)(σ:L2.St)(H':Hp):Prop where
 ex:∃ (qs:List Nat) (rs:List (Nat × Nat)) (v2 v3:Option V),σ=[some (.int (wd qs:Nat)),some (.ref r),v2,v3]∧Up 0 qs∧(∀ p∈qs,p<256)∧runsOf ps=rs++runsOf qs∧RunsL H' r rs∧rs.length+qs.length≤ps.length
 same:Same H H'
theorem Zh8 (jc:FnAt P w K mg base "first_one" ["word"] 2 spFirst)(jk:FnAt P w K mg base "span_word" ["first","last"] 2 spSpan)(d:DefAt K mg "runs_of" Zd0 ["word"]):FnAt P w K mg base "runs_of" ["word"] 3 spRunsOf:=by
 refine FnAt.of d jaR ?_ ?_;walk_at "F";have nd:=jaR.nd;obtain ⟨ps,rfl,up,h256,q⟩:=h;have hlen:=Up.lt256 up h256;refine ⟨_,(Zaf (Zas (i:=1) (ZaJ Zac))
     (Zaf (ZeY zak (ZaH op_gt (pv 0) Zad) (Zaf (Zas (i:=2) (Zaj jc (Zaa (pv 0) Zac)))
     (Zaf (Zas (i:=3) (Zaj jc (Zaa (Zah Zay (pv 0) (Zah ZbD Zad (pv 2))) Zac)))
     (Zaf (ZaM (ZcP K zaq zau zav Za6 (pv 1) (Zaa (ZaR (Zaa (pv 2) (Zaa (Zah ZaX (pv 3) Zad) Zac))) Zac)))
     (Zae (Zas (i:=0) (Zah ZaX (pv 0) (Zaj jk (Zaa (pv 2) (Zaa (Zah ZaX (pv 3) Zad) Zac))))))))))
     (Zae (Zak (pv 1))))),?_⟩
 walk_at "vc";refine ⟨yau _,fun r nr=>?_⟩;refine ZeB (RoI ps r H) (fun σ _=>fstN σ) ⟨⟨ps,[],none,none,rfl,up,h256,rfl,⟨[],Zab,.nil⟩,by simp⟩,Same.new nr⟩ ?_ (fun σ H R R' h ⟨v,e,i,j,e1,e2,k,e3,q⟩=>⟨v,e,i,j,e1,e2,k,e3,h _ _ q⟩);rintro σ H1 ⟨⟨qs,rs,v2,v3,rfl,upq,q256,er,⟨vs,hv,ht⟩,hl⟩,sm⟩;walk_at "vc";cases qs with
 | nil =>
   rw [if_neg (by show ¬ (0:Int)<((0:Nat):Int);decide)];walk_at "vc";refine q r H1 sm nr ⟨vs,hv,?_⟩;rw [er];simpa [runsOf] using ht
 | cons p rr =>
   have hw:0<wd (p::rr):=Zf3;rw [if_pos (by omega)];obtain ⟨n,rest,e1,u1,l1⟩:=ZdU rr p upq.2;obtain ⟨f1,f2⟩:=Zjr u1;have p256:p<256:=q256 p yaJ;have pn:p+n<256:=q256 (p+n) (by rw [e1];exact yai.mpr (.inl (List.mem_range'_1.mpr (by omega))));have rest256:∀ z∈rest,z<256:=fun z hz=>q256 z (by rw [e1];exact yai.mpr (.inr hz))
   have upr:Up 0 rest:=u1.mono (yau _);refine ⟨p::rr,rfl,upq,?_⟩;walk_at "vc";refine ⟨⟨by omega,by omega,by decide⟩,(p+n+1)::rest,?_,⟨yau _,by rw [show p+n+1+1=p+n+2 by omega];exact u1⟩,?_⟩
   · rw [ycv,yao,e1,← f1,Int.natCast_add,Int.natCast_pow]
     rfl
   walk_at "vc";refine ⟨⟨_,SqL.of hv⟩,by decide,fun t nt=>?_⟩;have eb:(((p+n+1:Nat):Int)-1)=((p+n:Nat):Int):=by omega
   rw [eb];have smT:Same H1 (upd H1 t (.tup [.int (p:Nat),.int ((p+n:Nat):Int)])):=Same.new nt;have hv2:=smT _ _ hv;have lv:=ht.length;rw [yak] at hl;refine ⟨vs,hv2,small1000 (by omega),p,p+n,rfl,by omega,by omega,?_⟩;walk_at "vc";have e2:((wd (p::rr):Nat):Int)-((wd (List.range' p (p+n+1-p)):Nat):Int)=((wd rest:Nat):Int):=by rw [show p+n+1-p=n+1 by omega,e1];have:=Za8 (List.range' p (n+1)) rest;omega
   rw [e2];refine ⟨⟨⟨rest,rs++[(p,p+n)],_,_,rfl,upr,rest256,?_,⟨_,Zab,((ht.same smT).snoc (r:=(p,p+n)) Zab).upd hv2⟩,?_⟩,fun b o z=>?_⟩,?_⟩
   · rw [er,e1,ZhQ u1,yaf]
     rfl
   · rw [yac]
     show rs.length+1+_≤_;omega
   · rw [Zai (Zam z nr)]
     exact smT _ _ (sm b o z)
   · show (((wd rest:Nat):Int)).toNat<(((wd (p::rr):Nat):Int)).toNat
     rw [e1,Za8];have:=Zeq (n+1) p;have k1:2^p<2^(p+(n+1)):=Nat.pow_lt_pow_right (by decide) (by omega);omega
def spPlacesOf:Sp:=fun vs H Q _=>∃ ps:List Nat,vs=[.int (wd ps:Nat)]∧Up 0 ps∧(∀ p∈ps,p<256)∧∀ (r:Addr) (H':Hp),Same H H'→H r=none→H' r=some (.lst (pint ps))→Q (.ref r) H'
structure PoI (ps:List Nat)(r:Addr)(H:Hp)(σ:L2.St)(H':Hp):Prop where
 ex:∃ qs rs:List Nat,σ=[some (.int (wd qs:Nat)),some (.ref r)]∧Up 0 qs∧ps=rs++qs∧H' r=some (.lst (pint rs))
 same:Same H H'
theorem Zf8 (jc:FnAt P w K mg base "first_one" ["word"] 2 spFirst)(jy:FnAt P w K mg base "without_first" ["word"] 1 spDrop)(d:DefAt K mg "places_of" ZcX ["word"]):FnAt P w K mg base "places_of" ["word"] 3 spPlacesOf:=by
 refine FnAt.of d jaw ?_ ?_;walk_at "F";have nd:=jaw.nd;obtain ⟨ps,rfl,up,h256,q⟩:=h;have hlen:=Up.lt256 up h256;refine ⟨_,(Zaf (Zas (i:=1) (ZaJ Zac))
     (Zaf (ZeY zak (ZaH op_gt (pv 0) Zad) (Zaf (ZaM (ZcP K zaq zau zav Za6 (pv 1) (Zaa (Zaj jc (Zaa (pv 0) Zac)) Zac)))
     (Zae (Zas (i:=0) (Zaj jy (Zaa (pv 0) Zac))))))
     (Zae (Zak (pv 1))))),?_⟩
 walk_at "vc";refine ⟨yau _,fun r nr=>?_⟩;refine ZeB (PoI ps r H) (fun σ _=>fstN σ) ⟨⟨ps,[],rfl,up,rfl,Zab⟩,Same.new nr⟩ ?_ (fun σ H R R' h ⟨v,e,i,j,e1,e2,k,e3,q⟩=>⟨v,e,i,j,e1,e2,k,e3,h _ _ q⟩);rintro σ H1 ⟨⟨qs,rs,rfl,upq,er,hv⟩,sm⟩;walk_at "vc";cases qs with
 | nil =>
   rw [if_neg (by show ¬ (0:Int)<((0:Nat):Int);decide)];walk_at "vc";refine q r H1 sm nr ?_;rw [er,yaH];exact hv
 | cons p rr =>
   have hw:0<wd (p::rr):=Zf3;rw [if_pos (by omega)];have hl:rs.length<ps.length:=by rw [er,yac,yak];omega
   refine ⟨⟨_,SqL.of hv⟩,p::rr,rfl,upq,?_⟩;walk_at "vc";refine ⟨_,hv,small1000 (by rw [Zal];omega),_,rfl,?_⟩;walk_at "vc";refine ⟨⟨⟨rr,rs++[p],?_,upq.2.mono (yau _),?_,?_⟩,fun b o z=>?_⟩,?_⟩
   · rw [Zen upq.2]
   · rw [er,yaf]
     rfl
   · rw [Zab]
     unfold pint;rw [yaQ];rfl
   · rw [Zai (Zam z nr)]
     exact sm b o z
   · show ((((wd (p::rr) &&& (wd (p::rr)-1):Nat):Int)).toNat)<((wd (p::rr):Nat):Int).toNat
     rw [Zen upq.2,yao,yao];have:0<2^p:=ybx (by decide);show wd rr<2^p+wd rr;omega
def spWordOf (K:ZFr):Sp:=fun vs H Q _=>∃ (a:Addr) (ps:List Nat),vs=[.ref a]∧SqL K H a (pint ps)∧(∀ p∈ps,p<1000)∧Q (.int (orW ps:Nat)) H
structure WordOfI (a:Addr)(ps:List Nat)(H:Hp)(i:Nat)(σ:L2.St)(H':Hp):Prop where
 ex:∃ v,σ=[some (.ref a),some (.int (orW (ps.take i):Nat)),v]
 hp:H'=H
theorem Zh2 (d:DefAt K mg "word_of" ZdS ["places"]):FnAt P w K mg base "word_of" ["places"] 1 (spWordOf K):=by
 refine FnAt.of d jaQ ?_ ?_;walk_at "F";have nd:=jaQ.nd;obtain ⟨a,ps,rfl,hS,h1000,q⟩:=h;refine ⟨_,(Zaf (Zas (i:=1) Zad)
     (Zaf (Za0 zak rfl (ZaD K (pv 0)) (Za4 (i:=2)) (Zae (Zas (i:=1) (Zah ZeX (pv 1) (Zah ZbD Zad (pv 2))))))
     (Zae (Zak (pv 1))))),?_⟩
 walk_at "vc";refine ⟨⟨_,hS⟩,loopL (xs:=pint ps) (WordOfI a ps H) ⟨⟨_,rfl⟩,rfl⟩ ?_ ?_ ?_⟩
 · rintro i σ H' hi ⟨_,rfl⟩
   exact hS
 · rintro i x σ H' hi ⟨⟨v,rfl⟩,rfl⟩
   obtain ⟨p,hp,rfl⟩:=ZaT hi;have hmem:p<1000:=h1000 p (yaq hp);have tk:ps.take (i+1)=ps.take i++[p]:=by rw [ybo,hp];rfl
   walk_at "vc";refine ⟨⟨by omega,by omega,by decide⟩,⟨some (.int p),?_⟩,rfl⟩;rw [tk,orW_snoc,Zdn (yaV _) (by rw [ycv];exact Zdj _)];rw [yao,yao,ycv];congr
 · rintro σ H' ⟨⟨v,rfl⟩,rfl⟩
   walk_at "vc";rw [yam (by rw [Zal];exact yad _)];exact q
def spWordOfRuns:Sp:=fun vs H Q _=>∃ (a:Addr) (rs:List (Nat × Nat)),vs=[.ref a]∧RunsL H a rs∧(∀ r∈rs,r.1≤r.2∧r.2<999)∧Q (.int (orR rs:Nat)) H
structure WordRI (a:Addr)(rs:List (Nat × Nat))(H:Hp)(i:Nat)(σ:L2.St)(H':Hp):Prop where
 ex:∃ v v',σ=[some (.ref a),some (.int (orR (rs.take i):Nat)),v,v']
 hp:H'=H
theorem Tups.get:∀ {vs:List V} {rs:List (Nat × Nat)} {i:Nat} {x:V},Tups H vs rs→vs[i]?=some x→∃ t r,x=.ref t∧rs[i]?=some r∧H t=some (.tup [.int (r.1:Nat),.int (r.2:Nat)])
 | _,_,_,_,.nil,e=>by simp at e
 | _,_,0,_,.cons ⟨t,z,h⟩ _,e=>by
   simp at e;subst e;exact ⟨t,_,z,rfl,h⟩
 | _,_,i+1,x,.cons _ q,e=>by
   obtain ⟨t,r,h1,h2,h3⟩:=Tups.get (i:=i) (x:=x) q (by simpa using e);exact ⟨t,r,h1,by simpa using h2,h3⟩
theorem Zeh (jk:FnAt P w K mg base "span_word" ["first","last"] 2 spSpan)(d:DefAt K mg "word_of_runs" ZbZ ["runs"]):FnAt P w K mg base "word_of_runs" ["runs"] 3 spWordOfRuns:=by
 refine FnAt.of d j5 ?_ ?_;walk_at "F";have nd:=j5.nd;obtain ⟨a,rs,rfl,⟨vs,hv,ht⟩,hb,q⟩:=h;refine ⟨_,(Zaf (Zas (i:=1) Zad)
     (Zaf (Za0 zak rfl (ZaD K (pv 0)) (ZbF K rfl (ZaA (Za4 (i:=2)) (ZaA (Za4 (i:=3)) Zbp))) (Zae (Zas (i:=1) (Zah ZeX (pv 1) (Zaj jk (Zaa (pv 2) (Zaa (pv 3) Zac)))))))
     (Zae (Zak (pv 1))))),?_⟩
 walk_at "vc";refine ⟨⟨_,SqL.of hv⟩,loopL (xs:=vs) (WordRI a rs H) ⟨⟨_,_,rfl⟩,rfl⟩ ?_ ?_ ?_⟩
 · rintro i σ H' hi ⟨_,rfl⟩
   exact SqL.of hv
 · rintro i x σ H' hi ⟨⟨v,v',rfl⟩,rfl⟩
   obtain ⟨t,r,rfl,hr1,htt⟩:=ht.get hi;obtain ⟨b1,b2⟩:=hb r (yaq hr1);have tk:rs.take (i+1)=rs.take i++[r]:=by rw [ybo,hr1];rfl
   walk_at "vc";refine ⟨_,SqT.of htt,rfl,?_⟩;walk_at "vc";refine ⟨_,_,⟨rfl,rfl⟩,?_⟩;walk_at "vc";refine ⟨_,_,⟨rfl,rfl⟩,?_⟩;walk_at "vc";refine ⟨r.1,r.2,rfl,by omega,by omega,?_⟩;walk_at "vc";refine ⟨⟨some (.int (r.1:Nat)),some (.int (r.2:Nat)),?_⟩,rfl⟩;rw [tk,orR_snoc,Zdn (yaV _) (yaV _),yao,yao]
 · rintro σ H' ⟨⟨v,v',rfl⟩,rfl⟩
   walk_at "vc";rw [yam (by rw [ht.length];exact yad _)];exact q
inductive Kd where
 | l | b | r
def kS:Kd→Str
 | .l=>"list"
 | .b=>"bits"
 | .r=>"runs"
def BodyIs (H:Hp):Kd→List Nat→V→Prop
 | .l,ps,v=>∃ l,v=.ref l∧H l=some (.lst (pint ps))
 | .b,ps,v=>v=.int (wd ps:Nat)
 | .r,ps,v=>∃ l,v=.ref l∧RunsL H l (runsOf ps)
theorem BodyIs.same {k:Kd}{v:V}(h:BodyIs H k ps v)(s:Same H H'):BodyIs H' k ps v:=by
 cases k with
 | l=>obtain ⟨l,e,h⟩:=h;exact ⟨l,e,s _ _ h⟩
 | b=>exact h
 | r=>obtain ⟨l,e,h⟩:=h;exact ⟨l,e,h.same s⟩
def StAt (c:Kd→Addr)(k:Kd)(H:Hp)(a:Addr)(ps:List Nat):Prop:=match k with
 | .l=>∃ dx l,H a=some (.ins (c .l) dx [("places",.ref l)])∧H l=some (.lst (pint ps))
 | .b=>∃ dx,H a=some (.ins (c .b) dx [("ones",.int (wd ps:Nat))])
 | .r=>∃ dx l,H a=some (.ins (c .r) dx [("runs",.ref l)])∧RunsL H l (runsOf ps)
theorem StAt.same {c:Kd→Addr}{k:Kd}{a:Addr}(h:StAt c k H a ps)(s:Same H H'):StAt c k H' a ps:=by
 cases k with
 | l=>obtain ⟨dx,l,e,h⟩:=h;exact ⟨dx,l,s _ _ e,s _ _ h⟩
 | b=>obtain ⟨dx,e⟩:=h;exact ⟨dx,s _ _ e⟩
 | r=>obtain ⟨dx,l,e,h⟩:=h;exact ⟨dx,l,s _ _ e,h.same s⟩
def noF (fs:List (Str × V)):Prop:=fs.lookup (Str.ofString "kind")=none∧fs.lookup (Str.ofString "body")=none∧fs.lookup (Str.ofString "word")=none∧fs.lookup (Str.ofString "size")=none∧fs.lookup (Str.ofString "told")=none∧fs.lookup (Str.ofString "many")=none∧fs.lookup (Str.ofString "has")=none∧fs.lookup (Str.ofString "below")=none∧fs.lookup (Str.ofString "chosen")=none∧fs.lookup (Str.ofString "onward")=none∧fs.lookup (Str.ofString "backward")=none
theorem ZhX (v:V):noF [("places",v)]:=⟨rfl,rfl,rfl,rfl,rfl,rfl,rfl,rfl,rfl,rfl,rfl⟩
theorem noF_ones (v:V):noF [("ones",v)]:=⟨rfl,rfl,rfl,rfl,rfl,rfl,rfl,rfl,rfl,rfl,rfl⟩
theorem noF_runs (v:V):noF [("runs",v)]:=⟨rfl,rfl,rfl,rfl,rfl,rfl,rfl,rfl,rfl,rfl,rfl⟩
theorem StAt.obj {c:Kd→Addr}{k:Kd}{a:Addr}(h:StAt c k H a ps):∃ dx fs,H a=some (.ins (c k) dx fs)∧noF fs:=by
 cases k with
 | l=>obtain ⟨dx,l,e,_⟩:=h;exact ⟨dx,_,e,ZhX _⟩
 | b=>obtain ⟨dx,e⟩:=h;exact ⟨dx,_,e,noF_ones _⟩
 | r=>obtain ⟨dx,l,e,_⟩:=h;exact ⟨dx,_,e,noF_runs _⟩
def spKindS (k:Kd):Sp:=fun vs H Q _=>∃ a:Addr,vs=[.ref a]∧Q (.str (kS k)) H
def spWordM (c:Kd→Addr)(k:Kd):Sp:=fun vs H Q _=>∃ (a:Addr) (ps:List Nat),vs=[.ref a]∧StAt c k H a ps∧Up 0 ps∧(∀ p∈ps,p<256)∧Q (.int (wd ps:Nat)) H
def spManyM (c:Kd→Addr)(k:Kd):Sp:=fun vs H Q _=>∃ (a:Addr) (ps:List Nat),vs=[.ref a]∧StAt c k H a ps∧Up 0 ps∧(∀ p∈ps,p<256)∧Q (.int ps.length) H
def spInitS (K:ZFr)(c:Kd→Addr):Kd→Sp
 | .l=>fun vs H Q _=>∃ (x dx p:Addr) (ps:List Nat),vs=[.ref x,.ref p]∧H x=some (.ins (c .l) dx [])∧SqL K H p (pint ps)∧∀ l,H l=none→Q .non (upd (upd H l (.lst (pint ps))) x (.ins (c .l) dx [("places",.ref l)]))
 | .b=>fun vs H Q _=>∃ (x dx:Addr) (v:V),vs=[.ref x,v]∧H x=some (.ins (c .b) dx [])∧Q .non (upd H x (.ins (c .b) dx [("ones",v)]))
 | .r=>fun vs H Q _=>∃ (x dx p:Addr) (us:List V),vs=[.ref x,.ref p]∧H x=some (.ins (c .r) dx [])∧H p=some (.lst us)∧∀ l,H l=none→Q .non (upd (upd H l (.lst us)) x (.ins (c .r) dx [("runs",.ref l)]))
section
variable {c:Kd→Addr}
theorem Zi3 (B:Blt mg)(cd:CD_ListStretch K mg (c .l)):MakeAt P w K mg base "ListStretch" (c .l) ["self","places"] 1 (spInitS K c .l):=by
 refine MakeAt.of cd.at_ cd.init ji ?_ ?_;walk_at "F";have nd:=ji.nd;obtain ⟨x,dx,p,ps,rfl,hx,hp,q⟩:=h;refine ⟨_,(Zae (Zbb K (pv 0) (Za7 (ZaW K) rfl B.lst boot_list (Zaa (pv 1) Zac)))),?_⟩;walk_at "vc";refine ⟨_,.inl hp,fun l hl=>?_⟩;have hx2:upd H l (.lst (pint ps)) x=some (.ins (c .l) dx []):=by rw [Zai (Zam hx hl)];exact hx
 exact ⟨_,_,_,hx2,cd.c,cd.n_places,by decide,q l hl⟩
theorem ZiV (cd:CD_BitStretch K mg (c .b)):MakeAt P w K mg base "BitStretch" (c .b) ["self","word"] 1 (spInitS K c .b):=by refine MakeAt.of cd.at_ cd.init jm ?_ ?_;walk_at "F";have nd:=jm.nd;obtain ⟨x,dx,v,rfl,hx,q⟩:=h;refine ⟨_,(Zae (Zbb K (pv 0) (pv 1))),?_⟩;walk_at "vc";exact ⟨_,_,_,hx,cd.c,cd.n_ones,by decide,q⟩
theorem Zjy (B:Blt mg)(cd:CD_RunStretch K mg (c .r)):MakeAt P w K mg base "RunStretch" (c .r) ["self","runs"] 1 (spInitS K c .r):=by
 refine MakeAt.of cd.at_ cd.init jn ?_ ?_;walk_at "F";have nd:=jn.nd;obtain ⟨x,dx,p,us,rfl,hx,hp,q⟩:=h;refine ⟨_,(Zae (Zbb K (pv 0) (Za7 (ZaW K) rfl B.lst boot_list (Zaa (pv 1) Zac)))),?_⟩;walk_at "vc";refine ⟨_,.inl (SqL.of hp),fun l hl=>?_⟩;have hx2:upd H l (.lst us) x=some (.ins (c .r) dx []):=by rw [Zai (Zam hx hl)];exact hx
 exact ⟨_,_,_,hx2,cd.c,cd.n_runs,by decide,q l hl⟩
end
section
variable {c:Kd→Addr}
theorem Zjc (jaC:FnAt P w K mg base "word_of" ["places"] 1 (spWordOf K))(cd:CD_ListStretch K mg (c .l)):MethAt P w K mg base (c .l) "word" ["self"] 4 (spWordM c .l):=by refine MethAt.of cd.c cd.m_word jC ?_ ?_;walk_at "F";have nd:=jC.nd;obtain ⟨a,ps,rfl,⟨dx,l,ha,hl⟩,up,h256,q⟩:=h;refine ⟨_,(Zae (Zak (Zaj jaC (Zaa (Zap K (pv 0)) Zac)))),?_⟩;walk_at "vc";refine ⟨_,_,_,ha,cd.c,cd.n_places,.ref l,rfl,l,ps,rfl,SqL.of hl,fun p hp=>Nat.lt_trans (h256 p hp) (by decide),?_⟩;rw [orW_up up];exact q
theorem ZiY (cd:CD_BitStretch K mg (c .b)):MethAt P w K mg base (c .b) "word" ["self"] 4 (spWordM c .b):=by refine MethAt.of cd.c cd.m_word jJ ?_ ?_;walk_at "F";have nd:=jJ.nd;obtain ⟨a,ps,rfl,⟨dx,ha⟩,up,h256,q⟩:=h;refine ⟨_,(Zae (Zak (Zap K (pv 0)))),?_⟩;walk_at "vc";exact ⟨_,_,_,ha,cd.c,cd.n_ones,_,rfl,q⟩
theorem ZiW (jN:FnAt P w K mg base "word_of_runs" ["runs"] 3 spWordOfRuns)(cd:CD_RunStretch K mg (c .r)):MethAt P w K mg base (c .r) "word" ["self"] 4 (spWordM c .r):=by refine MethAt.of cd.c cd.m_word jM ?_ ?_;walk_at "F";have nd:=jM.nd;obtain ⟨a,ps,rfl,⟨dx,l,ha,hl⟩,up,h256,q⟩:=h;refine ⟨_,(Zae (Zak (Zaj jN (Zaa (Zap K (pv 0)) Zac)))),?_⟩;walk_at "vc";refine ⟨_,_,_,ha,cd.c,cd.n_runs,.ref l,rfl,l,_,rfl,hl,fun r hr=>⟨ZdN ps r hr,Nat.lt_trans (Zji h256 r hr) (by decide)⟩,?_⟩;rw [ZhD up];exact q
end
section
variable {c:Kd→Addr}
theorem ok_many (hw:∀ k,MethAt P w K mg base (c k) "word" ["self"] 4 (spWordM c k))(jf:FnAt P w K mg base "counted" ["word"] 2 spCount)(k:Kd)(cc:Cls K (c k))(d:MDefAt K (c k) "many" "Stretch.many" ZaY ["self"]):MethAt P w K mg base (c k) "many" ["self"] 5 (spManyM c k):=by refine MethAt.of cc d j8 ?_ ?_;walk_at "F";have nd:=j8.nd;obtain ⟨a,ps,rfl,hst,up,h256,q⟩:=h;obtain ⟨dx,fs,ha,nf⟩:=hst.obj;refine ⟨_,(Zae (Zak (Zaj jf (Zaa (ZaE P w K mg base 4 (pv 0)) Zac)))),?_⟩;walk_at "vc";exact ⟨_,_,_,ha,nf.2.2.1,_,_,hw k,a,ps,rfl,hst,up,h256,ps,rfl,up,h256,q⟩
end
def spHasM (c:Kd→Addr)(k:Kd):Sp:=fun vs H Q _=>∃ (a:Addr) (ps:List Nat) (p:Nat),vs=[.ref a,.int p]∧StAt c k H a ps∧Up 0 ps∧(∀ p∈ps,p<256)∧Q (.bl (decide (p∈ps))) H
def spBelowM (c:Kd→Addr)(k:Kd):Sp:=fun vs H Q _=>∃ (a:Addr) (ps:List Nat) (p:Nat),vs=[.ref a,.int p]∧StAt c k H a ps∧Up 0 ps∧(∀ p∈ps,p<256)∧p≤256∧Q (.int (ps.filter fun q=>decide (q<p)).length) H
section
variable {c:Kd→Addr}
theorem ok_has (hw:∀ k,MethAt P w K mg base (c k) "word" ["self"] 4 (spWordM c k))(jaV:FnAt P w K mg base "bit_at" ["word","place"] 1 spBit)(k:Kd)(cc:Cls K (c k))(d:MDefAt K (c k) "has" "Stretch.has" Za1 ["self","place"]):MethAt P w K mg base (c k) "has" ["self","place"] 5 (spHasM c k):=by
 refine MethAt.of cc d jad ?_ ?_;walk_at "F";have nd:=jad.nd;obtain ⟨a,ps,p,rfl,hst,up,h256,q⟩:=h;obtain ⟨dx,fs,ha,nf⟩:=hst.obj;refine ⟨_,(Zae (Zak (Zei Zbd (Zaj jaV (Zaa (ZaE P w K mg base 4 (pv 0)) (Zaa (pv 1) Zac))) Zad))),?_⟩;walk_at "vc";refine ⟨_,_,_,ha,nf.2.2.1,_,_,hw k,a,ps,rfl,hst,up,h256,?_⟩;walk_at "vc";refine ⟨wd ps,p,rfl,?_⟩;rw [ZaI up];walk_at "vc";have e:decide ((((decide (p∈ps)).toNat:Nat):Int)=1)=decide (p∈ps):=by by_cases h:p∈ps<;>simp [h]
 rw [e];exact q
theorem ok_below (hw:∀ k,MethAt P w K mg base (c k) "word" ["self"] 4 (spWordM c k))(j3:FnAt P w K mg base "ones_below" ["word","place"] 3 spOnes)(k:Kd)(cc:Cls K (c k))(d:MDefAt K (c k) "below" "Stretch.below" ZaO ["self","place"]):MethAt P w K mg base (c k) "below" ["self","place"] 5 (spBelowM c k):=by refine MethAt.of cc d jW ?_ ?_;walk_at "F";have nd:=jW.nd;obtain ⟨a,ps,p,rfl,hst,up,h256,hp,q⟩:=h;obtain ⟨dx,fs,ha,nf⟩:=hst.obj;refine ⟨_,(Zae (Zak (Zaj j3 (Zaa (ZaE P w K mg base 4 (pv 0)) (Zaa (pv 1) Zac))))),?_⟩;walk_at "vc";exact ⟨_,_,_,ha,nf.2.2.1,_,_,hw k,a,ps,rfl,hst,up,h256,ps,p,rfl,up,h256,by omega,q⟩
end
def spChosenM (c:Kd→Addr)(k:Kd):Sp:=fun vs H Q _=>∃ (a:Addr) (ps:List Nat) (i:Nat),vs=[.ref a,.int i]∧StAt c k H a ps∧Up 0 ps∧(∀ p∈ps,p<256)∧i<ps.length∧Q (.int (ps.getD i 0:Nat)) H
section
variable {c:Kd→Addr}
theorem ZjO (hw:∀ k,MethAt P w K mg base (c k) "word" ["self"] 4 (spWordM c k))(jaW:FnAt P w K mg base "one_at" ["word","k"] 3 spOneAt)(k:Kd)(cc:Cls K (c k))(d:MDefAt K (c k) "chosen" "Stretch.chosen" ZaL ["self","k"]):MethAt P w K mg base (c k) "chosen" ["self","k"] 5 (spChosenM c k):=by refine MethAt.of cc d jO ?_ ?_;walk_at "F";have nd:=jO.nd;obtain ⟨a,ps,p,rfl,hst,up,h256,hp,q⟩:=h;obtain ⟨dx,fs,ha,nf⟩:=hst.obj;have hl:=Up.lt256 up h256;refine ⟨_,(Zae (Zak (Zaj jaW (Zaa (ZaE P w K mg base 4 (pv 0)) (Zaa (pv 1) Zac))))),?_⟩;walk_at "vc";exact ⟨_,_,_,ha,nf.2.2.1,_,_,hw k,a,ps,rfl,hst,up,h256,ps,p,rfl,up,hp,by omega,q⟩
end
section
variable {c:Kd→Addr}
theorem Zjk (cd:CD_ListStretch K mg (c .l)):MethAt P w K mg base (c .l) "kind" ["self"] 1 (spKindS .l):=by refine MethAt.of cd.c cd.m_kind jA ?_ ?_;walk_at "F";have nd:=jA.nd;obtain ⟨a,rfl,q⟩:=h;refine ⟨_,(Zae (Zak ZdX)),?_⟩;walk_at "vc";exact q
theorem Zjd (cd:CD_BitStretch K mg (c .b)):MethAt P w K mg base (c .b) "kind" ["self"] 1 (spKindS .b):=by refine MethAt.of cd.c cd.m_kind jH ?_ ?_;walk_at "F";have nd:=jH.nd;obtain ⟨a,rfl,q⟩:=h;refine ⟨_,(Zae (Zak ZdX)),?_⟩;walk_at "vc";exact q
theorem Zi1 (cd:CD_RunStretch K mg (c .r)):MethAt P w K mg base (c .r) "kind" ["self"] 1 (spKindS .r):=by refine MethAt.of cd.c cd.m_kind jK ?_ ?_;walk_at "F";have nd:=jK.nd;obtain ⟨a,rfl,q⟩:=h;refine ⟨_,(Zae (Zak ZdX)),?_⟩;walk_at "vc";exact q
end
def spBodyN (c:Kd→Addr)(k:Kd):Sp:=fun vs H Q _=>∃ (a:Addr) (ps:List Nat),vs=[.ref a]∧StAt c k H a ps∧∀ v H',Same H H'→BodyIs H' k ps v→(∀ l,v=.ref l→H l=none)→Q v H'
section
variable {c:Kd→Addr}
theorem ZhU (B:Blt mg)(cd:CD_ListStretch K mg (c .l)):MethAt P w K mg base (c .l) "body" ["self"] 1 (spBodyN c .l):=by refine MethAt.of cd.c cd.m_body jB ?_ ?_;walk_at "F";have nd:=jB.nd;obtain ⟨a,ps,rfl,⟨dx,l,ha,hl⟩,q⟩:=h;refine ⟨_,(Zae (Zak (Za7 (ZaW K) rfl B.lst boot_list (Zaa (Zap K (pv 0)) Zac)))),?_⟩;walk_at "vc";refine ⟨_,_,_,ha,cd.c,cd.n_places,.ref l,rfl,l,rfl,_,.inl (SqL.of hl),fun p hp=>?_⟩;exact q _ _ (Same.new hp) ⟨p,rfl,Zab⟩ fun l' e=>by cases e;exact hp
theorem ZhF (cd:CD_BitStretch K mg (c .b)):MethAt P w K mg base (c .b) "body" ["self"] 1 (spBodyN c .b):=by refine MethAt.of cd.c cd.m_body jI ?_ ?_;walk_at "F";have nd:=jI.nd;obtain ⟨a,ps,rfl,⟨dx,ha⟩,q⟩:=h;refine ⟨_,(Zae (Zak (Zap K (pv 0)))),?_⟩;walk_at "vc";exact ⟨_,_,_,ha,cd.c,cd.n_ones,_,rfl,q _ _ (Same.refl _) rfl (fun l e=>by cases e)⟩
theorem ZhH (B:Blt mg)(cd:CD_RunStretch K mg (c .r)):MethAt P w K mg base (c .r) "body" ["self"] 1 (spBodyN c .r):=by refine MethAt.of cd.c cd.m_body jL ?_ ?_;walk_at "F";have nd:=jL.nd;obtain ⟨a,ps,rfl,⟨dx,l,ha,us,hl,ht⟩,q⟩:=h;refine ⟨_,(Zae (Zak (Za7 (ZaW K) rfl B.lst boot_list (Zaa (Zap K (pv 0)) Zac)))),?_⟩;walk_at "vc";refine ⟨_,_,_,ha,cd.c,cd.n_runs,.ref l,rfl,l,rfl,_,.inl (SqL.of hl),fun p hp=>?_⟩;have sm:Same H (upd H p (.lst us)):=Same.new hp;exact q _ _ sm ⟨p,rfl,us,Zab,ht.same sm⟩ fun l' e=>by cases e;exact hp
end
def kdOf (ps:List Nat):Kd:=if ps.length≤32∧ps.length≤2*(runsOf ps).length then .l else if 32≤2*(runsOf ps).length then .b else .r
def spSizes:Sp:=fun vs H Q _=>∃ ps:List Nat,vs=[.int (wd ps:Nat)]∧Up 0 ps∧(∀ p∈ps,p<256)∧∀ t,H t=none→Q (.ref t) (upd H t (.tup [.int ps.length,.int 32,.int ((2*(runsOf ps).length:Nat):Int)]))
def KeptIs (c:Kd→Addr)(H:Hp)(ps:List Nat)(v:V):Prop:=(ps=[]→v=.non)∧(ps≠[]→∃ x,v=.ref x∧StAt c (kdOf ps) H x ps)
theorem KeptIs.same {c:Kd→Addr}{v:V}(h:KeptIs c H ps v)(s:Same H H'):KeptIs c H' ps v:=⟨h.1,fun e=>let ⟨x,a,b⟩:=h.2 e;⟨x,a,b.same s⟩⟩
def spKept (c:Kd→Addr):Sp:=fun vs H Q _=>∃ ps:List Nat,vs=[.int (wd ps:Nat)]∧Up 0 ps∧(∀ p∈ps,p<256)∧∀ v H',Same H H'→KeptIs c H' ps v→Q v H'
theorem wd_eq0:((wd ps:Nat):Int)=0↔ps=[]:=by
 cases ps with
 | nil=>exact ⟨fun _=>rfl,fun _=>rfl⟩
 | cons p r =>
   have:0<wd (p::r):=Zf3;exact ⟨fun h=>by omega,fun h=>by cases h⟩
section
variable {c:Kd→Addr}{Q:VK}{E:XK}
theorem mkS_l {l1:Addr}(hl:SqL K H l1 (pint ps))(q:∀ a H',Same H H'→H a=none→StAt c .l H' a ps→Q (.ref a) H') :
   ∀ x dx,H x=none→H dx=none→dx≠x→spInitS K c .l [.ref x,.ref l1] (upd (upd H dx (.own x)) x (.ins (c .l) dx [])) (fun v H'=>v=.non∧Q (.ref x) H') E:=by
 intro x dx nx ndx dne;have m2:Same H (upd (upd H dx (.own x)) x (.ins (c .l) dx [])):=(Same.new ndx).put nx;refine ⟨x,dx,l1,ps,rfl,Zab,m2.seq hl,fun l nl=>⟨rfl,?_⟩⟩;have m4:=(m2.put (o:=.lst (pint ps)) (m2.free nl)).put (o:=.ins (c .l) dx [("places",.ref l)]) nx;refine q x _ m4 nx ⟨dx,l,Zab,?_⟩;have:l≠x:=fun z=>by rw [z,Zab] at nl;cases nl
 rw [Zai this,Zab]
theorem mkS_b (q:∀ a H',Same H H'→H a=none→StAt c .b H' a ps→Q (.ref a) H') :
   ∀ x dx,H x=none→H dx=none→dx≠x→spInitS K c .b [.ref x,.int (wd ps:Nat)] (upd (upd H dx (.own x)) x (.ins (c .b) dx [])) (fun v H'=>v=.non∧Q (.ref x) H') E:=by
 intro x dx nx ndx dne;have m2:Same H (upd (upd H dx (.own x)) x (.ins (c .b) dx [])):=(Same.new ndx).put nx;exact ⟨x,dx,_,rfl,Zab,rfl,q x _ (m2.put nx) nx ⟨dx,Zab⟩⟩
theorem mkS_r {l1:Addr}(hl:RunsL H l1 (runsOf ps))(q:∀ a H',Same H H'→H a=none→StAt c .r H' a ps→Q (.ref a) H') :
   ∀ x dx,H x=none→H dx=none→dx≠x→spInitS K c .r [.ref x,.ref l1] (upd (upd H dx (.own x)) x (.ins (c .r) dx [])) (fun v H'=>v=.non∧Q (.ref x) H') E:=by
 intro x dx nx ndx dne;obtain ⟨us,hu,ht⟩:=hl;have m2:Same H (upd (upd H dx (.own x)) x (.ins (c .r) dx [])):=(Same.new ndx).put nx;refine ⟨x,dx,l1,us,rfl,Zab,m2 _ _ hu,fun l nl=>⟨rfl,?_⟩⟩;have m4:=(m2.put (o:=.lst us) (m2.free nl)).put (o:=.ins (c .r) dx [("runs",.ref l)]) nx;refine q x _ m4 nx ⟨dx,l,Zab,us,?_,ht.same m4⟩;have:l≠x:=fun z=>by rw [z,Zab] at nl;cases nl
 rw [Zai this,Zab]
end
section
variable {c:Kd→Addr}
theorem ok_sizes (cP:∃ t,mg "PLACES"=some (.int 256 t))(jf:FnAt P w K mg base "counted" ["word"] 2 spCount)(d:DefAt K mg "sizes" Zgh ["word"]):FnAt P w K mg base "sizes" ["word"] 3 spSizes:=by
 obtain ⟨tP,ja⟩:=cP;refine FnAt.of d jbE ?_ ?_;walk_at "F";have nd:=jbE.nd;obtain ⟨ps,rfl,up,h256,q⟩:=h;refine ⟨_,(Zaf (Zas (i:=1) (Zah Zbc (pv 0) (Zfu un_inv (Zah ZbD (pv 0) Zad))))
     (Zae (Zak (ZaR (Zaa (Zaj jf (Zaa (pv 0) Zac)) (Zaa (Zah Zaq (ZaK ja) Zad) (Zaa (Zah ZaZ Zad (Zaj jf (Zaa (pv 1) Zac))) Zac))))))),?_⟩
 walk_at "vc";refine ⟨wd_abs up h256,ps,rfl,up,h256,bgs ps,by rw [bgs_wdI2 up],up.filter,bgs_lt h256,_,rfl,by decide,fun t nt=>?_⟩;have e:=q t nt;rw [runs_bgs up,Int.natCast_mul] at e;exact e
theorem ok_kept (jbs:FnAt P w K mg base "sizes" ["word"] 3 spSizes)(jl:FnAt P w K mg base "places_of" ["word"] 3 spPlacesOf)(jaD:FnAt P w K mg base "runs_of" ["word"] 3 spRunsOf)
   (jba:MakeAt P w K mg base "ListStretch" (c .l) ["self","places"] 1 (spInitS K c .l)) (jbt:MakeAt P w K mg base "BitStretch" (c .b) ["self","word"] 1 (spInitS K c .b)) (jbu:MakeAt P w K mg base "RunStretch" (c .r) ["self","runs"] 1 (spInitS K c .r))
   (d:DefAt K mg "kept" Zik ["word"]):FnAt P w K mg base "kept" ["word"] 4 (spKept c):=by
 refine FnAt.of d jbY ?_ ?_;walk_at "F";have nd:=jbY.nd;obtain ⟨ps,rfl,up,h256,q⟩:=h;refine ⟨_,(Zaf (ZaC (ZaH Zbd (pv 0) Zad) (Zae (Zak Zbv)) Zao)
     (Zaf (ZdQ (Zaj jbs (Zaa (pv 0) Zac)) (ZbF K rfl (ZaA (Za4 (i:=1)) (ZaA (Za4 (i:=2)) (ZaA (Za4 (i:=3)) Zbp)))))
     (Zaf (ZaC (PW.pt (Zig (ZaH ZcK (pv 1) (pv 2)) (Zf6 (ZaH ZcK (pv 1) (pv 3))))) (Zae (Zak (Ze4 jba (hr.mono (by decide)) rfl (Zaa (Zaj jl (Zaa (pv 0) Zac)) Zac)))) Zao)
     (Zaf (ZaC (ZaH ZcK (pv 2) (pv 3)) (Zae (Zak (Ze4 jbt (hr.mono (by decide)) rfl (Zaa (pv 0) Zac)))) Zao)
     (Zae (Zak (Ze4 jbu (hr.mono (by decide)) rfl (Zaa (Zaj jaD (Zaa (pv 0) Zac)) Zac)))))))),?_⟩
 walk_at "vc";by_cases e0:ps=[]
 · rw [if_pos (wd_eq0.mpr e0)]
   exact q _ _ (Same.refl _) ⟨fun _=>rfl,fun z=>absurd e0 z⟩
 rw [if_neg (fun z=>e0 (wd_eq0.mp z))];have q:∀ x H',Same H H'→StAt c (kdOf ps) H' x ps→Q (.ref x) H':=fun x H' s st=>q _ _ s ⟨fun z=>absurd z e0,fun _=>⟨x,rfl,st⟩⟩
 refine ⟨ps,rfl,up,h256,fun t nt=>?_⟩;have smT:Same H (upd H t (.tup [.int ps.length,.int 32,.int ((2*(runsOf ps).length:Nat):Int)])):=Same.new nt;refine ⟨t,rfl,_,SqT.of Zab,rfl,_,_,rfl,_,_,rfl,_,_,rfl,rfl,_,rfl,_,rfl,?_⟩;generalize upd H t (.tup [.int ps.length,.int 32,.int ((2*(runsOf ps).length:Nat):Int)])=H1 at smT ⊢;have rest:¬ (ps.length≤32∧ps.length≤2*(runsOf ps).length)→∃ i,V.int 32=V.int i∧∃ x,V.int ((2*(runsOf ps).length:Nat):Int)=V.int x ∧
     if i≤x then ∀ (x dx:Addr),H1 x=none→H1 dx=none→dx≠x→spInitS K c Kd.b [V.ref x,V.int ((wd ps:Nat):Int)] (upd (upd H1 dx (HO.own x)) x (HO.ins (c Kd.b) dx [])) (fun v H2=>v=V.non∧Q (V.ref x) H2) E0
     else spRunsOf [V.int ((wd ps:Nat):Int)] H1 (fun x H1=>∀ (x_1 dx:Addr),H1 x_1=none→H1 dx=none→dx≠x_1→spInitS K c Kd.r [V.ref x_1,x] (upd (upd H1 dx (HO.own x_1)) x_1 (HO.ins (c Kd.r) dx [])) (fun v H2=>v=V.non∧Q (V.ref x_1) H2) E0) E0:=fun n1=>by
   refine ⟨_,rfl,_,rfl,?_⟩;by_cases c3:32≤2*(runsOf ps).length
   · rw [if_pos (by omega)]
     have e:kdOf ps=.b:=by unfold kdOf;rw [if_neg n1,if_pos c3]
     rw [e] at q;exact mkS_b fun x H' sm nx st=>q x H' (smT.trans sm) st
   · rw [if_neg (by omega)]
     have e:kdOf ps=.r:=by unfold kdOf;rw [if_neg n1,if_neg c3]
     rw [e] at q;refine ⟨ps,rfl,up,h256,fun r H2 s2 nr hr2=>?_⟩;exact mkS_r hr2 fun x H' sm nx st=>q x H' (smT.trans (s2.trans sm)) st
 by_cases c1:ps.length≤32
 · rw [if_pos (by omega)]
   refine ⟨_,rfl,_,rfl,?_⟩;by_cases c2:ps.length≤2*(runsOf ps).length
   · rw [if_pos (by omega)]
     have e:kdOf ps=.l:=by unfold kdOf;rw [if_pos ⟨c1,c2⟩]
     rw [e] at q;refine ⟨ps,rfl,up,h256,fun r H2 s2 nr hr2=>?_⟩;exact mkS_l (SqL.of hr2) fun x H' sm nx st=>q x H' (smT.trans (s2.trans sm)) st
   · rw [if_neg (by omega)]
     exact rest fun z=>c2 z.2
 · rw [if_neg (by omega)]
   exact rest fun z=>c1 z.1
end
def gJoin (ps qs:List Nat):List Nat:=(List.range 256).filter fun p=>decide (p∈ps)||decide (p∈qs)
theorem Zeu {f:Nat→Bool}:∀ p∈(List.range 256).filter f,p<256:=fun p hp=>ybW.mp (yas.mp hp).1
def gAdd (ps:List Nat)(p:Nat):List Nat:=gJoin ps [p]
def spPut (c:Kd→Addr)(g:List Nat→Nat→List Nat):Sp:=fun vs H Q _=>∃ (a:Addr) (k:Kd) (ps:List Nat) (p:Nat),vs=[.ref a,.int p]∧StAt c k H a ps∧Up 0 ps∧(∀ p∈ps,p<256)∧p<256∧∀ v H',Same H H'→KeptIs c H' (g ps p) v→Q v H'
theorem Zgk (p:Nat):Up 0 [p]:=⟨yau _,trivial⟩
theorem ZfX {p:Nat}(h:p<256):∀ q∈[p],q<256:=fun q hq=>by
 have:q=p:=by simpa using hq
 omega
theorem ZfQ (p:Nat):(1:Int)*2^((p:Nat):Int).toNat=((wd [p]:Nat):Int):=by
 rw [yao,ycv];show (2:Int)^p=((2^p+0:Nat):Int)
 rw [ybL,Int.natCast_pow];rfl
section
variable {c:Kd→Addr}
theorem ok_added (hw:∀ k,MethAt P w K mg base (c k) "word" ["self"] 4 (spWordM c k))(jz:FnAt P w K mg base "kept" ["word"] 4 (spKept c))(d:DefAt K mg "added" Zgf ["stretch","place"]):FnAt P w K mg base "added" ["stretch","place"] 5 (spPut c gAdd):=by refine FnAt.of d jbF ?_ ?_;walk_at "F";have nd:=jbF.nd;obtain ⟨a,k,ps,p,rfl,st,up,l,hp,q⟩:=h;obtain ⟨dx,fs,hx,nf⟩:=st.obj;refine ⟨_,(Zae (Zak (Zaj jz (Zaa (Zah ZeX (ZaE P w K mg base 4 (pv 0)) (Zah ZbD Zad (pv 1))) Zac)))),?_⟩;walk_at "vc";refine ⟨_,_,_,hx,nf.2.2.1,_,_,hw k,a,ps,rfl,st,up,l,?_⟩;walk_at "vc";refine ⟨⟨by omega,by omega,by decide⟩,gAdd ps p,?_,ZbT _ _,Zeu (f:=fun x=>decide (x∈ps)||decide (x∈[p])),q⟩;rw [ZfQ,ZfW up (Zgk p) l (ZfX hp)];rfl
end
def spIsWhole:Sp:=fun vs H Q _=>∃ i:Int,vs=[.int i]∧Q (.bl true) H
def spChk:Sp:=fun vs H Q _=>∃ n:Nat,vs=[.int n]∧n≤65535∧Q .non H
theorem Zhj (B:Blt mg)(d:DefAt K mg "is_whole" Zdd ["thing"]):FnAt P w K mg base "is_whole" ["thing"] 1 spIsWhole:=by refine FnAt.of d jaI ?_ ?_;walk_at "F";have nd:=jaI.nd;obtain ⟨k,rfl,q⟩:=h;refine ⟨_,(Zae (Zak (ZcR (Zaw (Zcm K) rfl B.isi ZcE (Zaa (pv 0) (Zaa (Zel (v:=.ty "int") rfl B.int boot_int rfl) Zac))) (ZcO (pe_not (Zaw (Zcm K) rfl B.isi ZcE (Zaa (pv 0) (Zaa (Zel (v:=.ty "bool") rfl B.bool boot_bool rfl) Zac)))))))),?_⟩;walk_at "vc";exact q
theorem ok_check (cG:∃ t,mg "GREATEST"=some (.int 65535 t))(jr:FnAt P w K mg base "is_whole" ["thing"] 1 spIsWhole)(d:DefAt K mg "check_number" ZbP ["thing"]):FnAt P w K mg base "check_number" ["thing"] 2 spChk:=by obtain ⟨tG,jar⟩:=cG;refine FnAt.of d j6 ?_ ?_;walk_at "F";have nd:=j6.nd;obtain ⟨n,rfl,hn,q⟩:=h;refine ⟨_,(Zae (ZaC (PW.pt (Zew (ZcS (Zbx (Zaj jr (Zaa (pv 0) Zac)))) (ZdY (ZcS (ZdF ZcK ZcK Zad (pv 0) (ZaK jar)))))) (Zae (Zhk)) Zao)),?_⟩;walk_at "vc";refine ⟨_,rfl,_,rfl,?_⟩;rw [if_neg (by decide),if_pos (by omega),if_pos (by omega)];exact q
theorem Zgp (xs:List V)(k:Nat):cutV xs none (some (k:Int))=xs.take k:=by
 unfold cutV;rw [HT.sIx_none,HT.sIx_nat,ybX,Nat.sub_zero];rcases Nat.le_total k xs.length with h | h
 · rw [Nat.min_eq_left h]
 · rw [Nat.min_eq_right h,List.take_length,yam h]
theorem Zg0 (xs:List V)(k:Nat):cutV xs (some (k:Int)) none=xs.drop k:=by
 unfold cutV;rw [HT.sIx_none,HT.sIx_nat];rcases Nat.le_total k xs.length with h | h
 · rw [Nat.min_eq_left h,yam (by rw [yaX];omega)]
 · rw [Nat.min_eq_right h,ybn h,List.drop_length,List.take_nil]
def spHKt (ts:Tabs)(pr:Int→Int→Bool)(df:Int):Sp:=fun vs H Q _=>∃ (a:Addr) (ks:List Int) (y:Int),vs=[.ref a,.int y]∧noT H a=some (.lst (ks.map V.int))∧ks.length≤1000∧Pre (pr y) ks∧Tbs ts H ∧
 ∀ t l H',Nx ts H H'→noT H t=none→noT H l=none→noT H' t=some (.tup [.int ((cnt (pr y) ks:Int)-df),.ref l])→noT H' l=some (.lst (pint (halv 0 ks.length (cnt (pr y) ks))))→Q (.ref t) H'
theorem hkT {ts:Tabs}{pr:Int→Int→Bool}{df:Int}{c P1:Addr}{lp:Pos}(u:TabsUq ts)(hm:(P1,qual,lp)∈ts):∀ vs H Q E,spHKt ts pr df vs H Q E→spHK pr df c P1 qual lp vs H Q E:=by rintro vs H Q E ⟨a,ks,y,rfl,ha,hl,hp,hT,q⟩;exact ⟨a,ks,y,rfl,(oT ha),hl,hp,hT _ hm,fun t l H' s t' f1 f2 h1 h2=>q t l H' (Tbs.grow u hT hm s t') (Zcf f1) (Zcf f2) (Zan h1 (nt _)) (Zan h2 (nl _))⟩
theorem ZhV {p:Int→Bool} (hd:∀ a b:Int,a<b→p b=true→p a=true):∀ {ks:List Int},ks.Pairwise (·<·)→Pre p ks
 | [],_=>fun i k h=>by cases h
 | x :: r,h=>by
   obtain ⟨h1,h2⟩:=ycc.mp h;cases hp:p x with
   | false =>
     have no:∀ k∈x::r,p k=false:=fun k hk=>by
       rcases yaj.mp hk with rfl | hk
       · exact hp
       · cases q:p k with
         | false=>rfl
         | true=>rw [hd x k (h1 k hk) q] at hp;cases hp
     have c0:cnt p (x::r)=0:=by unfold cnt;rw [ybA,ybc];intro k hk;rw [no k hk];decide
     intro i k hk;rw [c0,no k (yaq hk)];simp
   | true =>
     have c1:cnt p (x::r)=cnt p r+1:=by unfold cnt;rw [yba,if_pos hp];rfl
     intro i k hk;rw [c1];cases i with
     | zero=>cases (show x=k from Option.some.inj hk);rw [hp];simp
     | succ i =>
       rw [ZhV hd h2 i k hk];simp
theorem Zbu (ps:List Nat):pint ps=(ps.map fun (p:Nat)=>(p:Int)).map V.int:=by unfold pint;rw [ybh];rfl
theorem Zds:∀ {a:Nat} {ps:List Nat},Up a ps→(ps.map fun (p:Nat)=>(p:Int)).Pairwise (·<·)
 | _,[],_=>.nil
 | a,p::r,h=>by
   refine ycc.mpr ⟨fun y hy=>?_,Zds h.2⟩;obtain ⟨x,hx,rfl⟩:=yaD.mp hy;have:=Up.of_lt h.2 x hx;show (p:Int)<(x:Int);omega
theorem cnt_lo (k:Nat)(es:List Ent):cnt (fun x=>decide (x<(k:Int))) ((kys es).map fun (p:Nat)=>(p:Int))=(loE k es).length:=by unfold cnt kys loE;rw [ybh,ybY,yaa];refine congrArg List.length (ybO fun e _=>?_);show decide ((e.key:Int)<(k:Int))=decide (e.key<k);rw [ybF];omega
theorem ZbY {es:List Ent}(h:EsOk es):es.length≤256:=by
 have:=Up.lt256 h.up fun p hp=>by obtain ⟨e,he,rfl⟩:=yaD.mp hp;exact h.klt e he
 unfold kys at this;rw [yaa] at this;exact this
theorem Zie {es:List Ent}(k:Nat)(h:EsOk es):es[(loE k es).length]?=(miE k es++hiE k es).head?:=by
 have hs:es=loE k es++(miE k es++hiE k es):=by rw [← yaf];exact split k h.up
 have:(loE k es++(miE k es++hiE k es))[(loE k es).length]?=(miE k es++hiE k es).head?:=by rw [yah (yad _),ybU,List.head?_eq_getElem?]
 rw [← hs] at this;exact this
theorem Zer {es:List Ent}(k:Nat)(h:EsOk es):es.take (loE k es).length=loE k es:=by
 have hs:es=loE k es++(miE k es++hiE k es):=by rw [← yaf];exact split k h.up
 have:(loE k es++(miE k es++hiE k es)).take (loE k es).length=loE k es:=List.take_left;rw [← hs] at this;exact this
theorem drop_lo {es:List Ent}(k:Nat)(h:EsOk es):es.drop (loE k es).length=miE k es++hiE k es:=by
 have hs:es=loE k es++(miE k es++hiE k es):=by rw [← yaf];exact split k h.up
 have:(loE k es++(miE k es++hiE k es)).drop (loE k es).length=miE k es++hiE k es:=List.drop_left;rw [← hs] at this;exact this
theorem len_lo {es:List Ent}(k:Nat):(loE k es).length≤es.length:=ybp _ _
theorem Zbj {i x:Nat}(h:ks[i]?=some x):atI (pint ks) (i:Int)=some (.int (x:Nat)):=Zc0 (by unfold pint;rw [yay,h];rfl)
theorem Zeo {es:List Ent}{i:Nat}{e:Ent}(h:es[i]?=some e):(kys es)[i]?=some e.key:=by unfold kys;rw [yay,h];rfl
structure MkAt (c:Kd→Addr)(CM:Addr)(H:Hp)(m:Addr)(es:List Ent):Prop where
 ex:∃ dx kd ah sr:Addr,H m=some (.ins CM dx [("keyed",.ref kd),("aheads",.ref ah),("stretches",.ref sr),("held",.int (tot es:Nat))])∧H kd=some (.lst (pint (kys es)))∧H ah=some (.lst (pint (ahs 0 es)))∧H sr=some (.lst (es.map fun e=>V.ref e.loc))
 st:∀ e∈es,StAt c (kdOf e.ps) H e.loc e.ps
theorem MkAt.same {c:Kd→Addr}{m:Addr}{es:List Ent}(h:MkAt c CM H m es)(s:Same H H'):MkAt c CM H' m es:=by obtain ⟨⟨dx,kd,ah,sr,h1,h2,h3,h4⟩,st⟩:=h;exact ⟨⟨dx,kd,ah,sr,s _ _ h1,s _ _ h2,s _ _ h3,s _ _ h4⟩,fun e he=>(st e he).same s⟩
def noM (fs:List (Str × V)):Prop:=fs.lookup (Str.ofString "found")=none∧fs.lookup (Str.ofString "stands")=none∧fs.lookup (Str.ofString "ahead_of")=none∧fs.lookup (Str.ofString "stretch_at")=none∧fs.lookup (Str.ofString "keep")=none∧fs.lookup (Str.ofString "has")=none∧fs.lookup (Str.ofString "put")=none∧fs.lookup (Str.ofString "take")=none∧fs.lookup (Str.ofString "below")=none∧fs.lookup (Str.ofString "below_looks")=none∧fs.lookup (Str.ofString "numbers")=none∧fs.lookup (Str.ofString "many")=none∧fs.lookup (Str.ofString "chosen")=none∧fs.lookup (Str.ofString "onward")=none∧fs.lookup (Str.ofString "backward")=none∧fs.lookup (Str.ofString "word_at")=none
theorem noM_of (a b d e:V):noM [("keyed",a),("aheads",b),("stretches",d),("held",e)]:=⟨rfl,rfl,rfl,rfl,rfl,rfl,rfl,rfl,rfl,rfl,rfl,rfl,rfl,rfl,rfl,rfl⟩
theorem MkAt.obj {c:Kd→Addr}{m:Addr}{es:List Ent}(h:MkAt c CM H m es):∃ dx fs,H m=some (.ins CM dx fs)∧noM fs:=by obtain ⟨dx,kd,ah,sr,h1,_⟩:=h.ex;exact ⟨dx,_,h1,noM_of _ _ _ _⟩
def stV (k:Nat)(es:List Ent):V:=match miE k es with
 | []=>.non
 | e::_=>.ref e.loc
def spFound (c:Kd→Addr)(CM:Addr)(ts:Tabs):Sp:=fun vs H Q _=>∃ (m:Addr) (k:Nat) (es:List Ent),vs=[.ref m,.int k]∧MkAt c CM (noT H) m es∧EsOk es∧Tbs ts H∧∀ H',Nx ts H H'→Q (.int (loE k es).length) H'
def spStands (c:Kd→Addr)(CM:Addr):Sp:=fun vs H Q _=>∃ (m:Addr) (k:Nat) (es:List Ent),vs=[.ref m,.int (loE k es).length,.int k]∧MkAt c CM (noT H) m es∧EsOk es∧Q (.bl (decide (miE k es≠[]))) H
def spAhead (c:Kd→Addr)(CM:Addr):Sp:=fun vs H Q _=>∃ (m:Addr) (i:Nat) (es:List Ent),vs=[.ref m,.int i]∧MkAt c CM (noT H) m es∧i≤es.length∧Q (.int (tot (es.take i):Nat)) H
def spStAt (c:Kd→Addr)(CM:Addr)(ts:Tabs):Sp:=fun vs H Q _=>∃ (m:Addr) (k:Nat) (es:List Ent),vs=[.ref m,.int k]∧MkAt c CM (noT H) m es∧EsOk es∧Tbs ts H∧∀ H',Nx ts H H'→Q (stV k es) H'
section
variable {c:Kd→Addr}{ts:Tabs}
theorem ok_found (jbb:FnAt P w K mg base "halved_keys" ["keys","key"] 3 (spHKt ts (fun y k=>decide (k<y)) 0))(cd:CD_Marks K mg CM):MethAt P w K mg base CM "found" ["self","key"] 4 (spFound c CM ts):=by
 refine MethAt.of cd.c cd.m_found jaf ?_ ?_;walk_at "F";have nd:=jaf.nd;obtain ⟨m,k,es,rfl,hm,ok,ht,q⟩:=h;obtain ⟨dx,kd,ah,sr,h1,h2,h3,h4⟩:=hm.ex;refine ⟨_,(Zae (Zak (Za5 (ZdD K) (Zaj jbb (Zaa (Zap K (pv 0)) (Zaa (pv 1) Zac))) Zad))),?_⟩;walk_at "vc";refine ⟨_,_,_,(oT h1),cd.c,cd.n_keyed,.ref kd,rfl,kd,_,k,rfl,by rw [h2,Zbu],?_,ZhV (fun a b h p=>yap (Int.lt_trans h (yaS p))) (Zds ok.up),ht,fun t l H' nx f1 f2 g1 g2=>?_⟩
 · have:=ZbY ok
   rw [yaa];unfold kys;rw [yaa];omega
 · refine ⟨t,rfl,_,SqT.of (oT g1),_,rfl,?_⟩
   rw [cnt_lo,Int.sub_zero];exact q H' nx
theorem Zja (B:Blt mg) (cd:CD_Marks K mg CM):MethAt P w K mg base CM "stands" ["self","at","key"] 1 (spStands c CM):=by
 refine MethAt.of cd.c cd.m_stands jab ?_ ?_;walk_at "F";have nd:=jab.nd;obtain ⟨m,k,es,rfl,hm,ok,q⟩:=h;obtain ⟨dx,kd,ah,sr,h1,h2,h3,h4⟩:=hm.ex;refine ⟨_,(Zae (Zak (ZcR (Zei Zc6 (pv 1) (Zaw (ZaF K) rfl B.len zar (Zaa (Zap K (pv 0)) Zac))) (ZcO (Zei Zbd (Za5 (Zar K) (Zap K (pv 0)) (pv 1)) (pv 2)))))),?_⟩;walk_at "vc";have hkd:=(oT h2)
 have hm1:=(oT h1)
 refine ⟨_,_,_,hm1,cd.c,cd.n_keyed,.ref kd,rfl,kd,rfl,_,.inl (SqL.of hkd),?_⟩;have lk:(pint (kys es)).length=es.length:=by rw [Zal];unfold kys;rw [yaa]
 rw [lk];have g:=Zie k ok;by_cases lt:(loE k es).length<es.length
 · rw [if_pos (by omega)]
   rw [yae lt] at g;have ge:es[(loE k es).length]?=some es[(loE k es).length]:=yae lt;refine ⟨_,_,_,hm1,cd.c,cd.n_keyed,.ref kd,rfl,kd,rfl,_,SqL.of hkd,_,Zbj (Zeo ge),rfl,?_⟩;have e:decide (V.int ((es[(loE k es).length].key:Nat):Int)=V.int (k:Int))=decide (miE k es≠[]):=by
     rcases Zbw k ok.up with z | ⟨e,z1,z2,z3⟩
     · rw [z,yaP] at g
       have hh:es[(loE k es).length]∈hiE k es:=List.mem_of_head? g.symm;have:=(Zd5 hh).2;rw [yaI (by simp;omega),yaI (by simp [z])]
     · rw [z1] at g
       have:es[(loE k es).length]=e:=Option.some.inj g;rw [this,z2,z1];simp
   rw [e];exact q
 · rw [if_neg (by omega)]
   have z:miE k es=[]:=by rw [List.getElem?_eq_none (by omega)] at g;have:=List.head?_eq_none_iff.mp g.symm;exact (List.append_eq_nil_iff.mp this).1
   rw [yaI (by simp [z])] at q;exact q
theorem ok_ahead (B:Blt mg)(cd:CD_Marks K mg CM):MethAt P w K mg base CM "ahead_of" ["self","at"] 1 (spAhead c CM):=by
 refine MethAt.of cd.c cd.m_ahead_of jS ?_ ?_;walk_at "F";have nd:=jS.nd;obtain ⟨m,i,es,rfl,hm,hi,q⟩:=h;obtain ⟨dx,kd,ah,sr,h1,h2,h3,h4⟩:=hm.ex;refine ⟨_,(Zae (Zak (Zbe (ZaH Zc6 (pv 1) (Zaw (ZaF K) rfl B.len zar (Zaa (Zap K (pv 0)) Zac))) (Za5 (Zar K) (Zap K (pv 0)) (pv 1)) (Zap K (pv 0))))),?_⟩;walk_at "vc";have hah:=(oT h3)
 have hm1:=(oT h1)
 refine ⟨_,_,_,hm1,cd.c,cd.n_aheads,.ref ah,rfl,ah,rfl,_,.inl (SqL.of hah),?_⟩;rw [Zal,Zbo];by_cases lt:i<es.length
 · rw [if_pos (by omega)]
   have g:=ZfY 0 es i lt;rw [ybD] at g;exact ⟨_,_,_,hm1,cd.c,cd.n_aheads,.ref ah,rfl,ah,rfl,_,SqL.of hah,_,Zbj g,q⟩
 · rw [if_neg (by omega)]
   rw [yam (by omega)] at q;exact ⟨_,_,_,hm1,cd.c,cd.n_held,_,rfl,q⟩
theorem Zfd (jE:MethAt P w K mg base CM "found" ["self","key"] 4 (spFound c CM ts))(jo:MethAt P w K mg base CM "stands" ["self","at","key"] 1 (spStands c CM))(cd:CD_Marks K mg CM):MethAt P w K mg base CM "stretch_at" ["self","key"] 5 (spStAt c CM ts):=by
 refine MethAt.of cd.c cd.m_stretch_at jD ?_ ?_;walk_at "F";have nd:=jD.nd;obtain ⟨m,k,es,rfl,hm,ok,ht,q⟩:=h;obtain ⟨dx,fs,ho,nf⟩:=hm.obj;refine ⟨_,(Zaf (Zas (i:=2) (Zax P w K mg base 4 (pv 0) (Zaa (pv 1) Zac)))
     (Zae (Zak (Zbe (Zbx (Zax P w K mg base 1 (pv 0) (Zaa (pv 2) (Zaa (pv 1) Zac)))) (Za5 (Zar K) (Zap K (pv 0)) (pv 2)) Zbv)))),?_⟩
 walk_at "vc";refine ⟨_,_,_,(oT ho),nf.1,_,_,jE,m,k,es,rfl,hm,ok,ht,fun H' nx=>?_⟩;have hm2:=hm.same nx.same;refine ⟨_,_,_,(oT (nx.at ho)),nf.2.1,_,_,jo,m,k,es,rfl,hm2,ok,_,rfl,?_⟩;have q:=q H' nx;unfold stV at q;have g:=Zie k ok;rcases Zbw k ok.up with z | ⟨e,z1,z2,z3⟩
 · rw [z] at q
   rw [yaI (by simp [z]),if_neg (by decide)];exact q
 · rw [z1] at q g
   obtain ⟨dx2,kd,ah,sr,h1,h2,h3,h4⟩:=hm2.ex;rw [yap (by simp [z1]),if_pos rfl];walk_at "vc";refine ⟨_,_,_,(oT h1),cd.c,cd.n_stretches,.ref sr,rfl,sr,rfl,_,sL h4,.ref e.loc,Zc0 (by rw [yay,g];rfl),q⟩
end
def KeptA (c:Kd→Addr)(H:Hp)(ps:List Nat)(v:V)(a:Addr):Prop:=(ps=[]→v=.non)∧(ps≠[]→v=.ref a∧StAt c (kdOf ps) H a ps)
theorem KeptIs.at {c:Kd→Addr}{v:V}(h:KeptIs c H ps v):∃ a,KeptA c H ps v a:=by
 by_cases e:ps=[]
 · exact ⟨0,fun _=>h.1 e,fun n=>absurd e n⟩
 · obtain ⟨x,rfl,st⟩:=h.2 e
   exact ⟨x,fun z=>absurd z e,fun _=>⟨rfl,st⟩⟩
theorem KeptA.same {c:Kd→Addr}{v:V}{a:Addr}(h:KeptA c H ps v a)(s:Same H H'):KeptA c H' ps v a:=⟨h.1,fun e=>⟨(h.2 e).1,(h.2 e).2.same s⟩⟩
theorem tups_noT (h:Tups H vs rs):Tups (noT H) vs rs:=Paired.mapP h fun _ _ ⟨t,e,ht⟩=>⟨t,e,Zan ht (nt _)⟩
theorem StAt.noT {c:Kd→Addr}{k:Kd}{H:Hp}{a:Addr}{ps:List Nat}(h:StAt c k H a ps):StAt c k (noT H) a ps:=by
 cases k with
 | l=>obtain ⟨dx,l,e,h⟩:=h;exact ⟨dx,l,Zan e (ni _ _ _),Zan h (nl _)⟩
 | b=>obtain ⟨dx,e⟩:=h;exact ⟨dx,Zan e (ni _ _ _)⟩
 | r =>
   obtain ⟨dx,l,e,us,h,t⟩:=h;refine ⟨dx,l,Zan e (ni _ _ _),us,Zan h (nl _),?_⟩;exact tups_noT t
theorem KeptIs.noT {c:Kd→Addr}{H:Hp}{ps:List Nat}{v:V}(h:KeptIs c H ps v):KeptIs c (noT H) ps v:=⟨h.1,fun e=>let ⟨x,a,b⟩:=h.2 e;⟨x,a,b.noT⟩⟩
theorem rep_one (ps:List Nat)(y:V):(List.replicate (if ps=[] then 0 else 1:Int).toNat [y]).flatten=if ps=[] then [] else [y]:=by
 by_cases e:ps=[]
 · rw [if_pos e,if_pos e];rfl
 · rw [if_neg e,if_neg e];rfl
theorem drop_hi {es:List Ent}(k:Nat)(h:EsOk es):es.drop ((loE k es).length+(miE k es).length)=hiE k es:=by rw [← ycn,drop_lo k h,List.drop_left]
theorem Zg6 {es:List Ent}{k:Nat}{a:Nat}(f:Ent→V){y:V}(h:EsOk es)(hy:ps≠[]→y=f ⟨k,ps,a⟩) :
   (es.map f).take (loE k es).length++(if ps=[] then [] else [y])++(es.map f).drop ((loE k es).length+(miE k es).length)=(keepE k ps a es).map f:=by
 rw [← List.map_take,← List.map_drop,Zer k h,drop_hi k h];unfold keepE;rw [yaQ,yaQ];by_cases e:ps=[]
 · rw [if_pos e,if_pos e];rfl
 · rw [if_neg e,if_neg e,hy e];rfl
theorem Zhf (es:List Ent):pint (kys es)=es.map fun e=>V.int (e.key:Nat):=by unfold pint kys;rw [ybh];rfl
theorem tot_mi {es:List Ent}(k:Nat)(h:EsOk es):tot es=tot (loE k es)+tot (miE k es)+tot (hiE k es):=by have:=congrArg tot (split k h.up);rw [ZaN,ZaN] at this;exact this
theorem ahs_take {es:List Ent}(k:Nat)(h:EsOk es):(pint (ahs 0 es)).take (loE k es).length=pint (ahs 0 (loE k es)):=by
 have hs:es=loE k es++(miE k es++hiE k es):=by rw [← yaf];exact split k h.up
 have:(pint (ahs 0 (loE k es++(miE k es++hiE k es)))).take (loE k es).length=pint (ahs 0 (loE k es)):=by rw [ZbS];unfold pint;rw [yaQ,List.take_left' (by rw [yaa,Zbo])]
 rw [← hs] at this;exact this
theorem ahs_drop {es:List Ent}(k:Nat)(h:EsOk es):(pint (ahs 0 es)).drop ((loE k es).length+(miE k es).length)=pint (ahs (tot (loE k es)+tot (miE k es)) (hiE k es)):=by
 have hs:es=(loE k es++miE k es)++hiE k es:=split k h.up;have:(pint (ahs 0 ((loE k es++miE k es)++hiE k es))).drop ((loE k es).length+(miE k es).length)=pint (ahs (tot (loE k es)+tot (miE k es)) (hiE k es)):=by rw [ZbS];unfold pint;rw [yaQ,List.drop_left' (by rw [yaa,Zbo,yac]),ZaN,ybD]
 rw [← hs] at this;exact this
theorem ahs_keep {es:List Ent}{k:Nat}{a:Nat}:ahs 0 (keepE k ps a es)=ahs 0 (loE k es)++(if ps=[] then [] else [tot (loE k es)])++ahs (tot (loE k es)+ps.length) (hiE k es):=by
 unfold keepE;rw [ZbS,ZbS,ZaN];by_cases e:ps=[]
 · rw [if_pos e,if_pos e,e]
   show ahs 0 (loE k es)++[]++ahs (0+(tot (loE k es)+0)) (hiE k es)=_;rw [ybD];rfl
 · rw [if_neg e,if_neg e]
   show ahs 0 (loE k es)++[0+tot (loE k es)]++ahs (0+(tot (loE k es)+(ps.length+0))) (hiE k es)=_;rw [ybD,ybD,ybL]
theorem tot_keep {es:List Ent}{k:Nat}{a:Nat}:tot (keepE k ps a es)=tot (loE k es)+ps.length+tot (hiE k es):=by
 unfold keepE;rw [ZaN,ZaN];by_cases e:ps=[]
 · rw [if_pos e,e];rfl
 · rw [if_neg e];rfl
theorem Zhc {es:List Ent}(k:Nat)(h:EsOk es):tot (es.take ((loE k es).length+(miE k es).length))=tot (loE k es)+tot (miE k es):=by have hs:es=(loE k es++miE k es)++hiE k es:=split k h.up;have:((loE k es++miE k es)++hiE k es).take ((loE k es).length+(miE k es).length)=loE k es++miE k es:=List.take_left' (by rw [yac]);rw [← hs] at this;rw [this,ZaN]
section
variable {m dx l:Addr}{fs:List (Str × V)}{f:Str}{n:Nat}{v1 v2 v3 v4 v5 v6 v7:Option V}{Q:VK}
theorem cat_a {i:Nat}{y:V}(hc:Cls K C)(hna:NoAttr K C f)(ho:H m=some (.ins C dx fs))(hf:fs.lookup f=some (.ref l))(hl:H l=some (.lst xs))(lx:xs.length≤900)(hi:[some (.ref m),v1,v2,some (.int (n:Nat)),v4,v5,v6,some (.int (if ps=[] then 0 else 1))][i]?=some (some y))
   (q:∀ p H',Same H H'→H p=none→H' p=some (.lst (xs.take n++(if ps=[] then [] else [y])))→Q (.ref p) H') :
   tOp rCat (tSl (rSlL K) (tFld K (tVar 0) f) tNoPart (tPart (tVar 3))) (tOp rRep (tLst (tCons (tVar i) tNil)) (tVar 7)) [some (.ref m),v1,v2,some (.int (n:Nat)),v4,v5,v6,some (.int (if ps=[] then 0 else 1))] H Q:=by
 simp only [tOp,tSl,tFld,tVar,tNoPart,tPart,rSlL,tLst,tCons,tNil,rRep,rCat];refine ⟨_,rfl,_,_,_,_,_,rfl,ho,hc,hna,hf,_,rfl,_,rfl,_,_,rfl,SqL.of hl,fun p1 n1=>⟨y,hi,by show 1≤sizeLine;decide,fun p2 n2=>⟨_,rfl,?_⟩⟩⟩;rw [Zgp] at n2 ⊢;have s1:=Same.new (o:=.lst (xs.take n)) n1;have g1:upd H p1 (.lst (xs.take n)) p1=some (.lst (xs.take n)):=Zab;generalize upd H p1 (.lst (xs.take n))=H1 at n2 s1 g1 ⊢;have s2:=Same.new (o:=.lst [y]) n2;have g2:upd H1 p2 (.lst [y]) p2=some (.lst [y]):=Zab;have g1:=s2 _ _ g1;generalize upd H1 p2 (.lst [y])=H2 at s2 g1 g2 ⊢;refine ⟨_,_,_,rfl,rfl,g2,?_,?_,?_,fun p3 n3=>?_⟩
 · split<;>decide
 · split<;>decide
 · show 1*_≤sizeLine
   split<;>decide
 rw [rep_one];have s3:=Same.new (o:=.lst (if ps=[] then [] else [y])) n3;have g3:upd H2 p3 (.lst (if ps=[] then [] else [y])) p3=some (.lst (if ps=[] then [] else [y])):=Zab;have g1:=s3 _ _ g1;generalize upd H2 p3 (.lst (if ps=[] then [] else [y]))=H3 at s3 g1 g3 ⊢;refine ⟨_,_,_,_,rfl,rfl,g1,g3,?_,fun p4 n4=>?_⟩
 · have:(if ps=[] then [] else [y]).length≤1:=by split<;>simp
   rw [yaB];exact ybC (small1000 (by omega))
 · have S:=s1.trans (s2.trans s3)
   exact q p4 _ (S.trans (Same.new n4)) (S.free n4) Zab
theorem cat_b (hc:Cls K C)(hna:NoAttr K C f)(ho:H m=some (.ins C dx fs))(hf:fs.lookup f=some (.ref l))(hl:H l=some (.lst xs))(q:∀ p H',Same H H'→H p=none→H' p=some (.lst (xs.drop n))→Q (.ref p) H') :
   tSl (rSlL K) (tFld K (tVar 0) f) (tPart (tVar 4)) tNoPart [some (.ref m),v1,v2,v3,some (.int (n:Nat)),v5,v6,v7] H Q:=by
 simp only [tSl,tFld,tVar,tNoPart,tPart,rSlL];refine ⟨_,rfl,_,_,_,_,_,rfl,ho,hc,hna,hf,_,rfl,_,rfl,_,_,rfl,SqL.of hl,fun p1 n1=>?_⟩;rw [Zg0];exact q _ _ (Same.new n1) n1 Zab
theorem ZiC {i j:Nat}{y:V}(hc:Cls K C)(hna:NoAttr K C f)(ho:H m=some (.ins C dx fs))(hf:fs.lookup f=some (.ref l))(hl:H l=some (.lst xs))(lx:xs.length≤400)(lf:fs.length<1000)(hi:[some (.ref m),v1,v2,some (.int (n:Nat)),some (.int (j:Nat)),v5,v6,some (.int (if ps=[] then 0 else 1))][i]?=some (some y))
   (q:∀ p H',Same H H'→H p=none→H' p=some (.lst (xs.take n++(if ps=[] then [] else [y])++xs.drop j))→D.nx [some (.ref m),v1,v2,some (.int (n:Nat)),some (.int (j:Nat)),v5,v6,some (.int (if ps=[] then 0 else 1))] (upd H' m (.ins C dx (putF f (.ref p) fs)))) :
   sFld K (tVar 0) (tOp rCat (tOp rCat (tSl (rSlL K) (tFld K (tVar 0) f) tNoPart (tPart (tVar 3))) (tOp rRep (tLst (tCons (tVar i) tNil)) (tVar 7))) (tSl (rSlL K) (tFld K (tVar 0) f) (tPart (tVar 4)) tNoPart)) f D [some (.ref m),v1,v2,some (.int (n:Nat)),some (.int (j:Nat)),v5,v6,some (.int (if ps=[] then 0 else 1))] H:=by
 rw [sFld,tOp];refine cat_a hc hna ho hf hl (by omega) hi fun p1 H1 s1 n1 g1=>cat_b hc hna (s1 _ _ ho) hf (s1 _ _ hl) fun p2 H2 s2 n2 g2=>?_
 rw [rCat];refine ⟨_,_,_,_,rfl,rfl,s2 _ _ g1,g2,?_,fun p3 n3=>?_⟩
 · have:(if ps=[] then [] else [y]).length≤1:=by split<;>simp
   rw [yac,yaB,yaX];exact ybC (small1000 (by omega))
 · have S:=s1.trans s2
   have S3:=S.trans (Same.new (o:=.lst (xs.take n++(if ps=[] then [] else [y])++xs.drop j)) n3);simp only [tVar];exact ⟨_,rfl,_,_,_,_,rfl,S3 _ _ ho,hc,hna,lf,q p3 _ S3 (S.free n3) Zab⟩
end
def Four (o:HO):Prop:=∃ C dx a b d e,o=.ins C dx [("keyed",a),("aheads",b),("stretches",d),("held",e)]
theorem StAt.nb {c:Kd→Addr}{k:Kd}{m x:Addr}{o:HO}(h:StAt c k H x ps)(hm:H m=some o)(f:Four o)(s:∀ b o,b≠m→H b=some o→H' b=some o):StAt c k H' x ps:=by
 obtain ⟨C,dx0,f1,f2,f3,f4,rfl⟩:=f;cases k with
 | l =>
   obtain ⟨dx,l,e,h⟩:=h;refine ⟨dx,l,s _ _ (fun z=>?_) e,s _ _ (fun z=>?_) h⟩
   · rw [z,hm] at e;cases e
   · rw [z,hm] at h;cases h
 | b =>
   obtain ⟨dx,e⟩:=h;refine ⟨dx,s _ _ (fun z=>?_) e⟩;rw [z,hm] at e;cases e
 | r =>
   obtain ⟨dx,l,e,us,h,t⟩:=h;refine ⟨dx,l,s _ _ (fun z=>?_) e,us,s _ _ (fun z=>?_) h,Paired.mapP t fun _ _ ⟨t,e,ht⟩=>⟨t,e,s _ _ (fun z=>?_) ht⟩⟩
   · rw [z,hm] at e;cases e
   · rw [z,hm] at h;cases h
   · rw [z,hm] at ht;cases ht
theorem MkAt.four {c:Kd→Addr}{m:Addr}{es:List Ent}(h:MkAt c CM H m es):∃ o,H m=some o∧Four o:=by obtain ⟨dx,kd,ah,sr,h1,_⟩:=h.ex;exact ⟨_,h1,_,_,_,_,_,_,rfl⟩
theorem MkAt.nb {c:Kd→Addr}{m m2:Addr}{es:List Ent}{o:HO}(h:MkAt c CM H m2 es)(hm:H m=some o)(f:Four o)(n:m2≠m)(s:∀ b o,b≠m→H b=some o→H' b=some o):MkAt c CM H' m2 es:=by
 obtain ⟨⟨dx,kd,ah,sr,h1,h2,h3,h4⟩,st⟩:=h;have ne:∀ {b:Addr} {xs:List V},H b=some (.lst xs)→b≠m:=fun e z=>by
   obtain ⟨C,dx0,f1,f2,f3,f4,rfl⟩:=f;rw [z,hm] at e;cases e
 exact ⟨⟨dx,kd,ah,sr,s _ _ n h1,s _ _ (ne h2) h2,s _ _ (ne h3) h3,s _ _ (ne h4) h4⟩,fun e he=>(st e he).nb hm f s⟩
def fAdd (m:Int):V→V
 | .int c=>.int (c+m)
 | v=>v
theorem Zjt (m:Int)(zs:List Nat):(pint zs).map (fAdd m)=zs.map fun (x:Nat)=>V.int ((x:Int)+m):=by unfold pint;rw [ybh];rfl
def spKeep (c:Kd→Addr)(CM:Addr)(ts:Tabs):Sp:=fun vs H Q _=>∃ (m:Addr) (k:Nat) (es:List Ent) (ps:List Nat) (v:V) (a:Addr),vs=[.ref m,.int k,v]∧MkAt c CM (noT H) m es∧EsOk es∧KeptA c (noT H) ps v a∧Up 0 ps∧(∀ p∈ps,p<256)∧Tbs ts H∧∀ H',Nb ts m H H'→MkAt c CM (noT H') m (keepE k ps a es)→Q .non H'
section
variable {c:Kd→Addr}{ts:Tabs}
theorem ok_keep (jE:MethAt P w K mg base CM "found" ["self","key"] 4 (spFound c CM ts))(jo:MethAt P w K mg base CM "stands" ["self","at","key"] 1 (spStands c CM))(jT:MethAt P w K mg base CM "ahead_of" ["self","at"] 1 (spAhead c CM))(hn:∀ k,MethAt P w K mg base (c k) "many" ["self"] 5 (spManyM c k))(cd:CD_Marks K mg CM):MethAt P w K mg base CM "keep" ["self","key","stretch"] 6 (spKeep c CM ts):=by
 refine MethAt.of cd.c cd.m_keep jaq ?_ ?_;walk_at "F";have nd:=jaq.nd;obtain ⟨m,k,es,ps,v,a,rfl,hm,ok,hv,up,lt,ht,q⟩:=h;obtain ⟨dx,fs,ho,nf⟩:=hm.obj;refine ⟨_,(Zaf (Zas (i:=3) (Zax P w K mg base 4 (pv 0) (Zaa (pv 1) Zac)))
     (Zaz (Zas (i:=4) (Zbe (Zbx (Zax P w K mg base 1 (pv 0) (Zaa (pv 3) (Zaa (pv 1) Zac)))) (Zah Zay (pv 3) Zad) (pv 3)))
     (Zaf (Zas (i:=5) (Zax P w K mg base 1 (pv 0) (Zaa (pv 3) Zac)))
     (Zaz (Zas (i:=6) (Zah ZaX (Zbe (ZaH ZeF (pv 2) Zbv) Zad (ZaE P w K mg base 5 (pv 2))) (Zah ZaX (Zax P w K mg base 1 (pv 0) (Zaa (pv 4) Zac)) (pv 5))))
     (Zaz (Zas (i:=7) (Zbe (ZaH ZeF (pv 2) Zbv) Zad Zad))
     (Zaz (Zbb K (pv 0) (Zah Zd1 (Zah Zd1 (Zbt (Zbq K) (Zap K (pv 0)) Zct (ZbI (pv 3))) (Zah Zif (ZaJ (Zaa (pv 1) Zac)) (pv 7))) (Zbt (Zbq K) (Zap K (pv 0)) (ZbI (pv 4)) Zct)))
     (Zaz (Zbb K (pv 0) (Zah Zd1 (Zah Zd1 (Zbt (Zbq K) (Zap K (pv 0)) Zct (ZbI (pv 3))) (Zah Zif (ZaJ (Zaa (pv 5) Zac)) (pv 7))) (Zcq ["each"] [6] rfl (ZaD K (Zbt (Zbq K) (Zap K (pv 0)) (ZbI (pv 4)) Zct)) (fun _ _ _ _ _=>ZaS (i:=0) (by show List.Nodup (["each","more"]:List Str);decide +kernel) rfl (Or.inl rfl)) (fun _ _ _ _ _=>ZbB) (fun _ _ _ _ _=>(Zah Zay (pv 0) (pv 1))) ⟨⟨_,rfl,rfl,.inl rfl⟩,trivial⟩ ZaQ)))
     (Zaz (Zbb K (pv 0) (Zah Zd1 (Zah Zd1 (Zbt (Zbq K) (Zap K (pv 0)) Zct (ZbI (pv 3))) (Zah Zif (ZaJ (Zaa (pv 2) Zac)) (pv 7))) (Zbt (Zbq K) (Zap K (pv 0)) (ZbI (pv 4)) Zct)))
     (Zae (Zbb K (pv 0) (Zah Zay (Zap K (pv 0)) (pv 6)))))))))))),?_⟩
 have ll:=len_lo (es:=es) k;have lm:(loE k es).length+(miE k es).length≤es.length:=by have:=congrArg List.length (split k ok.up);rw [yac,yac] at this;omega
 walk_at "vc";refine ⟨_,_,_,(oT ho),nf.1,_,_,jE,m,k,es,rfl,hm,ok,ht,fun H1 nx=>?_⟩;refine ⟨fun σ H2=>σ=[some (.ref m),some (.int k),some v,some (.int (loE k es).length),some (.int (((loE k es).length+(miE k es).length:Nat):Int)),none,none,none]∧H2=H1,?_,?_⟩
 · have hm2:=hm.same nx.same
   have ho:=nx.at ho;walk_at "vc";refine ⟨_,_,_,(oT ho),nf.2.1,_,_,jo,m,k,es,rfl,hm2,ok,_,rfl,?_⟩;rcases Zbw k ok.up with z | ⟨e,z1,z2,z3⟩
   · rw [yaI (by simp [z]),if_neg (by decide),z]
     exact ⟨rfl,rfl⟩
   · rw [yap (by simp [z1]),if_pos rfl,z1]
     walk_at "vc";show ((loE k es).length:Int)+1=(((loE k es).length+1:Nat):Int)
     omega
 rintro σ Ha ⟨rfl,rfl⟩;have hm:=hm.same nx.same;have hv:=hv.same nx.same;have ho:=nx.at ho;walk_at "vc";refine ⟨_,_,_,(oT ho),nf.2.2.1,_,_,jT,m,_,es,rfl,hm,ll,?_⟩;rw [Zer k ok];refine ⟨fun σ H2=>σ=[some (.ref m),some (.int k),some v,some (.int (loE k es).length),some (.int (((loE k es).length+(miE k es).length:Nat):Int)),some (.int (tot (loE k es):Nat)),some (.int ((ps.length:Int)-(tot (miE k es):Nat))),none]∧H2=Ha,?_,?_⟩
 · walk_at "vc"
   by_cases e0:ps=[]
   · rw [if_pos (hv.1 e0)]
     refine ⟨_,_,_,(oT ho),nf.2.2.1,_,_,jT,m,_,es,rfl,hm,lm,_,rfl,?_,rfl⟩;rw [Zhc k ok,e0];show 0-(((tot (loE k es)+tot (miE k es):Nat):Int)-_)=((0:Nat):Int)-_;omega
   · obtain ⟨rfl,st⟩:=hv.2 e0
     obtain ⟨dx2,fs2,ho2,nf2⟩:=(st.same noT_sub).obj;rw [if_neg (by intro z;cases z)];refine ⟨_,rfl,_,_,_,ho2,nf2.2.2.2.2.2.1,_,_,hn _,a,ps,rfl,st.same noT_sub,up,lt,?_⟩;refine ⟨_,_,_,(oT ho),nf.2.2.1,_,_,jT,m,_,es,rfl,hm,lm,_,rfl,_,rfl,?_,rfl⟩;rw [Zhc k ok];omega
 rintro σ Hb ⟨rfl,rfl⟩;refine ⟨fun σ H2=>σ=[some (.ref m),some (.int k),some v,some (.int (loE k es).length),some (.int (((loE k es).length+(miE k es).length:Nat):Int)),some (.int (tot (loE k es):Nat)),some (.int ((ps.length:Int)-(tot (miE k es):Nat))),some (.int (if ps=[] then 0 else 1))]∧H2=Hb,?_,?_⟩
 · walk_at "vc"
   by_cases e0:ps=[]
   · rw [if_pos (hv.1 e0),if_pos e0]
   · rw [if_neg (by rw [(hv.2 e0).1];intro z;cases z),if_neg e0]
 rintro σ Hc ⟨rfl,rfl⟩;obtain ⟨dx2,kd,ah,sr,h1,h2,h3,h4⟩:=hm.ex;have les:=ZbY ok;have ln:=Zg6 (es:=es) (k:=k) (ps:=ps) (a:=a) (fun e=>V.ref e.loc) (y:=v) ok fun e=>(hv.2 e).1
 have lk:=Zg6 (es:=es) (k:=k) (ps:=ps) (a:=a) (fun e=>V.int (e.key:Nat)) (y:=V.int k) ok fun _=>rfl
 refine ⟨fun σ H2=>σ=[some (.ref m),some (.int k),some v,some (.int (loE k es).length),some (.int (((loE k es).length+(miE k es).length:Nat):Int)),some (.int (tot (loE k es):Nat)),some (.int ((ps.length:Int)-(tot (miE k es):Nat))),some (.int (if ps=[] then 0 else 1))]∧Nb ts m Hc H2 ∧
   ∃ kd',H2 m=some (.ins CM dx2 [("keyed",.ref kd'),("aheads",.ref ah),("stretches",.ref sr),("held",.int (tot es:Nat))])∧noT H2 kd'=some (.lst (pint (kys (keepE k ps a es)))),?_,?_⟩
 · refine ZiC cd.c cd.n_keyed (oT h1) rfl (oT h2) (by rw [Zal];unfold kys;rw [yaa];omega) (by show 4<1000;decide) rfl fun p H' sm np hp=>⟨rfl,((nx.tb.nx sm).nb (m:=m)).put (sm _ _ (oT h1)) trivial,p,Zab,?_⟩
   have:p≠m:=fun z=>by rw [z,(oT h1)] at np;cases np
   refine Zan ?_ (nl _);rw [Zai this,hp,Zhf,Zhf,lk]
 rintro σ H5 ⟨rfl,nb5,kd5,h51,h52⟩;have kdm:kd5≠m:=fun z=>by have:=(oT h52);rw [z,h51] at this;cases this
 have ahm:ah≠m:=fun z=>by rw [z,h1] at h3;cases h3
 have srm:sr≠m:=fun z=>by rw [z,h1] at h4;cases h4
 have h53:=nb5.same _ _ ahm h3;have h54:=nb5.same _ _ srm h4;refine ⟨fun σ H2=>σ=[some (.ref m),some (.int k),some v,some (.int (loE k es).length),some (.int (((loE k es).length+(miE k es).length:Nat):Int)),some (.int (tot (loE k es):Nat)),some (.int ((ps.length:Int)-(tot (miE k es):Nat))),some (.int (if ps=[] then 0 else 1))]∧Nb ts m H5 H2 ∧
   ∃ ah',H2 m=some (.ins CM dx2 [("keyed",.ref kd5),("aheads",.ref ah'),("stretches",.ref sr),("held",.int (tot es:Nat))])∧noT H2 ah'=some (.lst (pint (ahs 0 (keepE k ps a es)))),?_,?_⟩
 · rw [sFld,tOp]
   refine cat_a cd.c cd.n_aheads h51 rfl (oT h53) (by rw [Zal,Zbo];omega) rfl fun p1 H6 s1 n1 g1=>?_
   walk_at "vc";refine ⟨_,_,_,s1 _ _ h51,cd.c,cd.n_aheads,.ref ah,rfl,ah,rfl,_,SqL.of (s1 _ _ (oT h53)),fun p2 n2=>?_⟩;rw [Zg0,ahs_drop k ok];have s2:=Same.new (o:=.lst (pint (ahs (tot (loE k es)+tot (miE k es)) (hiE k es)))) n2;have g2:upd H6 p2 (.lst (pint (ahs (tot (loE k es)+tot (miE k es)) (hiE k es)))) p2=some (.lst (pint (ahs (tot (loE k es)+tot (miE k es)) (hiE k es)))):=Zab;generalize upd H6 p2 (.lst (pint (ahs (tot (loE k es)+tot (miE k es)) (hiE k es))))=H7 at s2 g2 ⊢;have lh:(hiE k es).length≤es.length:=ybp _ _;refine ⟨⟨_,SqL.of g2⟩,compL (fun _=>true) (fAdd ((ps.length:Int)-(tot (miE k es):Nat))) (SqL.of g2) (by rw [Zal,Zbo];omega) (fun x H R hx s h=>?_) (fun x H R hx _ s h=>?_) (fun b1 n3=>?_)⟩
   · walk_at "vc"
     exact h
   · obtain ⟨z,hz,rfl⟩:=ZbN hx
     walk_at "vc";exact h
   rw [ybP.mpr (fun _ _=>rfl),Zjt];have s3:=Same.new (o:=.lst ((ahs (tot (loE k es)+tot (miE k es)) (hiE k es)).map fun (x:Nat)=>V.int ((x:Int)+((ps.length:Int)-(tot (miE k es):Nat))))) n3;have g3:upd H7 b1 (.lst ((ahs (tot (loE k es)+tot (miE k es)) (hiE k es)).map fun (x:Nat)=>V.int ((x:Int)+((ps.length:Int)-(tot (miE k es):Nat))))) b1=some (.lst (pint (ahs (tot (loE k es)+ps.length) (hiE k es)))):=by have e:=congrArg (List.map V.int) (Zfl ((ps.length:Int)-(tot (miE k es):Nat)) (tot (loE k es)+tot (miE k es)) (tot (loE k es)+ps.length) (hiE k es) (by omega));rw [ybh,ybh] at e;rw [Zab];exact congrArg (fun z=>some (HO.lst z)) e
   generalize upd H7 b1 (.lst ((ahs (tot (loE k es)+tot (miE k es)) (hiE k es)).map fun (x:Nat)=>V.int ((x:Int)+((ps.length:Int)-(tot (miE k es):Nat)))))=H8 at s3 g3 ⊢;have g1:=s3 _ _ (s2 _ _ g1);refine ⟨b1,rfl,_,g1,_,g3,?_,fun p4 n4=>?_⟩
   · have:(if ps=[] then [] else [V.int (tot (loE k es):Nat)]).length≤1:=by split<;>simp
     rw [yac,yaB,Zal,Zal,Zbo,Zbo];exact ybC (small1000 (by omega))
   have el:(pint (ahs 0 es)).take (loE k es).length++(if ps=[] then [] else [V.int (tot (loE k es):Nat)])++pint (ahs (tot (loE k es)+ps.length) (hiE k es))=pint (ahs 0 (keepE k ps a es)):=by
     rw [ahs_take k ok,ahs_keep];unfold pint;rw [yaQ,yaQ];by_cases e:ps=[]
     · rw [if_pos e,if_pos e];rfl
     · rw [if_neg e,if_neg e];rfl
   rw [el];have S:=s1.trans (s2.trans s3);have S4:=S.trans (Same.new (o:=.lst (pint (ahs 0 (keepE k ps a es)))) n4);refine ⟨_,_,_,S4 _ _ h51,cd.c,cd.n_aheads,by show 4<1000;decide,((nb5.tb.nx S4).nb (m:=m)).put (S4 _ _ h51) trivial,p4,Zab,?_⟩;have pm:p4≠m:=fun z=>by rw [z,S _ _ h51] at n4;cases n4
   refine Zan ?_ (nl _);rw [Zai pm,Zab]
 rintro σ H6 ⟨rfl,nb6,ah6,h61,h62⟩;have h64:=nb6.same _ _ srm h54;have h63:=nb6.same _ _ kdm h52;refine ⟨fun σ H2=>σ=[some (.ref m),some (.int k),some v,some (.int (loE k es).length),some (.int (((loE k es).length+(miE k es).length:Nat):Int)),some (.int (tot (loE k es):Nat)),some (.int ((ps.length:Int)-(tot (miE k es):Nat))),some (.int (if ps=[] then 0 else 1))]∧Nb ts m H6 H2 ∧
   ∃ sr',H2 m=some (.ins CM dx2 [("keyed",.ref kd5),("aheads",.ref ah6),("stretches",.ref sr'),("held",.int (tot es:Nat))])∧noT H2 sr'=some (.lst ((keepE k ps a es).map fun e=>V.ref e.loc)),?_,?_⟩
 · refine ZiC cd.c cd.n_stretches h61 rfl (oT h64) (by rw [yaa];omega) (by show 4<1000;decide) rfl fun p H' sm np hp=>⟨rfl,((nb6.tb.nx sm).nb (m:=m)).put (sm _ _ h61) trivial,p,Zab,?_⟩
   have:p≠m:=fun z=>by rw [z,h61] at np;cases np
   refine Zan ?_ (nl _);rw [Zai this,hp,ln]
 rintro σ H7 ⟨rfl,nb7,sr7,h71,h72⟩;have ahm6:ah6≠m:=fun z=>by have:=(oT h62);rw [z,h61] at this;cases this
 have h73:=nb7.same _ _ kdm h63;have h74:=nb7.same _ _ ahm6 h62;walk_at "vc";refine ⟨_,_,_,h71,cd.c,cd.n_held,_,rfl,_,rfl,_,_,_,h71,cd.c,cd.n_held,by show 4<1000;decide,?_⟩;have nbA:Nb ts m Hc H7:=(nb5.trans nb6).trans nb7;have sr7m:sr7≠m:=fun z=>by have:=(oT h72);rw [z,h71] at this;cases this
 refine q _ ((nx.nb.trans nbA).put h71 trivial) ⟨⟨dx2,kd5,ah6,sr7,Zan ?_ (ni _ _ _),Zan ?_ (nl _),Zan ?_ (nl _),Zan ?_ (nl _)⟩,fun e he=>?_⟩
 · rw [Zab]
   have:((tot es:Nat):Int)+((ps.length:Int)-(tot (miE k es):Nat))=(tot (keepE k ps a es):Nat):=by rw [tot_keep];have:=tot_mi k ok;omega
   rw [this];rfl
 · rw [Zai kdm];exact (oT h73)
 · rw [Zai ahm6];exact (oT h74)
 · rw [Zai sr7m];exact (oT h72)
 · have fr:=(nbA.put (o':=.ins CM dx2 (putF (Str.ofString "held") (V.int (((tot es:Nat):Int)+((ps.length:Int)-(tot (miE k es):Nat)))) [("keyed",.ref kd5),("aheads",.ref ah6),("stretches",.ref sr7),("held",.int (tot es:Nat))])) h71 trivial).same
   rcases Zcy he with ⟨z,_⟩ | ⟨z,rfl⟩
   · exact (hm.st e z).nb h1 ⟨_,_,_,_,_,_,rfl⟩ fr
   · exact (hv.2 z).2.nb h1 ⟨_,_,_,_,_,_,rfl⟩ fr
end
theorem Zb3 {es:List Ent}{k:Nat}(z:miE k es=[]):stV k es=.non∧plcE k es=[]:=by unfold stV plcE;rw [z];exact ⟨rfl,rfl⟩
theorem ZbG {es:List Ent}{k:Nat}{e:Ent}(z:miE k es=[e]):stV k es=.ref e.loc∧plcE k es=e.ps:=by unfold stV plcE;rw [z];exact ⟨rfl,rfl⟩
theorem ZgH {p y:Nat}(hl:∀ q∈ps,q<256)(hp:p<256):y∈gAdd ps p↔y∈ps∨y=p:=by
 unfold gAdd gJoin;rw [yas,ybW];simp only [ycp,yaL,yal];constructor
 · exact fun h=>h.2
 · intro h
   refine ⟨?_,h⟩;rcases h with h | h
   · exact hl y h
   · omega
theorem put_mem {n a:Nat}{es:List Ent}(ok:EsOk es)(ok2:EsOk (keepE (n/256) ps a es))(h:∀ y,y∈ps↔y∈plcE (n/256) es∨y=n%256)(x:Nat):x∈flat (keepE (n/256) ps a es)↔x∈flat es∨x=n:=by
 rw [ZaP ok2,ZaP ok,Zhm];by_cases c:x/256=n/256
 · rw [if_pos c,h,c]
   constructor
   · rintro (z | z)
     · exact .inl z
     · exact .inr (by omega)
   · rintro (z | z)
     · exact .inl z
     · exact .inr (by omega)
 · rw [if_neg c]
   constructor
   · exact .inl
   · rintro (z | z)
     · exact z
     · exact absurd (by rw [z]) c
def spInitM (c:Kd→Addr)(CM:Addr)(ts:Tabs):Sp:=fun vs H Q _=>∃ x dx:Addr,vs=[.ref x]∧H x=some (.ins CM dx [])∧Tbs ts H∧∀ H',Nb ts x H H'→MkAt c CM (noT H') x []→Q .non H'
def spHas (c:Kd→Addr)(CM:Addr)(ts:Tabs):Sp:=fun vs H Q _=>∃ (m:Addr) (n:Nat) (es:List Ent),vs=[.ref m,.int n]∧n≤65535∧MkAt c CM (noT H) m es∧EsOk es∧Tbs ts H∧∀ H',Nx ts H H'→Q (.bl (decide (n∈flat es))) H'
def spPutM (c:Kd→Addr)(CM:Addr)(ts:Tabs):Sp:=fun vs H Q _=>∃ (m:Addr) (n:Nat) (es:List Ent),vs=[.ref m,.int n]∧n≤65535∧MkAt c CM (noT H) m es∧EsOk es∧Tbs ts H∧∀ H' es',Nb ts m H H'→MkAt c CM (noT H') m es'→EsOk es'→(∀ x,x∈flat es'↔x∈flat es∨x=n)→Q (.bl (!decide (n∈flat es))) H'
def spBel (c:Kd→Addr)(CM:Addr)(ts:Tabs):Sp:=fun vs H Q _=>∃ (m:Addr) (n:Nat) (es:List Ent),vs=[.ref m,.int n]∧n≤65535∧MkAt c CM (noT H) m es∧EsOk es∧Tbs ts H∧∀ H',Nx ts H H'→Q (.int (belE n es:Nat)) H'
section
variable {c:Kd→Addr}{ts:Tabs}
theorem ok_initM (cd:CD_Marks K mg CM):MakeAt P w K mg base "Marks" CM ["self"] 1 (spInitM c CM ts):=by
 refine MakeAt.of cd.at_ cd.init jP ?_ ?_;walk_at "F";have nd:=jP.nd;obtain ⟨x,dx,rfl,hx,ht,q⟩:=h;refine ⟨_,(Zaf (Zbb K (pv 0) (ZaJ Zac))
     (Zaf (Zbb K (pv 0) (ZaJ Zac))
     (Zaf (Zbb K (pv 0) (ZaJ Zac))
     (Zae (Zbb K (pv 0) Zad))))),?_⟩
 walk_at "vc";refine ⟨yau _,fun p1 n1=>?_⟩;have s1:Same H (upd H p1 (.lst [])):=Same.new n1;have g1:upd H p1 (.lst []) p1=some (.lst []):=Zab;generalize upd H p1 (.lst [])=H1 at s1 g1 ⊢;have hx:=s1 _ _ hx;have px1:p1≠x:=fun z=>by rw [z,hx] at g1;cases g1
 refine ⟨_,_,_,hx,cd.c,cd.n_keyed,by show 0<1000;decide,yau _,?_⟩;have b1:Nb ts x H (upd H1 x (.ins CM dx [("keyed",.ref p1)])):=((ht.nx s1).nb).put hx trivial;rw [show putF (Str.ofString "keyed") (V.ref p1) []=[(Str.ofString "keyed",V.ref p1)] from rfl];have hx:upd H1 x (.ins CM dx [("keyed",.ref p1)]) x=some (.ins CM dx [("keyed",.ref p1)]):=Zab;have g1:upd H1 x (.ins CM dx [("keyed",.ref p1)]) p1=some (.lst []):=by rw [Zai px1];exact g1
 intro p2 n2;generalize upd H1 x (.ins CM dx [("keyed",.ref p1)])=H2 at b1 hx g1 n2 ⊢;have s2:Same H2 (upd H2 p2 (.lst [])):=Same.new n2;have g2:upd H2 p2 (.lst []) p2=some (.lst []):=Zab;generalize upd H2 p2 (.lst [])=H3 at s2 g2 ⊢;have hx:=s2 _ _ hx;have g1:=s2 _ _ g1;have px2:p2≠x:=fun z=>by rw [z,hx] at g2;cases g2
 refine ⟨_,_,_,hx,cd.c,cd.n_aheads,by show 1<1000;decide,yau _,?_⟩;have b2:Nb ts x H (upd H3 x (.ins CM dx [("keyed",.ref p1),("aheads",.ref p2)])):=(b1.trans (b1.tb.nx s2).nb).put hx trivial;rw [show putF (Str.ofString "aheads") (V.ref p2) [(Str.ofString "keyed",V.ref p1)]=[(Str.ofString "keyed",V.ref p1),(Str.ofString "aheads",V.ref p2)] from rfl];have hx:upd H3 x (.ins CM dx [("keyed",.ref p1),("aheads",.ref p2)]) x=some (.ins CM dx [("keyed",.ref p1),("aheads",.ref p2)]):=Zab;have g1:upd H3 x (.ins CM dx [("keyed",.ref p1),("aheads",.ref p2)]) p1=some (.lst []):=by rw [Zai px1];exact g1
 have g2:upd H3 x (.ins CM dx [("keyed",.ref p1),("aheads",.ref p2)]) p2=some (.lst []):=by rw [Zai px2];exact g2
 intro p3 n3;generalize upd H3 x (.ins CM dx [("keyed",.ref p1),("aheads",.ref p2)])=H4 at b2 hx g1 g2 n3 ⊢;have s3:Same H4 (upd H4 p3 (.lst [])):=Same.new n3;have g3:upd H4 p3 (.lst []) p3=some (.lst []):=Zab;generalize upd H4 p3 (.lst [])=H5 at s3 g3 ⊢;have hx:=s3 _ _ hx;have g1:=s3 _ _ g1;have g2:=s3 _ _ g2;have px3:p3≠x:=fun z=>by rw [z,hx] at g3;cases g3
 refine ⟨_,_,_,hx,cd.c,cd.n_stretches,by show 2<1000;decide,_,_,_,Zab,cd.c,cd.n_held,by show 3<1000;decide,?_⟩;have b3:=(b2.trans (b2.tb.nx s3).nb).put (o':=.ins CM dx [("keyed",.ref p1),("aheads",.ref p2),("stretches",.ref p3)]) hx trivial;refine q _ (b3.put Zab trivial) ⟨⟨dx,p1,p2,p3,Zan Zab (ni _ _ _),Zan ?_ (nl _),Zan ?_ (nl _),Zan ?_ (nl _)⟩,fun e he=>nomatch he⟩
 · rw [Zai px1,Zai px1];exact g1
 · rw [Zai px2,Zai px2];exact g2
 · rw [Zai px3,Zai px3];exact g3
theorem ok_hasM (cP:∃ t,mg "PLACES"=some (.int 256 t))(jg:FnAt P w K mg base "check_number" ["thing"] 2 spChk)(jq:MethAt P w K mg base CM "stretch_at" ["self","key"] 5 (spStAt c CM ts))(hh:∀ k,MethAt P w K mg base (c k) "has" ["self","place"] 5 (spHasM c k))(cd:CD_Marks K mg CM):MethAt P w K mg base CM "has" ["self","n"] 6 (spHas c CM ts):=by
 obtain ⟨tP,ja⟩:=cP;refine MethAt.of cd.c cd.m_has jaz ?_ ?_;walk_at "F";have nd:=jaz.nd;obtain ⟨m,n,es,rfl,hn,hm,ok,ht,q⟩:=h;obtain ⟨dx,fs,ho,nf⟩:=hm.obj;refine ⟨_,(Zaf (ZaM (Zaj jg (Zaa (pv 1) Zac)))
     (Zaf (Zas (i:=2) (Zax P w K mg base 5 (pv 0) (Zaa (Zah Zaq (pv 1) (ZaK ja)) Zac)))
     (Zae (Zak (ZcR (Zei Zim (pv 2) Zbv) (ZcO (Zax P w K mg base 5 (pv 2) (Zaa (Zah Zau (pv 1) (ZaK ja)) Zac)))))))),?_⟩
 have e1:(n:Int)/256=((n/256:Nat):Int):=by omega
 have e2:(n:Int)%256=((n%256:Nat):Int):=by omega
 walk_at "vc";rw [e1,e2];refine ⟨n,rfl,hn,_,_,_,(oT ho),nf.2.2.2.1,_,_,jq,m,n/256,es,rfl,hm,ok,ht,fun H' nx=>?_⟩;have q:=q H' nx;have hm:=hm.same nx.same;rcases Zbw (n/256) ok.up with z | ⟨e,z1,z2,z3⟩
 · rw [(Zb3 z).1]
   rw [yaI (by rw [ZaP ok,(Zb3 z).2];intro y;cases y)] at q;show if V.non=V.non then _ else _
   rw [if_pos rfl];exact q
 · rw [(ZbG z1).1]
   have st:=(hm.st e z3).same noT_sub;obtain ⟨dx2,fs2,ho2,nf2⟩:=st.obj;show if V.ref e.loc=V.non then _ else _
   rw [if_neg (by intro y;cases y)];refine ⟨_,rfl,_,_,_,ho2,nf2.2.2.2.2.2.2.1,_,_,hh _,e.loc,e.ps,n%256,rfl,st,ok.pup e z3,ok.plt e z3,?_⟩;rw [ybF.mpr (show n%256∈e.ps↔n∈flat es by rw [ZaP ok,(ZbG z1).2])];exact q
theorem ok_putM (cP:∃ t,mg "PLACES"=some (.int 256 t))(jbv:MethAt P w K mg base CM "has" ["self","n"] 6 (spHas c CM ts))(jq:MethAt P w K mg base CM "stretch_at" ["self","key"] 5 (spStAt c CM ts))(jaE:MethAt P w K mg base CM "keep" ["self","key","stretch"] 6 (spKeep c CM ts))(jz:FnAt P w K mg base "kept" ["word"] 4 (spKept c))(jbw:FnAt P w K mg base "added" ["stretch","place"] 5 (spPut c gAdd))(cd:CD_Marks K mg CM):MethAt P w K mg base CM "put" ["self","n"] 7 (spPutM c CM ts):=by
 obtain ⟨tP,ja⟩:=cP;refine MethAt.of cd.c cd.m_put jay ?_ ?_;walk_at "F";have nd:=jay.nd;obtain ⟨m,n,es,rfl,hn,hm,ok,ht,q⟩:=h;obtain ⟨dx,fs,ho,nf⟩:=hm.obj;refine ⟨_,(Zaf (ZaC (Zbx (Zax P w K mg base 6 (pv 0) (Zaa (pv 1) Zac))) (Zae (Zak ZcL)) Zao)
     (Zaf (Zas (i:=2) (Zax P w K mg base 5 (pv 0) (Zaa (Zah Zaq (pv 1) (ZaK ja)) Zac)))
     (Zaf (Zas (i:=3) (Zah Zau (pv 1) (ZaK ja)))
     (Zaf (ZaM (Zax P w K mg base 6 (pv 0) (Zaa (Zah Zaq (pv 1) (ZaK ja)) (Zaa (Zbe (ZaH ZeF (pv 2) Zbv) (Zaj jz (Zaa (Zah ZbD Zad (pv 3)) Zac)) (Zaj jbw (Zaa (pv 2) (Zaa (pv 3) Zac)))) Zac))))
     (Zae (Zak ZcL)))))),?_⟩
 have e1:(n:Int)/256=((n/256:Nat):Int):=by omega
 have e2:(n:Int)%256=((n%256:Nat):Int):=by omega
 walk_at "vc";rw [e1,e2];refine ⟨_,_,_,(oT ho),nf.2.2.2.2.2.1,_,_,jbv,m,n,es,rfl,hn,hm,ok,ht,fun H1 nx=>⟨_,rfl,?_⟩⟩;have hm1:=hm.same nx.same;have p0:n%256<256:=ybN _ (by decide);have k0:n/256<256:=by omega
 by_cases hin:n∈flat es
 · rw [if_pos (yap hin)]
   have q:=q H1 es nx.nb hm1 ok fun x=>⟨.inl,fun z=>z.elim id fun z=>by rw [z];exact hin⟩
   rw [yap hin] at q;exact q
 rw [if_neg (by rw [yaL];exact hin)];rw [yaI hin] at q;have ho:=nx.at ho;refine ⟨_,_,_,(oT ho),nf.2.2.2.1,_,_,jq,m,n/256,es,rfl,hm1,ok,nx.tb,fun H2 nx2=>?_⟩;have hm2:=hm1.same nx2.same;have ho:=nx2.at ho;refine ⟨_,_,_,(oT ho),nf.2.2.2.2.1,_,_,jaE,?_⟩;have fin:∀ (ps:List Nat) (v:V) (H3:Hp),Up 0 ps→(∀ p∈ps,p<256)→(∀ y,y∈ps↔y∈plcE (n/256) es∨y=n%256)→Same H2 H3→KeptIs c H3 ps v→spKeep c CM ts [.ref m,.int ((n/256:Nat):Int),v] H3 (fun x H1=>Q (V.bl true) H1) E0:=by
   intro ps v H3 up lt me s3 kp;obtain ⟨a,ka⟩:=kp.noT.at
   have nx3:=nx2.tb.nx s3;have ok2:EsOk (keepE (n/256) ps a es):=ok.keep k0 up lt;exact ⟨m,n/256,es,ps,v,a,rfl,hm2.same nx3.same,ok,ka,up,lt,nx3.tb,fun H4 nb hm4=>q H4 _ (((nx.trans nx2).trans nx3).nb.trans nb) hm4 ok2 (put_mem ok ok2 me)⟩
 rcases Zbw (n/256) ok.up with z | ⟨e,z1,z2,z3⟩
 · rw [(Zb3 z).1,if_pos rfl]
   refine ⟨⟨by omega,by omega,by decide⟩,[n%256],by rw [ZfQ],Zgk _,ZfX p0,fun v H3 s3 kp=>fin _ v H3 (Zgk _) (ZfX p0) (fun y=>?_) s3 kp⟩;rw [(Zb3 z).2];simp
 · rw [(ZbG z1).1,if_neg (by intro y;cases y)]
   refine ⟨e.loc,kdOf e.ps,e.ps,n%256,rfl,(hm2.st e z3).same noT_sub,ok.pup e z3,ok.plt e z3,p0,fun v H3 s3 kp=>fin _ v H3 (ZbT _ _) (Zeu (f:=fun x=>decide (x∈e.ps)||decide (x∈[n%256]))) (fun y=>?_) s3 kp⟩;rw [(ZbG z1).2];exact ZgH (ok.plt e z3) p0
theorem Zjs (cP:∃ t,mg "PLACES"=some (.int 256 t))(jg:FnAt P w K mg base "check_number" ["thing"] 2 spChk)(jE:MethAt P w K mg base CM "found" ["self","key"] 4 (spFound c CM ts))(jo:MethAt P w K mg base CM "stands" ["self","at","key"] 1 (spStands c CM))(jT:MethAt P w K mg base CM "ahead_of" ["self","at"] 1 (spAhead c CM))(hb:∀ k,MethAt P w K mg base (c k) "below" ["self","place"] 5 (spBelowM c k))(cd:CD_Marks K mg CM):MethAt P w K mg base CM "below" ["self","n"] 6 (spBel c CM ts):=by
 obtain ⟨tP,ja⟩:=cP;refine MethAt.of cd.c cd.m_below jae ?_ ?_;walk_at "F";have nd:=jae.nd;obtain ⟨m,n,es,rfl,hn,hm,ok,ht,q⟩:=h;obtain ⟨dx,fs,ho,nf⟩:=hm.obj;refine ⟨_,(Zaf (ZaM (Zaj jg (Zaa (pv 1) Zac)))
     (Zaf (Zas (i:=2) (Zax P w K mg base 4 (pv 0) (Zaa (Zah Zaq (pv 1) (ZaK ja)) Zac)))
     (Zaf (ZaC (Zbx (Zax P w K mg base 1 (pv 0) (Zaa (pv 2) (Zaa (Zah Zaq (pv 1) (ZaK ja)) Zac)))) (Zae (Zak (Zah Zay (Za5 (Zar K) (Zap K (pv 0)) (pv 2)) (Zax P w K mg base 5 (Za5 (Zar K) (Zap K (pv 0)) (pv 2)) (Zaa (Zah Zau (pv 1) (ZaK ja)) Zac))))) Zao)
     (Zae (Zak (Zax P w K mg base 1 (pv 0) (Zaa (pv 2) Zac))))))),?_⟩
 have e1:(n:Int)/256=((n/256:Nat):Int):=by omega
 have e2:(n:Int)%256=((n%256:Nat):Int):=by omega
 walk_at "vc";rw [e1,e2];refine ⟨n,rfl,hn,_,_,_,(oT ho),nf.1,_,_,jE,m,n/256,es,rfl,hm,ok,ht,fun H1 nx=>?_⟩;have hm:=hm.same nx.same;have ho:=nx.at ho;have q:=q H1 nx;refine ⟨_,_,_,(oT ho),nf.2.1,_,_,jo,m,n/256,es,rfl,hm,ok,_,rfl,?_⟩;rcases Zbw (n/256) ok.up with z | ⟨e,z1,z2,z3⟩
 · rw [yaI (by simp [z]),if_neg (by decide)]
   refine ⟨_,_,_,(oT ho),nf.2.2.1,_,_,jT,m,_,es,rfl,hm,len_lo _,?_⟩;unfold belE at q;rw [(Zb3 z).2] at q;rw [Zer _ ok];exact q
 · rw [yap (by simp [z1]),if_pos rfl]
   have g:=Zie (n/256) ok;rw [z1] at g;have lt:(loE (n/256) es).length<es.length:=(yaT.mp g).1;have ga:=ZfY 0 es _ lt;rw [Zer _ ok,ybD] at ga;obtain ⟨dx2,kd,ah,sr,h1,h2,h3,h4⟩:=hm.ex;have st:=(hm.st e z3).same noT_sub;obtain ⟨dx3,fs3,ho3,nf3⟩:=st.obj;walk_at "vc";refine ⟨_,_,_,(oT h1),cd.c,cd.n_aheads,.ref ah,rfl,ah,rfl,_,sL h3,_,Zbj ga,?_⟩;refine ⟨_,_,_,(oT h1),cd.c,cd.n_stretches,.ref sr,rfl,sr,rfl,_,sL h4,.ref e.loc,Zc0 (by rw [yay,g];rfl),?_⟩;exact ⟨_,rfl,_,_,_,ho3,nf3.2.2.2.2.2.2.2.1,_,_,hb _,e.loc,e.ps,n%256,rfl,st,ok.pup e z3,ok.plt e z3,by omega,_,rfl,_,rfl,by
     unfold belE at q;rw [(ZbG z1).2,Int.natCast_add] at q;exact q⟩
end
section
variable {c:Kd→Addr}{ts:Tabs}
theorem esOk_nil:EsOk []:=⟨trivial,(fun _ h=>nomatch h),(fun _ h=>nomatch h),(fun _ h=>nomatch h),(fun _ h=>nomatch h)⟩
theorem mkM {R:Addr→Hp→Prop}{E:XK}(ht:Tbs ts H)(q:∀ x H',Nx ts H H'→noT H x=none→MkAt c CM (noT H') x []→R x H'):∀ x dx,H x=none→H dx=none→dx≠x→spInitM c CM ts [.ref x] (upd (upd H dx (.own x)) x (.ins CM dx [])) (fun v H'=>v=.non∧R x H') E:=by intro x dx nx ndx dne;have m2:Same H (upd (upd H dx (.own x)) x (.ins CM dx [])):=(Same.new ndx).put nx;exact ⟨x,dx,rfl,Zab,ht.same m2,fun H' nb hm=>⟨rfl,q x H' (((ht.nx m2).nb.trans nb).of_new (Zcf nx)) (Zcf nx) hm⟩⟩
end
def KPair (c:Kd→Addr)(H:Hp)(g:Nat→List Nat)(v:V)(k:Nat):Prop:=∃ (t:Addr) (u:V),v=.ref t∧H t=some (.tup [.int (k:Nat),u])∧KeptIs c H (g k) u∧Up 0 (g k)
def Gp (c:Kd→Addr)(H:Hp)(g:Nat→List Nat):List V→List Nat→Prop:=Paired (KPair c H g)
theorem Gp.same {c:Kd→Addr}{us:List V}(h:Gp c H g us ks)(s:Same H H'):Gp c H' g us ks:=Paired.mapP h fun _ _ ⟨t,u,e,h1,h2,h3⟩=>⟨t,u,e,s _ _ h1,h2.same s,h3⟩
theorem Gp.noT {c:Kd→Addr}{H:Hp}{g:Nat→List Nat}{us:List V}{ks:List Nat}(h:Gp c H g us ks):Gp c (noT H) g us ks:=Paired.mapP h fun _ _ ⟨t,u,e,h1,h2,h3⟩=>⟨t,u,e,Zan h1 (nt _),h2.noT,h3⟩
theorem Gp.get {c:Kd→Addr}{us:List V}(h:Gp c H g us ks){i:Nat}{v:V}(hi:us[i]?=some v):∃ k,ks[i]?=some k∧KPair c H g v k:=by
 induction h generalizing i with
 | nil=>cases hi
 | cons r q ih =>
   cases i with
   | zero=>cases (show _=v from Option.some.inj hi);exact ⟨_,rfl,r⟩
   | succ i=>exact ih hi
def spGath (c:Kd→Addr)(CM:Addr)(ts:Tabs):Sp:=fun vs H Q _=>∃ (l:Addr) (us:List V) (ks:List Nat) (g:Nat→List Nat),vs=[.ref l]∧noT H l=some (.lst us)∧Gp c (noT H) g us ks∧ks.Nodup∧(∀ k∈ks,k<256∧Up 0 (g k)∧∀ p∈g k,p<256)∧us.length≤1000∧Tbs ts H ∧
 ∀ m H' es,Nx ts H H'→noT H m=none→MkAt c CM (noT H') m es→EsOk es→(∀ k,plcE k es=if k∈ks then g k else [])→Q (.ref m) H'
structure GathI (c:Kd→Addr)(CM:Addr)(ts:Tabs)(l m:Addr)(ks:List Nat)(g:Nat→List Nat)(H:Hp)(i:Nat)(σ:L2.St)(H':Hp):Prop where
 ex:∃ (es:List Ent) (v2 v3:Option V),σ=[some (.ref l),some (.ref m),v2,v3]∧MkAt c CM (noT H') m es∧EsOk es∧∀ k,plcE k es=if k∈ks.take i then g k else []
 nx:Nx ts H H'
section
variable {c:Kd→Addr}{ts:Tabs}
theorem ZgZ (jbx:MakeAt P w K mg base "Marks" CM ["self"] 1 (spInitM c CM ts)) (jaE:MethAt P w K mg base CM "keep" ["self","key","stretch"] 6 (spKeep c CM ts)) (d:DefAt K mg "gathered" Zdf ["pairs"]):FnAt P w K mg base "gathered" ["pairs"] 7 (spGath c CM ts):=by
 refine FnAt.of d jaM ?_ ?_;walk_at "F";have nd:=jaM.nd;obtain ⟨l,us,ks,g,rfl,hl,hg,nd,hk,ll,ht,q⟩:=h;refine ⟨_,(Zaf (Zas (i:=1) (Zi2 jbx (hr.mono (by decide)) rfl))
     (Zaf (Za0 zak rfl (ZaD K (pv 0)) (ZbF K rfl (ZaA (Za4 (i:=2)) (ZaA (Za4 (i:=3)) Zbp))) (Zae (ZaC (ZaH Zim (pv 3) Zbv) (Zae (ZaM (Zax P w K mg base 6 (pv 1) (Zaa (pv 2) (Zaa (pv 3) Zac))))) Zao)))
     (Zae (Zak (pv 1))))),?_⟩
 walk_at "vc";refine mkM ht fun m H1 nx1 nm hm1=>?_
 have hl1:=nx1.at hl;have hg1:=hg.same nx1.same;refine ⟨⟨_,sL hl1⟩,loopL (xs:=us) (GathI c CM ts l m ks g H) ⟨⟨[],_,_,rfl,hm1,esOk_nil,fun k=>rfl⟩,nx1⟩ ?_ ?_ ?_⟩
 · rintro i σ H2 hi ⟨_,nx⟩
   exact sL (nx.at hl)
 · rintro i x σ H2 hi ⟨⟨es,v2,v3,rfl,hm2,ok,pl⟩,nx⟩
   obtain ⟨k,hki,t,u,rfl,h1,h2,_⟩:=(hg.same nx.same).get hi;obtain ⟨k0,up,lt⟩:=hk k (yaq hki);have tk:ks.take (i+1)=ks.take i++[k]:=by rw [ybo,hki];rfl
   have nk:k∉ks.take i:=fun z=>by
     have nd2:=(yat i ks) ▸ nd;have dr:k∈ks.drop i:=yaq (i:=0) (by rw [List.getElem?_drop,ybL];exact hki);exact (List.nodup_append.mp nd2).2.2 k z k dr rfl
   walk_at "vc";refine ⟨_,SqT.of (oT h1),rfl,_,_,rfl,_,_,rfl,rfl,?_⟩;have inT:∀ j,j∈ks.take (i+1)↔j∈ks.take i∨j=k:=fun j=>by rw [tk,yai,yal]
   by_cases e0:g k=[]
   · rw [if_pos (h2.1 e0)]
     refine ⟨⟨es,_,_,rfl,hm2,ok,fun j=>?_⟩,nx⟩;rw [pl j];by_cases c1:j∈ks.take i
     · rw [if_pos c1,if_pos ((inT j).mpr (.inl c1))]
     · rw [if_neg c1]
       by_cases c2:j=k
       · rw [if_pos ((inT j).mpr (.inr c2)),c2,e0]
       · rw [if_neg (fun z=>((inT j).mp z).elim c1 c2)]
   · obtain ⟨a,rfl,st⟩:=h2.2 e0
     rw [if_neg (by intro z;cases z)];obtain ⟨dx,fs,ho,nf⟩:=hm2.obj;obtain ⟨o,hmo,f4⟩:=hm2.four;refine ⟨_,_,_,(oT ho),nf.2.2.2.2.1,_,_,jaE,m,k,es,g k,_,a,rfl,hm2,ok,⟨fun z=>absurd z e0,fun _=>⟨rfl,st⟩⟩,up,lt,nx.tb,fun H3 nb hm3=>⟨⟨_,_,_,rfl,hm3,ok.keep k0 up lt,fun j=>?_⟩,?_⟩⟩
     · rw [Zhm,pl j]
       by_cases c2:j=k
       · rw [if_pos c2,if_pos ((inT j).mpr (.inr c2)),c2]
       · rw [if_neg c2]
         by_cases c1:j∈ks.take i
         · rw [if_pos c1,if_pos ((inT j).mpr (.inl c1))]
         · rw [if_neg c1,if_neg (fun z=>((inT j).mp z).elim c1 c2)]
     · exact (nx.nb.trans nb).of_new nm
 · rintro σ H2 ⟨⟨es,v2,v3,rfl,hm2,ok,pl⟩,nx⟩
   walk_at "vc";have ek:us.length=ks.length:=Paired.length hg;rw [yam (by omega)] at pl;exact q m H2 es nx nm hm2 ok pl
structure DW (kvs:List (Key × V))(ks:List Nat)(g:Nat→List Nat):Prop where
 keys:kvs.map (·.1)=ks.map fun (k:Nat)=>Sum.inl (k:Int)
 nd:ks.Nodup
 ok:∀ k∈ks,k<256∧Up 0 (g k)∧∀ p∈g k,p<256
 val:∀ k∈ks,valV kvs (Sum.inl (k:Int))=some (.int (wd (g k):Nat))
def spOfWords (c:Kd→Addr)(CM:Addr)(ts:Tabs):Sp:=fun vs H Q _=>∃ (d:Addr) (kvs:List (Key × V)) (ks:List Nat) (g:Nat→List Nat),vs=[.ref d]∧noT H d=some (.dK kvs)∧DW kvs ks g∧ks.length≤256∧Tbs ts H ∧
 ∀ m H' es,Nx ts H H'→noT H m=none→MkAt c CM (noT H') m es→EsOk es→(∀ k,plcE k es=if k∈ks then g k else [])→Q (.ref m) H'
structure OfI (c:Kd→Addr)(zs:List Nat)(g:Nat→List Nat)(H1:Hp)(D:Addr)(i:Nat)(ys:List V)(H2:Hp):Prop where
 le:i≤zs.length
 len:ys.length=i
 same:Same H1 H2
 hD:H2 D=some (.lst ys)
 gp:Gp c H2 g ys (zs.take i)
theorem ZiX (u:Up 0 ps)(h:ps≠[]):runsOf ps≠[]:=fun e=>h (by rw [← (runs_ok u).1,e];rfl)
theorem StAt.away {c:Kd→Addr} {k:Kd} {x D:Addr} {o:HO} (h:StAt c k H x ps) (u:Up 0 ps) (ne:ps≠[]) (hD:H D=some (.lst ys)) (al:∀ y∈ys,∃ (t:Addr) (i:Int) (v:V),y=.ref t∧H t=some (.tup [.int i,v])∧∀ z,v≠.int z):StAt c k (upd H D o) x ps:=by
 cases k with
 | l =>
   obtain ⟨dx,l,e,h⟩:=h;refine ⟨dx,l,?_,?_⟩
   · rw [Zai (fun z=>by rw [z,hD] at e;cases e)];exact e
   · rw [Zai (fun z=>?_)];exact h
     rw [z,hD] at h;cases ps with
     | nil=>exact ne rfl
     | cons p r =>
       have:ys=pint (p::r):=by cases h;rfl
       obtain ⟨t,i,v,e1,_⟩:=al (.int (p:Nat)) (by rw [this];exact .head _);cases e1
 | b =>
   obtain ⟨dx,e⟩:=h;refine ⟨dx,?_⟩;rw [Zai (fun z=>by rw [z,hD] at e;cases e)];exact e
 | r =>
   obtain ⟨dx,l,e,us,h,t⟩:=h;refine ⟨dx,l,?_,us,?_,Paired.mapP t fun _ _ ⟨t,e,ht⟩=>⟨t,e,?_⟩⟩
   · rw [Zai (fun z=>by rw [z,hD] at e;cases e)];exact e
   · rw [Zai (fun z=>?_)];exact h
     rw [z,hD] at h;have eu:ys=us:=by cases h;rfl
     have nr:=ZiX u ne;generalize runsOf ps=rs at t nr;cases t with
     | nil=>exact nr rfl
     | cons r q =>
       obtain ⟨t1,e1,ht1⟩:=r;obtain ⟨t2,i,v,e2,ht2,nv⟩:=al _ (by rw [eu];exact .head _);rw [e1] at e2;cases e2;rw [ht1] at ht2;cases ht2;exact nv _ rfl
   · rw [Zai (fun z=>by rw [z,hD] at ht;cases ht)];exact ht
theorem KeptIs.noInt {c:Kd→Addr}{v:V}(h:KeptIs c H ps v):∀ z,v≠.int z:=fun z e=>by
 by_cases c:ps=[]
 · rw [h.1 c] at e;cases e
 · obtain ⟨x,e2,_⟩:=h.2 c
   rw [e2] at e;cases e
theorem Gp.all {c:Kd→Addr}{us:List V}(h:Gp c H g us ks):∀ y∈us,∃ (t:Addr) (i:Int) (v:V),y=.ref t∧H t=some (.tup [.int i,v])∧∀ z,v≠.int z:=fun y hy=>by
 obtain ⟨i,hi⟩:=List.getElem?_of_mem hy;obtain ⟨k,_,t,u,e,h1,h2,_⟩:=h.get hi;exact ⟨t,k,u,e,h1,h2.noInt⟩
theorem KPair.away {c:Kd→Addr}{D:Addr}{v:V}{k:Nat}{o:HO}(h:KPair c H g v k)(hD:H D=some (.lst ys))(al:∀ y∈ys,∃ (t:Addr) (i:Int) (v:V),y=.ref t∧H t=some (.tup [.int i,v])∧∀ z,v≠.int z):KPair c (upd H D o) g v k:=by
 obtain ⟨t,u,e,h1,h2,h3⟩:=h;refine ⟨t,u,e,?_,⟨h2.1,fun n=>?_⟩,h3⟩
 · rw [Zai (fun z=>by rw [z,hD] at h1;cases h1)];exact h1
 · obtain ⟨x,e2,st⟩:=h2.2 n
   exact ⟨x,e2,st.away h3 n hD al⟩
theorem Gp.snoc {c:Kd→Addr}:∀ {us:List V} {ks:List Nat} {v:V} {k:Nat},Gp c H g us ks→KPair c H g v k→Gp c H g (us++[v]) (ks++[k])
 | _,_,_,_,.nil,h=>.cons h .nil
 | _,_,_,_,.cons r q,h=>.cons r (Gp.snoc q h)
theorem Zht (B:Blt mg)(jz:FnAt P w K mg base "kept" ["word"] 4 (spKept c))(jt:FnAt P w K mg base "gathered" ["pairs"] 7 (spGath c CM ts))(d:DefAt K mg "of_words" Zdl ["words"]):FnAt P w K mg base "of_words" ["words"] 8 (spOfWords c CM ts):=by
 refine FnAt.of d jaL ?_ ?_;walk_at "F";have nd:=jaL.nd;obtain ⟨d,kvs,ks,g,rfl,hd,dw,lk,ht,q⟩:=h;refine ⟨_,(Zae (Zak (Zaj jt (Zaa (Zcq ["key"] [0] rfl (ZaD K (Zaw ZbC rfl B.sorted L2.boot_sorted (Zaa (pv 0) Zac))) (fun _ _ _ _ _=>ZaS (i:=0) (by show List.Nodup (["key","words"]:List Str);decide +kernel) rfl (Or.inl rfl)) (fun _ _ _ _ _=>ZbB) (fun _ _ _ _ _=>(ZaR (Zaa (pv 0) (Zaa (Zaj jz (Zaa (Zip (hu1 hr) (pv 1) (pv 0) (fun _ _=>rfl)) Zac)) Zac)))) ⟨⟨_,rfl,rfl,.inl rfl⟩,trivial⟩ ZaQ) Zac)))),?_⟩;walk_at "vc";have hd:=(oT hd)
 refine ⟨kvs,hd,ks.map fun (k:Nat)=>(k:Int),by rw [dw.keys,ybh];rfl,fun l ns fl pm _=>?_⟩;obtain ⟨zs,rfl,pz⟩:∃ zs:List Nat,ns=zs.map (fun (k:Nat)=>(k:Int))∧zs.Perm ks:=by
   refine ⟨ns.map Int.toNat,?_,?_⟩
   · rw [ybh]
     refine (List.map_id ns).symm.trans (ybQ fun y hy=>?_);obtain ⟨k,_,rfl⟩:=yaD.mp (pm.mem_iff.mp hy);show (k:Int)=((k:Int).toNat:Int)
     rw [yao]
   · have:=pm.map Int.toNat
     rw [ybh] at this;have e:ks.map (Int.toNat ∘ fun (k:Nat)=>(k:Int))=ks:=(ybQ fun y hy=>yao y).trans (List.map_id ks);rw [e] at this;exact this
 have lz:zs.length=ks.length:=pz.length_eq;rw [← Zbu];have s1:=Same.new (o:=.lst (pint zs)) fl;have hl:upd H l (.lst (pint zs)) l=some (.lst (pint zs)):=Zab;have hd:=s1 _ _ hd;generalize upd H l (.lst (pint zs))=H1 at s1 hl hd ⊢;refine ⟨⟨_,SqL.of hl⟩,compG (n:=zs.length) (OfI c zs g H1) (fun D nD=>⟨yau _,rfl,Same.new nD,Zab,.nil⟩) (fun D i ys H h=>h.le) ?_ ?_ ?_ ?_⟩
 · rintro D ys H3 nD ⟨_,_,sm,_,_⟩
   exact ⟨_,SqL.of (sm _ _ hl),by rw [Zal];exact yad _⟩
 · rintro D i ys H3 nD hi ⟨_,_,sm,_,_⟩
   exact ⟨_,_,SqL.of (sm _ _ hl),yae (by rw [Zal];exact hi)⟩
 · rintro D i ys H3 x H4 nD hi ⟨le,len,sm,hD,gp⟩ ⟨rfl,yy⟩
   obtain ⟨p,hp,rfl⟩:=ZaT (yy _ (SqL.of (sm _ _ hl)));have pk:p∈ks:=pz.mem_iff.mp (yaq hp);obtain ⟨p0,up,lt⟩:=dw.ok p pk;walk_at "vc";have dg:=DGet.k (k:=Sum.inl (p:Int)) (sm _ _ hd);rw [dw.val p pk] at dg;refine ⟨_,dg,g p,rfl,up,lt,fun u H5 s5 kp=>⟨by decide,fun t ft=>?_⟩⟩;have s6:=Same.new (o:=.tup [V.int (p:Nat),u]) ft;have g6:upd H5 t (.tup [V.int (p:Nat),u]) t=some (.tup [V.int (p:Nat),u]):=Zab;have kp:=kp.same s6;generalize upd H5 t (.tup [V.int (p:Nat),u])=H6 at s6 g6 kp ⊢;have S:=s5.trans s6;have hD:=S _ _ hD;have gp:=gp.same S;have al:=gp.all;have tk:zs.take (i+1)=zs.take i++[p]:=by rw [ybo,hp];rfl
   refine compYes (by omega) hi (by omega) hD ⟨hi,by rw [yac,len];rfl,(sm.trans S).put nD,Zab,?_⟩;rw [tk];exact Gp.snoc (Paired.mapP gp fun _ _ h=>KPair.away h hD al) (KPair.away ⟨t,u,rfl,g6,kp,up⟩ hD al)
 · rintro D ys H3 nD ⟨le,len,sm,hD,gp⟩
   rw [yam (yad _)] at gp;have nx:=ht.nx (s1.trans sm);refine ⟨D,ys,zs,g,rfl,Zan hD (nl _),gp.noT,pz.nodup_iff.mpr dw.nd,fun k hk=>dw.ok k (pz.mem_iff.mp hk),by omega,nx.tb,fun m H' es nx2 nm hm ok pl=>q m H' es (nx.trans nx2) (nx.free nm) hm ok fun k=>?_⟩;rw [pl k];by_cases z:k∈ks
   · rw [if_pos z,if_pos (pz.mem_iff.mpr z)]
   · rw [if_neg z,if_neg (fun y=>z (pz.mem_iff.mp y))]
theorem Zfr (kvs:List (Key × V))(k:Key)(v:V):(putK kvs k v).map (·.1)=if (valV kvs k).isSome=true then kvs.map (·.1) else kvs.map (·.1)++[k]:=by
 unfold putK;rw [ZbM];split
 · rw [ybh]
   refine ybQ fun kv _=>?_
   show (if kv.1=k then (kv.1,v) else kv).1=kv.1;split<;>rfl
 · rw [yaQ]
   rfl
def spMarksOf (c:Kd→Addr)(CM:Addr)(ts:Tabs):Sp:=fun vs H Q _=>∃ (l:Addr) (ns:List Nat),vs=[.ref l]∧noT H l=some (.lst (pint ns))∧(∀ n∈ns,n≤65535)∧ns.length≤1000∧Tbs ts H ∧
 ∀ m H' es,Nx ts H H'→noT H m=none→MkAt c CM (noT H') m es→EsOk es→(∀ x,x∈flat es↔x∈ns)→Q (.ref m) H'
structure MoI (l:Addr)(ns:List Nat)(H:Hp)(i:Nat)(σ:L2.St)(H':Hp):Prop where
 ex:∃ (d:Addr) (kvs:List (Key × V)) (ks:List Nat) (g:Nat→List Nat) (v2:Option V),σ=[some (.ref l),some (.ref d),v2]∧H d=none∧H' d=some (.dK kvs)∧DW kvs ks g∧(∀ k,k∉ks→g k=[]∧valV kvs (Sum.inl (k:Int))=none)∧∀ x,x%256∈g (x/256)↔x∈ns.take i
 same:Same H H'
theorem Zc3 (nd:ks.Nodup)(h:∀ k∈ks,k<256):ks.length≤256:=by
 have:=nd.length_le_of_subset (l₂:=List.range 256) fun k hk=>ybW.mpr (h k hk)
 rw [ybz] at this;exact this
theorem DW.put {n:Nat}(dw:DW kvs ks g)(no:∀ k,k∉ks→g k=[]∧valV kvs (Sum.inl (k:Int))=none)(hn:n≤65535) :
   let g':Nat→List Nat:=fun k=>if k=n/256 then gAdd (g (n/256)) (n%256) else g k
   let ks':List Nat:=if n/256∈ks then ks else ks++[n/256]
   let kvs':=putK kvs (Sum.inl ((n/256:Nat):Int)) (.int (wd (gAdd (g (n/256)) (n%256)):Nat))
   DW kvs' ks' g'∧(∀ k,k∉ks'→g' k=[]∧valV kvs' (Sum.inl (k:Int))=none):=by
 intro g' ks' kvs';have iff_ks:∀ k,k∈ks'↔k∈ks∨k=n/256:=fun k=>by
   show k∈(if n/256∈ks then ks else ks++[n/256])↔_;split
   · rename_i h
     exact ⟨.inl,fun z=>z.elim id fun z=>by rw [z];exact h⟩
   · rw [yai,yal]
 have vals:∀ k:Nat,valV kvs' (Sum.inl (k:Int))=if k=n/256 then some (.int (wd (gAdd (g (n/256)) (n%256)):Nat)) else valV kvs (Sum.inl (k:Int)):=fun k=>by
   show valV (putK kvs (Sum.inl ((n/256:Nat):Int)) _) (Sum.inl (k:Int))=_;rw [ZeI];by_cases c:k=n/256
   · rw [if_pos (by rw [c]),if_pos c]
   · rw [if_neg (by intro z;exact c (Int.ofNat.inj (Sum.inl.inj z))),if_neg c]
 have some_iff:(valV kvs (Sum.inl ((n/256:Nat):Int))).isSome=true↔n/256∈ks:=by
   by_cases c:n/256∈ks
   · rw [dw.val _ c];simp [c]
   · rw [(no _ c).2];simp [c]
 refine ⟨⟨?_,?_,fun k hk=>?_,fun k hk=>?_⟩,fun k hk=>?_⟩
 · show (putK kvs _ _).map (·.1)=_
   rw [Zfr];show _=(if n/256∈ks then ks else ks++[n/256]).map _;by_cases c:n/256∈ks
   · rw [if_pos (some_iff.mpr c),if_pos c,dw.keys]
   · rw [if_neg (fun z=>c (some_iff.mp z)),if_neg c,dw.keys,yaQ]
     rfl
 · show (if n/256∈ks then ks else ks++[n/256]).Nodup
   split
   · exact dw.nd
   · rename_i h
     exact Zgj dw.nd h
 · have gk:g' k=if k=n/256 then gAdd (g (n/256)) (n%256) else g k:=rfl
   rw [gk];by_cases c:k=n/256
   · rw [if_pos c]
     exact ⟨by omega,ZbT _ _,Zeu (f:=fun x=>decide (x∈g (n/256))||decide (x∈[n%256]))⟩
   · rw [if_neg c]
     exact dw.ok k (((iff_ks k).mp hk).resolve_right c)
 · rw [vals]
   have gk:g' k=if k=n/256 then gAdd (g (n/256)) (n%256) else g k:=rfl
   rw [gk];by_cases c:k=n/256
   · rw [if_pos c,if_pos c]
   · rw [if_neg c,if_neg c]
     exact dw.val k (((iff_ks k).mp hk).resolve_right c)
 · have nk:k∉ks∧k≠n/256:=⟨fun z=>hk ((iff_ks k).mpr (.inl z)),fun z=>hk ((iff_ks k).mpr (.inr z))⟩
   have gk:g' k=if k=n/256 then gAdd (g (n/256)) (n%256) else g k:=rfl
   rw [gk,vals,if_neg nk.2,if_neg nk.2];exact no k nk.1
theorem ZgT (cP:∃ t,mg "PLACES"=some (.int 256 t)) (jg:FnAt P w K mg base "check_number" ["thing"] 2 spChk) (ju:FnAt P w K mg base "of_words" ["words"] 8 (spOfWords c CM ts)) (d:DefAt K mg "marks_of" Zde ["numbers"]):FnAt P w K mg base "marks_of" ["numbers"] 9 (spMarksOf c CM ts):=by
 obtain ⟨tP,ja⟩:=cP;refine FnAt.of d jaK ?_ ?_;walk_at "F";have nd:=jaK.nd;obtain ⟨l,ns,rfl,hl,hn,ll,ht,q⟩:=h;refine ⟨_,(Zaf (Zas (i:=1) ZcV)
     (Zaf (Za0 zak rfl (ZaD K (pv 0)) (Za4 (i:=2)) (Zaf (ZaM (Zaj jg (Zaa (pv 2) Zac)))
     (Zae (Zdz (hu1 hr) (pv 1) (Zah Zaq (pv 2) (ZaK ja)) (Zah ZeX (Zgq (hu1 hr) (pv 1) (Zah Zaq (pv 2) (ZaK ja)) Zad ⟨rfl,rfl,rfl,rfl⟩) (Zah ZbD Zad (Zah Zau (pv 2) (ZaK ja)))) rfl))))
     (Zae (Zak (Zaj ju (Zaa (pv 1) Zac)))))),?_⟩
 walk_at "vc";have hl:=(oT hl)
 intro d nd;have sd:Same H (upd H d (.dK [])):=Same.new nd;refine ⟨⟨_,SqL.of (sd _ _ hl)⟩,loopL (xs:=pint ns) (MoI l ns H) ⟨⟨d,[],[],fun _=>[],_,rfl,nd,Zab,⟨rfl,ycf,(fun _ h=>nomatch h),(fun _ h=>nomatch h)⟩,fun k _=>⟨rfl,rfl⟩,fun x=>⟨(fun h=>nomatch h),(fun h=>nomatch h)⟩⟩,sd⟩ ?_ ?_ ?_⟩
 · rintro i σ H2 hi ⟨_,sm⟩
   exact SqL.of (sm _ _ hl)
 · rintro i x σ H2 hi ⟨⟨d,kvs,ks,g,v2,rfl,nd,hd,dw,no,me⟩,sm⟩
   obtain ⟨n,hni,rfl⟩:=ZaT hi;have n0:=hn n (yaq hni);have tk:ns.take (i+1)=ns.take i++[n]:=by rw [ybo,hni];rfl
   have e1:(n:Int)/256=((n/256:Nat):Int):=by omega
   have e2:(n:Int)%256=((n%256:Nat):Int):=by omega
   walk_at "vc";rw [e1,e2];have dg:=DGet.k (k:=Sum.inl ((n/256:Nat):Int)) hd;have p0:n%256<256:=ybN _ (by decide);have gk:Up 0 (g (n/256))∧(∀ p∈g (n/256),p<256)∧(valV kvs (Sum.inl ((n/256:Nat):Int))).getD (V.int 0)=.int (wd (g (n/256)):Nat):=by
     by_cases z:n/256∈ks
     · rw [dw.val _ z]
       exact ⟨(dw.ok _ z).2.1,(dw.ok _ z).2.2,rfl⟩
     · rw [(no _ z).2,(no _ z).1]
       exact ⟨trivial,(fun _ h=>nomatch h),rfl⟩
   obtain ⟨dw2,no2⟩:=dw.put no n0;refine ⟨n,rfl,n0,.inl ⟨kvs,.inl hd⟩,_,dg,⟨by omega,by omega,by decide⟩,_,gk.2.2,_,DPut.k (k:=Sum.inl ((n/256:Nat):Int)) hd ?_,⟨d,_,_,_,_,rfl,nd,?_,dw2,no2,fun x=>?_⟩,sm.put nd⟩
   · have:=Zc3 dw.nd fun k hk=>(dw.ok k hk).1
     have l2:=congrArg List.length dw.keys;rw [yaa,yaa] at l2;exact small1000 (by omega)
   · rw [Zab,ZfQ,ZfW gk.1 (Zgk _) gk.2.1 (ZfX p0)]
     rfl
   · rw [tk,yai,yal,← me]
     show x%256∈(if x/256=n/256 then gAdd (g (n/256)) (n%256) else g (x/256))↔_;by_cases c:x/256=n/256
     · rw [if_pos c,ZgH gk.2.1 p0,c]
       constructor
       · rintro (z | z)
         · exact .inl z
         · exact .inr (by omega)
       · rintro (z | z)
         · exact .inl z
         · exact .inr (by omega)
     · rw [if_neg c]
       constructor
       · exact .inl
       · rintro (z | z)
         · exact z
         · exact absurd (by rw [z]) c
 · rintro σ H2 ⟨⟨d,kvs,ks,g,v2,rfl,nd,hd,dw,no,me⟩,sm⟩
   walk_at "vc";rw [Zal,yam (yad _)] at me;have nx:=ht.nx sm;refine ⟨d,kvs,ks,g,rfl,Zan hd (L2.nd _),dw,Zc3 dw.nd fun k hk=>(dw.ok k hk).1,nx.tb,fun m H' es nx2 nm hm ok pl=>q m H' es (nx.trans nx2) (nx.free nm) hm ok fun x=>?_⟩;rw [ZaP ok,pl,← me];by_cases z:x/256∈ks
   · rw [if_pos z]
   · rw [if_neg z,(no _ z).1]
end
def cntA (k:Nat)(es:List Ent):Nat:=((ahs 0 es).filter fun y=>decide (y≤k)).length
theorem cntA_eq (k:Nat)(es:List Ent):cnt (fun x=>decide (x≤(k:Int))) ((ahs 0 es).map fun (p:Nat)=>(p:Int))=cntA k es:=by
 unfold cnt cntA;rw [ybY,yaa];congr 1
 refine ybO fun x _=>?_
 show decide ((x:Int)≤(k:Int))=_;rw [ybF];omega
def spChk39 (c:Kd→Addr)(CM:Addr):Sp:=fun vs H Q _=>∃ (m:Addr) (es:List Ent) (k:Nat),vs=[.ref m,.int k]∧MkAt c CM (noT H) m es∧k<tot es∧Q .non H
def spCh39 (c:Kd→Addr)(CM:Addr)(ts:Tabs):Sp:=fun vs H Q _=>∃ (m:Addr) (es:List Ent) (k:Nat),vs=[.ref m,.int k]∧MkAt c CM (noT H) m es∧EsOk es∧k<tot es∧Tbs ts H∧∀ (x:Nat) H',(flat es)[k]?=some x→Nx ts H H'→Q (.int (x:Nat)) H'
def spOn39 (c:Kd→Addr)(CM:Addr)(ts:Tabs):Sp:=fun vs H Q _=>∃ (m:Addr) (es:List Ent) (n:Nat),vs=[.ref m,.int n]∧n≤65535∧MkAt c CM (noT H) m es∧EsOk es∧Tbs ts H∧(belE n es<tot es→∀ (x:Nat) H',(flat es)[belE n es]?=some x→Nx ts H H'→Q (.int (x:Nat)) H')∧(¬ belE n es<tot es→∀ H',Nx ts H H'→Q .non H')
def spBack39 (c:Kd→Addr)(CM:Addr)(ts:Tabs):Sp:=fun vs H Q _=>∃ (m:Addr) (es:List Ent) (n:Nat),vs=[.ref m,.int n]∧n≤65535∧MkAt c CM (noT H) m es∧EsOk es∧Tbs ts H∧(n∈flat es→∀ H',Nx ts H H'→Q (.int (n:Nat)) H')∧(n∉flat es→0<belE n es→∀ (x:Nat) H',(flat es)[belE n es-1]?=some x→Nx ts H H'→Q (.int (x:Nat)) H')∧(n∉flat es→¬ 0<belE n es→∀ H',Nx ts H H'→Q .non H')
section
variable {c:Kd→Addr}{ts:Tabs}
theorem Zic {es:List Ent}(ok:EsOk es):((ahs 0 es).map fun (p:Nat)=>(p:Int)).length≤1000:=by have:=ZbY ok;rw [yaa,Zbo];omega
theorem ok_chk39 (jr:FnAt P w K mg base "is_whole" ["thing"] 1 spIsWhole)(cd:CD_Marks K mg CM):MethAt P w K mg base CM "check_place" ["self","k"] 2 (spChk39 c CM):=by refine MethAt.of cd.c cd.m_check_place jx ?_ ?_;walk_at "F";have nd:=jx.nd;obtain ⟨m,es,k,rfl,hm,hk,q⟩:=h;obtain ⟨dx,kd,ah,sr,h1,h2,h3,h4⟩:=hm.ex;refine ⟨_,(Zae (ZaC (PW.pt (Zew (ZcS (Zbx (Zaj jr (Zaa (pv 1) Zac)))) (ZdY (ZcS (ZdF ZcK Zc6 Zad (pv 1) (Zap K (pv 0))))))) (Zae (Zhk)) Zao)),?_⟩;walk_at "vc";refine ⟨_,rfl,_,rfl,?_⟩;rw [if_neg (by decide),if_pos (by omega)];refine ⟨_,_,_,(oT h1),cd.c,cd.n_held,_,rfl,_,rfl,?_⟩;rw [if_pos (by omega)];exact q
theorem ok_ch39 (cP:∃ t,mg "PLACES"=some (.int 256 t))(jaA:MethAt P w K mg base CM "check_place" ["self","k"] 2 (spChk39 c CM))(jaN:FnAt P w K mg base "halved_counts" ["aheads","k"] 3 (spHKt ts (fun y k=>decide (k≤y)) 1))(hc:∀ k,MethAt P w K mg base (c k) "chosen" ["self","k"] 5 (spChosenM c k))(cd:CD_Marks K mg CM):MethAt P w K mg base CM "chosen" ["self","k"] 6 (spCh39 c CM ts):=by
 obtain ⟨tP,ja⟩:=cP;refine MethAt.of cd.c cd.m_chosen jaa ?_ ?_;walk_at "F";have nd:=jaa.nd;obtain ⟨m,es,k,rfl,hm,ok,hk,ht,q⟩:=h;obtain ⟨dx,kd,ah,sr,h1,h2,h3,h4⟩:=hm.ex;refine ⟨_,(Zaf (ZaM (Zax P w K mg base 2 (pv 0) (Zaa (pv 1) Zac)))
     (Zaf (Zas (i:=2) (Za5 (ZdD K) (Zaj jaN (Zaa (Zap K (pv 0)) (Zaa (pv 1) Zac))) Zad))
     (Zae (Zak (Zah Zay (Zah ZaZ (Za5 (Zar K) (Zap K (pv 0)) (pv 2)) (ZaK ja)) (Zax P w K mg base 5 (Za5 (Zar K) (Zap K (pv 0)) (pv 2)) (Zaa (Zah ZaX (pv 1) (Za5 (Zar K) (Zap K (pv 0)) (pv 2))) Zac))))))),?_⟩
 walk_at "vc";refine ⟨_,_,_,(oT h1),rfl,_,_,jaA,m,es,k,rfl,hm,hk,?_⟩;refine ⟨_,_,_,(oT h1),cd.c,cd.n_aheads,.ref ah,rfl,ah,_,k,rfl,by rw [h3,Zbu],Zic ok,ZhV (fun a b h p=>yap (Int.le_trans (Int.le_of_lt h) (yaS p))) (Zds (ahs_up 0 es ok.ne)),ht,fun t l H1 nx f1 f2 g1 g2=>?_⟩;obtain ⟨n,e,x,pp,e1,e2,e3,e4,e5,e6⟩:=Zgw 0 es k (yau _) (by omega);have en:((cnt (fun x=>decide (x≤(k:Int))) ((ahs 0 es).map fun (p:Nat)=>(p:Int)):Nat):Int)-1=(n:Int):=by rw [cntA_eq];unfold cntA;rw [e1];omega
 rw [en] at g1;refine ⟨t,rfl,_,SqT.of (oT g1),_,rfl,?_⟩;have he:=yaq e2;have st:=((hm.st e he).same nx.same).same noT_sub;obtain ⟨dx3,fs3,ho3,nf3⟩:=st.obj;have h1:=nx.at h1;have h2:=nx.at h2;have h3:=nx.at h3;have h4:=nx.at h4;refine ⟨_,_,_,(oT h1),cd.c,cd.n_keyed,_,rfl,kd,rfl,_,n,rfl,sL h2,_,Zbj (Zeo e2),_,rfl,_,_,_,(oT h1),cd.c,cd.n_stretches,_,rfl,sr,rfl,_,n,rfl,sL h4,.ref e.loc,Zc0 (by rw [yay,e2];rfl),?_⟩;have kx:(k:Int)-(x:Int)=((k-x:Nat):Int):=by omega
 have eg:e.ps.getD (k-x) 0=pp:=by rw [yaC,e5];rfl
 refine ⟨e.loc,rfl,_,_,_,ho3,nf3.2.2.2.2.2.2.2.2.1,_,_,hc _,_,_,_,(oT h1),cd.c,cd.n_aheads,_,rfl,ah,rfl,_,n,rfl,sL h3,_,Zbj e3,_,rfl,?_⟩;rw [kx];refine ⟨e.loc,e.ps,k-x,rfl,st,ok.pup e he,ok.plt e he,(yaT.mp e5).1,?_⟩;rw [eg];refine ⟨_,rfl,?_⟩;have:=q (256*e.key+pp) H1 e6 nx;rw [show (e.key:Int)*256+(pp:Int)=((256*e.key+pp:Nat):Int) by omega];exact this
theorem ok_on39 (jw:MethAt P w K mg base CM "below" ["self","n"] 6 (spBel c CM ts))(j1:MethAt P w K mg base CM "chosen" ["self","k"] 6 (spCh39 c CM ts))(cd:CD_Marks K mg CM):MethAt P w K mg base CM "onward" ["self","n"] 7 (spOn39 c CM ts):=by
 refine MethAt.of cd.c cd.m_onward j9 ?_ ?_;walk_at "F";have nd:=j9.nd;obtain ⟨m,es,n,rfl,hn,hm,ok,ht,q1,q2⟩:=h;obtain ⟨dx,kd,ah,sr,h1,_⟩:=hm.ex;refine ⟨_,(Zaf (Zas (i:=2) (Zax P w K mg base 6 (pv 0) (Zaa (pv 1) Zac)))
     (Zae (Zak (Zbe (ZaH Zc6 (pv 2) (Zap K (pv 0))) (Zax P w K mg base 6 (pv 0) (Zaa (pv 2) Zac)) Zbv)))),?_⟩
 walk_at "vc";refine ⟨_,_,_,(oT h1),rfl,_,_,jw,m,n,es,rfl,hn,hm,ok,ht,fun H1 nx=>?_⟩;refine ⟨_,_,_,(oT (nx.at h1)),cd.c,cd.n_held,_,rfl,_,rfl,_,rfl,?_⟩;by_cases b:belE n es<tot es
 · rw [if_pos (by omega)]
   exact ⟨_,_,_,(oT (nx.at h1)),rfl,_,_,j1,m,es,belE n es,rfl,hm.same nx.same,ok,b,nx.tb,fun x H' e nx2=>q1 b x H' e (nx.trans nx2)⟩
 · rw [if_neg (by omega)]
   exact q2 b H1 nx
theorem ZjH (h_has:MethAt P w K mg base CM "has" ["self","n"] 6 (spHas c CM ts))(jw:MethAt P w K mg base CM "below" ["self","n"] 6 (spBel c CM ts))(j1:MethAt P w K mg base CM "chosen" ["self","k"] 6 (spCh39 c CM ts))(cd:CD_Marks K mg CM):MethAt P w K mg base CM "backward" ["self","n"] 7 (spBack39 c CM ts):=by
 refine MethAt.of cd.c cd.m_backward jQ ?_ ?_;walk_at "F";have nd:=jQ.nd;obtain ⟨m,es,n,rfl,hn,hm,ok,ht,q1,q2,q3⟩:=h;obtain ⟨dx,kd,ah,sr,h1,_⟩:=hm.ex;refine ⟨_,(Zaf (ZaC (Zbx (Zax P w K mg base 6 (pv 0) (Zaa (pv 1) Zac))) (Zae (Zak (pv 1))) Zao)
     (Zaf (Zas (i:=2) (Zax P w K mg base 6 (pv 0) (Zaa (pv 1) Zac)))
     (Zae (Zak (Zbe (ZaH op_gt (pv 2) Zad) (Zax P w K mg base 6 (pv 0) (Zaa (Zah ZaX (pv 2) Zad) Zac)) Zbv))))),?_⟩
 walk_at "vc";refine ⟨_,_,_,(oT h1),rfl,_,_,h_has,m,n,es,rfl,hn,hm,ok,ht,fun H1 nx=>⟨_,rfl,?_⟩⟩;by_cases hin:n∈flat es
 · rw [if_pos (yap hin)]
   exact q1 hin H1 nx
 · rw [if_neg (by rw [yaL];exact hin)]
   refine ⟨_,_,_,(oT (nx.at h1)),rfl,_,_,jw,m,n,es,rfl,hn,hm.same nx.same,ok,nx.tb,fun H2 nx2=>⟨_,rfl,?_⟩⟩;have nn:=nx.trans nx2;by_cases b:0<belE n es
   · rw [if_pos (by omega)]
     have le:belE n es≤tot es:=by rw [← Zhs ok,← Za9];exact ybp _ _
     refine ⟨_,_,_,(oT (nn.at h1)),rfl,_,_,j1,_,rfl,?_⟩;rw [show ((belE n es:Nat):Int)-1=((belE n es-1:Nat):Int) by omega];exact ⟨m,es,belE n es-1,rfl,hm.same nn.same,ok,by omega,nn.tb,fun x H' e nx3=>q2 hin b x H' e (nn.trans nx3)⟩
   · rw [if_neg (by omega)]
     exact q3 hin b H2 nn
end
def spNumbers (c:Kd→Addr)(CM:Addr):Sp:=fun vs H Q _=>∃ (m:Addr) (es:List Ent),vs=[.ref m]∧MkAt c CM (noT H) m es∧EsOk es∧tot es≤900∧∀ l H',Same H H'→H l=none→H' l=some (.lst (pint (flat es)))→Q (.ref l) H'
structure NmI (m D:Addr)(es:List Ent)(H:Hp)(i:Nat)(σ:L2.St)(H':Hp):Prop where
 ex:∃ v2 v3:Option V,σ=[some (.ref m),some (.ref D),v2,v3]∧H' D=some (.lst (pint (flat (es.take i))))
 same:Same H H'
section
variable {c:Kd→Addr}{ts:Tabs}
theorem Zib (B:Blt mg) (cP:∃ t,mg "PLACES"=some (.int 256 t)) (hw:∀ k,MethAt P w K mg base (c k) "word" ["self"] 4 (spWordM c k)) (jl:FnAt P w K mg base "places_of" ["word"] 3 spPlacesOf) (cd:CD_Marks K mg CM):MethAt P w K mg base CM "numbers" ["self"] 5 (spNumbers c CM):=by
 obtain ⟨tP,ja⟩:=cP;refine MethAt.of cd.c cd.m_numbers jX ?_ ?_;walk_at "F";have nd:=jX.nd;obtain ⟨m,es,rfl,hm,ok,ln,q⟩:=h;obtain ⟨dx,kd,ah,sr,h1,h2,h3,h4⟩:=hm.ex;refine ⟨_,(Zaf (Zas (i:=1) (ZaJ Zac))
     (Zaf (Za0 zak rfl (Ziu K rfl B.zip (Zaa (Zap K (pv 0)) (Zaa (Zap K (pv 0)) Zac))) (ZbF K rfl (ZaA (Za4 (i:=2)) (ZaA (Za4 (i:=3)) Zbp))) (Zae (ZaM (ZcP K zaq PySem.F.slot_list_extend PySem.F.type_list_extend ZjM (pv 1) (Zaa (Zcq ["place"] [2] rfl (ZaD K (Zaj jl (Zaa (ZaE P w K mg base 4 (pv 3)) Zac))) (fun _ _ _ _ _=>ZaS (i:=0) (by show List.Nodup (["place","key"]:List Str);decide +kernel) rfl (Or.inl rfl)) (fun _ _ _ _ _=>ZbB) (fun _ _ _ _ _=>(Zah Zay (Zah ZaZ (pv 1) (ZaK ja)) (pv 0))) ⟨⟨_,rfl,rfl,.inl rfl⟩,trivial⟩ ZaQ) Zac)))))
     (Zae (Zak (pv 1))))),?_⟩
 walk_at "vc";refine ⟨yau _,fun D nD=>?_⟩;have s1:=Same.new (o:=.lst []) nD;refine ⟨_,_,_,s1 _ _ (oT h1),cd.c,cd.n_keyed,.ref kd,rfl,_,_,_,s1 _ _ (oT h1),cd.c,cd.n_stretches,.ref sr,rfl,kd,sr,⟨rfl,rfl⟩,⟨_,SqL.of (s1 _ _ (oT h2))⟩,⟨_,SqL.of (s1 _ _ (oT h4))⟩,loopZ (xs:=pint (kys es)) (ys:=es.map fun e=>V.ref e.loc) (NmI m D es H) ⟨⟨_,_,rfl,Zab⟩,s1⟩ ?_ ?_ ?_⟩
 · rintro i σ H1 ⟨_,sm⟩
   exact ⟨SqL.of (sm _ _ (oT h2)),SqL.of (sm _ _ (oT h4))⟩
 · rintro i x y T σ H1 hx hy nT ⟨⟨v2,v3,rfl,hD⟩,sm⟩
   obtain ⟨e,he,rfl,rfl⟩:∃ e,es[i]?=some e∧x=.int (e.key:Nat)∧y=.ref e.loc:=by
     rw [yay] at hy;cases q:es[i]? with
     | none=>rw [q] at hy;cases hy
     | some e =>
       rw [q] at hy;obtain ⟨p,hp,rfl⟩:=ZaT hx;rw [Zeo q] at hp;cases hp;exact ⟨e,rfl,rfl,(Option.some.inj hy).symm⟩
   have hin:=yaq he;have sT:=Same.new (o:=.tup [.int (e.key:Nat),.ref e.loc]) nT;have st:=(((hm.st e hin).same noT_sub).same sm).same sT;have hD2:=sT _ _ hD;walk_at "vc";refine ⟨_,SqT.of Zab,rfl,?_⟩;walk_at "vc";generalize upd H1 T (.tup [.int (e.key:Nat),.ref e.loc])=H2 at sT st hD2 ⊢;obtain ⟨dx2,fs2,ho2,nf2⟩:=st.obj;have up:=ok.pup e hin;have lt:=ok.plt e hin;have l256:=Up.lt256 up lt;refine ⟨_,_,⟨rfl,rfl⟩,_,_,rfl,rfl,⟨_,SqL.of hD2⟩,_,rfl,_,_,_,ho2,nf2.2.2.1,_,_,hw _,e.loc,e.ps,rfl,st,up,lt,e.ps,rfl,up,lt,fun r H3 s3 nr hr=>⟨r,rfl,⟨_,SqL.of hr⟩,compL (fun _=>true) (mapI fun p=>(e.key:Int)*256+p) (SqL.of hr) (by rw [Zal];omega) (fun x H R hx s h=>?_) (fun x H R hx _ s h=>?_) (fun b nb=>?_)⟩⟩
   · walk_at "vc"
     exact h
   · obtain ⟨p,hp,rfl⟩:=ZbN hx
     walk_at "vc";exact h
   rw [ybP.mpr (fun _ _=>rfl),ZgO (g:=fun p=>256*e.key+p) fun p _=>by omega];have sb:=Same.new (o:=.lst (pint (e.ps.map fun p=>256*e.key+p))) nb;have S:=s3.trans sb;have tk:flat (es.take (i+1))=flat (es.take i)++e.ps.map fun p=>256*e.key+p:=by rw [ybo,he,Zb1];show _++(_++flat [])=_;rw [show flat []=[] from rfl,yaH]
   have tl:(flat (es.take (i+1))).length≤900:=by rw [Za9];have:=ZaN (es.take (i+1)) (es.drop (i+1));rw [yat] at this;omega
   rw [tk,yac] at tl;refine ⟨_,rfl,_,S _ _ hD2,_,Zab,?_,⟨⟨_,_,rfl,?_⟩,((sm.trans sT).trans S).put nD⟩⟩
   · rw [Zal,Zal]
     exact ybC (small1000 (by omega))
   · rw [Zab,tk]
     unfold pint;rw [yaQ]
 · rintro σ H1 ⟨⟨v2,v3,rfl,hD⟩,sm⟩
   walk_at "vc";rw [yam (by rw [Zal,yaa];unfold kys;rw [yaa];omega)] at hD;exact q D H1 sm nD hD
end
def bodyD:Kd→List Nat→PyData
 | .l,ps=>.list ((ps.map fun (p:Nat)=>(p:Int)).map PyData.int)
 | .b,ps=>.int ((wd ps:Nat):Int)
 | .r,ps=>.list ((runsOf ps).map pairD)
def toldD (k:Kd)(ps:List Nat):PyData:=.tuple [.str (kS k),bodyD k ps]
theorem rd_body {k:Kd}{v:V}(h:BodyIs H k ps v):RdD K H v (bodyD k ps):=by
 cases k with
 | l =>
   obtain ⟨l,rfl,hl⟩:=h;rw [Zd2] at hl;exact .lst (SqL.of hl) (Zcg _)
 | b=>rw [show v=_ from h];exact .int _
 | r =>
   obtain ⟨l,rfl,us,hl,ht⟩:=h;exact .lst (SqL.of hl) (Zce ht)
theorem Zef:∀ ns:List Int,PyData.canLayAll0 (ns.map PyData.int)=true
 | []=>rfl
 | n::r=>by
   rw [yaF];simp only [PyData.canLayAll0,PyData.canLay0,Zef r,Bool.and_self]
theorem Ze5:∀ ns:List Int,PyData.depthAll (ns.map PyData.int)≤1
 | []=>by decide
 | n::r=>by
   have:=Ze5 r;rw [yaF];simp only [PyData.depthAll,PyData.depth];omega
theorem lay_body (k:Kd)(ps:List Nat):PyData.canLay0 (bodyD k ps)=true∧PyData.depth (bodyD k ps)≤2:=by
 cases k with
 | l =>
   have:=Ze5 (ps.map fun (p:Nat)=>(p:Int));exact ⟨by simp only [bodyD,PyData.canLay0];exact Zef _,by simp only [bodyD,PyData.depth];omega⟩
 | b=>exact ⟨rfl,by simp only [bodyD,PyData.depth];omega⟩
 | r =>
   have:=ZcQ (runsOf ps);exact ⟨by simp only [bodyD,PyData.canLay0];exact Zcr _,by simp only [bodyD,PyData.depth];omega⟩
theorem Zhy (k:Kd)(ps:List Nat):SeqAt.noMix (toldD k ps) (toldD k ps)=true:=by
 cases k with
 | l =>
   have e:PySem.Spec.Shape.has (.list .int) (bodyD .l ps)=true:=zaX fun _=>rfl
   have h:PySem.Spec.Shape.has (.tuple [.str,.list .int]) (toldD .l ps)=true:=by show (true&&(PySem.Spec.Shape.has (.list .int) (bodyD .l ps)&&true))=true;rw [e];rfl
   exact zaI (.tuple [.str,.list .int]) rfl _ _ h h
 | b=>exact zaI (.tuple [.str,.int]) rfl _ _ rfl rfl
 | r =>
   have e:PySem.Spec.Shape.has (.list (.tuple [.int,.int])) (bodyD .r ps)=true:=zaX fun _=>rfl
   have h:PySem.Spec.Shape.has (.tuple [.str,.list (.tuple [.int,.int])]) (toldD .r ps)=true:=by show (true&&(PySem.Spec.Shape.has (.list (.tuple [.int,.int])) (bodyD .r ps)&&true))=true;rw [e];rfl
   exact zaI (.tuple [.str,.list (.tuple [.int,.int])]) rfl _ _ h h
section
variable {c:Kd→Addr}{ts:Tabs}
def spKeyList (c:Kd→Addr)(CM:Addr):Sp:=fun vs H Q _=>∃ (m:Addr) (es:List Ent),vs=[.ref m]∧MkAt c CM (noT H) m es∧∀ l,H l=none→Q (.ref l) (upd H l (.lst (pint (kys es))))
def spWordAt (c:Kd→Addr)(CM:Addr)(ts:Tabs):Sp:=fun vs H Q _=>∃ (m:Addr) (k:Nat) (es:List Ent),vs=[.ref m,.int k]∧MkAt c CM (noT H) m es∧EsOk es∧Tbs ts H∧∀ H',Nx ts H H'→Q (.int (wd (plcE k es):Nat)) H'
def spManyMM (c:Kd→Addr)(CM:Addr):Sp:=fun vs H Q _=>∃ (m:Addr) (es:List Ent),vs=[.ref m]∧MkAt c CM (noT H) m es∧Q (.int (tot es:Nat)) H
def RowAt (H:Hp)(v:V)(e:Ent):Prop:=∃ (t:Addr) (b:V),v=.ref t∧H t=some (.tup [.int (e.key:Nat),.str (kS (kdOf e.ps)),b])∧BodyIs H (kdOf e.ps) e.ps b
def spToldM (c:Kd→Addr)(CM:Addr):Sp:=fun vs H Q _=>∃ (m:Addr) (es:List Ent),vs=[.ref m]∧MkAt c CM (noT H) m es∧EsOk es∧∀ l us H',Same H H'→H' l=some (.lst us)→Paired (RowAt H') us es→Q (.ref l) H'
theorem Zhe (B:Blt mg)(cd:CD_Marks K mg CM):MethAt P w K mg base CM "key_list" ["self"] 1 (spKeyList c CM):=by refine MethAt.of cd.c cd.m_key_list jR ?_ ?_;walk_at "F";have nd:=jR.nd;obtain ⟨m,es,rfl,hm,q⟩:=h;obtain ⟨dx,kd,ah,sr,h1,h2,_⟩:=hm.ex;refine ⟨_,(Zae (Zak (Za7 (ZaW K) rfl B.lst boot_list (Zaa (Zap K (pv 0)) Zac)))),?_⟩;walk_at "vc";exact ⟨_,_,_,(oT h1),cd.c,cd.n_keyed,.ref kd,rfl,kd,rfl,_,.inl (sL h2),q⟩
theorem Zjg (cd:CD_Marks K mg CM):MethAt P w K mg base CM "many" ["self"] 1 (spManyMM c CM):=by refine MethAt.of cd.c cd.m_many jan ?_ ?_;walk_at "F";have nd:=jan.nd;obtain ⟨m,es,rfl,hm,q⟩:=h;obtain ⟨dx,kd,ah,sr,h1,_⟩:=hm.ex;refine ⟨_,(Zae (Zak (Zap K (pv 0)))),?_⟩;walk_at "vc";exact ⟨_,_,_,(oT h1),cd.c,cd.n_held,_,rfl,q⟩
theorem ZhN (jq:MethAt P w K mg base CM "stretch_at" ["self","key"] 5 (spStAt c CM ts))(hw:∀ k,MethAt P w K mg base (c k) "word" ["self"] 4 (spWordM c k))(cd:CD_Marks K mg CM):MethAt P w K mg base CM "word_at" ["self","key"] 6 (spWordAt c CM ts):=by
 refine MethAt.of cd.c cd.m_word_at jY ?_ ?_;walk_at "F";have nd:=jY.nd;obtain ⟨m,k,es,rfl,hm,ok,ht,q⟩:=h;obtain ⟨dx,fs,ho,nf⟩:=hm.obj;refine ⟨_,(Zaf (Zas (i:=2) (Zax P w K mg base 5 (pv 0) (Zaa (pv 1) Zac)))
     (Zae (Zak (Zbe (ZaH ZeF (pv 2) Zbv) Zad (ZaE P w K mg base 4 (pv 2)))))),?_⟩
 walk_at "vc";refine ⟨_,_,_,(oT ho),nf.2.2.2.1,_,_,jq,m,k,es,rfl,hm,ok,ht,fun H' nx=>?_⟩;have q:=q H' nx;have hm:=hm.same nx.same;rcases Zbw k ok.up with z | ⟨e,z1,z2,z3⟩
 · rw [(Zb3 z).1]
   rw [(Zb3 z).2] at q;show if V.non=V.non then _ else _
   rw [if_pos rfl];exact q
 · rw [(ZbG z1).1]
   rw [(ZbG z1).2] at q;have st:=(hm.st e z3).same noT_sub;obtain ⟨dx2,fs2,ho2,nf2⟩:=st.obj;show if V.ref e.loc=V.non then _ else _
   rw [if_neg (by intro y;cases y)];exact ⟨_,rfl,_,_,_,ho2,nf2.2.2.1,_,_,hw _,e.loc,e.ps,rfl,st,ok.pup e z3,ok.plt e z3,q⟩
theorem BodyIs.away {k:Kd}{v:V}{D:Addr}{o:HO}(h:BodyIs H k ps v)(n:∀ l,v=.ref l→l≠D)(hD:H D=some (.lst ys)):BodyIs (upd H D o) k ps v:=by
 cases k with
 | l =>
   obtain ⟨l,e,h⟩:=h;exact ⟨l,e,by rw [Zai (n l e)];exact h⟩
 | b=>exact h
 | r =>
   obtain ⟨l,e,us,h,t⟩:=h;exact ⟨l,e,us,by rw [Zai (n l e)];exact h,Paired.mapP t fun _ _ ⟨t,e,ht⟩=>⟨t,e,by rw [Zai (fun z=>by rw [z,hD] at ht;cases ht)];exact ht⟩⟩
def RowD (D:Addr)(H:Hp)(v:V)(e:Ent):Prop:=∃ (t:Addr) (b:V),v=.ref t∧H t=some (.tup [.int (e.key:Nat),.str (kS (kdOf e.ps)),b])∧BodyIs H (kdOf e.ps) e.ps b∧∀ l,b=.ref l→l≠D
theorem RowD.away {D:Addr}{v:V}{e:Ent}{o:HO}(h:RowD D H v e)(hD:H D=some (.lst ys)):RowD D (upd H D o) v e:=by obtain ⟨t,b,e1,h1,h2,h3⟩:=h;exact ⟨t,b,e1,by rw [Zai (fun z=>by rw [z,hD] at h1;cases h1)];exact h1,h2.away h3 hD,h3⟩
theorem RowD.same {D:Addr}{v:V}{e:Ent}(h:RowD D H v e)(s:Same H H'):RowD D H' v e:=by obtain ⟨t,b,e1,h1,h2,h3⟩:=h;exact ⟨t,b,e1,s _ _ h1,h2.same s,h3⟩
theorem Paired.snoc {α β:Type}{F:α→β→Prop}:∀ {us:List α} {es:List β} {u:α} {e:β},Paired F us es→F u e→Paired F (us++[u]) (es++[e])
 | _,_,_,_,.nil,h=>.cons h .nil
 | _,_,_,_,.cons r q,h=>.cons r (Paired.snoc q h)
structure ToI (es:List Ent)(H:Hp)(D:Addr)(i:Nat)(ys:List V)(H':Hp):Prop where
 le:i≤es.length
 len:ys.length=i
 same:Same H H'
 hD:H' D=some (.lst ys)
 rows:Paired (RowD D H') ys (es.take i)
theorem ok_toldM (B:Blt mg)(hk:∀ k,MethAt P w K mg base (c k) "kind" ["self"] 4 (spKindS k))(hb:∀ k,MethAt P w K mg base (c k) "body" ["self"] 4 (spBodyN c k))(cd:CD_Marks K mg CM):MethAt P w K mg base CM "told" ["self"] 5 (spToldM c CM):=by
 refine MethAt.of cd.c cd.m_told jao ?_ ?_;walk_at "F";have nd:=jao.nd;obtain ⟨m,es,rfl,hm,ok,q⟩:=h;obtain ⟨dx,kd,ah,sr,h1,h2,h3,h4⟩:=hm.ex;refine ⟨_,(Zae (Zak (Zcq ["key","stretch"] [] rfl (Ziu K rfl B.zip (Zaa (Zap K (pv 0)) (Zaa (Zap K (pv 0)) Zac))) (fun _ _ _ _ _=>ZbF (n:=2) K rfl (ZaA (ZaS (i:=0) (by show List.Nodup (["key","stretch"]:List Str);decide +kernel) rfl (Or.inl rfl)) (ZaA (ZaS (i:=1) (by show List.Nodup (["key","stretch"]:List Str);decide +kernel) rfl (Or.inl rfl)) Zbp))) (fun _ _ _ _ _=>ZbB) (fun _ _ _ _ _=>(ZaR (Zaa (pv 0) (Zaa (ZaE P w K mg base 4 (pv 1)) (Zaa (ZaE P w K mg base 4 (pv 1)) Zac))))) trivial ZjI))),?_⟩;walk_at "vc";refine ⟨_,_,_,(oT h1),cd.c,cd.n_keyed,.ref kd,rfl,_,_,_,(oT h1),cd.c,cd.n_stretches,.ref sr,rfl,kd,sr,⟨rfl,rfl⟩,⟨_,sL h2⟩,⟨_,sL h4⟩,compG (n:=es.length) (ToI es H) (fun D nD=>⟨yau _,rfl,Same.new nD,Zab,.nil⟩) (fun D i ys H h=>h.le) ?_ ?_ ?_ ?_⟩
 · rintro D ys H3 nD ⟨_,_,sm,_,_⟩
   exact ⟨_,_,SqL.of (sm _ _ (oT h2)),SqL.of (sm _ _ (oT h4)),.inr (by rw [yaa];exact yad _)⟩
 · rintro D i ys H3 nD hi ⟨_,_,sm,_,_⟩
   exact ⟨_,_,_,_,SqL.of (sm _ _ (oT h2)),SqL.of (sm _ _ (oT h4)),yae (by rw [Zal];unfold kys;rw [yaa];exact hi),yae (by rw [yaa];exact hi)⟩
 · rintro D i ys H3 x H4 nD hi ⟨le,len,sm,hD,rows⟩ ⟨T,x1,y1,rfl,nT,rfl,gx,gy⟩
   have he:es[i]?=some es[i]:=yae hi;generalize es[i]=e at he;obtain rfl:x1=.int (e.key:Nat):=by have:=gx _ (SqL.of (sm _ _ (oT h2)));obtain ⟨p,hp,rfl⟩:=ZaT this;rw [Zeo he] at hp;cases hp;rfl
   obtain rfl:y1=.ref e.loc:=by have:=gy _ (SqL.of (sm _ _ (oT h4)));rw [yay,he] at this;exact (Option.some.inj this).symm
   have hin:=yaq he;have sT:=Same.new (o:=.tup [.int (e.key:Nat),.ref e.loc]) nT;have st:=(((hm.st e hin).same noT_sub).same sm).same sT;have hD2:=sT _ _ hD;have rows:=Paired.mapP rows fun _ _ h=>h.same sT
   walk_at "vc";refine ⟨_,SqT.of Zab,rfl,?_⟩;walk_at "vc";generalize upd H3 T (.tup [.int (e.key:Nat),.ref e.loc])=H4 at sT st hD2 rows ⊢;obtain ⟨dx2,fs2,ho2,nf2⟩:=st.obj;refine ⟨_,_,⟨rfl,rfl⟩,_,_,rfl,rfl,_,rfl,_,_,_,ho2,nf2.1,_,_,hk _,e.loc,rfl,_,rfl,_,_,_,ho2,nf2.2.1,_,_,hb _,e.loc,e.ps,rfl,st,fun b H5 s5 bi fr=>⟨by decide,fun p np=>?_⟩⟩;have sp:=Same.new (o:=.tup [.int (e.key:Nat),.str (kS (kdOf e.ps)),b]) np;have gp:upd H5 p (.tup [.int (e.key:Nat),.str (kS (kdOf e.ps)),b]) p=some (.tup [.int (e.key:Nat),.str (kS (kdOf e.ps)),b]):=Zab;generalize upd H5 p (.tup [.int (e.key:Nat),.str (kS (kdOf e.ps)),b])=H6 at sp gp ⊢;have hD5:=sp _ _ (s5 _ _ hD2);have rows5:=Paired.mapP rows fun _ _ h=>h.same (s5.trans sp)
   have les:=ZbY ok;have tk:es.take (i+1)=es.take i++[e]:=by rw [ybo,he];rfl
   refine compYes (by omega) hi (by omega) hD5 ⟨hi,by rw [yac,len];rfl,((sm.trans sT).trans (s5.trans sp)).put nD,Zab,?_⟩;rw [tk];have row:RowD D H6 (.ref p) e:=⟨p,b,rfl,gp,bi.same sp,fun l el z=>by
     have:=fr l el;rw [z,hD2] at this;cases this⟩
   exact Paired.snoc (Paired.mapP rows5 fun _ _ h=>h.away hD5) (row.away hD5)
 · rintro D ys H3 nD ⟨le,len,sm,hD,rows⟩
   rw [yam (yad _)] at rows;exact q D ys H3 sm hD (Paired.mapP rows fun _ _ ⟨t,b,e1,h1,h2,_⟩=>⟨t,b,e1,h1,h2⟩)
theorem Ziw {H:Hp}:∀ {us:List V} {ks as:List Nat},PrOf H us ((pint ks).zip (pint as))→Tups H us (ks.zip as)
 | _,[],_,h=>by cases h;exact .nil
 | _,_::_,[],h=>by cases h;exact .nil
 | _,k::ks,a::as,h=>by
   cases h with
   | cons r q=>exact .cons r (Ziw q)
def spBookM (c:Kd→Addr)(CM:Addr):Sp:=fun vs H Q _=>∃ (m:Addr) (es:List Ent),vs=[.ref m]∧MkAt c CM (noT H) m es∧∀ l us H',Same H H'→H' l=some (.lst us)→Tups H' us ((kys es).zip (ahs 0 es))→Q (.ref l) H'
theorem ok_bookM (B:Blt mg)(cd:CD_Marks K mg CM):MethAt P w K mg base CM "book" ["self"] 1 (spBookM c CM):=by refine MethAt.of cd.c cd.m_book jap ?_ ?_;walk_at "F";have nd:=jap.nd;obtain ⟨m,es,rfl,hm,q⟩:=h;obtain ⟨dx,kd,ah,sr,h1,h2,h3,h4⟩:=hm.ex;refine ⟨_,(Zae (Zak (ZgY K rfl rfl B.lst rfl B.zip (Zaa (Zap K (pv 0)) (Zaa (Zap K (pv 0)) Zac))))),?_⟩;walk_at "vc";refine ⟨_,_,_,(oT h1),cd.c,cd.n_keyed,.ref kd,rfl,_,_,_,(oT h1),cd.c,cd.n_aheads,.ref ah,rfl,kd,ah,⟨rfl,rfl⟩,_,sL h2,_,sL h3,?_,fun p us H2 s2 np hp pr _=>q p us H2 s2 hp (Ziw pr)⟩;rw [Zal,Zal,Zbo];unfold kys;rw [yaa]
def rowD (e:Ent):PyData:=.tuple [.int (e.key:Nat),.str (kS (kdOf e.ps)),bodyD (kdOf e.ps) e.ps]
theorem ZeL {H:Hp}:∀ {us:List V} {es:List Ent},Paired (RowAt H) us es→RdDs K H us (es.map rowD)
 | _,_,.nil=>.nil
 | _,_,.cons ⟨t,b,e,h,hb⟩ r=>by
   subst e;exact .cons (.tup (SqT.of h) (.cons (.int _) (.cons (.str _) (.cons (rd_body hb) .nil)))) (ZeL r)
theorem Zg3:∀ es:List Ent,PyData.canLayAll0 (es.map rowD)=true∧PyData.depthAll (es.map rowD)≤3
 | []=>⟨rfl,by decide⟩
 | e :: r=>by
   obtain ⟨h1,h2⟩:=Zg3 r;obtain ⟨b1,b2⟩:=lay_body (kdOf e.ps) e.ps;have hs:PyData.canLay0 (.str (kS (kdOf e.ps)))=true:=by cases kdOf e.ps<;>decide +kernel
   rw [yaF];refine ⟨?_,?_⟩
   · simp only [PyData.canLayAll0,rowD,PyData.canLay0,b1,h1,Bool.and_true]
     exact hs
   · simp only [PyData.depthAll,rowD,PyData.depth]
     omega
theorem ZeC:∀ es:List Ent,SeqAt.noMixAll (es.map rowD) (es.map rowD)=true
 | []=>by simp only [List.map_nil,SeqAt.noMixAll]
 | e :: r=>by
   have h:SeqAt.noMix (rowD e) (rowD e)=true:=by have:=Zhy (kdOf e.ps) e.ps;simp only [toldD,SeqAt.noMix,SeqAt.noMixAll,Bool.and_true,Bool.true_and] at this;simp only [rowD,SeqAt.noMix,SeqAt.noMixAll,Bool.and_true,Bool.true_and];exact this
   rw [yaF];simp only [SeqAt.noMixAll,h,ZeC r,Bool.and_self]
theorem Zi0 {Q:VK}{a b:Addr}{us:List V}{es es':List Ent}(ha:H a=some (.lst us))(hb:H b=some (.lst vs))(h1:Paired (RowAt H) us es)(h2:Paired (RowAt H) vs es')(e:es.map rowD=es'.map rowD)(q:Q (.bl true) H):rEqD K (.ref a) (.ref b) H Q:=by
 have r2:=ZeL (K:=K) h2;rw [← e] at r2;obtain ⟨l1,l2⟩:=Zg3 es;have sh:SeqAt.shaped (.list (es.map rowD))=true:=by
   show (PyData.canLay0 (.list (es.map rowD))&&decide (PyData.depth (.list (es.map rowD))≤64))=true;rw [ybl];refine ⟨?_,yap ?_⟩
   · simp only [PyData.canLay0]
     exact l1
   · simp only [PyData.depth]
     omega
 exact ⟨.list (es.map rowD),.list (es.map rowD),.lst (SqL.of ha) (ZeL h1),.lst (SqL.of hb) r2,sh,sh,by simp only [SeqAt.noMix];exact ZeC es,by rw [PySem.Spec.same_self];exact q⟩
def kpE (e:Ent):Nat × List Nat:=(e.key,e.ps)
theorem ZiB {es:List Ent}(ok:EsOk es){e:Ent}(he:e∈es):plcE e.key es=e.ps:=by
 rcases Zbw e.key ok.up with z | ⟨e',z1,z2,z3⟩
 · have:e∈miE e.key es:=yas.mpr ⟨he,yap rfl⟩
   rw [z] at this;cases this
 · have:e∈miE e.key es:=yas.mpr ⟨he,yap rfl⟩
   rw [z1,yal] at this;rw [(ZbG z1).2,this]
theorem Zdu {es:List Ent}(ok:EsOk es)(k:Nat):k∈kys es↔∃ n∈flat es,n/256=k:=by
 constructor
 · intro h
   obtain ⟨e,he,rfl⟩:=yaD.mp h;obtain ⟨p,r,ep⟩:=List.exists_cons_of_ne_nil (ok.ne e he);have hp:p∈e.ps:=by rw [ep];exact .head _
   have:=ok.plt e he p hp;exact ⟨256*e.key+p,(ZbX ok.plt).mpr ⟨e,he,by omega,by rw [show (256*e.key+p)%256=p by omega];exact hp⟩,by omega⟩
 · rintro ⟨n,hn,rfl⟩
   obtain ⟨e,he,h1,_⟩:=(ZbX ok.plt).mp hn;exact yaD.mpr ⟨e,he,h1⟩
theorem ZcH {es:List Ent}(ok:EsOk es)(k:Nat):Up 0 (plcE k es)∧∀ p∈plcE k es,p<256:=by
 rcases Zbw k ok.up with z | ⟨e,z1,z2,z3⟩
 · rw [(Zb3 z).2]
   exact ⟨trivial,fun _ h=>nomatch h⟩
 · rw [(ZbG z1).2]
   exact ⟨ok.pup e z3,ok.plt e z3⟩
theorem Zbs {es:List Ent}(ok:EsOk es){k p:Nat}(hp:p<256):p∈plcE k es↔256*k+p∈flat es:=by rw [ZaP ok,show (256*k+p)%256=p by omega,show (256*k+p)/256=k by omega]
theorem kp_eq {es es':List Ent}(ok:EsOk es)(ok':EsOk es')(e:flat es=flat es'):es.map kpE=es'.map kpE:=by
 have hp:∀ k,plcE k es=plcE k es':=fun k=>by
   obtain ⟨u1,l1⟩:=ZcH ok k;obtain ⟨u2,l2⟩:=ZcH ok' k;refine Up.ext u1 u2 fun p=>⟨fun h=>?_,fun h=>?_⟩
   · have:=l1 p h
     rw [Zbs ok' this,← e,← Zbs ok this];exact h
   · have:=l2 p h
     rw [Zbs ok this,e,← Zbs ok' this];exact h
 have hk:kys es=kys es':=Up.ext ok.up ok'.up fun k=>by rw [Zdu ok,Zdu ok',e]
 have f:∀ {es:List Ent},EsOk es→es.map kpE=(kys es).map fun k=>(k,plcE k es):=fun {es} ok=>by
   unfold kys;rw [ybh];exact ybQ fun e he=>by show (e.key,e.ps)=(e.key,plcE e.key es);rw [ZiB ok he]
 rw [f ok,f ok',hk];exact ybQ fun k _=>by rw [hp]
theorem rows_kp {es es':List Ent}(e:es.map kpE=es'.map kpE):es.map rowD=es'.map rowD:=by
 have f:∀ es:List Ent,es.map rowD=(es.map kpE).map fun p=>.tuple [.int (p.1:Nat),.str (kS (kdOf p.2)),bodyD (kdOf p.2) p.2]:=fun es=>by rw [ybh];rfl
 rw [f,f,e]
end
theorem ZdK {ks:List Int}:∀ {a:Nat},ks.Pairwise (·<·)→(∀ y∈ks,(a:Int)≤y)→∃ os:List Nat,ks=os.map (fun (o:Nat)=>(o:Int))∧Up a os:=by
 induction ks with
 | nil=>exact fun _ _=>⟨[],rfl,trivial⟩
 | cons x r ih =>
   intro a so h;obtain ⟨h1,h2⟩:=ycc.mp so;have hx:=h x (.head _);obtain ⟨os,e,u⟩:=ih (a:=x.toNat+1) h2 fun y hy=>by have:=h1 y hy;omega
   refine ⟨x.toNat::os,?_,by omega,u⟩;rw [yaF,← e,Int.toNat_of_nonneg (by omega)]
theorem ZcJ {k:Nat}{os:List Nat}:(k:Int)∈os.map (fun (o:Nat)=>(o:Int))↔k∈os:=by
 rw [yaD];constructor
 · rintro ⟨o,ho,e⟩
   have:o=k:=by omega
   rw [← this];exact ho
 · exact fun h=>⟨k,h,rfl⟩
theorem up_nodup {a:Nat}(h:Up a ps):ps.Nodup:=by
 have h2:(ps.map fun (p:Nat)=>(p:Int)).Nodup:=(Zds h).imp fun h=>Int.ne_of_lt h
 exact List.Pairwise.of_map (fun (p:Nat)=>(p:Int)) (fun a b h e=>h (by rw [e])) h2
def spBoth (c:Kd→Addr)(CM:Addr):Sp:=fun vs H Q _=>∃ (m m':Addr) (es es':List Ent),vs=[.ref m,.ref m']∧MkAt c CM (noT H) m es∧MkAt c CM (noT H) m' es'∧EsOk es∧EsOk es'∧∀ l ks H',Same H H'→H l=none→H' l=some (.lst (pint ks))→Up 0 ks→(∀ k,k∈ks↔k∈kys es∨k∈kys es')→Q (.ref l) H'
def spJoin (op:Bool→Bool→Bool)(c:Kd→Addr)(CM:Addr)(ts:Tabs):Sp:=fun vs H Q _=>∃ (m m':Addr) (es es':List Ent),vs=[.ref m,.ref m']∧MkAt c CM (noT H) m es∧MkAt c CM (noT H) m' es'∧EsOk es∧EsOk es'∧Tbs ts H ∧
 ∀ m2 H' es2,Nx ts H H'→noT H m2=none→MkAt c CM (noT H') m2 es2→EsOk es2→(∀ x,x∈flat es2↔op (decide (x∈flat es)) (decide (x∈flat es'))=true)→Q (.ref m2) H'
structure JoI (c:Kd→Addr)(ts:Tabs)(H:Hp)(ks:List Nat)(g:Nat→List Nat)(D:Addr)(i:Nat)(ys:List V)(H':Hp):Prop where
 le:i≤ks.length
 len:ys.length=i
 nx:Nx ts H H'
 hD:noT H' D=some (.lst ys)
 gp:Gp c (noT H') g ys (ks.take i)
section
variable {c:Kd→Addr}{ts:Tabs}
theorem ok_both (B:Blt mg)(jh:MethAt P w K mg base CM "key_list" ["self"] 1 (spKeyList c CM))(d:DefAt K mg "keys_of_both" ZbU ["one","other"]):FnAt P w K mg base "keys_of_both" ["one","other"] 2 (spBoth c CM):=by
 refine FnAt.of d j7 ?_ ?_;walk_at "F";have nd:=j7.nd;obtain ⟨m,m',es,es',rfl,hm,hm',ok,ok',q⟩:=h;refine ⟨_,(Zae (Zak (Zgc K rfl rfl B.sorted rfl B.st (ZaE P w K mg base 1 (pv 0)) (ZaE P w K mg base 1 (pv 1))))),?_⟩;obtain ⟨dx,kd,ah,sr,h1,_⟩:=hm.ex;obtain ⟨dx',kd',ah',sr',h1',_⟩:=hm'.ex;walk_at "vc";refine ⟨_,_,_,(oT h1),rfl,_,_,jh,m,es,rfl,hm,fun l nl=>?_⟩;have s1:=Same.new (o:=.lst (pint (kys es))) nl;have g1:upd H l (.lst (pint (kys es))) l=some (.lst (pint (kys es))):=Zab;generalize upd H l (.lst (pint (kys es)))=H1 at s1 g1 ⊢;have l1:(kys es).length≤256:=by unfold kys;rw [yaa];exact ZbY ok
 have l2:(kys es').length≤256:=by unfold kys;rw [yaa];exact ZbY ok'
 rw [Zbu] at g1;refine ⟨l,rfl,_,SqL.of g1,by rw [yaa];omega,?_⟩;refine ⟨_,_,_,s1 _ _ (oT h1'),rfl,_,_,jh,m',es',rfl,hm'.same s1.noT,fun l' nl'=>?_⟩;have s2:=Same.new (o:=.lst (pint (kys es'))) nl';have g2:upd H1 l' (.lst (pint (kys es'))) l'=some (.lst (pint (kys es'))):=Zab;generalize upd H1 l' (.lst (pint (kys es')))=H2 at s2 g2 ⊢;rw [Zbu] at g2;refine ⟨l',rfl,_,SqL.of g2,by rw [yaa];omega,fun p zs np so mem=>?_⟩;obtain ⟨os,eo,uo⟩:=ZdK (a:=0) so fun y hy=>by
   rcases (mem y).mp hy with h | h<;>(obtain ⟨n,_,rfl⟩:=yaD.mp h;omega)
 have S:=s1.trans s2;rw [eo,← Zbu];refine q p os _ (S.trans (Same.new np)) (S.free np) Zab uo fun k=>?_
 have:=mem (k:Int);rw [eo,ZcJ,ZcJ,ZcJ] at this;exact this
theorem Zje {l:Addr}{σ0:L2.St}{H1:Hp}{Q:VK}(hl:noT H1 l=some (.lst (pint ks)))(ht:Tbs ts H1)(uk:Up 0 ks)(hk:∀ k∈ks,k<256∧Up 0 (g k)∧∀ p∈g k,p<256)
   (el:∀ k∈ks,∀ H2 (R:VK),Nx ts H1 H2→(∀ v H3 t,Nx ts H2 H3→KeptIs c H3 (g k) v→H3 t=none→R (.ref t) (upd H3 t (.tup [.int (k:Nat),v])))→te ((capSt 1 caps σ0).set 0 (some (.int (k:Nat)))) H2 R)
   (q:∀ m H' es,Nx ts H1 H'→noT H1 m=none→MkAt c CM (noT H') m es→EsOk es→(∀ k,plcE k es=if k∈ks then g k else [])→Q (.ref m) H') :
   CompJ (Itl K l) 1 caps (gName 0) tNoTest te σ0 H1 (fun x H=>spGath c CM ts [x] H Q E0):=by
 have lk:ks.length≤256:=Up.lt256 uk fun k hk'=>(hk k hk').1
 refine compG (n:=ks.length) (JoI c ts H1 ks g) (fun D nD=>⟨yau _,rfl,Nx.new ht nD,nU,.nil⟩) (fun D i ys H h=>h.le) ?_ ?_ ?_ ?_
 · rintro D ys H3 nD ⟨_,_,nx,_,_⟩
   exact ⟨_,sL (nx.at hl),by rw [Zal];exact yad _⟩
 · rintro D i ys H3 nD hi ⟨_,_,nx,_,_⟩
   exact ⟨_,_,sL (nx.at hl),yae (by rw [Zal];exact hi)⟩
 · rintro D i ys H3 x H4 nD hi ⟨le,len,nx,hD,gp⟩ ⟨rfl,yy⟩
   obtain ⟨k,hk',rfl⟩:=ZaT (yy _ (sL (nx.at hl)));have pk:=yaq hk';obtain ⟨k0,up,lt⟩:=hk k pk;show te ((capSt 1 caps σ0).set 0 (some (.int (k:Nat)))) H4 _;refine el k pk H4 _ nx fun v H5 t nx5 kp ft=>?_
   have nx6:=Nx.new (o':=.tup [.int (k:Nat),v]) nx5.tb ft;have g6:noT (upd H5 t (.tup [.int (k:Nat),v])) t=some (.tup [.int (k:Nat),v]):=Zan Zab (nt _);have kp:=(kp.same (Same.new (o:=.tup [.int (k:Nat),v]) ft)).noT;generalize upd H5 t (.tup [.int (k:Nat),v])=H6 at nx6 g6 kp ⊢;have nx7:=nx5.trans nx6;have hD:=nx7.at hD;have gp:=gp.same nx7.same;have al:=gp.all;have tk:ks.take (i+1)=ks.take i++[k]:=by rw [ybo,hk'];rfl
   have nu:noT (upd H6 D (.lst (ys++[.ref t])))=upd (noT H6) D (.lst (ys++[.ref t])):=noT_upd (nl _) (.inr ⟨_,hD⟩);refine compYes (by omega) hi (by omega) (oT hD) ⟨hi,by rw [yac,len];rfl,(nx.trans nx7).put (Zcf nD) (oT hD) trivial,nU,?_⟩;rw [tk,nu];exact Gp.snoc (Paired.mapP gp fun _ _ h=>KPair.away h hD al) (KPair.away ⟨t,v,rfl,g6,kp,up⟩ hD al)
 · rintro D ys H3 nD ⟨le,len,nx,hD,gp⟩
   rw [yam (yad _)] at gp;exact ⟨D,ys,ks,g,rfl,hD,gp,up_nodup uk,hk,by omega,nx.tb,fun m H' es nx2 nm hm ok pl=>q m H' es (nx.trans nx2) (nx.free nm) hm ok pl⟩
theorem join_fin {op:Bool→Bool→Bool}{g:List Nat→List Nat→List Nat}{es es' es2:List Ent}(ok:EsOk es)(ok':EsOk es')(ok2:EsOk es2)(h0:op false false=false)(hg:∀ ps qs p,p<256→(p∈g ps qs↔op (decide (p∈ps)) (decide (p∈qs))=true))(mem:∀ k,k∈ks↔k∈kys es∨k∈kys es')(pl:∀ k,plcE k es2=if k∈ks then g (plcE k es) (plcE k es') else [])(x:Nat):x∈flat es2↔op (decide (x∈flat es)) (decide (x∈flat es'))=true:=by
 rw [ZaP ok2,pl];have e1:decide (x∈flat es)=decide (x%256∈plcE (x/256) es):=ybF.mpr (ZaP ok);have e2:decide (x∈flat es')=decide (x%256∈plcE (x/256) es'):=ybF.mpr (ZaP ok');rw [e1,e2];split
 · exact hg _ _ _ (ybN _ (by decide))
 · rename_i nk
   rw [mem,not_or] at nk;have n1:∀ {es:List Ent},EsOk es→x/256∉kys es→decide (x%256∈plcE (x/256) es)=false:=fun ok nk=>yaI fun h=>nk ((Zdu ok _).mpr ⟨x,(ZaP ok).mpr h,rfl⟩)
   rw [n1 ok nk.1,n1 ok' nk.2,h0];exact ⟨(fun h=>nomatch h),(fun h=>nomatch h)⟩
theorem keys_lt {es es':List Ent}(ok:EsOk es)(ok':EsOk es'){k:Nat}(h:k∈kys es∨k∈kys es'):k<256:=by
 rcases h with h | h
 · obtain ⟨e,he,rfl⟩:=yaD.mp h
   exact ok.klt e he
 · obtain ⟨e,he,rfl⟩:=yaD.mp h
   exact ok'.klt e he
theorem Zjo (jaX:FnAt P w K mg base "keys_of_both" ["one","other"] 2 (spBoth c CM))(jv:MethAt P w K mg base CM "word_at" ["self","key"] 6 (spWordAt c CM ts))(jz:FnAt P w K mg base "kept" ["word"] 4 (spKept c))(jt:FnAt P w K mg base "gathered" ["pairs"] 7 (spGath c CM ts))(d:DefAt K mg "joined" ZeW ["one","other"]):FnAt P w K mg base "joined" ["one","other"] 8 (spJoin or c CM ts):=by
 refine FnAt.of d jbl ?_ ?_;walk_at "F";have nd:=jbl.nd;obtain ⟨m,m',es,es',rfl,hm,hm',ok,ok',ht,q⟩:=h;refine ⟨_,(Zae (Zak (Zaj jt (Zaa (Zcq ["key"] [0,1] rfl (ZaD K (Zaj jaX (Zaa (pv 0) (Zaa (pv 1) Zac)))) (fun _ _ _ _ _=>ZaS (i:=0) (by show List.Nodup (["key","one","other"]:List Str);decide +kernel) rfl (Or.inl rfl)) (fun _ _ _ _ _=>ZbB) (fun _ _ _ _ _=>(ZaR (Zaa (pv 0) (Zaa (Zaj jz (Zaa (Zah ZeX (Zax P w K mg base 6 (pv 1) (Zaa (pv 0) Zac)) (Zax P w K mg base 6 (pv 2) (Zaa (pv 0) Zac))) Zac)) Zac)))) ⟨⟨_,rfl,rfl,.inl rfl⟩,⟨⟨_,rfl,rfl,.inl rfl⟩,trivial⟩⟩ ZaQ) Zac)))),?_⟩;walk_at "vc";refine ⟨m,m',es,es',rfl,hm,hm',ok,ok',fun l ks H1 s1 fl hl uk mem=>⟨l,rfl,⟨_,SqL.of hl⟩,?_⟩⟩;have nx1:=ht.nx s1;have hk:∀ k∈ks,k<256∧Up 0 (gJoin (plcE k es) (plcE k es'))∧∀ p∈gJoin (plcE k es) (plcE k es'),p<256:=fun k hk=>⟨keys_lt ok ok' ((mem k).mp hk),ZbT _ _,Zeu⟩
 refine Zje (g:=fun k=>gJoin (plcE k es) (plcE k es')) (Zan hl (nl _)) nx1.tb uk hk (fun k pk H2 R nx2 r=>?_) fun m2 H' es2 nx nm hm2 ok2 pl=>q m2 H' es2 (nx1.trans nx) (nx1.free nm) hm2 ok2 (join_fin ok ok' ok2 rfl (fun ps qs p hp=>by unfold gJoin;rw [yas,ybW];exact ⟨fun h=>h.2,fun h=>⟨hp,h⟩⟩) mem pl)
 have nxA:=nx1.trans nx2;have hmA':=hm'.same nxA.same;obtain ⟨dx,kd,ah,sr,h1,_⟩:=(hm.same nxA.same).ex;obtain ⟨dx',kd',ah',sr',h1',_⟩:=hmA'.ex;obtain ⟨u1,l1⟩:=ZcH ok k;obtain ⟨u2,l2⟩:=ZcH ok' k;obtain ⟨_,u3,l3⟩:=hk k pk;walk_at "vc";refine ⟨_,_,_,(oT h1),rfl,_,_,jv,m,k,es,rfl,hm.same nxA.same,ok,nxA.tb,fun H3 nx3=>?_⟩;refine ⟨_,_,_,(oT (nx3.at h1')),rfl,_,_,jv,m',k,es',rfl,hmA'.same nx3.same,ok',nx3.tb,fun H4 nx4=>?_⟩;exact ⟨_,rfl,_,rfl,_,by rw [ZfW u1 u2 l1 l2];rfl,u3,l3,fun v H5 s5 kp=>⟨by decide,fun p np=>r v H5 p ((nx3.trans nx4).trans (nx4.tb.nx s5)) kp np⟩⟩
end
structure Dn (kvs:List (Key × V))(ms:List Nat):Prop where
 keys:kvs.map (·.1)=ms.map fun (k:Nat)=>(Sum.inl (k:Int):Key)
 nd:ms.Nodup
theorem ZeR (kvs:List (Key × V))(k:Key)(v:V):(putK kvs k v).map (·.1)=if (valV kvs k).isSome=true then kvs.map (·.1) else kvs.map (·.1)++[k]:=by
 unfold putK;rw [ZbM];split
 · rw [ybh]
   refine ybQ fun kv _=>?_
   show (if kv.1=k then (kv.1,v) else kv).1=kv.1;split<;>rfl
 · rw [yaQ]
   rfl
section
variable {ms:List Nat}
theorem inl_nat {x n:Nat}:(Sum.inl (x:Int):Key)=Sum.inl (n:Int)↔x=n:=⟨fun e=>by have:=Sum.inl.inj e;omega,fun e=>by rw [e]⟩
theorem Dn.some (h:Dn kvs ms)(n:Nat):(valV kvs (Sum.inl (n:Int))).isSome=decide (n∈ms):=by
 have e:(kvs.any fun kv=>decide (kv.1=(Sum.inl (n:Int):Key)))=(kvs.map (·.1)).any fun k=>decide (k=(Sum.inl (n:Int):Key)):=by rw [List.any_map];rfl
 rw [← ZbM,e,h.keys,List.any_map,ybR,List.any_eq_true,yaL];constructor
 · rintro ⟨k,hk,e⟩
   rw [← inl_nat.mp (yaS e)];exact hk
 · exact fun hn=>⟨n,hn,yap rfl⟩
theorem Dn.put (h:Dn kvs ms)(n:Nat)(v:V):∃ ms',Dn (putK kvs (Sum.inl (n:Int)) v) ms'∧(∀ x,x∈ms'↔x∈ms∨x=n)∧ms'.length≤ms.length+1:=by
 by_cases hn:n∈ms
 · refine ⟨ms,⟨?_,h.nd⟩,fun x=>⟨.inl,fun z=>z.elim id fun z=>z ▸ hn⟩,ycd _⟩
   rw [ZeR,if_pos (by rw [h.some];exact yap hn),h.keys]
 · refine ⟨ms++[n],⟨?_,?_⟩,fun x=>by rw [yai,yal],by rw [yac];exact yad _⟩
   · rw [ZeR,if_neg (by rw [h.some,yaL];exact hn),h.keys,yaQ]
     rfl
   · rw [List.nodup_append]
     refine ⟨h.nd,ybS.mpr ⟨ybd,.nil⟩,fun a ha b hb e=>hn ?_⟩;rw [yal.mp hb] at e;rw [← e];exact ha
end
theorem Dn.len {ms:List Nat}(h:Dn kvs ms):kvs.length=ms.length:=by have:=congrArg List.length h.keys;rw [yaa,yaa] at this;exact this
structure Nd (ts:Tabs)(m d:Addr)(H H':Hp):Prop where
 same:∀ b o,b≠m→b≠d→noT H b=some o→noT H' b=some o
 tb:Tbs ts H'
section
variable {ts:Tabs}{m d:Addr}{H2:Hp}
end
structure Dm (c:Kd→Addr)(CM:Addr)(H:Hp)(m d:Addr)(es:List Ent)(kvs:List (Key × V))(ms:List Nat):Prop where
 mkA:MkAt c CM (noT H) m es
 ok:EsOk es
 hd:noT H d=some (.dK kvs)
 dn:Dn kvs ms
 mem:∀ x,x∈flat es↔x∈ms
section
variable {c:Kd→Addr}{ts:Tabs}{m d:Addr}{es:List Ent}{ms:List Nat}
end
theorem Zit:∀ {a:Nat} {ps:List Nat} (k:Nat),Up a ps→Up a (ps.take k)
 | _,[],k,h=>by rw [List.take_nil];exact h
 | _,_::_,0,_=>trivial
 | _,p::r,k+1,h=>⟨h.1,Zit k h.2⟩
theorem ZdL {ms:List Nat}{zs:List Int}(h:Dn kvs ms)(pm:zs.Perm (ms.map fun (n:Nat)=>(n:Int)))(so:zs.Pairwise (·≤·)):∃ os:List Nat,zs.map V.int=pint os∧Up 0 os∧(∀ n,n∈os↔n∈ms)∧os.length=ms.length:=by
 have n1:(ms.map fun (n:Nat)=>(n:Int)).Nodup:=by rw [List.Nodup,List.pairwise_map];exact h.nd.imp fun h e=>h (by omega)
 have lt:zs.Pairwise (·<·):=(so.and (pm.nodup_iff.mpr n1)).imp fun h=>by omega
 have mem:∀ y,y∈zs↔∃ n∈ms,(n:Int)=y:=fun y=>by rw [pm.mem_iff,yaD]
 obtain ⟨os,eo,uo⟩:=ZdK (a:=0) lt fun y hy=>by
   obtain ⟨n,_,rfl⟩:=(mem y).mp hy;omega
 refine ⟨os,by rw [eo,← Zbu],uo,fun n=>?_,?_⟩
 · have:=mem (n:Int)
   rw [eo,ZcJ] at this;rw [this];constructor
   · rintro ⟨k,hk,e⟩
     have:k=n:=by omega
     rw [← this];exact hk
   · exact fun hn=>⟨n,hn,rfl⟩
 · have:=pm.length_eq
   rw [eo,yaa,yaa] at this;exact this
def spWord (K:ZFr):Sp:=fun vs H Q _=>∃ (a:Addr) (ps:List Nat),vs=[.ref a]∧SqL K H a (pint ps)∧Up 0 ps∧(∀ p∈ps,p<256)∧Q (.int (wd ps:Nat)) H
structure WordI (a:Addr)(ps:List Nat)(H:Hp)(i:Nat)(σ:L2.St)(H':Hp):Prop where
 ex:∃ v,σ=[some (.ref a),some (.int (wd (ps.take i):Nat)),v]
 hp:H'=H
theorem ok_word (d:DefAt K mg "_law_word" ZeT ["_law_places"]):FnAt P w K mg base "_law_word" ["_law_places"] 1 (spWord K):=by
 refine FnAt.of d jbm ?_ ?_;walk_at "F";have nd:=jbm.nd;obtain ⟨a,ps,rfl,hS,up,h256,q⟩:=h;refine ⟨_,(Zaf (Zas (i:=1) Zad)
     (Zaf (Za0 zak rfl (ZaD K (pv 0)) (Za4 (i:=2)) (Zae (Zas (i:=1) (Zah ZeX (pv 1) (Zah ZbD Zad (pv 2))))))
     (Zae (Zak (pv 1))))),?_⟩
 walk_at "vc";refine ⟨⟨_,hS⟩,loopL (xs:=pint ps) (WordI a ps H) ⟨⟨_,rfl⟩,rfl⟩ ?_ ?_ ?_⟩
 · rintro i σ H' hi ⟨_,rfl⟩
   exact hS
 · rintro i x σ H' hi ⟨⟨v,rfl⟩,rfl⟩
   obtain ⟨p,hp,rfl⟩:∃ p:Nat,ps[i]?=some p∧x=.int p:=by
     unfold pint at hi;rw [yay] at hi;cases e:ps[i]? with
     | none=>rw [e] at hi;cases hi
     | some p=>rw [e] at hi;exact ⟨p,rfl,(Option.some.inj hi).symm⟩
   have hmem:p<256:=h256 p (yaq hp);obtain ⟨hl,e⟩:=yaT.mp hp;have sp:ps=ps.take i++p::ps.drop (i+1):=by
     conv=>lhs;rw [← yat i ps]
     rw [ybi hl,e]
   have up':Up 0 (ps.take i++p::ps.drop (i+1)):=by rw [← sp];exact up
   have tk:ps.take (i+1)=ps.take i++[p]:=by rw [ybo,hp];rfl
   walk_at "vc";refine ⟨⟨by omega,by omega,by decide⟩,⟨some (.int p),?_⟩,rfl⟩;rw [tk,← wd_or up',Zdn (yaV _) (by rw [ycv];exact Zdj _)];rw [yao,yao,ycv];congr
 · rintro σ H' ⟨⟨v,rfl⟩,rfl⟩
   walk_at "vc";rw [yam (by unfold pint;rw [yaa];exact yad _)];exact q
def spRunsS (K:ZFr):Sp:=fun vs H Q _=>∃ (a:Addr) (ps:List Nat),vs=[.ref a]∧SqL K H a (pint ps)∧ps.length≤256∧∀ (r:Addr) (H':Hp),Same H H'→H r=none→RunsL H' r (runsOf ps)→Q (.ref r) H'
structure RunI (a:Addr)(ps:List Nat)(H:Hp)(i:Nat)(σ:L2.St)(H':Hp):Prop where
 ex:∃ (r:Addr) (v2:Option V),σ=[some (.ref a),some (.ref r),v2]∧RunsL H' r (runsOf (ps.take i))∧H r=none
 len:(runsOf (ps.take i)).length≤i
 same:Same H H'
theorem ok_runsS (d:DefAt K mg "_law_runs" ZeK ["_law_places"]):FnAt P w K mg base "_law_runs" ["_law_places"] 1 (spRunsS K):=by
 refine FnAt.of d jbn ?_ ?_;walk_at "F";have nd:=jbn.nd;obtain ⟨a,ps,rfl,hS,h256,q⟩:=h;refine ⟨_,(Zaf (Zas (i:=1) (ZaJ Zac))
     (Zaf (Za0 zak rfl (ZaD K (pv 0)) (Za4 (i:=2)) (Zae (ZaC (PW.pt (Zig (ZaH (Zf0 K (hu64 hr)) (pv 1) (ZaJ Zac)) (Zf6 (ZaH Zbd (Za5 (ZdD K) (Za5 (Zar K) (pv 1) (Zfu ZeJ Zad)) Zad) (Zah ZaX (pv 2) Zad))))) (Zae (ZdQ (ZaR (Zaa (Za5 (ZdD K) (Za5 (Zar K) (pv 1) (Zfu ZeJ Zad)) Zad) (Zaa (pv 2) Zac))) (pg_sub (pv 1) (Zfu ZeJ Zad) set_list))) (Zae (ZaM (ZcP K zaq zau zav Za6 (pv 1) (Zaa (ZaR (Zaa (pv 2) (Zaa (pv 2) Zac))) Zac)))))))
     (Zae (Zak (pv 1))))),?_⟩
 walk_at "vc";refine ⟨yau _,fun r hr0=>?_⟩;have sm0:Same H (upd H r (.lst [])):=fun b o e=>by rw [Zai (Zam e hr0)];exact e
 refine ⟨⟨_,sm0.seq hS⟩,loopL (K:=K) (xs:=pint ps) (RunI a ps H) ⟨⟨r,none,rfl,⟨[],Zab,.nil⟩,hr0⟩,yad _,sm0⟩ ?_ ?_ ?_⟩
 · rintro i σ H1 hi ⟨_,_,sm⟩
   exact sm.seq hS
 · rintro i x σ H1 hi ⟨⟨r,v2,rfl,hR,hn⟩,hl,sm⟩
   obtain ⟨p,hp,rfl⟩:=ZaT hi;have tk:runsOf (ps.take (i+1))=addP (runsOf (ps.take i)) p:=by rw [ybo,hp];exact Zbr _ _
   have hi2:i<ps.length:=(yaT.mp hp).1;walk_at "vc";refine ⟨yau _,fun e he=>?_⟩;obtain ⟨vs,hv,ht⟩:=hR;have smE:Same H1 (upd H1 e (.lst [])):=fun b o z=>by rw [Zai (Zam z he)];exact z
   refine Zh5 (qs:=[]) ⟨vs,smE _ _ hv,ht.same smE⟩ ⟨[],Zab,.nil⟩ ?_;have hv2:=smE _ _ hv;have ht2:=ht.same smE;have sm2:=sm.trans smE;generalize upd H1 e (.lst [])=H2 at hv2 ht2 sm2 ⊢;clear hv ht smE sm he;generalize runsOf (ps.take i)=rs at tk hl ht2 ⊢;have lv:=ht2.length;have small:∀ n,n≤1000→n<sizeLine:=fun n h=>small1000 h
   have app:addP rs p=rs++[(p,p)]→(∃ xs,SqL K H2 r xs)∧2≤sizeLine∧∀ p_3,H2 p_3=none→∃ x,upd H2 p_3 (HO.tup [V.int p,V.int p]) r=some (HO.lst x)∧x.length<sizeLine∧RunI a ps H (i+1) [some (V.ref a),some (V.ref r),some (V.int p)] (upd (upd H2 p_3 (HO.tup [V.int p,V.int p])) r (HO.lst (x++[V.ref p_3]))):=fun ea=>by
     refine ⟨⟨_,SqL.of hv2⟩,by decide,fun t h3=>?_⟩;have smT:Same H2 (upd H2 t (.tup [.int p,.int p])):=fun b o z=>by rw [Zai (Zam z h3)];exact z
     have hv3:=smT _ _ hv2;refine ⟨vs,hv3,small _ (by omega),⟨⟨r,_,rfl,⟨_,Zab,?_⟩,hn⟩,?_,fun b o z=>?_⟩⟩
     · rw [tk,ea]
       exact ((ht2.same smT).snoc (r:=(p,p)) Zab).upd hv3
     · rw [tk,ea,yac]
       show rs.length+1≤_;omega
     · rw [Zai (Zam z hn)]
       exact smT _ _ (sm2 b o z)
   rcases ybf rs with e0 | ⟨rs0,⟨x,y⟩,e0⟩
   · refine ⟨_,rfl,?_⟩
     rw [yap e0,if_neg (by decide)];exact app (by rw [e0];rfl)
   · rw [ybg] at e0
     subst e0;obtain ⟨vs0,t,rfl,ht0,htt⟩:=ht2.last;refine ⟨_,rfl,?_⟩;rw [yaI (by simp),if_pos (show (!false)=true from rfl)];refine ⟨_,SqL.of hv2,.ref t,(Ze9 _ _),t,rfl,_,SqT.of htt,.int (y:Nat),rfl,rfl,?_⟩;by_cases ey:y+1=p
     · have ea:addP (rs0++[(x,y)]) p=rs0++[(x,p)]:=ZbE ey
       rw [if_pos (by congr 1;omega)];refine ⟨_,SqL.of hv2,.ref t,(Ze9 _ _),t,rfl,_,SqT.of htt,.int (x:Nat),rfl,by decide,fun t2 h2=>?_⟩;have smT:Same H2 (upd H2 t2 (.tup [.int (x:Nat),.int (p:Nat)])):=fun b o z=>by rw [Zai (Zam z h2)];exact z
       have hv3:=smT _ _ hv2;refine ⟨_,hv3,vs0.length,ixN_last,⟨⟨r,_,rfl,⟨vs0++[.ref t2],?_,?_⟩,hn⟩,?_,fun b o z=>?_⟩⟩
       · rw [Zab,set_last]
       · rw [tk,ea]
         exact ((ht0.same smT).snoc (r:=(x,p)) Zab).upd hv3
       · rw [tk,ea]
         rw [yac] at hl ⊢;have:[(x,p)].length=[(x,y)].length:=rfl;omega
       · rw [Zai (Zam z hn)]
         exact smT _ _ (sm2 b o z)
     · rw [if_neg (by intro z;injection z with z;omega)]
       exact app (Zbf ey)
 · rintro σ H1 ⟨⟨r,v2,rfl,hR,hn⟩,hl,sm⟩
   walk_at "vc";rw [yam (by rw [Zal];exact yad _)] at hR;exact q r H1 sm hn hR
def spLLeast:Sp:=fun vs H Q _=>∃ (a:Addr) (ps:List Nat),vs=[.ref a]∧H a=some (.lst (pint ps))∧Up 0 ps∧(∀ p∈ps,p<256)∧∀ t v H',Same H H'→H' t=some (.tup [.str (kS (kdOf ps)),v])→BodyIs H' (kdOf ps) ps v→(∀ l,v=.ref l→l=a∨H l=none)→Q (.ref t) H'
theorem ZjR (B:Blt mg)(jaY:FnAt P w K mg base "_law_word" ["_law_places"] 1 (spWord K))(jaZ:FnAt P w K mg base "_law_runs" ["_law_places"] 1 (spRunsS K))
   (d:DefAt K mg "_law_least" ZdI ["_law_places"]):FnAt P w K mg base "_law_least" ["_law_places"] 2 spLLeast:=by
 refine FnAt.of d jaU ?_ ?_;walk_at "F";have nd:=jaU.nd;obtain ⟨a,ps,rfl,hS,up,h256,q⟩:=h;refine ⟨_,(Zaf (Zas (i:=1) (Zaj jaZ (Zaa (pv 0) Zac)))
     (Zaf (ZaC (PW.pt (Zig (ZaH ZcK (Zaw (ZaF K) rfl B.len zar (Zaa (pv 0) Zac)) Zad) (Zf6 (ZaH ZcK (Zaw (ZaF K) rfl B.len zar (Zaa (pv 0) Zac)) (Zah ZaZ Zad (Zaw (ZaF K) rfl B.len zar (Zaa (pv 1) Zac))))))) (Zae (Zak (ZaR (Zaa ZdX (Zaa (pv 0) Zac))))) Zao)
     (Zaf (ZaC (ZaH op_ge (Zah ZaZ Zad (Zaw (ZaF K) rfl B.len zar (Zaa (pv 1) Zac))) Zad) (Zae (Zak (ZaR (Zaa ZdX (Zaa (Zaj jaY (Zaa (pv 0) Zac)) Zac))))) Zao)
     (Zae (Zak (ZaR (Zaa ZdX (Zaa (pv 1) Zac)))))))),?_⟩
 walk_at "vc";refine ⟨a,ps,rfl,SqL.of hS,Up.lt256 up h256,fun r H1 s1 nr hR=>?_⟩;obtain ⟨us,hu,ht⟩:=hR;have hS1:=s1 _ _ hS;walk_at "vc";refine ⟨_,.inl (SqL.of hS1),?_⟩;rw [Zal];have rest:¬ (ps.length≤32∧ps.length≤2*(runsOf ps).length)→∃ x:List V,(SqL K H1 r x∨SqT K H1 r x) ∧
     if 32≤2*(x.length:Int) then spWord K [V.ref a] H1 (fun x H1=>2≤sizeLine∧∀ (p:Addr),H1 p=none→Q (V.ref p) (upd H1 p (HO.tup [V.str (Str.ofString "bits"),x]))) E0
     else 2≤sizeLine∧∀ (p:Addr),H1 p=none→Q (V.ref p) (upd H1 p (HO.tup [V.str (Str.ofString "runs"),V.ref r])):=fun n1=>by
   refine ⟨_,.inl (SqL.of hu),?_⟩;rw [ht.length];by_cases c3:32≤2*(runsOf ps).length
   · rw [if_pos (by omega)]
     have e:kdOf ps=.b:=by unfold kdOf;rw [if_neg n1,if_pos c3]
     rw [e] at q;refine ⟨a,ps,rfl,SqL.of hS1,up,h256,by decide,fun t nt=>?_⟩;exact q t _ _ (s1.trans (Same.new nt)) Zab rfl (fun l e=>by cases e)
   · rw [if_neg (by omega)]
     have e:kdOf ps=.r:=by unfold kdOf;rw [if_neg n1,if_neg c3]
     rw [e] at q;refine ⟨by decide,fun t nt=>?_⟩;have s2:=Same.new (o:=.tup [V.str (Str.ofString "runs"),V.ref r]) nt;exact q t _ _ (s1.trans s2) Zab ⟨r,rfl,us,s2 _ _ hu,ht.same s2⟩ (fun l e=>by cases e;exact .inr nr)
 by_cases c1:ps.length≤32
 · rw [if_pos (by omega)]
   refine ⟨_,.inl (SqL.of hS1),_,.inl (SqL.of hu),?_⟩;rw [Zal,ht.length];by_cases c2:ps.length≤2*(runsOf ps).length
   · rw [if_pos (by omega)]
     have e:kdOf ps=.l:=by unfold kdOf;rw [if_pos ⟨c1,c2⟩]
     rw [e] at q;refine ⟨by decide,fun t nt=>?_⟩;have s2:=Same.new (o:=.tup [V.str (Str.ofString "list"),V.ref a]) nt;exact q t _ _ (s1.trans s2) Zab ⟨a,rfl,s2 _ _ hS1⟩ (fun l e=>by cases e;exact .inl rfl)
   · rw [if_neg (by omega)]
     exact rest fun z=>c2 z.2
 · rw [if_neg (by omega)]
   exact rest fun z=>c1 z.1
def BySt (H H':Hp)(D:Addr)(ns:List Nat):Prop:=∃ (kvs:List (Key × V)) (ks:List Nat) (lf:Nat→Addr),H' D=some (.dK kvs)∧Dn kvs ks∧(∀ k,k∈ks↔∃ n∈ns,n/256=k)∧(∀ k∈ks,valV kvs (Sum.inl (k:Int))=some (.ref (lf k))∧H' (lf k)=some (.lst (pint ((ns.filter fun n=>decide (n/256=k)).map (·%256))))∧H (lf k)=none)∧∀ k∈ks,∀ k'∈ks,lf k=lf k'→k=k'
structure ByI (a D:Addr)(ns:List Nat)(H:Hp)(i:Nat)(σ:L2.St)(H':Hp):Prop where
 ex:∃ v2 v3 v4 v5 v6:Option V,σ=[some (.ref a),some (.ref D),v2,v3,v4,v5,v6]
 same:Same H H'
 st:BySt H H' D (ns.take i)
def spLTold:Sp:=fun vs H Q _=>∃ (a:Addr) (es:List Ent),vs=[.ref a]∧H a=some (.lst (pint (flat es)))∧EsOk es∧tot es≤1000∧∀ l us H',Same H H'→H' l=some (.lst us)→Paired (RowAt H') us es→Q (.ref l) H'
theorem by_step {H1:Hp} {D:Addr} {n:Nat} {R:Hp→Prop} (fD:H D=none) (sm:Same H H1) (st:BySt H H1 D ns) (ln:ns.length≤1000) (q:∀ H',Same H H'→BySt H H' D (ns++[n])→R H') (p:Addr) (fp:H1 p=none) :
   ∃ kvs,upd H1 p (.lst []) D=some (.dK kvs)∧∃ k,V.int ((n/256:Nat):Int)=kV k∧kvs.length<sizeLine ∧
     (∀ v,valV kvs k=some v→tyV K "list" v (upd H1 p (.lst []))∧∃ l,v=.ref l∧∃ xs,upd H1 p (.lst []) l=some (.lst xs)∧xs.length<sizeLine∧R (upd (upd H1 p (.lst [])) l (.lst (xs++[.int ((n%256:Nat):Int)])))) ∧
     (valV kvs k=none→(∃ xs,SqL K (upd (upd H1 p (.lst [])) D (.dK (putK kvs k (.ref p)))) p xs)∧∃ xs,upd (upd H1 p (.lst [])) D (.dK (putK kvs k (.ref p))) p=some (.lst xs)∧xs.length<sizeLine∧R (upd (upd (upd H1 p (.lst [])) D (.dK (putK kvs k (.ref p)))) p (.lst (xs++[.int ((n%256:Nat):Int)])))):=by
 obtain ⟨kvs,ks,lf,hD,dn,mem,ls,inj⟩:=st;have sp:=Same.new (o:=.lst []) fp;have hp0:H p=none:=sm.free fp;have nDp:D≠p:=fun z=>by rw [← z,hD] at fp;cases fp
 have lk:ks.length≤ns.length:=by
   have:=dn.nd.length_le_of_subset (l₂:=ns.map (·/256)) fun k hk=>by
     obtain ⟨n',h1,h2⟩:=(mem k).mp hk;exact yaD.mpr ⟨n',h1,h2⟩
   rw [yaa] at this;exact this
 have fl:∀ k:Nat,((ns++[n]).filter fun m=>decide (m/256=k)).map (·%256)=((ns.filter fun m=>decide (m/256=k)).map (·%256))++if n/256=k then [n%256] else []:=fun k=>by
   rw [ybV,yaQ,yba];by_cases e:n/256=k
   · rw [if_pos (yap e),if_pos e]
     rfl
   · rw [if_neg (by rw [yaL];exact e),if_neg e]
     rfl
 have mm:∀ k,(∃ m∈ns++[n],m/256=k)↔(∃ m∈ns,m/256=k)∨k=n/256:=fun k=>by
   constructor
   · rintro ⟨m,h,e⟩
     rcases yai.mp h with h | h
     · exact .inl ⟨m,h,e⟩
     · rw [yal.mp h] at e
       exact .inr e.symm
   · rintro (⟨m,h,e⟩ | e)
     · exact ⟨m,yaZ _ h,e⟩
     · exact ⟨n,yaz _ (.head _),e.symm⟩
 refine ⟨kvs,sp _ _ hD,Sum.inl ((n/256:Nat):Int),rfl,small1000 (by rw [dn.len];omega),fun v hv=>?_,fun hv=>?_⟩
 · have hin:n/256∈ks:=by
     have:=dn.some (n/256);rw [hv] at this;exact yaS this.symm
   obtain ⟨h1,h2,h3⟩:=ls _ hin;rw [h1] at hv;cases hv;refine ⟨tyV_list.mpr ⟨_,SqL.of (sp _ _ h2)⟩,_,rfl,_,sp _ _ h2,small1000 (by rw [Zal,yaa];exact yaN (ybp _ _) ln),q _ ((sm.trans sp).put h3) ⟨kvs,ks,lf,?_,dn,fun k=>?_,fun k hk=>⟨(ls k hk).1,?_,(ls k hk).2.2⟩,inj⟩⟩
   · rw [Zai (fun z=>by rw [← z,hD] at h2;cases h2)]
     exact sp _ _ hD
   · rw [mem,mm]
     exact ⟨.inl,fun z=>z.elim id fun z=>(mem k).mp (z ▸ hin)⟩
   · by_cases e:k=n/256
     · rw [e,Zab,fl,if_pos rfl]
       unfold pint;rw [yaQ];rfl
     · rw [Zai (fun z=>e (inj k hk _ hin z)),fl,if_neg (fun z=>e z.symm),yaH]
       exact sp _ _ (ls k hk).2.1
 · have nin:n/256∉ks:=fun z=>by
     have:=dn.some (n/256);rw [hv,yap z] at this;cases this
   obtain ⟨ms',dn',mem',_⟩:=dn.put (n/256) (.ref p);have lp:∀ k∈ks,lf k≠p:=fun k hk z=>by
     have:=(ls k hk).2.1;rw [z,fp] at this;cases this
   have lD:∀ k∈ks,lf k≠D:=fun k hk z=>by
     have:=(ls k hk).2.1;rw [z,hD] at this;cases this
   have gp:upd (upd H1 p (.lst [])) D (.dK (putK kvs (Sum.inl ((n/256:Nat):Int)) (.ref p))) p=some (.lst []):=by rw [Zai (Ne.symm nDp),Zab]
   refine ⟨⟨_,SqL.of gp⟩,[],gp,by decide,q _ (((sm.trans sp).put fD).put hp0) ⟨_,ms',fun k=>if k=n/256 then p else lf k,by rw [Zai nDp,Zab],dn',fun k=>?_,fun k hk=>?_,fun k hk k' hk' e=>?_⟩⟩
   · rw [mem',mem,mm]
   · rw [ZeI]
     dsimp only;by_cases e:k=n/256
     · rw [e,if_pos rfl,if_pos rfl,Zab,fl,if_pos rfl]
       refine ⟨rfl,?_,hp0⟩;rw [ybc.mpr fun m hm=>by rw [yaL];exact fun z=>nin ((mem _).mpr ⟨m,hm,z⟩)];rfl
     · have hk:k∈ks:=((mem' k).mp hk).resolve_right e
       rw [if_neg (fun z=>e (inl_nat.mp z)),if_neg e,Zai (lp k hk),Zai (lD k hk),fl,if_neg (fun z=>e z.symm),yaH];exact ⟨(ls k hk).1,sp _ _ (ls k hk).2.1,(ls k hk).2.2⟩
   · dsimp only at e
     by_cases e1:k=n/256
     · by_cases e2:k'=n/256
       · rw [e1,e2]
       · rw [if_pos e1,if_neg e2] at e
         exact absurd e.symm (lp k' (((mem' k').mp hk').resolve_right e2))
     · rw [if_neg e1] at e
       have hk:=((mem' k).mp hk).resolve_right e1;by_cases e2:k'=n/256
       · rw [if_pos e2] at e
         exact absurd e (lp k hk)
       · rw [if_neg e2] at e
         exact inj k hk k' (((mem' k').mp hk').resolve_right e2) e
structure TlI (a D T L:Addr)(es:List Ent)(H:Hp)(i:Nat)(σ:L2.St)(H':Hp):Prop where
 ex:∃ v2 v4 v5 v6:Option V,σ=[some (.ref a),some (.ref D),v2,some (.ref T),v4,v5,v6]
 same:Same H H'
 hL:H' L=some (.lst (pint (kys es)))
 rw:∃ us,H' T=some (.lst us)∧Paired (RowD T H') us (es.take i)
theorem up_mod {k:Nat}:∀ {a:Nat} {ns:List Nat},Up a ns→(∀ n∈ns,n/256=k)→256*k≤a→Up (a-256*k) (ns.map (·%256))
 | _,[],_,_,_=>trivial
 | a,n::r,⟨h1,h2⟩,h,l=>by
   have e:=h n (.head _);have m:n%256=n-256*k:=by omega
   refine ⟨by show a-256*k≤n%256;omega,?_⟩;have:=up_mod h2 (fun x hx=>h x (.tail _ hx)) (by omega);rw [show n+1-256*k=n%256+1 by omega] at this;exact this
theorem by_plc {es:List Ent}(ok:EsOk es)(k:Nat):((flat es).filter fun n=>decide (n/256=k)).map (·%256)=plcE k es:=by
 obtain ⟨u,l⟩:=ZcH ok k;have m:∀ n∈(flat es).filter fun n=>decide (n/256=k),n/256=k:=fun n hn=>yaS (yas.mp hn).2
 have u2:=up_mod (Zes (k:=256*k) ok.flat_up.filter fun n hn=>by have:=m n hn;omega) m (yad _);rw [ybU] at u2;refine Up.ext u2 u fun p=>?_
 rw [yaD];constructor
 · rintro ⟨n,hn,rfl⟩
   have:=m n hn;rw [Zbs ok (by omega),show 256*k+n%256=n by omega];exact (yas.mp hn).1
 · intro hp
   have:=l p hp;exact ⟨256*k+p,yas.mpr ⟨(Zbs ok this).mp hp,yap (by omega)⟩,by omega⟩
section
variable {c:Kd→Addr}{ts:Tabs}
theorem ok_ltold (B:Blt mg) (jaF:FnAt P w K mg base "_law_least" ["_law_places"] 2 spLLeast) (d:DefAt K mg "_law_told" ZeN ["_law_numbers"]):FnAt P w K mg base "_law_told" ["_law_numbers"] 3 spLTold:=by
 refine FnAt.of d jbp ?_ ?_;walk_at "F";have nd:=jbp.nd;obtain ⟨a,es,rfl,ha,ok,le,q⟩:=h;refine ⟨_,(Zaf (Zas (i:=1) ZcV)
     (Zaf (Za0 zak rfl (ZaD K (pv 0)) (Za4 (i:=2)) (Zae (ZaM (ZcP K zaq zau zav Za6 (pe_dset (pv 1) (Zah Zaq (pv 2) Zad) (ZaJ Zac) ⟨rfl,rfl,rfl,rfl⟩) (Zaa (Zah Zau (pv 2) Zad) Zac)))))
     (Zaf (Zas (i:=3) (ZaJ Zac))
     (Zaf (Za0 zak rfl (ZaD K (Zaw ZbC rfl B.sorted L2.boot_sorted (Zaa (pv 1) Zac))) (Za4 (i:=4)) (Zaf (ZdQ (Zaj jaF (Zaa (Zip (hu1 hr) (pv 1) (pv 4) (fun _ _=>rfl)) Zac)) (ZbF K rfl (ZaA (Za4 (i:=5)) (ZaA (Za4 (i:=6)) Zbp))))
     (Zae (ZaM (ZcP K zaq zau zav Za6 (pv 3) (Zaa (ZaR (Zaa (pv 4) (Zaa (pv 5) (Zaa (pv 6) Zac)))) Zac))))))
     (Zae (Zak (pv 3))))))),?_⟩
 walk_at "vc";intro D fD;have s0:=Same.new (o:=.dK []) fD;refine ⟨⟨_,SqL.of (s0 _ _ ha)⟩,loopL (xs:=pint (flat es)) (ByI a D (flat es) H) ⟨⟨_,_,_,_,_,rfl⟩,s0,[],[],fun _=>D,Zab,⟨rfl,ycf⟩,fun k=>⟨(fun h=>nomatch h),fun ⟨_,h,_⟩=>nomatch h⟩,(fun _ h=>nomatch h),(fun _ h=>nomatch h)⟩ ?_ ?_ ?_⟩
 · rintro i σ H1 hi ⟨_,sm,_⟩
   exact SqL.of (sm _ _ ha)
 · rintro i x σ H1 hi ⟨⟨v2,v3,v4,v5,v6,rfl⟩,sm,st⟩
   obtain ⟨n,hn,rfl⟩:=ZaT hi;have tk:(flat es).take (i+1)=(flat es).take i++[n]:=by rw [ybo,hn];rfl
   walk_at "vc";rw [show (n:Int)/256=((n/256:Nat):Int) by omega,show (n:Int)%256=((n%256:Nat):Int) by omega];refine ⟨.inl ⟨_,.inl st.choose_spec.choose_spec.choose_spec.1⟩,yau _,fun p np=>by_step fD sm st (by rw [yaB,Za9];omega) (fun H' s' st'=>⟨⟨_,_,_,_,_,rfl⟩,s',by rw [tk];exact st'⟩) p np⟩
 · rintro σ H1 ⟨⟨v2,v3,v4,v5,v6,rfl⟩,sm,st⟩
   rw [yam (by rw [Zal];exact yad _)] at st;obtain ⟨kvs,ks,lf,hD,dn,mem,ls,inj⟩:=st;walk_at "vc";refine ⟨yau _,fun T nT=>?_⟩;have sT:=Same.new (o:=.lst []) nT;refine ⟨kvs,sT _ _ hD,ks.map fun (n:Nat)=>(n:Int),by rw [dn.keys,ybh];rfl,fun L zs nL pm so=>?_⟩;obtain ⟨os,eo,uo,mo,_⟩:=ZdL dn pm so;rw [eo];have e0:os=kys es:=Up.ext uo ok.up fun k=>by rw [mo,mem,Zdu ok]
   subst e0;have nTL:T≠L:=fun z=>by rw [← z,Zab] at nL;cases nL
   have sL:=Same.new (o:=.lst (pint (kys es))) nL;refine ⟨⟨_,SqL.of Zab⟩,loopL (xs:=pint (kys es)) (TlI a D T L es H1) ⟨⟨_,_,_,_,rfl⟩,sT.trans sL,Zab,[],by rw [Zai nTL,Zab],.nil⟩ ?_ ?_ ?_⟩
   · rintro i σ H2 hi ⟨_,_,hL,_⟩
     exact SqL.of hL
   · rintro i x σ H2 hi ⟨⟨v2,v4,v5,v6,rfl⟩,sm2,hL,us,hT,rows⟩
     obtain ⟨k,hk,rfl⟩:=ZaT hi;obtain ⟨e,he,rfl⟩:∃ e,es[i]?=some e∧e.key=k:=by
       unfold kys at hk;rw [yay] at hk;cases z:es[i]? with
       | none=>rw [z] at hk;cases hk
       | some e=>rw [z] at hk;exact ⟨e,rfl,Option.some.inj hk⟩
     have hin:=yaq he;have tk:es.take (i+1)=es.take i++[e]:=by rw [ybo,he];rfl
     obtain ⟨g1,g2,_⟩:=ls e.key ((mo _).mp (yaq hk));rw [by_plc ok,ZiB ok hin] at g2;have nlf:lf e.key≠T:=fun z=>by rw [z,nT] at g2;cases g2
     have g2:=sm2 _ _ g2;have gD:DGet H2 D (.int (e.key:Nat)) (some (.ref (lf e.key))):=by rw [← g1];exact DGet.k (k:=Sum.inl ((e.key:Nat):Int)) (sm2 _ _ hD)
     have lus:=rows.length;rw [yaB] at lus;have les:=ZbY ok;walk_at "vc";refine ⟨_,gD,_,e.ps,rfl,g2,ok.pup e hin,ok.plt e hin,fun t v H3 s3 ht bi fr=>⟨t,rfl,_,SqT.of ht,rfl,_,_,rfl,_,_,rfl,rfl,⟨_,SqL.of (s3 _ _ hT)⟩,by decide,fun p np=>?_⟩⟩;have sp:=Same.new (o:=.tup [.int (e.key:Nat),.str (kS (kdOf e.ps)),v]) np;have gp:upd H3 p (.tup [.int (e.key:Nat),.str (kS (kdOf e.ps)),v]) p=some (.tup [.int (e.key:Nat),.str (kS (kdOf e.ps)),v]):=Zab;generalize upd H3 p (.tup [.int (e.key:Nat),.str (kS (kdOf e.ps)),v])=H4 at sp gp ⊢;have hT4:=sp _ _ (s3 _ _ hT);have row:RowD T H4 (.ref p) e:=⟨p,v,rfl,gp,bi.same sp,fun l el z=>by
       rcases fr l el with r | r
       · exact nlf (r.symm.trans z)
       · rw [z,hT] at r
         cases r⟩
     have rows4:=Paired.mapP rows fun _ _ h=>h.same (s3.trans sp)
     refine ⟨us,hT4,small1000 (by omega),⟨⟨_,_,_,_,rfl⟩,(sm2.trans (s3.trans sp)).put nT,?_,_,Zab,?_⟩⟩
     · rw [Zai (Ne.symm nTL)]
       exact sp _ _ (s3 _ _ hL)
     · rw [tk]
       exact Paired.snoc (Paired.mapP rows4 fun _ _ h=>h.away hT4) (row.away hT4)
   · rintro σ H2 ⟨⟨v2,v4,v5,v6,rfl⟩,sm2,hL,us,hT,rows⟩
     walk_at "vc";rw [yam (by rw [Zal];unfold kys;rw [yaa];exact yad _)] at rows;exact q T us H2 (sm.trans sm2) hT (Paired.mapP rows fun _ _ ⟨t,b,e1,h1,h2,_⟩=>⟨t,b,e1,h1,h2⟩)
end
def addB (i:Nat)(rs:List (Nat × Nat))(n:Nat):List (Nat × Nat):=match rs.getLast? with
 | none=>rs++[(n/256,i)]
 | some r=>if r.1=n/256 then rs else rs++[(n/256,i)]
def bkF:Nat→List (Nat × Nat)→List Nat→List (Nat × Nat)
 | _,rs,[]=>rs
 | i,rs,n::r=>bkF (i+1) (addB i rs n) r
theorem Zdi:∀ (xs ys:List Nat) (i:Nat) (rs:List (Nat × Nat)),bkF i rs (xs++ys)=bkF (i+xs.length) (bkF i rs xs) ys
 | [],_,_,_=>rfl
 | x::r,ys,i,rs=>by
   show bkF (i+1) (addB i rs x) (r++ys)=bkF (i+(r.length+1)) (bkF (i+1) (addB i rs x) r) ys;rw [Zdi,show i+1+r.length=i+(r.length+1) by omega]
theorem ZiU {k a:Nat}{q:List (Nat × Nat)}:∀ (ps:List Nat) (i:Nat),(∀ p∈ps,p<256)→bkF i (q++[(k,a)]) (ps.map fun p=>256*k+p)=q++[(k,a)]
 | [],_,_=>rfl
 | p :: r,i,h=>by
   have hp:=h p (.head _);show bkF (i+1) (addB i (q++[(k,a)]) (256*k+p)) (r.map fun p=>256*k+p)=_;have e:addB i (q++[(k,a)]) (256*k+p)=q++[(k,a)]:=by unfold addB;rw [ybI];show (if k=(256*k+p)/256 then _ else _)=_;rw [if_pos (by omega)]
   rw [e];exact ZiU r (i+1) fun x hx=>h x (.tail _ hx)
theorem ZgN:∀ (es:List Ent) (a b:Nat) (rs:List (Nat × Nat)),(∀ e∈es,e.ps≠[])→(∀ e∈es,∀ p∈e.ps,p<256)→Up b (kys es)→(∀ r,rs.getLast?=some r→r.1<b)→bkF a rs (flat es)=rs++(kys es).zip (ahs a es)
 | [],_,_,rs,_,_,_,_=>(yaH rs).symm
 | e :: r, a,b,rs,hn,hl,⟨h1,h2⟩,hr=>by
   show bkF a rs (e.ps.map (fun p=>256*e.key+p)++flat r)=rs++(e.key,a)::(kys r).zip (ahs (a+e.ps.length) r);have lp:=hl e (.head _);have fst:bkF a rs (e.ps.map fun p=>256*e.key+p)=rs++[(e.key,a)]:=by
     cases z:e.ps with
     | nil=>exact absurd z (hn e (.head _))
     | cons p q =>
       rw [z] at lp;have hp:=lp p (.head _);show bkF (a+1) (addB a rs (256*e.key+p)) (q.map fun p=>256*e.key+p)=_;have ea:addB a rs (256*e.key+p)=rs++[(e.key,a)]:=by
         unfold addB;have dv:(256*e.key+p)/256=e.key:=by omega
         rw [dv];cases y:rs.getLast? with
         | none=>rfl
         | some x =>
           have:=hr x y;have h1:b≤e.key:=h1;show (if x.1=e.key then _ else _)=_;rw [if_neg (by omega)]
       rw [ea];exact ZiU q _ fun x hx=>lp x (.tail _ hx)
   rw [Zdi,fst,yaa,ZgN r _ (e.key+1) _ (fun x hx=>hn x (.tail _ hx)) (fun x hx=>hl x (.tail _ hx)) h2 (fun x hx=>by
     rw [ybI] at hx;cases hx;exact ybr _),yaf]
   rfl
def spLBook:Sp:=fun vs H Q _=>∃ (a:Addr) (ns:List Nat),vs=[.ref a]∧H a=some (.lst (pint ns))∧ns.length≤1000∧∀ l H',Same H H'→RunsL H' l (bkF 0 [] ns)→Q (.ref l) H'
structure LbI (a:Addr)(ns:List Nat)(H:Hp)(i:Nat)(σ:L2.St)(H':Hp):Prop where
 ex:∃ (r:Addr) (v2:Option V),σ=[some (.ref a),some (.ref r),v2]∧RunsL H' r (bkF 0 [] (ns.take i))∧H r=none
 len:(bkF 0 [] (ns.take i)).length≤i
 same:Same H H'
section
variable {c:Kd→Addr}{ts:Tabs}
theorem ok_lbook (B:Blt mg) (d:DefAt K mg "_law_book" Ze8 ["_law_numbers"]):FnAt P w K mg base "_law_book" ["_law_numbers"] 1 spLBook:=by
 refine FnAt.of d jbq ?_ ?_;walk_at "F";have nd:=jbq.nd;obtain ⟨a,ns,rfl,ha,le,q⟩:=h;refine ⟨_,(Zaf (Zas (i:=1) (ZaJ Zac))
     (Zaf (Za0 zak rfl (ZbK rfl B.range (Zaa (Zaw (ZaF K) rfl B.len zar (Zaa (pv 0) Zac)) Zac)) (Za4 (i:=2)) (Zae (ZaC (PW.pt (Zew (ZaH (Zgl K (hu64 hr)) (pv 1) (ZaJ Zac)) (ZdY (ZaH Zfv (Za5 (ZdD K) (Za5 (Zar K) (pv 1) (Zfu ZeJ Zad)) Zad) (Zah Zaq (Za5 (Zar K) (pv 0) (pv 2)) Zad))))) (Zae (ZaM (ZcP K zaq zau zav Za6 (pv 1) (Zaa (ZaR (Zaa (Zah Zaq (Za5 (Zar K) (pv 0) (pv 2)) Zad) (Zaa (pv 2) Zac))) Zac)))) Zao)))
     (Zae (Zak (pv 1))))),?_⟩
 walk_at "vc";refine ⟨yau _,fun r hr0=>?_⟩;have sm0:=Same.new (o:=.lst []) hr0;refine ⟨_,.inl (SqL.of (sm0 _ _ ha)),?_⟩;rw [Zal];refine ⟨by omega,by omega,?_⟩;rw [yao];refine loopR (LbI a ns H) ⟨⟨r,none,rfl,⟨[],Zab,.nil⟩,hr0⟩,yad _,sm0⟩ ?_ ?_
 · rintro i σ H1 hi ⟨⟨r,v2,rfl,hR,hn⟩,hl,sm⟩
   have hx:ns[i]?=some ns[i]:=yae hi;generalize ns[i]=n at hx;have tk:bkF 0 [] (ns.take (i+1))=addB i (bkF 0 [] (ns.take i)) n:=by rw [ybo,hx];show bkF 0 [] (ns.take i++[n])=_;rw [Zdi,yaB,show 0+min i ns.length=i by omega];rfl
   have gx:atI (pint ns) (i:Int)=some (.int (n:Nat)):=Zbj hx;walk_at "vc";refine ⟨yau _,fun e he=>?_⟩;obtain ⟨vs,hv,hT⟩:=hR;have smE:Same H1 (upd H1 e (.lst [])):=Same.new he;refine ZeG (qs:=[]) ⟨vs,smE _ _ hv,hT.same smE⟩ ⟨[],Zab,.nil⟩ ?_;have hv2:=smE _ _ hv;have ht2:=hT.same smE;have sm2:=sm.trans smE;generalize upd H1 e (.lst [])=H2 at hv2 ht2 sm2 ⊢;clear hv hT smE sm he;have ha2:=sm2 _ _ ha;generalize bkF 0 [] (ns.take i)=rs at tk hl ht2 ⊢;have lv:=ht2.length;have dv:(n:Int)/256=((n/256:Nat):Int):=by omega
   have app:addB i rs n=rs++[(n/256,i)]→(∃ xs,SqL K H2 r xs)∧∃ x,SqL K H2 a x∧∃ x_1,atI x (i:Int)=some x_1∧∃ i_1,x_1=V.int i_1∧2≤sizeLine∧∀ p,H2 p=none→∃ x,upd H2 p (HO.tup [V.int (i_1/256),V.int i]) r=some (HO.lst x)∧x.length<sizeLine∧LbI a ns H (i+1) [some (V.ref a),some (V.ref r),some (V.int i)] (upd (upd H2 p (HO.tup [V.int (i_1/256),V.int i])) r (HO.lst (x++[V.ref p]))):=fun ea=>by
     refine ⟨⟨_,SqL.of hv2⟩,_,SqL.of ha2,_,gx,_,rfl,by decide,fun t h3=>?_⟩;rw [dv];have smT:=Same.new (o:=.tup [V.int ((n/256:Nat):Int),V.int (i:Int)]) h3;have hv3:=smT _ _ hv2;refine ⟨vs,hv3,small1000 (by omega),⟨⟨r,_,rfl,⟨_,Zab,?_⟩,hn⟩,?_,(sm2.trans smT).put hn⟩⟩
     · rw [tk,ea]
       exact ((ht2.same smT).snoc (r:=(n/256,i)) Zab).upd hv3
     · rw [tk,ea,yac]
       show rs.length+1≤_;omega
   rcases ybf rs with e0 | ⟨rs0,⟨x,y⟩,e0⟩
   · refine ⟨_,rfl,?_⟩
     rw [yap e0,if_pos rfl];exact app (by rw [e0];rfl)
   · rw [ybg] at e0
     subst e0;obtain ⟨vs0,t,rfl,ht0,htt⟩:=ht2.last;refine ⟨_,rfl,?_⟩;rw [yaI (by simp),if_neg (by decide)];refine ⟨_,SqL.of hv2,.ref t,(Ze9 _ _),t,rfl,_,SqT.of htt,.int (x:Nat),rfl,_,SqL.of ha2,_,gx,_,rfl,rfl,?_⟩;by_cases ex:x=n/256
     · rw [if_pos (by rw [dv,ex])]
       have ea:addB i (rs0++[(x,y)]) n=rs0++[(x,y)]:=by unfold addB;rw [ybI];show (if x=n/256 then _ else _)=_;rw [if_pos ex]
       refine ⟨⟨r,_,rfl,⟨_,hv2,?_⟩,hn⟩,?_,sm2⟩
       · rw [tk,ea]
         exact ht2
       · rw [tk,ea]
         omega
     · rw [if_neg (by rw [dv];intro z;injection z with z;omega)]
       refine app ?_;unfold addB;rw [ybI];show (if x=n/256 then _ else _)=_;rw [if_neg ex]
 · rintro σ H1 ⟨⟨r,v2,rfl,hR,hn⟩,hl,sm⟩
   walk_at "vc";rw [yam (yad _)] at hR;exact q r H1 sm hR
end
def Ms (c:Kd→Addr)(CM:Addr)(H:Hp)(m:Addr)(ns:List Nat):Prop:=∃ es,MkAt c CM (noT H) m es∧EsOk es∧flat es=ns
section
variable {c:Kd→Addr}{ts:Tabs}
theorem Ms.nx {H H':Hp}{m:Addr}{ns:List Nat}(h:Ms c CM H m ns)(nx:Nx ts H H'):Ms c CM H' m ns:=by obtain ⟨es,h1,h2⟩:=h;exact ⟨es,h1.same nx.same,h2⟩
theorem Ms.up {m:Addr}(h:Ms c CM H m ns):Up 0 ns:=by obtain ⟨es,_,ok,rfl⟩:=h;exact ok.flat_up
theorem DW.set {k0:Nat}(dw:DW kvs ks g)(no:∀ k,k∉ks→g k=[]∧valV kvs (Sum.inl (k:Int))=none)(hk:k0<256)(hu:Up 0 ps)(hp:∀ p∈ps,p<256) :
   DW (putK kvs (Sum.inl (k0:Int)) (.int (wd ps:Nat))) (if k0∈ks then ks else ks++[k0]) (fun k=>if k=k0 then ps else g k)∧(∀ k,k∉(if k0∈ks then ks else ks++[k0])→(if k=k0 then ps else g k)=[]∧valV (putK kvs (Sum.inl (k0:Int)) (.int (wd ps:Nat))) (Sum.inl (k:Int))=none):=by
 have iff_ks:∀ k,k∈(if k0∈ks then ks else ks++[k0])↔k∈ks∨k=k0:=fun k=>by
   split
   · rename_i h
     exact ⟨.inl,fun z=>z.elim id fun z=>by rw [z];exact h⟩
   · rw [yai,yal]
 have vals:∀ k:Nat,valV (putK kvs (Sum.inl (k0:Int)) (.int (wd ps:Nat))) (Sum.inl (k:Int))=if k=k0 then some (.int (wd ps:Nat)) else valV kvs (Sum.inl (k:Int)):=fun k=>by
   rw [ZeI];by_cases c:k=k0
   · rw [if_pos (by rw [c]),if_pos c]
   · rw [if_neg (by intro z;exact c (Int.ofNat.inj (Sum.inl.inj z))),if_neg c]
 have some_iff:(valV kvs (Sum.inl (k0:Int))).isSome=true↔k0∈ks:=by
   by_cases c:k0∈ks
   · rw [dw.val _ c];simp [c]
   · rw [(no _ c).2];simp [c]
 refine ⟨⟨?_,?_,fun k hk=>?_,fun k hk=>?_⟩,fun k hk=>?_⟩
 · rw [Zfr]
   by_cases c:k0∈ks
   · rw [if_pos (some_iff.mpr c),if_pos c,dw.keys]
   · rw [if_neg (fun z=>c (some_iff.mp z)),if_neg c,dw.keys,yaQ]
     rfl
 · split
   · exact dw.nd
   · rename_i h
     exact Zgj dw.nd h
 · by_cases c:k=k0
   · rw [if_pos c]
     exact ⟨by omega,hu,hp⟩
   · rw [if_neg c]
     exact dw.ok k (((iff_ks k).mp hk).resolve_right c)
 · rw [vals]
   by_cases c:k=k0
   · rw [if_pos c,if_pos c]
   · rw [if_neg c,if_neg c]
     exact dw.val k (((iff_ks k).mp hk).resolve_right c)
 · have nk:k∉ks∧k≠k0:=⟨fun z=>hk ((iff_ks k).mpr (.inl z)),fun z=>hk ((iff_ks k).mpr (.inr z))⟩
   rw [vals,if_neg nk.2,if_neg nk.2];exact no k nk.1
end
section
variable {c:Kd→Addr}{ts:Tabs}
theorem ZfH {Q:VK}{a b:Addr}{us:List V}{es es':List Ent}(ha:H a=some (.lst us))(hb:H b=some (.lst vs))(h1:Paired (RowAt H) us es)(h2:Paired (RowAt H) vs es')(e:es.map rowD=es'.map rowD)(q:Q (.bl false) H):rNeD K (.ref a) (.ref b) H Q:=by obtain ⟨d1,d2,r1,r2,s1,s2,nm,x,ex,q⟩:=Zi0 (K:=K) (Q:=fun v H'=>∃ x,v=.bl x∧Q (.bl (!x)) H') ha hb h1 h2 e ⟨true,rfl,q⟩;cases ex;exact ⟨d1,d2,r1,r2,s1,s2,nm,q⟩
theorem up_idx:∀ {a:Nat} {ps:List Nat} {i p:Nat},Up a ps→ps[i]?=some p→(ps.filter fun q=>decide (q<p)).length=i
 | _,[],i,p,_,h=>by cases h
 | _,x :: r,0,p,⟨h1,h2⟩,h=>by
   cases h;rw [ybc.mpr fun q hq=>?_]
   · rfl
   · rw [yaL]
     rcases yaj.mp hq with z | z
     · omega
     · have:=h2.of_lt q z
       omega
 | _,x::r,i+1,p,⟨h1,h2⟩,h=>by
   have h:r[i]?=some p:=h;have hp:=h2.of_lt p (yaq h);rw [yba,if_pos (yap (by omega)),yak,up_idx h2 h]
def spEnds (c:Kd→Addr)(CM:Addr)(ts:Tabs):Sp:=fun vs H Q _=>∃ (m a:Addr) (ns:List Nat),vs=[.ref m,.ref a]∧Ms c CM H m ns∧noT H a=some (.lst (pint ns))∧ns.length≤900∧Tbs ts H∧∀ H',Nx ts H H'→Q (.bl true) H'
theorem ok_lends (B:Blt mg)(jb8:MethAt P w K mg base CM "onward" ["self","n"] 7 (spOn39 c CM ts))(jbN:MethAt P w K mg base CM "backward" ["self","n"] 7 (spBack39 c CM ts))(jw:MethAt P w K mg base CM "below" ["self","n"] 6 (spBel c CM ts))(j1:MethAt P w K mg base CM "chosen" ["self","k"] 6 (spCh39 c CM ts))(d:DefAt K mg "_law_ends" Zex ["_law_found","_law_numbers"]):FnAt P w K mg base "_law_ends" ["_law_found","_law_numbers"] 8 (spEnds c CM ts):=by
 refine FnAt.of d jbr ?_ ?_;walk_at "F";have nd:=jbr.nd;obtain ⟨m,a,ns,rfl,⟨es,hm,ok,rfl⟩,ha,le,ht,q⟩:=h;refine ⟨_,(Zaf (ZaC (ZaH (Zgl K (hu64 hr)) (pv 1) (ZaJ Zac)) (Zae (Zak (ZcR (Zei ZeF (Zax P w K mg base 7 (pv 0) (Zaa Zad Zac)) Zbv) (ZcO (Zei Zbd (Zax P w K mg base 6 (pv 0) (Zaa Zad Zac)) Zad))))) Zao)
     (Zaf (Zas (i:=2) (Zah ZaX (Zaw (ZaF K) rfl B.len zar (Zaa (pv 1) Zac)) Zad))
     (Zaf (ZaC (PW.pt (Zew (ZaH Zfv (Zax P w K mg base 6 (pv 0) (Zaa (pv 2) Zac)) (Za5 (Zar K) (pv 1) (pv 2))) (ZdY (ZaH Zfv (Zax P w K mg base 6 (pv 0) (Zaa (Zah Zaq (pv 2) Zad) Zac)) (Za5 (Zar K) (pv 1) (Zah Zaq (pv 2) Zad)))))) (Zae (Zak ZcL)) Zao)
     (Zae (Zak (ZcR (Zei Zbd (Zax P w K mg base 6 (pv 0) (Zaa (Za5 (Zar K) (pv 1) (pv 2)) Zac)) (pv 2)) (ZcO (Zei Zbd (Zax P w K mg base 7 (pv 0) (Zaa Zad Zac)) (Za5 (Zar K) (pv 1) (pv 2)))))))))),?_⟩
 obtain ⟨dx,kd,ah,sr,h1,_⟩:=hm.ex;walk_at "vc";refine ⟨yau _,fun e ne=>?_⟩;have nx0:=Nx.new (o':=.lst []) ht ne;refine ZfD (qs:=[]) (sL (nx0.at ha)) (SqL.of Zab) ⟨_,rfl,?_⟩;generalize upd H e (.lst [])=H1 at nx0 ⊢;have hm1:=hm.same nx0.same;have g1:=nx0.at h1;have ha1:=nx0.at ha;have bel:=fun n=>Zhs (n:=n) ok
 have len:=Za9 es;by_cases e0:flat es=[]
 · rw [yap e0,if_pos rfl]
   rw [e0] at len;have t0:tot es=0:=len.symm;refine ⟨_,_,_,(oT g1),rfl,_,_,jb8,m,es,0,rfl,by decide,hm1,ok,nx0.tb,fun z=>absurd z (by omega),fun _ H2 nx2=>?_⟩;show ite (V.non=V.non) _ _;rw [if_pos rfl];refine ⟨_,_,_,(oT (nx2.at g1)),rfl,_,_,jw,m,65535,es,rfl,by decide,hm1.same nx2.same,ok,nx2.tb,fun H3 nx3=>⟨rfl,?_⟩⟩;have b0:=bel 65535;rw [e0] at b0;rw [← b0];exact q H3 (nx0.trans (nx2.trans nx3))
 rw [yaI e0,if_neg (by decide)];have lt:∀ x∈flat es,x≤65535:=fun x hx=>by
   obtain ⟨e,he,z1,z2⟩:=(ZbX ok.plt).mp hx;have:=ok.klt e he;have:=ok.plt e he _ z2;omega
 have up:=ok.flat_up;refine ⟨_,.inl (sL ha1),?_⟩;rw [Zal];generalize eN:flat es=ns at *;obtain e1 | ⟨ns0,z,e1⟩:=ybf ns
 · exact absurd e1 e0
 rw [ybg] at e1;have ll:ns.length=ns0.length+1:=by rw [e1,yac];rfl
 have gz:ns[ns0.length]?=some z:=by rw [e1,yah (yad _),ybU];rfl
 have hz:z≤65535:=lt z (yaq gz);have mx:∀ x∈ns0,x<z:=by rw [e1] at up;exact Up.last up
 rw [show (ns.length:Int)-1=((ns0.length:Nat):Int) by omega,show ((ns0.length:Nat):Int)/2=((ns0.length/2:Nat):Int) by omega];have gy:ns[ns0.length/2]?=some ns[ns0.length/2]:=yae (by omega);generalize ns[ns0.length/2]=y at gy;refine ⟨_,_,_,(oT g1),rfl,_,_,j1,m,es,ns0.length,rfl,hm1,ok,by omega,nx0.tb,fun x H2 hx nx2=>?_⟩;rw [eN,gz] at hx;cases hx;refine ⟨_,sL (nx2.at ha1),_,Zbj gz,rfl,?_⟩;rw [if_pos rfl];have g2:=nx2.at g1;have hm2:=hm1.same nx2.same;have ha2:=nx2.at ha1;refine ⟨_,_,_,(oT g2),rfl,_,_,j1,m,es,ns0.length/2,rfl,hm2,ok,by omega,nx2.tb,fun x H3 hx nx3=>?_⟩;rw [eN,gy] at hx;cases hx;refine ⟨_,sL (nx3.at ha2),_,Zbj gy,rfl,?_⟩;have g3:=nx3.at g2;have hm3:=hm2.same nx3.same;have ha3:=nx3.at ha2;have NX:=nx0.trans (nx2.trans nx3);walk_at "vc";refine ⟨_,_,_,(oT g3),rfl,_,_,jw,_,sL ha3,_,Zbj gz,m,z,es,rfl,hz,hm3,ok,nx3.tb,fun H4 nx4=>⟨rfl,?_⟩⟩;rw [← bel z,up_idx up gz,if_pos rfl];have fin:∀ (x:Nat) H5,x=z→Nx ts H4 H5→(∃ x_10,SqL K H5 a x_10∧∃ x_11,atI x_10 (ns0.length:Int)=some x_11∧scal (V.int (x:Nat)) x_11=true∧Q (V.bl (decide (V.int (x:Nat)=x_11))) H5):=fun x H5 e nx5=>by
   subst e;refine ⟨_,sL (nx5.at (nx4.at ha3)),_,Zbj gz,rfl,?_⟩;rw [yap rfl];exact q H5 (NX.trans (nx4.trans nx5))
 have inz:∀ x∈ns,x≤z:=fun x hx=>by
   rw [e1] at hx;rcases yai.mp hx with hx | hx
   · exact ybC (mx x hx)
   · rw [yal.mp hx]
     exact yad _
 have bz:65535∉ns→belE 65535 es=ns.length:=fun nin=>by
   rw [← bel,ybP.mpr fun x hx=>yap ?_];have:=lt x hx;have:x≠65535:=fun y=>nin (y ▸ hx)
   omega
 refine ⟨_,_,_,(oT (nx4.at g3)),rfl,_,_,jbN,m,es,65535,rfl,by decide,hm3.same nx4.same,ok,nx4.tb,fun hin H5 nx5=>fin 65535 H5 ?_ nx5,fun nin _ x H5 hx nx5=>fin x H5 ?_ nx5,fun nin b=>absurd b ?_⟩
 · rw [eN] at hin
   have:=inz _ hin;omega
 · rw [eN] at nin hx
   rw [bz nin,ll,Nat.add_sub_cancel,gz] at hx;exact (Option.some.inj hx).symm
 · rw [eN] at nin
   rw [bz nin];omega
theorem ok_lis (B:Blt mg){jby:Addr}(g_Marks:mg "Marks"=some (.ref jby))(cd:CD_Marks K mg CM)(jF:MethAt P w K mg base CM "numbers" ["self"] 5 (spNumbers c CM))(jbO:MethAt P w K mg base CM "many" ["self"] 1 (spManyMM c CM))(jaG:FnAt P w K mg base "_law_whole" ["_law_found"] 1 spWhole)(jas:MethAt P w K mg base CM "told" ["self"] 5 (spToldM c CM))(ja0:FnAt P w K mg base "_law_told" ["_law_numbers"] 3 spLTold)(jbP:MethAt P w K mg base CM "book" ["self"] 1 (spBookM c CM))(ja1:FnAt P w K mg base "_law_book" ["_law_numbers"] 1 spLBook)(ja2:FnAt P w K mg base "_law_ends" ["_law_found","_law_numbers"] 8 (spEnds c CM ts))(d:DefAt K mg "_law_is" Zh7 ["_law_found","_law_numbers"]):FnAt P w K mg base "_law_is" ["_law_found","_law_numbers"] 9 (spEnds c CM ts):=by
 refine FnAt.of d jbZ ?_ ?_;walk_at "F";have nd:=jbZ.nd;obtain ⟨m,a,ns,rfl,⟨es,hm,ok,rfl⟩,ha,le,ht,q⟩:=h;refine ⟨_,(Zaf (ZaC (PW.pt (Zew (ZcS (Zbx (Zaw (Zcm K) rfl B.isi ZcE (Zaa (pv 0) (Zaa (ZiP (v:=.ref jby) rfl g_Marks rfl) Zac))))) (ZdY (ZaH (Zf0 K (hu64 hr)) (ZaE P w K mg base 5 (pv 0)) (pv 1))))) (Zae (Zak ZcL)) Zao)
     (Zaf (Zas (i:=2) (ZaE P w K mg base 1 (pv 0)))
     (Zaf (ZaC (PW.pt (Zew (ZcS (Zbx (Zaj jaG (Zaa (pv 2) Zac)))) (Zew (ZaH Zfv (pv 2) (Zaw (ZaF K) rfl B.len zar (Zaa (pv 1) Zac))) (ZdY (ZaH (Zf0 K (hu64 hr)) (ZaE P w K mg base 5 (pv 0)) (Zaj ja0 (Zaa (pv 1) Zac))))))) (Zae (Zak ZcL)) Zao)
     (Zae (Zak (ZcR (Zei (Zgl K (hu64 hr)) (ZaE P w K mg base 1 (pv 0)) (Zaj ja1 (Zaa (pv 1) Zac))) (ZcO (Zaj ja2 (Zaa (pv 0) (Zaa (pv 1) Zac)))))))))),?_⟩
 obtain ⟨dx,kd,ah,sr,h1,_⟩:=hm.ex;walk_at "vc";refine rIsi_ins (oT h1) cd.c cd.ty cd.i_Marks g_Marks ⟨_,rfl,?_⟩;rw [if_neg (by decide)];have t9:tot es≤900:=by rw [← Za9];exact le
 refine ⟨_,_,_,(oT h1),rfl,_,_,jF,m,es,rfl,hm,ok,t9,fun l H1 s1 nl1 hl1=>?_⟩;have nx1:=ht.nx s1;have ha1:=nx1.at ha;refine Zju (SqL.of hl1) (sL ha1) ⟨_,rfl,?_⟩;rw [yap rfl,if_neg (by decide)];have g1:=nx1.at h1;have hm1:=hm.same nx1.same;refine ⟨_,_,_,(oT g1),rfl,_,_,jbO,m,es,rfl,hm1,_,rfl,_,rfl,?_⟩;rw [if_neg (by decide)];refine ⟨_,.inl (sL ha1),?_⟩;walk_at "vc";rw [Zal,Za9,if_pos rfl];refine ⟨_,_,_,(oT g1),rfl,_,_,jas,m,es,rfl,hm1,ok,fun l2 us2 H2 s2 hl2 rows2=>?_⟩;have nx2:=nx1.tb.nx s2;have ha2:=nx2.at ha1;refine ⟨a,es,rfl,(oT ha2),ok,by omega,fun l3 us3 H3 s3 hl3 rows3=>?_⟩;have nx3:=nx2.tb.nx s3;have rows2:=Paired.mapP rows2 fun _ _ ⟨t,b,e,h,hb⟩=>(⟨t,b,e,s3 _ _ h,hb.same s3⟩:RowAt H3 _ _)
 refine ZfH (s3 _ _ hl2) hl3 rows2 rows3 rfl ⟨_,rfl,?_⟩;rw [if_neg (by decide)];have g3:=nx3.at (nx2.at g1)
 have hm3:=(hm1.same nx2.same).same nx3.same;have ha3:=nx3.at ha2;refine ⟨_,_,_,(oT g3),rfl,_,_,jbP,m,es,rfl,hm3,fun l4 us4 H4 s4 hl4 bk4=>?_⟩;have nx4:=nx3.tb.nx s4;have ha4:=nx4.at ha3;refine ⟨a,flat es,rfl,(oT ha4),by omega,fun l5 H5 s5 bk5=>?_⟩;have nx5:=nx4.tb.nx s5;have eb:=ZgN es 0 0 [] ok.ne ok.plt ok.up (fun r h=>by cases h);rw [yaP] at eb;rw [eb] at bk5;refine ZeG ⟨us4,s5 _ _ hl4,bk4.same s5⟩ bk5 ⟨_,rfl,?_⟩;rw [yap rfl,if_pos rfl];have NX:=nx3.trans (nx4.trans nx5);exact ⟨m,a,flat es,rfl,⟨es,(hm1.same nx2.same).same NX.same,ok,rfl⟩,nx5.at ha4,le,nx5.tb,fun H6 nx6=>q H6 (nx1.trans (nx2.trans (NX.trans nx6)))⟩
end
def loP (ps:List Nat)(n:Nat):List Nat:=(ps.filter fun p=>decide (p+n<256)).map (·+n)
def hiP (ps:List Nat)(n:Nat):List Nat:=(ps.filter fun p=>decide (256≤p+n)).map (·+n-256)
theorem Zgn (f:Nat→Bool)(n:Nat):∀ ps:List Nat,(ps.map (·+n)).filter f=(ps.filter fun p=>f (p+n)).map (·+n)
 | []=>rfl
 | p::r=>by
   rw [yaF,yba,yba,Zgn f n r];by_cases h:f (p+n)=true
   · simp [h]
   · simp [h]
theorem loU (n:Nat)(h:Up 0 ps):Up 0 (loP ps n):=((h.filter).shift n).mono (yau _)
theorem lo_lt {n:Nat}:∀ p∈loP ps n,p<256:=fun p hp=>by
 obtain ⟨x,hx,rfl⟩:=yaD.mp hp;exact yaS (yas.mp hx).2
theorem hi_eq (ps:List Nat)(n:Nat):hiP ps n=((ps.map (·+n)).filter fun p=>decide (256≤p)).map (·-256):=by rw [Zgn,ybh];rfl
theorem hiU (n:Nat)(h:Up 0 ps):Up 0 (hiP ps n):=by
 rw [hi_eq];have u:Up 256 ((ps.map (·+n)).filter fun p=>decide (256≤p)):=Zes (a:=0+n) (h.shift n).filter fun p hp=>yaS (yas.mp hp).2
 exact (u.unshift 256 (yad _)).mono (yau _)
theorem hi_lt {n:Nat}(hn:n≤255)(h:∀ p∈ps,p<256):∀ p∈hiP ps n,p<256:=fun p hp=>by
 obtain ⟨x,hx,rfl⟩:=yaD.mp hp;have:=h x (yas.mp hx).1;show x+n-256<256;omega
theorem lo_wd (n:Nat)(h:Up 0 ps):wd ps*2^n%2^256=wd (loP ps n):=by rw [← Zdy,wd_mod 256 (h.shift n),Zgn];rfl
theorem hi_wd (n:Nat)(h:Up 0 ps):wd ps*2^n/2^256=wd (hiP ps n):=by rw [← Zdy,wd_div 256 ((h.shift n).mono (yau _)),hi_eq]
def spMoved (c:Kd→Addr)(CM:Addr)(ts:Tabs):Sp:=fun vs H Q _=>∃ (m:Addr) (b:Int) (ns:List Nat),vs=[.ref m,.int b]∧Ms c CM H m ns∧Tbs ts H ∧
 ∀ m2 H' ns2,Nx ts H H'→noT H m2=none→Ms c CM H' m2 ns2→(∀ x,x∈ns2↔x≤65535∧∃ y∈ns,(x:Int)=y+b)→Q (.ref m2) H'
theorem mv_key {es:List Ent}(ok:EsOk es){k x:Nat}{b:Int}:((((x/256:Nat):Int)=k+b/256∧x%256∈loP (plcE k es) (b%256).toNat)∨(((x/256:Nat):Int)=k+b/256+1∧x%256∈hiP (plcE k es) (b%256).toNat))↔∃ y∈flat es,y/256=k∧(x:Int)=y+b:=by
 unfold loP hiP;rw [yaD,yaD];constructor
 · rintro (⟨e,p,hp,e2⟩ | ⟨e,p,hp,e2⟩)
   · obtain ⟨h1,h2⟩:=yas.mp hp
     have h2:=yaS h2;have p0:=(ZcH ok k).2 p h1;exact ⟨256*k+p,(Zbs ok p0).mp h1,by omega,by omega⟩
   · obtain ⟨h1,h2⟩:=yas.mp hp
     have h2:=yaS h2;have p0:=(ZcH ok k).2 p h1;exact ⟨256*k+p,(Zbs ok p0).mp h1,by omega,by omega⟩
 · rintro ⟨y,hy,ek,ex⟩
   have hp:=(ZaP ok).mp hy;rw [ek] at hp;by_cases z:y%256+(b%256).toNat<256
   · exact .inl ⟨by omega,y%256,yas.mpr ⟨hp,yap z⟩,by omega⟩
   · exact .inr ⟨by omega,y%256,yas.mpr ⟨hp,yap (by omega)⟩,by omega⟩
theorem DW.orr {k0:Nat}(dw:DW kvs ks g)(no:∀ k,k∉ks→g k=[]∧valV kvs (Sum.inl (k:Int))=none)(hk:k0<256)(hu:Up 0 ps)(hp:∀ p∈ps,p<256) :
   ∃ ks2 g2,DW (putK kvs (Sum.inl (k0:Int)) (.int (Builtin.bitOr (wd (g k0):Nat) (wd ps:Nat)))) ks2 g2∧(∀ k,k∉ks2→g2 k=[]∧valV (putK kvs (Sum.inl (k0:Int)) (.int (Builtin.bitOr (wd (g k0):Nat) (wd ps:Nat)))) (Sum.inl (k:Int))=none)∧(∀ x:Nat,x%256∈g2 (x/256)↔x%256∈g (x/256)∨(x/256=k0∧x%256∈ps))∧kvs.length≤256∧(valV kvs (Sum.inl (k0:Int))).getD (V.int 0)=.int (wd (g k0):Nat):=by
 have gk:Up 0 (g k0)∧(∀ p∈g k0,p<256)∧(valV kvs (Sum.inl (k0:Int))).getD (V.int 0)=.int (wd (g k0):Nat):=by
   by_cases z:k0∈ks
   · rw [dw.val _ z]
     exact ⟨(dw.ok _ z).2.1,(dw.ok _ z).2.2,rfl⟩
   · rw [(no _ z).2,(no _ z).1]
     exact ⟨trivial,(fun _ h=>nomatch h),rfl⟩
 obtain ⟨dw2,no2⟩:=dw.set no hk (ZbT (fun p=>decide (p∈g k0)||decide (p∈ps)) 256) Zeu;rw [← ZfW gk.1 hu gk.2.1 hp] at dw2 no2;refine ⟨_,_,dw2,no2,fun x=>?_,?_,gk.2.2⟩
 · by_cases c:x/256=k0
   · rw [if_pos c,yas,ybW,ycp,yaL,yaL,c]
     exact ⟨fun h=>h.2.imp id fun z=>⟨rfl,z⟩,fun h=>⟨ybN _ (by decide),h.imp id fun z=>z.2⟩⟩
   · rw [if_neg c]
     exact ⟨.inl,fun h=>h.elim id fun z=>absurd z.1 c⟩
 · have:=Zc3 dw.nd fun k hk=>(dw.ok k hk).1
   have l2:=congrArg List.length dw.keys;rw [yaa,yaa] at l2;omega
structure MvI (m L:Addr)(b:Int)(es:List Ent)(ts:Tabs)(H:Hp)(i:Nat)(σ:L2.St)(H':Hp):Prop where
 ex:∃ (d:Addr) (kvs:List (Key × V)) (ks:List Nat) (g:Nat→List Nat) (v4 v5 v6 v7 v8:Option V),σ=[some (.ref m),some (.int b),some (.int (b/256)),some (.ref d),v4,v5,v6,v7,v8]∧noT H d=none∧H' d=some (.dK kvs)∧DW kvs ks g∧(∀ k,k∉ks→g k=[]∧valV kvs (Sum.inl (k:Int))=none)∧∀ x:Nat,x%256∈g (x/256)↔x≤65535∧∃ y∈flat es,y/256∈(kys es).take i∧(x:Int)=y+b
 nx:Nx ts H H'
 hL:noT H' L=some (.lst (pint (kys es)))
structure MpI (m L d tt:Addr)(b:Int)(k lo hi:V)(es:List Ent)(nk:Nat→Int)(pss:Nat→List Nat)(tp:Nat→Addr)(base:Nat→Prop)(ts:Tabs)(H:Hp)(j:Nat)(σ:L2.St)(H':Hp):Prop where
 ex:∃ (kvs:List (Key × V)) (ks:List Nat) (g:Nat→List Nat) (v7 v8:Option V),σ=[some (.ref m),some (.int b),some (.int (b/256)),some (.ref d),some k,some lo,some hi,v7,v8]∧H' d=some (.dK kvs)∧DW kvs ks g∧(∀ k,k∉ks→g k=[]∧valV kvs (Sum.inl (k:Int))=none)∧∀ x:Nat,x%256∈g (x/256)↔base x∨∃ i,i<j∧((x/256:Nat):Int)=nk i∧x/256<256∧x%256∈pss i
 nx:Nx ts H H'
 hL:noT H' L=some (.lst (pint (kys es)))
 ht:noT H' tt=some (.tup [.ref (tp 0),.ref (tp 1)])
 hp:∀ i,i<2→noT H' (tp i)=some (.tup [.int (nk i),.int (wd (pss i):Nat)])
section
variable {c:Kd→Addr}{ts:Tabs}
theorem ok_moved (cP:∃ t,mg "PLACES"=some (.int 256 t))(cK:∃ t,mg "KEYS"=some (.int 256 t))(jh:MethAt P w K mg base CM "key_list" ["self"] 1 (spKeyList c CM))(jv:MethAt P w K mg base CM "word_at" ["self","key"] 6 (spWordAt c CM ts))(ja3:FnAt P w K mg base "pushed" ["word","by"] 2 spPushed)(ju:FnAt P w K mg base "of_words" ["words"] 8 (spOfWords c CM ts))(d:DefAt K mg "moved" s_moved ["marks","by"]):FnAt P w K mg base "moved" ["marks","by"] 9 (spMoved c CM ts):=by
 obtain ⟨tP,ja⟩:=cP;obtain ⟨tK,jbQ⟩:=cK;refine FnAt.of d jbG ?_ ?_;walk_at "F";have nd:=jbG.nd;obtain ⟨m,b,ns,rfl,⟨es,hm,ok,rfl⟩,ht,q⟩:=h;refine ⟨_,(Zaf (Zas (i:=2) (Zah Zaq (pv 1) (ZaK ja)))
     (Zaf (Zas (i:=3) ZcV)
     (Zaf (Za0 zak rfl (ZaD K (ZaE P w K mg base 1 (pv 0))) (Za4 (i:=4)) (Zaf (ZdQ (Zaj ja3 (Zaa (Zax P w K mg base 6 (pv 0) (Zaa (pv 4) Zac)) (Zaa (Zah Zau (pv 1) (ZaK ja)) Zac))) (ZbF K rfl (ZaA (Za4 (i:=5)) (ZaA (Za4 (i:=6)) Zbp))))
     (Zae (Za0 zak rfl (pi_tupK K (ZaR (Zaa (ZaR (Zaa (Zah Zay (pv 4) (pv 2)) (Zaa (pv 5) Zac))) (Zaa (ZaR (Zaa (Zah Zay (Zah Zay (pv 4) (pv 2)) Zad) (Zaa (pv 6) Zac))) Zac)))) (ZbF K rfl (ZaA (Za4 (i:=7)) (ZaA (Za4 (i:=8)) Zbp))) (Zae (ZaC (ZdF ZcK Zc6 Zad (pv 7) (ZaK jbQ)) (Zae (Zdz (hu1 hr) (pv 3) (pv 7) (Zah ZeX (Zgq (hu1 hr) (pv 3) (pv 7) Zad ⟨rfl,rfl,rfl,rfl⟩) (pv 8)) rfl)) Zao))))))
     (Zae (Zak (Zaj ju (Zaa (pv 3) Zac))))))),?_⟩
 obtain ⟨dx,kd,ah,sr,h1,_⟩:=hm.ex;walk_at "vc";intro d0 nd0;have nx0:=Nx.new (o':=.dK []) ht nd0;refine ⟨_,_,_,(oT (nx0.at h1)),rfl,_,_,jh,m,es,rfl,hm.same nx0.same,fun L fL=>⟨L,rfl,⟨_,SqL.of Zab⟩,?_⟩⟩;have nx1:=nx0.trans (Nx.new (o':=.lst (pint (kys es))) nx0.tb fL);have nLd:L≠d0:=fun z=>by rw [z,Zab] at fL;cases fL
 refine loopL (xs:=pint (kys es)) (MvI m L b es ts H) ⟨⟨d0,[],[],fun _=>[],_,_,_,_,_,rfl,Zcf nd0,by rw [Zai (Ne.symm nLd),Zab],⟨rfl,ycf,(fun _ h=>nomatch h),(fun _ h=>nomatch h)⟩,fun k _=>⟨rfl,rfl⟩,fun x=>⟨(fun h=>nomatch h),(fun ⟨_,_,_,h,_⟩=>nomatch h)⟩⟩,nx1,nU⟩ ?_ ?_ ?_
 · rintro i σ H2 hi ⟨_,_,hL⟩
   exact sL hL
 · rintro i x σ H2 hi ⟨⟨d,kvs,ks,g,v4,v5,v6,v7,v8,rfl,nd,hd,dw,no,me⟩,nx,hL⟩
   obtain ⟨k,hk,rfl⟩:=ZaT hi;have tk:(kys es).take (i+1)=(kys es).take i++[k]:=by rw [ybo,hk];rfl
   obtain ⟨u2,l2⟩:=ZcH ok k;have r255:(b%256).toNat≤255:=by omega
   have eb:b%256=(((b%256).toNat:Nat):Int):=by omega
   walk_at "vc";refine ⟨_,_,_,(oT (nx.at h1)),rfl,_,_,jv,m,k,es,rfl,hm.same nx.same,ok,nx.tb,fun H3 nx3=>?_⟩;rw [eb];refine ⟨wd (plcE k es),(b%256).toNat,rfl,Up.lt' u2 l2,r255,fun t ft=>?_⟩;rw [lo_wd _ u2,hi_wd _ u2];have hd3:=nx3.at (Zan hd (L2.nd _))
   have hL3:=nx3.at hL;have mk:=fun x=>mv_key (b:=b) (x:=x) (k:=k) ok
   have ul:=loU (b%256).toNat u2;have uh:=hiU (b%256).toNat u2;have ll:∀ p∈loP (plcE k es) (b%256).toNat,p<256:=lo_lt;have lh:∀ p∈hiP (plcE k es) (b%256).toNat,p<256:=hi_lt r255 l2;generalize loP (plcE k es) (b%256).toNat=lo at mk ul ll ⊢;generalize hiP (plcE k es) (b%256).toNat=hi at mk uh lh ⊢;refine ⟨t,rfl,_,SqT.of Zab,rfl,_,_,rfl,_,_,rfl,rfl,by decide,fun t1 f1=>⟨by decide,fun t2 f2=>⟨by decide,fun tt ft3=>?_⟩⟩⟩;have nx4:=Nx.new (o':=.tup [.int (wd lo:Nat),.int (wd hi:Nat)]) nx3.tb ft;have nx5:=Nx.new (o':=.tup [.int (k+b/256),.int (wd lo:Nat)]) nx4.tb f1;have nx6:=Nx.new (o':=.tup [.int (k+b/256+1),.int (wd hi:Nat)]) nx5.tb f2;have nx7:=Nx.new (o':=.tup [.ref t1,.ref t2]) nx6.tb ft3;have g1:=(nx6.trans nx7).at (Zan Zab (nt _))
   have g2:=nx7.at (Zan Zab (nt _))
   have nx8:=((nx4.trans nx5).trans nx6).trans nx7;have hd8:=nx8.at hd3;have hL8:=nx8.at hL3;have ndL:d≠L:=fun z=>by rw [z,hL8] at hd8;cases hd8
   refine ⟨⟨_,SqT.of Zab⟩,loopT (xs:=[.ref t1,.ref t2]) (MpI m L d tt b (.int (k:Nat)) (.int (wd lo:Nat)) (.int (wd hi:Nat)) es (fun i=>if i=0 then (k:Int)+b/256 else k+b/256+1) (fun i=>if i=0 then lo else hi) (fun i=>if i=0 then t1 else t2) (fun x=>x≤65535∧∃ y∈flat es,y/256∈(kys es).take i∧(x:Int)=y+b) ts H) ⟨⟨kvs,ks,g,_,_,rfl,(oT hd8),dw,no,fun x=>(me x).trans ⟨.inl,fun z=>z.elim id fun ⟨_,z,_⟩=>nomatch z⟩⟩,(nx.trans nx3).trans nx8,hL8,Zan Zab (nt _),fun i hi=>?_⟩ ?_ ?_ ?_⟩
   · rcases i with _ | i
     · exact g1
     · exact g2
   · rintro j σ H9 _ ⟨_,_,_,h,_⟩
     exact SqT.of (oT h)
   · rintro j x σ H9 hj ⟨⟨kvs,ks,g,v7,v8,rfl,hd,dw,no,me⟩,nx,hL,ht,hp⟩
     have j2:j<2:=(yaT.mp hj).1;obtain ⟨tj,rfl,htj⟩:∃ tj,x=.ref tj∧noT H9 tj=some (.tup [.int (if j=0 then (k:Int)+b/256 else k+b/256+1),.int (wd (if j=0 then lo else hi):Nat)]):=by
       have hpj:=hp j j2;rcases j with _ | _ | j
       · cases hj
         exact ⟨_,rfl,hpj⟩
       · cases hj
         exact ⟨_,rfl,hpj⟩
       · omega
     have uj:Up 0 (if j=0 then lo else hi):=by split<;>assumption
     have lj:∀ p∈(if j=0 then lo else hi),p<256:=by split<;>assumption
     have step:∀ x:Nat,(∃ i,i<j+1∧((x/256:Nat):Int)=(if i=0 then (k:Int)+b/256 else k+b/256+1)∧x/256<256∧x%256∈(if i=0 then lo else hi))↔(∃ i,i<j∧((x/256:Nat):Int)=(if i=0 then (k:Int)+b/256 else k+b/256+1)∧x/256<256∧x%256∈(if i=0 then lo else hi))∨(((x/256:Nat):Int)=(if j=0 then (k:Int)+b/256 else k+b/256+1)∧x/256<256∧x%256∈(if j=0 then lo else hi)):=fun x=>by
       constructor
       · rintro ⟨i,hi,h⟩
         by_cases z:i=j
         · exact .inr (z ▸ h)
         · exact .inl ⟨i,by omega,h⟩
       · rintro (⟨i,hi,h⟩ | h)
         · exact ⟨i,by omega,h⟩
         · exact ⟨j,by omega,h⟩
     generalize (if j=0 then (k:Int)+b/256 else k+b/256+1)=nk at htj step ⊢;generalize (if j=0 then lo else hi)=pj at htj step uj lj ⊢;walk_at "vc";refine ⟨_,SqT.of (oT htj),rfl,_,_,rfl,_,_,rfl,rfl,?_⟩;have skip:(nk<0∨256≤nk)→MpI m L d tt b (.int (k:Nat)) (.int (wd lo:Nat)) (.int (wd hi:Nat)) es (fun i=>if i=0 then (k:Int)+b/256 else k+b/256+1) (fun i=>if i=0 then lo else hi) (fun i=>if i=0 then t1 else t2) (fun x=>x≤65535∧∃ y∈flat es,y/256∈(kys es).take i∧(x:Int)=y+b) ts H (j+1) [some (.ref m),some (.int b),some (.int (b/256)),some (.ref d),some (.int (k:Nat)),some (.int (wd lo:Nat)),some (.int (wd hi:Nat)),some (.int nk),some (.int (wd pj:Nat))] H9:=fun z=>by
       refine ⟨⟨kvs,ks,g,_,_,rfl,hd,dw,no,fun x=>?_⟩,nx,hL,ht,hp⟩;rw [step,me];exact or_congr Iff.rfl ⟨.inl,fun h=>h.elim id fun h=>absurd h.1 (by omega)⟩
     refine ⟨_,rfl,?_⟩;by_cases z0:0≤nk
     · rw [if_pos z0]
       refine ⟨_,rfl,?_⟩;by_cases z1:nk<256
       · rw [if_pos z1]
         obtain ⟨n0,rfl⟩:∃ n0:Nat,nk=(n0:Int):=⟨nk.toNat,by omega⟩
         obtain ⟨ks2,g2,dw2,no2,me2,l256,gk⟩:=dw.orr no (show n0<256 by omega) uj lj;have ne:∀ {a:Addr} {o:HO},noT H9 a=some o→(∀ y,o≠.dK y)→noT (upd H9 d (.dK (putK kvs (Sum.inl (n0:Int)) (.int (Builtin.bitOr (wd (g n0):Nat) (wd pj:Nat)))))) a=some o:=fun {a o} h n=>by
           obtain ⟨h1,h2⟩:=Zag h;exact Zan (by rw [Zai (fun z=>by rw [z,hd] at h1;exact n _ (Option.some.inj h1).symm)];exact h1) h2
         refine ⟨.inl ⟨kvs,.inl hd⟩,_,DGet.k (k:=Sum.inl (n0:Int)) hd,_,gk,_,rfl,_,DPut.k (k:=Sum.inl (n0:Int)) hd (small1000 (by omega)),⟨⟨_,ks2,g2,_,_,rfl,Zab,dw2,no2,fun x=>?_⟩,nx.put nd hd trivial,ne hL (fun _ z=>by cases z),ne ht (fun _ z=>by cases z),fun i hi=>ne (hp i hi) (fun _ z=>by cases z)⟩⟩;rw [me2,step,me,or_assoc];exact or_congr Iff.rfl (or_congr Iff.rfl ⟨fun h=>⟨by omega,by omega,h.2⟩,fun h=>⟨by omega,h.2.2⟩⟩)
       · rw [if_neg z1]
         exact skip (.inr (by omega))
     · rw [if_neg z0]
       exact skip (.inl (by omega))
   · rintro σ H9 ⟨⟨kvs,ks,g,v7,v8,rfl,hd,dw,no,me⟩,nx,hL,ht,hp⟩
     refine ⟨⟨d,kvs,ks,g,_,_,_,_,_,rfl,nd,hd,dw,no,fun x=>?_⟩,nx,hL⟩;rw [me,tk];constructor
     · rintro (⟨z,y,h1,h2,h3⟩ | ⟨i,hi,h1,h2,h3⟩)
       · exact ⟨z,y,h1,yaZ _ h2,h3⟩
       · have x65:x≤65535:=by omega
         have hk:∃ y∈flat es,y/256=k∧(x:Int)=y+b:=(mk x).mp (by
           rcases i with _ | i
           · exact .inl ⟨h1,h3⟩
           · exact .inr ⟨h1,h3⟩)
         obtain ⟨y,a1,a2,a3⟩:=hk;exact ⟨x65,y,a1,yaz _ (by rw [a2];exact .head _),a3⟩
     · rintro ⟨z,y,h1,h2,h3⟩
       rcases yai.mp h2 with h2 | h2
       · exact .inl ⟨z,y,h1,h2,h3⟩
       · rcases (mk x).mpr ⟨y,h1,yal.mp h2,h3⟩ with h | h
         · exact .inr ⟨0,Nat.zero_lt_two,h.1,by omega,h.2⟩
         · exact .inr ⟨1,Nat.one_lt_two,h.1,by omega,h.2⟩
 · rintro σ H2 ⟨⟨d,kvs,ks,g,v4,v5,v6,v7,v8,rfl,nd,hd,dw,no,me⟩,nx,hL⟩
   walk_at "vc";rw [Zal,yam (yad _)] at me;refine ⟨d,kvs,ks,g,rfl,Zan hd (L2.nd _),dw,Zc3 dw.nd fun k hk=>(dw.ok k hk).1,nx.tb,fun m2 H' es2 nx2 nm hm2 ok2 pl=>q m2 H' (flat es2) (nx.trans nx2) (nx.free nm) ⟨es2,hm2,ok2,rfl⟩ fun x=>?_⟩;have mx:x%256∈plcE (x/256) es2↔x%256∈g (x/256):=by
     rw [pl];by_cases z:x/256∈ks
     · rw [if_pos z]
     · rw [if_neg z,(no _ z).1]
   rw [ZaP ok2,mx,me];exact and_congr Iff.rfl ⟨fun ⟨y,h1,_,h3⟩=>⟨y,h1,h3⟩,fun ⟨y,h1,h3⟩=>⟨y,h1,(Zdu ok _).mpr ⟨y,h1,rfl⟩,h3⟩⟩
end
def spBy38:Sp:=fun vs H Q _=>∃ cell:Int,vs=[.int cell]∧Builtin.Int.intBits cell≤2^20∧∀ b:Int,Q (.int b) H
structure By38 (cell n way:Int)(H:Hp)(σ:L2.St)(H':Hp):Prop where
 ex:∃ b:Int,σ=[some (.int cell),some (.int n),some (.int way),some (.int b)]
 eq:H=H'
theorem ok_by38 (je:FnAt P w K mg base "_law_mixed" ["_law_cell","_law_k"] 1 spMixed)(d:DefAt K mg "_law_by" ZhJ ["_law_cell"]):FnAt P w K mg base "_law_by" ["_law_cell"] 2 spBy38:=by
 refine FnAt.of d jb0 ?_ ?_;walk_at "F";have nd:=jb0.nd;obtain ⟨cell,rfl,hb,q⟩:=h;refine ⟨_,(Zaf (Zas (i:=1) (Zaj je (Zaa (pv 0) (Zaa Zad Zac))))
     (Zaf (Zas (i:=2) (Zah Zau (pv 1) Zad))
     (Zaz (Zas (i:=3) (Zah Zau (Zah Zaq (pv 1) Zad) Zad))
     (Zaz (ZaC (ZaH Zbd (pv 2) Zad) (Zae (Zas (i:=3) (Zah ZaZ Zad (Zah Zau (Zah Zaq (pv 1) Zad) Zad)))) Zao)
     (Zaz (ZaC (ZaH Zbd (pv 2) Zad) (Zae (Zas (i:=3) (Zah ZaX Zad (Zah Zau (Zah Zaq (pv 1) Zad) Zad)))) Zao)
     (Zaz (ZaC (ZaH Zbd (pv 2) Zad) (Zae (Zas (i:=3) (Zah Zau (Zah Zaq (pv 1) Zad) Zad))) Zao)
     (Zaz (ZaC (ZaH Zbd (pv 2) Zad) (Zae (Zas (i:=3) (Zah Zau (Zah ZiK (pv 0) (pv 0)) (Zah ZiK (Zah op_pow Zad Zad) (Zah op_pow Zad Zad))))) Zao)
     (Zaz (ZaC (ZaH Zbd (pv 2) Zad) (Zae (Zas (i:=3) Zad)) Zao)
     (Zae (Zak (Zah ZaZ (pv 3) (Zah ZaX Zad (Zah ZaZ Zad (Zah Zau (Zah Zaq (pv 1) Zad) Zad)))))))))))))),?_⟩
 walk_at "vc";refine ⟨_,_,rfl,_,rfl,?_⟩;generalize mixI cell 800=n;generalize n%7=way;refine ⟨By38 cell n way H,?_,?_⟩
 · walk_at "vc"
   exact ⟨⟨_,rfl⟩,rfl⟩
 rintro σ _ ⟨⟨b,rfl⟩,rfl⟩;refine ⟨By38 cell n way H,?_,?_⟩
 · walk_at "vc"
   split
   · exact ⟨⟨_,rfl⟩,rfl⟩
   · exact ⟨⟨_,rfl⟩,rfl⟩
 clear b;rintro σ _ ⟨⟨b,rfl⟩,rfl⟩;refine ⟨By38 cell n way H,?_,?_⟩
 · walk_at "vc"
   split
   · exact ⟨⟨_,rfl⟩,rfl⟩
   · exact ⟨⟨_,rfl⟩,rfl⟩
 clear b;rintro σ _ ⟨⟨b,rfl⟩,rfl⟩;refine ⟨By38 cell n way H,?_,?_⟩
 · walk_at "vc"
   split
   · exact ⟨⟨_,rfl⟩,rfl⟩
   · exact ⟨⟨_,rfl⟩,rfl⟩
 clear b;rintro σ _ ⟨⟨b,rfl⟩,rfl⟩;refine ⟨By38 cell n way H,?_,?_⟩
 · walk_at "vc"
   split
   · have h45:Builtin.Int.intBits 1000000000000000000000000000000000000000000000≤2^20:=yaN (Zc7 (k:=200) (by decide)) (by decide)
     exact ⟨ZeA hb hb,by decide,by decide,ZeA h45 h45,⟨_,rfl⟩,rfl⟩
   · exact ⟨⟨_,rfl⟩,rfl⟩
 clear b;rintro σ _ ⟨⟨b,rfl⟩,rfl⟩;refine ⟨By38 cell n way H,?_,?_⟩
 · walk_at "vc"
   split
   · exact ⟨⟨_,rfl⟩,rfl⟩
   · exact ⟨⟨_,rfl⟩,rfl⟩
 clear b;rintro σ _ ⟨⟨b,rfl⟩,rfl⟩;walk_at "vc";exact ⟨.inr ⟨by omega,by omega⟩,q _⟩
def spPiece36:Sp:=fun vs H Q _=>∃ n home:Int,vs=[.int n,.int home]∧0≤n∧0≤home∧home≤254∧∀ (r:Addr) (zs:List Nat) (H':Hp),Same H H'→H r=none→H' r=some (.lst (pint zs))→zs.length≤140→(∀ z∈zs,z≤65535)→Q (.ref r) H'
structure Pc36 (n home key at_ rest:Int)(H:Hp)(σ:L2.St)(H':Hp):Prop where
 ex:∃ (so:Addr) (zs:List Nat),σ=[some (.int n),some (.int home),some (.int key),some (.int at_),some (.int rest),some (.ref so)]∧H' so=some (.lst (pint zs))∧zs.length≤140
 same:Same H H'
theorem Zey {m:Nat}{f:Nat→Int}(h:∀ i,0≤f i):((List.range m).filter fun _=>true).map (fun i=>V.int (f i))=pint ((List.range m).map fun i=>(f i).toNat):=by
 rw [ybP.mpr (fun _ _=>rfl)];unfold pint;rw [ybh];refine ybQ fun i _=>?_
 show V.int (f i)=V.int (((f i).toNat:Nat):Int);rw [Int.toNat_of_nonneg (h i)]
def ltV:V→Bool
 | .int z=>decide (z<65536)
 | _=>false
theorem ZhL (B:Blt mg) (d:DefAt K mg "_law_piece" ZdV ["_law_number","_law_home"]):FnAt P w K mg base "_law_piece" ["_law_number","_law_home"] 1 spPiece36:=by
 refine FnAt.of d jG ?_ ?_;walk_at "F";have nd:=jG.nd;obtain ⟨n,home,rfl,n0,h0,h1,q⟩:=h;refine ⟨_,(Zaf (Zas (i:=2) (Za5 (Zar K) (ZaJ (Zaa (pv 1) (Zaa (Zah Zay (pv 1) Zad) (Zaa Zad (Zaa (Zah Zau (Zah Zaq (pv 0) Zad) Zad) Zac))))) (Zah Zau (pv 0) Zad)))
     (Zaf (Zas (i:=3) (Zah Zay (Zah ZaZ Zad (pv 2)) (Zah Zau (Zah Zaq (pv 0) Zad) Zad)))
     (Zaf (Zas (i:=4) (Zah Zaq (pv 0) Zad))
     (Zaz (Zco (i:=5) ["_law_k"] [3] jG.nd rfl (by walk_at "l") rfl (ZbK rfl B.range (Zaa (Zah Zay Zad (Zah Zau (Zah Zaq (pv 4) Zad) Zad)) Zac)) (fun _ _ _ _ _=>ZaS (i:=0) (by show List.Nodup (["_law_k","_law_at"]:List Str);decide +kernel) rfl (Or.inl rfl)) (fun _ _ _ _ _=>ZbB) (fun _ _ _ _ _=>(Zah Zay (pv 1) (pv 0))) ⟨⟨_,rfl,rfl,.inl rfl⟩,trivial⟩ ZaQ)
     (Zaz (ZaC (ZaH Zbd (Zah Zau (pv 4) Zad) Zad) (Zae (Zco (i:=5) ["_law_k"] [3] jG.nd rfl (by walk_at "l") rfl (ZbK rfl B.range (Zaa (Zah Zay Zad (Zah Zau (Zah Zaq (pv 4) Zad) Zad)) Zac)) (fun _ _ _ _ _=>ZaS (i:=0) (by show List.Nodup (["_law_k","_law_at"]:List Str);decide +kernel) rfl (Or.inl rfl)) (fun _ _ _ _ _=>ZbB) (fun _ _ _ _ _=>(Zah Zay (pv 1) (Zah ZaZ Zad (pv 0)))) ⟨⟨_,rfl,rfl,.inl rfl⟩,trivial⟩ ZaQ)) Zao)
     (Zaz (ZaC (ZaH Zbd (Zah Zau (pv 4) Zad) Zad) (Zae (Zco (i:=5) ["_law_k"] [3,4] jG.nd rfl (by walk_at "l") rfl (ZbK rfl B.range (Zaa (Zah Zay Zad (Zah Zau (Zah Zaq (pv 4) Zad) Zad)) Zac)) (fun _ _ _ _ _=>ZaS (i:=0) (by show List.Nodup (["_law_k","_law_at","_law_rest"]:List Str);decide +kernel) rfl (Or.inl rfl)) (fun _ _ _ _ _=>ZbB) (fun _ _ _ _ _=>(Zah Zay (pv 1) (Zah ZaZ (pv 0) (Zah Zay Zad (Zah Zau (Zah Zaq (pv 2) Zad) Zad))))) ⟨⟨_,rfl,rfl,.inl rfl⟩,⟨⟨_,rfl,rfl,.inl rfl⟩,trivial⟩⟩ ZaQ)) Zao)
     (Zae (Zak (Zcq ["_law_number"] [] rfl (ZaD K (pv 5)) (fun _ _ _ _ _=>ZaS (i:=0) (by show List.Nodup (["_law_number"]:List Str);decide +kernel) rfl (Or.inl rfl)) (fun _ _ _ _ _=>ZiR (ZaH Zc6 (pv 0) Zad)) (fun _ _ _ _ _=>(pv 0)) trivial ZaQ))))))))),?_⟩
 walk_at "vc";refine ⟨by decide,fun p0 np0=>⟨_,SqL.of Zab,?_⟩⟩;have s0:=Same.new (o:=.lst [V.int home,V.int (home+1),V.int 255,V.int (n/4%256)]) np0;generalize upd H p0 (.lst [V.int home,V.int (home+1),V.int 255,V.int (n/4%256)])=H0 at s0 ⊢;obtain ⟨key,ek,k0⟩:∃ key:Int,atI [V.int home,V.int (home+1),V.int 255,V.int (n/4%256)] (n%4)=some (.int key)∧0≤key:=by
   have hk:n%4=0∨n%4=1∨n%4=2∨n%4=3:=by omega
   rcases hk with e | e | e | e<;>rw [e]
   · exact ⟨_,rfl,h0⟩
   · exact ⟨_,rfl,by omega⟩
   · exact ⟨_,rfl,by decide⟩
   · exact ⟨_,rfl,by omega⟩
 refine ⟨_,ek,key,rfl,?_⟩;have a0:0≤256*key+n/1024%256:=by omega
 have r0:0≤n/262144:=by omega
 generalize 256*key+n/1024%256=at_ at a0 ⊢;generalize n/262144=rest at r0 ⊢;have sm:=s0;refine ⟨Pc36 n home key at_ rest H,?_,?_⟩
 · walk_at "vc"
   refine ⟨by omega,by omega,compR (fun _=>true) (fun i=>.int (at_+(i:Int))) (by omega) (fun i H2 R hi s h=>?_) (fun i H2 R hi _ s h=>?_) (fun D nD=>?_)⟩
   · walk_at "vc"
     exact h
   · walk_at "vc"
     exact h
   · rw [Zey fun i=>by omega]
     exact ⟨⟨D,_,rfl,Zab,by rw [yaa,ybz];omega⟩,sm.trans (Same.new nD)⟩
 clear sm s0 ek np0 H0;rintro σ H1 ⟨⟨so,zs,rfl,hs,lz⟩,sm⟩;refine ⟨Pc36 n home key at_ rest H,?_,?_⟩
 · walk_at "vc"
   split
   · refine ⟨by omega,by omega,compR (fun _=>true) (fun i=>.int (at_+61*(i:Int))) (by omega) (fun i H2 R hi s h=>?_) (fun i H2 R hi _ s h=>?_) (fun D nD=>?_)⟩
     · walk_at "vc"
       exact h
     · walk_at "vc"
       exact h
     · rw [Zey fun i=>by omega]
       exact ⟨⟨D,_,rfl,Zab,by rw [yaa,ybz];omega⟩,sm.trans (Same.new nD)⟩
   · exact ⟨⟨so,zs,rfl,hs,lz⟩,sm⟩
 clear sm hs lz so zs H1;rintro σ H1 ⟨⟨so,zs,rfl,hs,lz⟩,sm⟩;refine ⟨Pc36 n home key at_ rest H,?_,?_⟩
 · walk_at "vc"
   split
   · refine ⟨by omega,by omega,compR (fun _=>true) (fun i=>.int (at_+(i:Int)*(1+rest/3%4))) (by omega) (fun i H2 R hi s h=>?_) (fun i H2 R hi _ s h=>?_) (fun D nD=>?_)⟩
     · walk_at "vc"
       exact h
     · walk_at "vc"
       exact ⟨.inr ⟨by omega,by omega⟩,h⟩
     · rw [Zey fun i=>Int.add_nonneg a0 (Int.mul_nonneg (by omega) (by omega))]
       exact ⟨⟨D,_,rfl,Zab,by rw [yaa,ybz];omega⟩,sm.trans (Same.new nD)⟩
   · exact ⟨⟨so,zs,rfl,hs,lz⟩,sm⟩
 clear sm hs lz so zs H1;rintro σ H1 ⟨⟨so,zs,rfl,hs,lz⟩,sm⟩;walk_at "vc";refine ⟨⟨_,SqL.of hs⟩,compL ltV id (SqL.of hs) (by rw [Zal];omega) (fun x H R hx s h=>?_) (fun x H R hx _ s h=>?_) (fun b1 n1=>?_)⟩
 · obtain ⟨z,hz,rfl⟩:=ZbN hx
   walk_at "vc";exact h
 · obtain ⟨z,hz,rfl⟩:=ZbN hx
   walk_at "vc";exact h
 have ef:((pint zs).filter ltV).map id=pint (zs.filter fun z=>decide (z≤65535)):=by
   rw [List.map_id];unfold pint;rw [ybY];refine congrArg _ (ybO fun z _=>?_);have e:((z:Int)<65536)↔z≤65535:=by omega
   simp only [Function.comp,ltV];exact ybF.mpr e
 rw [ef];exact q b1 _ _ (sm.trans (Same.new n1)) (sm.free n1) Zab (yaN (ybp _ _) lz) fun z hz=>yaS (yas.mp hz).2
theorem ZcY (c k:Int):0≤mixI c k∧mixI c k<2147483629:=⟨Int.emod_nonneg _ (by decide),Int.emod_lt_of_pos _ (by decide)⟩
theorem cut_map (ns:List Int)(lo hi:Option Int):∃ ms:List Int,cutV (ns.map V.int) lo hi=ms.map V.int:=by unfold cutV;rw [yaa];exact ⟨(ns.drop (HT.sIx ns.length 0 lo)).take (HT.sIx ns.length ns.length hi-HT.sIx ns.length 0 lo),by rw [List.map_take,List.map_drop]⟩
structure SsD (sh d0 d1:Addr)(b:Nat)(H:Hp):Prop where
 ne:d0≠d1
 hs:H sh=some (.lst [.ref d0,.ref d1])
 ex:∃ (k0 k1:List (Key × V)) (m0 m1:List Nat),H d0=some (.dK k0)∧H d1=some (.dK k1)∧Dn k0 m0∧Dn k1 m1∧(∀ x∈m0,x≤65535)∧(∀ x∈m1,x≤65535)∧m0.length≤b∧m1.length≤b
theorem SsD.same {sh d0 d1:Addr}{b:Nat}(h:SsD sh d0 d1 b H)(s:Same H H'):SsD sh d0 d1 b H':=by obtain ⟨ne,hs,k0,k1,m0,m1,h0,h1,r⟩:=h;exact ⟨ne,s _ _ hs,k0,k1,m0,m1,s _ _ h0,s _ _ h1,r⟩
theorem SsD.mono {sh d0 d1:Addr}{b b':Nat}(h:SsD sh d0 d1 b H)(le:b≤b'):SsD sh d0 d1 b' H:=by obtain ⟨ne,hs,k0,k1,m0,m1,h0,h1,a,c,e,f,g,i⟩:=h;exact ⟨ne,hs,k0,k1,m0,m1,h0,h1,a,c,e,f,yaN g le,yaN i le⟩
def Lft (d0 d1:Addr)(H H':Hp):Prop:=∀ c o,c≠d0→c≠d1→H c=some o→H' c=some o
theorem Lft.lst {d0 d1 r sh:Addr}{b:Nat}(l:Lft d0 d1 H H')(h:SsD sh d0 d1 b H)(e:H r=some (.lst xs)):H' r=some (.lst xs):=by obtain ⟨_,_,k0,k1,_,_,h0,h1,_⟩:=h;exact l _ _ (fun z=>by rw [z,h0] at e;cases e) (fun z=>by rw [z,h1] at e;cases e) e
theorem put36 {sh d0 d1:Addr}{b x:Nat}{j:Int}{R:Hp→Prop}(h:SsD sh d0 d1 b H)(hj:j=0∨j=1)(hx:x≤65535)(hb:b≤900)(q:∀ H',SsD sh d0 d1 (b+1) H'→Lft d0 d1 H H'→(∀ H0,H0 d0=none→H0 d1=none→Same H0 H→Same H0 H')→R H') :
   ∃ xs,SqL K H sh xs∧∃ v,atI xs j=some v∧∃ a,v=.ref a∧∃ H4,DPut H a (.int (x:Nat)) (.bl true) H4∧R H4:=by
 obtain ⟨ne,hs,k0,k1,m0,m1,h0,h1,n0,n1,b0,b1,l0,l1⟩:=h;refine ⟨_,SqL.of hs,?_⟩;have shd:∀ d k,H d=some (.dK k)→sh≠d:=fun d k e z=>by rw [← z,hs] at e;cases e
 rcases hj with rfl | rfl
 · obtain ⟨ms',dn',mem',l'⟩:=n0.put x (.bl true)
   refine ⟨_,rfl,d0,rfl,_,DPut.k (k:=Sum.inl (x:Int)) h0 (small1000 (by rw [n0.len];omega)),q _ ⟨ne,by rw [Zai (shd _ _ h0)];exact hs,_,k1,ms',m1,Zab,by rw [Zai (Ne.symm ne)];exact h1,dn',n1,fun y hy=>?_,b1,by omega,by omega⟩ (fun c o n _ e=>by rw [Zai n];exact e) fun H0 e0 _ s=>s.put e0⟩;rcases (mem' y).mp hy with z | z
   · exact b0 y z
   · rw [z];exact hx
 · obtain ⟨ms',dn',mem',l'⟩:=n1.put x (.bl true)
   refine ⟨_,rfl,d1,rfl,_,DPut.k (k:=Sum.inl (x:Int)) h1 (small1000 (by rw [n1.len];omega)),q _ ⟨ne,by rw [Zai (shd _ _ h1)];exact hs,k0,_,m0,ms',by rw [Zai ne];exact h0,Zab,n0,dn',b0,fun y hy=>?_,by omega,by omega⟩ (fun c o _ n e=>by rw [Zai n];exact e) fun H0 _ e1 s=>s.put e1⟩;rcases (mem' y).mp hy with z | z
   · exact b1 y z
   · rw [z];exact hx
theorem Dn.keysI {ms:List Nat}(h:Dn kvs ms):kvs.map (fun x=>x.fst)=(ms.map fun (n:Nat)=>(n:Int)).map Sum.inl:=by rw [ybh];exact h.keys
theorem cut53 (ns:List Int):∃ zs:List Int,cutV (ns.map V.int) (some 5) (some 58)=zs.map V.int∧zs.length≤53:=by obtain ⟨zs,e⟩:=cut_map ns (some 5) (some 58);refine ⟨zs,e,?_⟩;have h:=congrArg List.length e;rw [yaa] at h;rw [← h];unfold cutV;rw [show (5:Int)=((5:Nat):Int) from rfl,show (58:Int)=((58:Nat):Int) from rfl,HT.sIx_nat,HT.sIx_nat,yaB,yaX];omega
def spSets36 (K:ZFr):Sp:=fun vs H Q _=>∃ (a:Addr) (ns:List Int),vs=[.ref a]∧SqL K H a (ns.map V.int)∧∀ r p1 p2 os1 os2 H',Same H H'→H' r=some (.lst [.ref p1,.ref p2])→H' p1=some (.lst (pint os1))→H' p2=some (.lst (pint os2))→Up 0 os1→Up 0 os2→(∀ x∈os1,x≤65535)→(∀ x∈os2,x≤65535)→os1.length≤700→os2.length≤700→Q (.ref r) H'
structure Ss36 (a sh d0 d1:Addr)(home way:Int)(b:Nat)(H:Hp)(σ:L2.St)(H':Hp):Prop where
 ex:∃ v4 v5 v6 v7 v8 v9 v10:Option V,σ=[some (.ref a),some (.int home),some (.int way),some (.ref sh),v4,v5,v6,v7,v8,v9,v10]
 same:Same H H'
 ss:SsD sh d0 d1 b H'
structure So36 (a sh:Addr)(home way:Int)(H:Hp)(σ:L2.St)(H':Hp):Prop where
 ex:∃ (v4 v5 v6 v7 v8:Option V) (p1 p2:Addr) (os1 os2:List Nat),σ=[some (.ref a),some (.int home),some (.int way),some (.ref sh),v4,v5,v6,v7,v8,some (.ref p1),some (.ref p2)]∧H' p1=some (.lst (pint os1))∧H' p2=some (.lst (pint os2))∧Up 0 os1∧Up 0 os2∧(∀ x∈os1,x≤65535)∧(∀ x∈os2,x≤65535)∧os1.length≤700∧os2.length≤700
 same:Same H H'
theorem ZjN (B:Blt mg) (je:FnAt P w K mg base "_law_mixed" ["_law_cell","_law_k"] 1 spMixed) (jd:FnAt P w K mg base "_law_cell_at" ["_law_script","_law_k"] 1 (spCell K)) (jaH:FnAt P w K mg base "_law_piece" ["_law_number","_law_home"] 1 spPiece36) (d:DefAt K mg "_law_sets" Ze2 ["_law_script"]):FnAt P w K mg base "_law_sets" ["_law_script"] 2 (spSets36 K):=by
 refine FnAt.of d jbo ?_ ?_;walk_at "F";have nd:=jbo.nd;obtain ⟨a,ns,rfl,hS,q⟩:=h;refine ⟨_,(Zaf (Zas (i:=1) (Zah Zau (Zaj je (Zaa (Zaj jd (Zaa (pv 0) (Zaa Zad Zac))) (Zaa Zad Zac))) Zad))
     (Zaf (Zas (i:=2) (Zah Zau (Zaj je (Zaa (Zaj jd (Zaa (pv 0) (Zaa Zad Zac))) (Zaa Zad Zac))) Zad))
     (Zaf (Zas (i:=3) (ZaJ (Zaa ZcV (Zaa ZcV Zac))))
     (Zaz (Za0 zak rfl (ZbK rfl B.range (Zaa Zad Zac)) (Za4 (i:=4)) (Zaf (Zas (i:=5) (Zaj je (Zaa (Zaj jd (Zaa (pv 0) (Zaa (Zah Zay Zad (pv 4)) Zac))) (Zaa (Zah Zay Zad (pv 4)) Zac))))
     (Zae (ZaC (ZaH op_gt (Zah Zau (Zah Zaq (pv 5) Zad) Zad) Zad) (Zae (Za0 zak rfl (ZaD K (Zaj jaH (Zaa (pv 5) (Zaa (pv 1) Zac)))) (Za4 (i:=6)) (Zae (Zdz (hu1 hr) (Za5 (Zar K) (pv 3) (Zah Zau (pv 4) Zad)) (pv 6) ZcL rfl)))) Zao))))
     (Zaz (Za0 zak rfl (ZaD K (Zbt (Zbq K) (pv 0) (ZbI Zad) (ZbI Zad))) (Za4 (i:=7)) (Zaf (Zas (i:=5) (Zaj je (Zaa (pv 7) (Zaa Zad Zac))))
     (Zaf (Zas (i:=8) (Zah Zay (Zah ZaZ Zad (pv 1)) (Zah Zau (Zah Zaq (pv 5) Zad) Zad)))
     (Zaf (ZaC (ZaH Zbd (Zah Zau (Zah Zaq (pv 5) Zad) Zad) Zad) (Zae (Zas (i:=8) (Zah Zau (Zah Zaq (pv 5) Zad) Zad))) Zao)
     (Zaf (ZaC (ZaH Zfv (Zah Zau (pv 5) Zad) Zad) (Zae (Zdz (hu1 hr) (Za5 (Zar K) (pv 3) Zad) (pv 8) ZcL rfl)) Zao)
     (Zae (ZaC (ZaH Zfv (Zah Zau (pv 5) Zad) Zad) (Zae (Zdz (hu1 hr) (Za5 (Zar K) (pv 3) Zad) (pv 8) ZcL rfl)) Zao)))))))
     (Zaf (Zas (i:=9) (Zaw ZbC rfl B.sorted L2.boot_sorted (Zaa (Za5 (Zar K) (pv 3) Zad) Zac)))
     (Zaz (Zas (i:=10) (Zaw ZbC rfl B.sorted L2.boot_sorted (Zaa (Za5 (Zar K) (pv 3) Zad) Zac)))
     (Zaz (ZaC (ZaH Zbd (pv 2) Zad) (Zae (Zas (i:=10) (Za7 (ZaW K) rfl B.lst boot_list (Zaa (pv 9) Zac)))) Zao)
     (Zaz (ZaC (ZaH Zbd (pv 2) Zad) (Zae (Zas (i:=10) (Zbt (Zbq K) (pv 10) Zct (ZbI (Zah Zaq (Zah ZaZ (pv 2) (Zaw (ZaF K) rfl B.len zar (Zaa (pv 10) Zac))) Zad))))) Zao)
     (Zaz (ZaC (ZaH Zbd (pv 2) Zad) (Zae (Zas (i:=9) (ZaJ Zac))) Zao)
     (Zae (Zak (ZaJ (Zaa (pv 9) (Zaa (pv 10) Zac))))))))))))))),?_⟩
 walk_at "vc";refine ⟨a,ns,0,rfl,hS,_,_,rfl,_,rfl,a,ns,0,rfl,hS,_,_,rfl,_,rfl,fun d0 f0 d1 f1=>⟨by decide,fun sh fs=>?_⟩⟩;have hx:=ZcY (ns.getD 0 0) 500;have hy:=ZcY (ns.getD 0 0) 501;generalize mixI (ns.getD 0 0) 500=x at hx ⊢;generalize mixI (ns.getD 0 0) 501=y at hy ⊢;have s1:=((Same.new (o:=.dK []) f0).trans (Same.new (o:=.dK []) f1)).trans (Same.new (o:=.lst [.ref d0,.ref d1]) fs);have n01:d0≠d1:=fun z=>by rw [← z,Zab] at f1;cases f1
 have hd0:upd (upd H d0 (.dK [])) d1 (.dK []) d0=some (.dK []):=by rw [Zai n01,Zab]
 have n0s:d0≠sh:=fun z=>by rw [← z,hd0] at fs;cases fs
 have n1s:d1≠sh:=fun z=>by rw [← z,Zab] at fs;cases fs
 have ss:SsD sh d0 d1 0 (upd (upd (upd H d0 (.dK [])) d1 (.dK [])) sh (.lst [.ref d0,.ref d1])):=⟨n01,Zab,[],[],[],[],by rw [Zai n0s,hd0],by rw [Zai n1s,Zab],⟨rfl,ycf⟩,⟨rfl,ycf⟩,(fun _ h=>nomatch h),(fun _ h=>nomatch h),yad _,yad _⟩
 have e1:H d1=none:=(Same.new (o:=.dK []) f0).free f1;generalize upd (upd (upd H d0 (.dK [])) d1 (.dK [])) sh (.lst [.ref d0,.ref d1])=H1 at s1 ss ⊢;clear hd0 n0s n1s fs f1;have home0:0≤x%255∧x%255≤254:=by omega
 have way0:0≤y%8∧y%8<8:=by omega
 generalize x%255=home at home0 ⊢;generalize y%8=way at way0 ⊢;refine ⟨Ss36 a sh d0 d1 home way 560 H,?_,?_⟩
 · walk_at "vc"
   refine loopR (fun i=>Ss36 a sh d0 d1 home way (140*i) H) ⟨⟨_,_,_,_,_,_,_,rfl⟩,s1,ss⟩ ?_ ?_
   · rintro i σ H2 hi ⟨⟨v4,v5,v6,v7,v8,v9,v10,rfl⟩,sm,ss⟩
     have hi:i<4:=hi;walk_at "vc";rw [show (1:Int)+(i:Int)=((1+i:Nat):Int) by omega];refine ⟨a,ns,1+i,rfl,sm.seq hS,_,_,rfl,_,rfl,?_⟩;have hn:=(ZcY (ns.getD (1+i) 0) (600+(i:Int))).1;generalize mixI (ns.getD (1+i) 0) (600+(i:Int))=n at hn ⊢;split
     · refine ⟨n,home,rfl,hn,home0.1,home0.2,fun r zs H3 s3 fr hr3 lz bz=>?_⟩
       refine ⟨r,rfl,⟨_,SqL.of hr3⟩,loopL (xs:=pint zs) (fun j σ H'=>Ss36 a sh d0 d1 home way (140*i+j) H σ H'∧(∃ v5 v6 v7 v8 v9 v10:Option V,σ=[some (.ref a),some (.int home),some (.int way),some (.ref sh),some (.int (i:Nat)),v5,v6,v7,v8,v9,v10])∧H' r=some (.lst (pint zs))) ⟨⟨⟨_,_,_,_,_,_,_,rfl⟩,sm.trans s3,ss.same s3⟩,⟨_,_,_,_,_,_,rfl⟩,hr3⟩ ?_ ?_ ?_⟩
       · rintro j σ H4 hj ⟨_,_,hr4⟩
         exact SqL.of hr4
       · rintro j z σ H4 hj ⟨⟨_,sm4,ss4⟩,⟨w5,w6,w7,w8,w9,w10,rfl⟩,hr4⟩
         obtain ⟨p,hp,rfl⟩:=ZaT hj;have lj:=(yaT.mp hp).1;walk_at "vc";exact put36 ss4 (by omega) (bz p (yaq hp)) (by omega) fun H5 ss5 lf sf=>⟨⟨⟨_,_,_,_,_,_,_,rfl⟩,sf H f0 e1 sm4,ss5⟩,lf.lst ss4 hr4⟩
       · rintro σ H4 ⟨⟨ex,sm4,ss4⟩,_,_⟩
         rw [Zal] at ss4;exact ⟨ex,sm4,ss4.mono (by omega)⟩
     · exact ⟨⟨_,_,_,_,_,_,_,rfl⟩,sm,ss.mono (by omega)⟩
   · rintro σ H2 h
     exact h
 clear ss s1;rintro σ H2 ⟨⟨v4,v5,v6,v7,v8,v9,v10,rfl⟩,sm,ss⟩;refine ⟨Ss36 a sh d0 d1 home way 700 H,?_,?_⟩
 · walk_at "vc"
   refine ⟨_,sm.seq hS,fun p np=>?_⟩;obtain ⟨zs,ez,lz⟩:=cut53 ns;rw [ez];have s3:=Same.new (o:=.lst (zs.map V.int)) np;have gp:upd H2 p (.lst (zs.map V.int)) p=some (.lst (zs.map V.int)):=Zab;generalize upd H2 p (.lst (zs.map V.int))=H3 at s3 gp ⊢;refine ⟨⟨_,SqL.of gp⟩,loopL (xs:=zs.map V.int) (fun j σ H'=>Ss36 a sh d0 d1 home way (560+2*j) H σ H'∧H' p=some (.lst (zs.map V.int))) ⟨⟨⟨_,_,_,_,_,_,_,rfl⟩,sm.trans s3,ss.same s3⟩,gp⟩ ?_ ?_ ?_⟩
   · rintro j σ H4 hj ⟨_,hp4⟩
     exact SqL.of hp4
   · rintro j z σ H4 hj ⟨⟨⟨v4,v5,v6,v7,v8,v9,v10,rfl⟩,sm4,ss4⟩,hp4⟩
     obtain ⟨cz,_,rfl⟩:=yaD.mp (yaq hj);have lj:j<zs.length:=by have:=(yaT.mp hj).1;rw [yaa] at this;exact this
     walk_at "vc";refine ⟨cz,700,rfl,_,rfl,_,rfl,?_⟩;have hn:=(ZcY cz 700).1;generalize mixI cz 700=n at hn ⊢;split
     · refine ⟨n,rfl,n,rfl,?_⟩
       obtain ⟨z,ez',hz⟩:∃ z:Nat,n/4%65536=(z:Int)∧z≤65535:=⟨(n/4%65536).toNat,by omega,by omega⟩
       rw [ez'];split
       · refine ⟨n,rfl,?_⟩
         split
         · exact ⟨⟨⟨_,_,_,_,_,_,_,rfl⟩,sm4,ss4.mono (by omega)⟩,hp4⟩
         · exact put36 ss4 (.inr rfl) hz (by omega) fun H5 ss5 lf sf=>⟨⟨⟨_,_,_,_,_,_,_,rfl⟩,sf H f0 e1 sm4,ss5.mono (by omega)⟩,lf.lst ss4 hp4⟩
       · refine put36 ss4 (.inl rfl) hz (by omega) fun H5 ss5 lf sf=>?_
         refine ⟨n,rfl,?_⟩;split
         · exact ⟨⟨⟨_,_,_,_,_,_,_,rfl⟩,sf H f0 e1 sm4,ss5.mono (by omega)⟩,lf.lst ss4 hp4⟩
         · exact put36 ss5 (.inr rfl) hz (by omega) fun H6 ss6 lf6 sf6=>⟨⟨⟨_,_,_,_,_,_,_,rfl⟩,sf6 H f0 e1 (sf H f0 e1 sm4),ss6.mono (by omega)⟩,lf6.lst ss5 (lf.lst ss4 hp4)⟩
     · refine ⟨n,rfl,?_⟩
       obtain ⟨z,ez',hz⟩:∃ z:Nat,256*home+n/4%512=(z:Int)∧z≤65535:=⟨(256*home+n/4%512).toNat,by omega,by omega⟩
       rw [ez'];split
       · refine ⟨n,rfl,?_⟩
         split
         · exact ⟨⟨⟨_,_,_,_,_,_,_,rfl⟩,sm4,ss4.mono (by omega)⟩,hp4⟩
         · exact put36 ss4 (.inr rfl) hz (by omega) fun H5 ss5 lf sf=>⟨⟨⟨_,_,_,_,_,_,_,rfl⟩,sf H f0 e1 sm4,ss5.mono (by omega)⟩,lf.lst ss4 hp4⟩
       · refine put36 ss4 (.inl rfl) hz (by omega) fun H5 ss5 lf sf=>?_
         refine ⟨n,rfl,?_⟩;split
         · exact ⟨⟨⟨_,_,_,_,_,_,_,rfl⟩,sf H f0 e1 sm4,ss5.mono (by omega)⟩,lf.lst ss4 hp4⟩
         · exact put36 ss5 (.inr rfl) hz (by omega) fun H6 ss6 lf6 sf6=>⟨⟨⟨_,_,_,_,_,_,_,rfl⟩,sf6 H f0 e1 (sf H f0 e1 sm4),ss6.mono (by omega)⟩,lf6.lst ss5 (lf.lst ss4 hp4)⟩
   · rintro σ H4 ⟨⟨ex,sm4,ss4⟩,_⟩
     rw [yaa] at ss4;exact ⟨ex,sm4,ss4.mono (by omega)⟩
 clear ss sm;rintro σ H3 ⟨⟨v4,v5,v6,v7,v8,v9,v10,rfl⟩,sm,ss⟩;walk_at "vc";obtain ⟨ne,hs,k0,k1,m0,m1,h0,h1,n0,n1,b0,b1,l0,l1⟩:=ss;refine ⟨_,SqL.of hs,_,rfl,d0,rfl,k0,h0,_,n0.keysI,fun p1 z1 np1 pm1 so1=>?_⟩;obtain ⟨os1,eo1,u1,mm1,ll1⟩:=ZdL n0 pm1 so1;rw [eo1];have s4:=Same.new (o:=.lst (pint os1)) np1;have g1:upd H3 p1 (.lst (pint os1)) p1=some (.lst (pint os1)):=Zab;generalize upd H3 p1 (.lst (pint os1))=H4 at s4 g1 ⊢;refine ⟨So36 a sh home way H,?_,?_⟩
 · walk_at "vc"
   refine ⟨_,SqL.of (s4 _ _ hs),_,rfl,d1,rfl,k1,s4 _ _ h1,_,n1.keysI,fun p2 z2 np2 pm2 so2=>?_⟩;obtain ⟨os2,eo2,u2,mm2,ll2⟩:=ZdL n1 pm2 so2;rw [eo2];exact ⟨⟨_,_,_,_,_,p1,p2,os1,os2,rfl,Same.new np2 _ _ g1,Zab,u1,u2,fun y hy=>b0 y ((mm1 y).mp hy),fun y hy=>b1 y ((mm2 y).mp hy),by omega,by omega⟩,(sm.trans s4).trans (Same.new np2)⟩
 clear s4 g1 sm h0 h1 n0 n1 b0 b1 l0 l1 hs eo1 u1 mm1 ll1 pm1 so1 np1;rintro σ H5 ⟨⟨v4,v5,v6,v7,v8,p1,p2,os1,os2,rfl,g1,g2,u1,u2,b1,b2,l1,l2⟩,sm⟩;refine ⟨So36 a sh home way H,?_,?_⟩
 · walk_at "vc"
   split
   · exact ⟨_,.inl (SqL.of g1),fun l fl=>⟨⟨_,_,_,_,_,p1,l,os1,os1,rfl,Same.new fl _ _ g1,Zab,u1,u1,b1,b1,l1,l1⟩,sm.trans (Same.new fl)⟩⟩
   · exact ⟨⟨_,_,_,_,_,p1,p2,os1,os2,rfl,g1,g2,u1,u2,b1,b2,l1,l2⟩,sm⟩
 clear g1 g2 u1 u2 b1 b2 l1 l2 sm;rintro σ H6 ⟨⟨v4,v5,v6,v7,v8,p1,p2,os1,os2,rfl,g1,g2,u1,u2,b1,b2,l1,l2⟩,sm⟩;refine ⟨So36 a sh home way H,?_,?_⟩
 · walk_at "vc"
   split
   · rename_i hw
     refine ⟨_,.inl (SqL.of g2),.inl ⟨by omega,by omega⟩,_,SqL.of g2,fun l fl=>?_⟩;have ec:cutV (pint os2) none (some (way*((pint os2).length:Int)/9))=pint (os2.take (2*os2.length/9)):=by rw [Zal,show way*(os2.length:Int)/9=((2*os2.length/9:Nat):Int) by rw [hw];omega,Zgp];unfold pint;rw [List.map_take]
     rw [ec];exact ⟨⟨_,_,_,_,_,p1,l,os1,os2.take (2*os2.length/9),rfl,Same.new fl _ _ g1,Zab,u1,Zit _ u2,b1,fun y hy=>b2 y (ybe hy),l1,by rw [yaB];omega⟩,sm.trans (Same.new fl)⟩
   · exact ⟨⟨_,_,_,_,_,p1,p2,os1,os2,rfl,g1,g2,u1,u2,b1,b2,l1,l2⟩,sm⟩
 clear g1 g2 u1 u2 b1 b2 l1 l2 sm;rintro σ H7 ⟨⟨v4,v5,v6,v7,v8,p1,p2,os1,os2,rfl,g1,g2,u1,u2,b1,b2,l1,l2⟩,sm⟩;refine ⟨So36 a sh home way H,?_,?_⟩
 · walk_at "vc"
   split
   · exact ⟨yau _,fun l fl=>⟨⟨_,_,_,_,_,l,p2,[],os2,rfl,Zab,Same.new fl _ _ g2,trivial,u2,(fun _ h=>nomatch h),b2,yau _,l2⟩,sm.trans (Same.new fl)⟩⟩
   · exact ⟨⟨_,_,_,_,_,p1,p2,os1,os2,rfl,g1,g2,u1,u2,b1,b2,l1,l2⟩,sm⟩
 clear g1 g2 u1 u2 b1 b2 l1 l2 sm;rintro σ H8 ⟨⟨v4,v5,v6,v7,v8,p1,p2,os1,os2,rfl,g1,g2,u1,u2,b1,b2,l1,l2⟩,sm⟩;walk_at "vc";exact ⟨by decide,fun r fr=>q r p1 p2 os1 os2 _ (sm.trans (Same.new fr)) Zab (Same.new fr _ _ g1) (Same.new fr _ _ g2) u1 u2 b1 b2 l1 l2⟩
section
variable {c:Kd→Addr}{ts:Tabs}
theorem Ms.ins {m:Addr}(h:Ms c CM H m ns):∃ dx fs,noT H m=some (.ins CM dx fs):=by obtain ⟨es,hm,_⟩:=h;obtain ⟨dx,fs,e,_⟩:=hm.obj;exact ⟨dx,fs,e⟩
theorem Ms.lst {m a:Addr}(h:Ms c CM H m ns)(nb:Nb ts m H H')(e:noT H a=some (.lst xs)):noT H' a=some (.lst xs):=by obtain ⟨dx,fs,ho⟩:=h.ins;exact nb.same _ _ (fun z=>by rw [z,ho] at e;cases e) e
theorem Ms.nb {m m2:Addr}{ns ns2:List Nat}(h:Ms c CM H m2 ns2)(hm:Ms c CM H m ns)(n:m2≠m)(nb:Nb ts m H H'):Ms c CM H' m2 ns2:=by obtain ⟨es,hm,_⟩:=hm;obtain ⟨o,ho,f⟩:=hm.four;obtain ⟨es2,h1,h2⟩:=h;exact ⟨es2,h1.nb ho f n nb.same,h2⟩
end
section
variable {c:Kd→Addr}{ts:Tabs}
theorem jn38 {op:Bool→Bool→Bool}{Q:VK}{E:XK}{m m':Addr}{ns':List Nat}(hm:Ms c CM H m ns)(hm':Ms c CM H m' ns')(ht:Tbs ts H)(q:∀ m2 H' ns2,Nx ts H H'→noT H m2=none→Ms c CM H' m2 ns2→(∀ x,x∈ns2↔op (decide (x∈ns)) (decide (x∈ns'))=true)→Q (.ref m2) H'):spJoin op c CM ts [.ref m,.ref m'] H Q E:=by obtain ⟨es,h1,ok,rfl⟩:=hm;obtain ⟨es',h1',ok',rfl⟩:=hm';exact ⟨m,m',es,es',rfl,h1,h1',ok,ok',ht,fun m2 H' es2 nx nm hm2 ok2 mem=>q m2 H' _ nx nm ⟨es2,hm2,ok2,rfl⟩ mem⟩
theorem mk38 {Q:VK}{E:XK}{l:Addr}(hl:noT H l=some (.lst (pint ns)))(lt:∀ x∈ns,x≤65535)(ln:ns.length≤900)(u:Up 0 ns)(ht:Tbs ts H)(q:∀ m H',Nx ts H H'→noT H m=none→Ms c CM H' m ns→Q (.ref m) H'):spMarksOf c CM ts [.ref l] H Q E :=
 ⟨l,ns,rfl,hl,lt,by omega,ht,fun m H' es nx nm hm ok mem=>q m H' nx nm ⟨es,hm,ok,Up.ext ok.flat_up u mem⟩⟩
structure L38 (K:ZFr)(c:Kd→Addr)(CM:Addr)(ts:Tabs)(ns:List Int)(sc o1 o2 a b:Addr)(os1 os2:List Nat)(H:Hp):Prop where
 sq:SqL K (noT H) sc (ns.map V.int)
 g1:noT H o1=some (.lst (pint os1))
 g2:noT H o2=some (.lst (pint os2))
 hA:Ms c CM H a os1
 hB:Ms c CM H b os2
 tb:Tbs ts H
theorem L38.nx {ns:List Int}{sc o1 o2 a b:Addr}{os1 os2:List Nat}{H H':Hp}(h:L38 K c CM ts ns sc o1 o2 a b os1 os2 H)(nx:Nx ts H H'):L38 K c CM ts ns sc o1 o2 a b os1 os2 H':=⟨nx.same.seq h.sq,nx.at h.g1,nx.at h.g2,h.hA.nx nx,h.hB.nx nx,nx.tb⟩
structure C38 (os1 os2:List Nat):Prop where
 u1:Up 0 os1
 u2:Up 0 os2
 b1:∀ x∈os1,x≤65535
 b2:∀ x∈os2,x≤65535
 l1:os1.length≤700
 l2:os2.length≤700
end
theorem BodyIs.noT {k:Kd}{v:V}(h:BodyIs H k ps v):BodyIs (L2.noT H) k ps v:=by
 cases k with
 | l=>obtain ⟨l,e,h⟩:=h;exact ⟨l,e,Zan h (nl _)⟩
 | b=>exact h
 | r=>obtain ⟨l,e,us,h,t⟩:=h;exact ⟨l,e,us,Zan h (nl _),Paired.mapP t fun _ _ ⟨t,e,h⟩=>⟨t,e,Zan h (nt _)⟩⟩
def stayL (b:Int)(os:List Nat):List Nat:=os.filter fun (n:Nat)=>decide (0≤(n:Int)+b∧(n:Int)+b<65536)
def inB (b:Int):V→Bool
 | .int z=>decide (0≤z+b∧z+b<65536)
 | _=>false
def addV (b:Int):V→V
 | .int z=>.int (z+b)
 | v=>v
theorem mv_list {b:Int}{os:List Nat}(u:Up 0 os)(lt:∀ x∈os,x≤65535):∃ mv:List Nat,(pint (stayL b os)).map (addV b)=pint mv∧Up 0 mv∧(∀ x,x∈mv↔x≤65535∧∃ y∈os,(x:Int)=y+b)∧mv.length≤os.length:=by
 have us:Up 0 (stayL b os):=u.filter;have pw:((stayL b os).map fun (n:Nat)=>(n:Int)+b).Pairwise (·<·):=by have h:=Zds us;rw [List.pairwise_map] at h ⊢;exact h.imp fun h=>by omega
 have nn:∀ y∈(stayL b os).map fun (n:Nat)=>(n:Int)+b,((0:Nat):Int)≤y:=fun y hy=>by
   obtain ⟨n,hn,rfl⟩:=yaD.mp hy;exact (yaS (yas.mp hn).2).1
 obtain ⟨mv,e,um⟩:=ZdK pw nn;refine ⟨mv,?_,um,fun x=>?_,?_⟩
 · rw [Zbu mv,← e]
   unfold pint;rw [ybh,ybh];rfl
 · rw [← ZcJ,← e,yaD]
   constructor
   · rintro ⟨n,hn,ex⟩
     obtain ⟨h1,h2⟩:=yas.mp hn;have h2:=yaS h2;exact ⟨by omega,n,h1,ex.symm⟩
   · rintro ⟨h1,y,hy,ex⟩
     exact ⟨y,yas.mpr ⟨hy,yap (by omega)⟩,ex.symm⟩
 · have:=congrArg List.length e
   rw [yaa,yaa] at this;rw [← this];exact ybp _ _
section
variable {c:Kd→Addr}{ts:Tabs}
def spLaw38 (K:ZFr)(ts:Tabs):Sp:=fun vs H Q _=>∃ (a:Addr) (ns:List Int),vs=[.ref a]∧SqL K (noT H) a (ns.map V.int)∧ns.length≤63∧(∀ z∈ns,Builtin.Int.intBits z≤2^20)∧Tbs ts H∧∀ H',Q (.bl true) H'
def M4 (K:ZFr)(c:Kd→Addr)(CM:Addr)(ts:Tabs)(ns:List Int)(sc:Addr):L2.St→Hp→Prop:=fun σ H=>∃ (v6 v7:Option V) (o1 o2 a b:Addr) (by_:Int) (os1 os2:List Nat),σ=[some (.ref sc),some (.ref o1),some (.ref o2),some (.ref a),some (.ref b),some (.int by_),v6,v7]∧C38 os1 os2∧L38 K c CM ts ns sc o1 o2 a b os1 os2 H
def M6 (K:ZFr)(c:Kd→Addr)(CM:Addr)(ts:Tabs)(ns:List Int)(sc:Addr):L2.St→Hp→Prop:=fun σ H=>∃ (o1 o2 a b st F:Addr) (by_:Int) (os1 os2 mv:List Nat),σ=[some (.ref sc),some (.ref o1),some (.ref o2),some (.ref a),some (.ref b),some (.int by_),some (.ref st),some (.ref F)]∧C38 os1 os2∧L38 K c CM ts ns sc o1 o2 a b os1 os2 H∧noT H st=some (.lst (pint (stayL by_ os1)))∧Ms c CM H F mv∧(pint (stayL by_ os1)).map (addV by_)=pint mv∧Up 0 mv∧(∀ x,x∈mv↔x≤65535∧∃ y∈os1,(x:Int)=y+by_)∧mv.length≤os1.length∧a≠F∧b≠F
theorem ok_law (B:Blt mg)(je:FnAt P w K mg base "_law_mixed" ["_law_cell","_law_k"] 1 spMixed)(jd:FnAt P w K mg base "_law_cell_at" ["_law_script","_law_k"] 1 (spCell K))(ja4:FnAt P w K mg base "_law_sets" ["_law_script"] 2 (spSets36 K))(jbR:FnAt P w K mg base "_law_by" ["_law_cell"] 2 spBy38)(j4:FnAt P w K mg base "marks_of" ["numbers"] 9 (spMarksOf c CM ts))(jal:FnAt P w K mg base "moved" ["marks","by"] 9 (spMoved c CM ts))(jaB:FnAt P w K mg base "joined" ["one","other"] 8 (spJoin or c CM ts))(ja5:FnAt P w K mg base "_law_is" ["_law_found","_law_numbers"] 9 (spEnds c CM ts))(jas:MethAt P w K mg base CM "told" ["self"] 5 (spToldM c CM))(jF:MethAt P w K mg base CM "numbers" ["self"] 5 (spNumbers c CM))(jb9:MethAt P w K mg base CM "put" ["self","n"] 7 (spPutM c CM ts))
   {fa:Addr} (FL:Fun K "law" "law" ZeH fa fd):FnOk P w K mg base CX0 11 fa fd ["_law_script"] (spLaw38 K ts):=by
 refine FL.ok jbL (fun vs H Q E h=>?_) (fun cdv A outer s H vs Q E hr h=>?_)
 · obtain ⟨a,ns,rfl,_⟩:=h
   rfl
 have nd:=jbL.nd;obtain ⟨sc,ns,rfl,hS,h63,hbits,ht,q⟩:=h;refine ⟨_,(Zaf (ZdQ (Zaj ja4 (Zaa (pv 0) Zac)) (pg_lstK K rfl (ZaA (Za4 (i:=1)) (ZaA (Za4 (i:=2)) Zbp))))
     (Zaf (Zas (i:=3) (Zaj j4 (Zaa (Za7 (ZaW K) rfl B.lst boot_list (Zaa (pv 1) Zac)) Zac)))
     (Zaf (Zas (i:=4) (Zaj j4 (Zaa (Za7 (ZaW K) rfl B.lst boot_list (Zaa (pv 2) Zac)) Zac)))
     (Zaz (Zas (i:=5) (Zaj jbR (Zaa (Zaj jd (Zaa (pv 0) (Zaa (Zah Zaq (Zaw (ZaF K) rfl B.len zar (Zaa (pv 0) Zac)) Zad) Zac))) Zac)))
     (Zaf (Zco (i:=6) ["_law_number"] [5] jbL.nd rfl (by walk_at "l") rfl (ZaD K (pv 1)) (fun _ _ _ _ _=>ZaS (i:=0) (by show List.Nodup (["_law_number","_law_by_here"]:List Str);decide +kernel) rfl (Or.inl rfl)) (fun _ _ _ _ _=>ZiR (ZdF ZcK Zc6 Zad (Zah Zay (pv 0) (pv 1)) Zad)) (fun _ _ _ _ _=>(pv 0)) ⟨⟨_,rfl,rfl,.inl rfl⟩,trivial⟩ ZaQ)
     (Zaz (Zas (i:=7) (Zaj jal (Zaa (pv 3) (Zaa (pv 5) Zac))))
     (Zaz (ZaC (ZcS (Zbx (Zaj ja5 (Zaa (pv 7) (Zaa (Zcq ["_law_number"] [5] rfl (ZaD K (pv 6)) (fun _ _ _ _ _=>ZaS (i:=0) (by show List.Nodup (["_law_number","_law_by_here"]:List Str);decide +kernel) rfl (Or.inl rfl)) (fun _ _ _ _ _=>ZbB) (fun _ _ _ _ _=>(Zah Zay (pv 0) (pv 1))) ⟨⟨_,rfl,rfl,.inl rfl⟩,trivial⟩ ZaQ) Zac))))) (Zae (Zak ZcL)) Zao)
     (Zaz (ZaC (ZcS (Zbx (Zaj ja5 (Zaa (Zaj jal (Zaa (pv 7) (Zaa (Zah ZaX Zad (pv 5)) Zac))) (Zaa (pv 6) Zac))))) (Zae (Zak ZcL)) Zao)
     (Zaz (ZaC (ZaH (Zf0 K (hu64 hr)) (ZaE P w K mg base 5 (Zaj jal (Zaa (Zaj jaB (Zaa (pv 3) (Zaa (pv 4) Zac))) (Zaa (pv 5) Zac)))) (ZaE P w K mg base 5 (Zaj jaB (Zaa (pv 7) (Zaa (Zaj jal (Zaa (pv 4) (Zaa (pv 5) Zac))) Zac))))) (Zae (Zak ZcL)) Zao)
     (Zaf (ZaM (Zax P w K mg base 7 (pv 7) (Zaa (Zah Zau (Zaj jd (Zaa (pv 0) (Zaa Zad Zac))) Zad) Zac)))
     (Zae (Zak (ZcR (Zaj ja5 (Zaa (pv 3) (Zaa (pv 1) Zac))) (ZcO (Zei (Zgl K (hu64 hr)) (ZaE P w K mg base 5 (pv 4)) (pv 2)))))))))))))))),?_⟩
 walk_at "vc";refine ⟨sc,ns,rfl,hS.noT,fun r o1 o2 os1 os2 H1 s1 hr g1 g2 u1 u2 b1 b2 l1 l2=>?_⟩;have nx1:=ht.nx s1;have g1:=Zan g1 (nl _);have g2:=Zan g2 (nl _);have hS1:=nx1.same.seq hS;refine ⟨r,rfl,_,SqL.of hr,rfl,_,_,rfl,_,_,rfl,rfl,o1,rfl,_,.inl (sL g1),fun la fla=>?_⟩;have nx2:=Nx.new (o':=.lst (pint os1)) nx1.tb fla;refine mk38 (nU) b1 (by omega) u1 nx2.tb fun a H2 nxB _ hA=>?_
 have nx3:=nx2.trans nxB;have g1:=nx3.at g1;have g2:=nx3.at g2;have hS3:=nx3.same.seq hS1;refine ⟨o2,rfl,_,.inl (sL g2),fun lb flb=>?_⟩;have nx4:=Nx.new (o':=.lst (pint os2)) nx3.tb flb;refine mk38 (nU) b2 (by omega) u2 nx4.tb fun b H3 nxC _ hB=>?_
 have nx5:=nx4.trans nxC;have L5:L38 K c CM ts ns sc o1 o2 a b os1 os2 H3:=⟨nx5.same.seq hS3,nx5.at g1,nx5.at g2,hA.nx nx5,hB,nx5.tb⟩
 have C:C38 os1 os2:=⟨u1,u2,b1,b2,l1,l2⟩
 clear nx1 nx2 nx3 nx4 nx5 nxB nxC hS1 hS3 g1 g2 hA hB s1 hr u1 u2 b1 b2 l1 l2 fla flb;refine ⟨M4 K c CM ts ns sc,?_,?_⟩
 · walk_at "vc"
   refine ⟨_,.inl L5.sq.noT,?_⟩;rw [yaa,show (ns.length:Int)/2=((ns.length/2:Nat):Int) by omega];refine ⟨sc,ns,_,rfl,L5.sq.noT,_,rfl,?_,fun by_=>⟨_,_,o1,o2,a,b,by_,os1,os2,rfl,C,L5⟩⟩;by_cases z:ns.length/2<ns.length
   · rw [yaC,yae z]
     exact hbits _ (yaw z)
   · rw [yaC,List.getElem?_eq_none (by omega)]
     decide
 clear L5 C;rintro σ H4 ⟨v6,v7,o1,o2,a,b,by_,os1,os2,rfl,C,L⟩;walk_at "vc";refine ⟨⟨_,sL L.g1⟩,compL (inB by_) id (sL L.g1) (by rw [Zal];have:=C.l1;omega) (fun x H R hx s h=>?_) (fun x H R hx _ s h=>?_) (fun st nst=>?_)⟩
 · obtain ⟨z,hz,rfl⟩:=ZbN hx
   walk_at "vc";by_cases z0:0≤(z:Int)+by_
   · rw [if_pos z0]
     rw [show inB by_ (V.int (z:Nat))=decide ((z:Int)+by_<65536) from ybF.mpr ⟨And.right,fun y=>⟨z0,y⟩⟩] at h;exact h
   · rw [if_neg z0]
     rw [show inB by_ (V.int (z:Nat))=false from yaI fun y=>z0 y.1] at h;exact h
 · obtain ⟨z,hz,rfl⟩:=ZbN hx
   walk_at "vc";exact h
 have ef:((pint os1).filter (inB by_)).map id=pint (stayL by_ os1):=by rw [List.map_id];unfold pint stayL;rw [ybY];rfl
 rw [ef];have nx1:=Nx.new (o':=.lst (pint (stayL by_ os1))) L.tb nst;have L1:=L.nx nx1;have hst:noT (upd H4 st (.lst (pint (stayL by_ os1)))) st=some (.lst (pint (stayL by_ os1))):=nU;generalize upd H4 st (.lst (pint (stayL by_ os1)))=H5 at nx1 L1 hst ⊢;refine ⟨M6 K c CM ts ns sc,?_,?_⟩
 · walk_at "vc"
   refine ⟨a,by_,os1,rfl,L1.hA,L1.tb,fun F H6 mv nx2 nF hF mem=>?_⟩;obtain ⟨mv',e,um,mm,ll⟩:=mv_list (b:=by_) C.u1 C.b1;obtain rfl:mv=mv':=Up.ext hF.up um fun x=>(mem x).trans (mm x).symm
   refine ⟨o1,o2,a,b,st,F,by_,os1,os2,mv,rfl,C,L1.nx nx2,nx2.at hst,hF,e,um,mm,ll,fun z=>?_,fun z=>?_⟩
   · obtain ⟨dx,fs,h⟩:=L1.hA.ins
     rw [z,nF] at h;cases h
   · obtain ⟨dx,fs,h⟩:=L1.hB.ins
     rw [z,nF] at h;cases h
 clear nx1 L1 hst nst ef;clear L C;rintro σ H6 ⟨o1,o2,a,b,st,F,by_,os1,os2,mv,rfl,C,L,hst,hF,e,um,mm,ll,na,nb⟩;have l1:=C.l1;have ls:(stayL by_ os1).length≤os1.length:=ybp _ _;refine ⟨M6 K c CM ts ns sc,?_,?_⟩
 · walk_at "vc"
   refine ⟨⟨_,sL hst⟩,compL (fun _=>true) (addV by_) (sL hst) (by rw [Zal];omega) (fun x H R hx s h=>?_) (fun x H R hx _ s h=>?_) (fun l nl1=>?_)⟩
   · walk_at "vc"
     exact h
   · obtain ⟨z,hz,rfl⟩:=ZbN hx
     walk_at "vc";exact h
   rw [ybP.mpr (fun _ _=>rfl),e];have nx1:=Nx.new (o':=.lst (pint mv)) L.tb nl1;have hl:noT (upd H6 l (.lst (pint mv))) l=some (.lst (pint mv)):=nU;refine ⟨F,l,mv,rfl,hF.nx nx1,hl,by omega,nx1.tb,fun H7 nx2=>⟨_,rfl,?_⟩⟩;rw [if_neg (by decide)];have nx3:=nx1.trans nx2;exact ⟨o1,o2,a,b,st,F,by_,os1,os2,mv,rfl,C,L.nx nx3,nx3.at hst,hF.nx nx3,e,um,mm,ll,na,nb⟩
 clear L C hst hF e um mm ll na nb l1 ls;rintro σ H7 ⟨o1,o2,a,b,st,F,by_,os1,os2,mv,rfl,C,L,hst,hF,e,um,mm,ll,na,nb⟩;have l1:=C.l1;have ls:(stayL by_ os1).length≤os1.length:=ybp _ _;refine ⟨M6 K c CM ts ns sc,?_,?_⟩
 · walk_at "vc"
   refine ⟨F,0-by_,mv,rfl,hF,L.tb,fun m2 H8 ns2 nx1 _ hm2 mem=>?_⟩;obtain rfl:ns2=stayL by_ os1:=Up.ext hm2.up C.u1.filter fun x=>by
     rw [mem];unfold stayL;rw [yas,yaL];constructor
     · rintro ⟨h1,y,hy,ey⟩
       obtain ⟨h2,z,hz,ez⟩:=(mm y).mp hy;obtain rfl:z=x:=by omega
       exact ⟨hz,by omega⟩
     · rintro ⟨hx,h⟩
       exact ⟨C.b1 x hx,((x:Int)+by_).toNat,(mm _).mpr ⟨by omega,x,hx,by omega⟩,by omega⟩
   refine ⟨m2,st,_,rfl,hm2,nx1.at hst,by omega,nx1.tb,fun H9 nx2=>⟨_,rfl,?_⟩⟩;rw [if_neg (by decide)];have nx3:=nx1.trans nx2;exact ⟨o1,o2,a,b,st,F,by_,os1,os2,mv,rfl,C,L.nx nx3,nx3.at hst,hF.nx nx3,e,um,mm,ll,na,nb⟩
 clear L C hst hF e um mm ll na nb l1 ls;rintro σ H7 ⟨o1,o2,a,b,st,F,by_,os1,os2,mv,rfl,C,L,hst,hF,e,um,mm,ll,na,nb⟩;refine ⟨M6 K c CM ts ns sc,?_,?_⟩
 · walk_at "vc"
   refine jn38 L.hA L.hB L.tb fun J H8 js nx1 _ hJ mJ=>?_
   refine ⟨J,by_,js,rfl,hJ,nx1.tb,fun M1 H9 m1 nx2 _ hM1 mM1=>?_⟩;obtain ⟨es1,hm1,ok1,rfl⟩:=hM1;obtain ⟨dx1,kd1,ah1,sr1,e1,_⟩:=hm1.ex;refine ⟨M1,rfl,_,_,_,(oT e1),rfl,_,_,jas,M1,es1,rfl,hm1,ok1,fun t1 us1 H10 s3 ht1 rows1=>?_⟩;have nx3:=nx2.tb.nx s3;have nx4:=(nx1.trans nx2).trans nx3;refine ⟨b,by_,os2,rfl,L.hB.nx nx4,nx4.tb,fun M2 H11 m2 nx5 _ hM2 mM2=>?_⟩;have nx6:=nx4.trans nx5;refine jn38 (hF.nx nx6) hM2 nx6.tb fun J2 H12 j2 nx7 _ hJ2 mJ2=>?_
   obtain ⟨es2,hm2,ok2,rfl⟩:=hJ2;obtain ⟨dx2,kd2,ah2,sr2,e2,_⟩:=hm2.ex;refine ⟨J2,rfl,_,_,_,(oT e2),rfl,_,_,jas,J2,es2,rfl,hm2,ok2,fun t2 us2 H13 s8 ht2 rows2=>?_⟩;have nx8:=nx7.tb.nx s8;have nx9:=(nx5.trans nx7).trans nx8;have ht1:=nx9.at (Zan ht1 (nl _))
   have rows1:Paired (RowAt (noT H10)) us1 es1:=Paired.mapP rows1 fun _ _ ⟨t,b,e,h,hb⟩=>⟨t,b,e,Zan h (nt _),BodyIs.noT hb⟩
   have rows1:Paired (RowAt H13) us1 es1:=Paired.mapP rows1 fun _ _ ⟨t,b,e,h,hb⟩=>⟨t,b,e,(oT (nx9.at h)),BodyIs.same (BodyIs.same hb nx9.same) noT_sub⟩
   refine ZfH (oT ht1) ht2 rows1 rows2 (rows_kp (kp_eq ok1 ok2 (Up.ext ok1.flat_up ok2.flat_up fun x=>?_))) ⟨_,rfl,?_⟩
   · rw [mM1,mJ2,ycp,yaL,yaL,mm,mM2]
     simp only [mJ,ycp,yaL];constructor
     · rintro ⟨h1,y,hy | hy,ey⟩
       · exact .inl ⟨h1,y,hy,ey⟩
       · exact .inr ⟨h1,y,hy,ey⟩
     · rintro (⟨h1,y,hy,ey⟩ | ⟨h1,y,hy,ey⟩)
       · exact ⟨h1,y,.inl hy,ey⟩
       · exact ⟨h1,y,.inr hy,ey⟩
   rw [if_neg (by decide)];have nx:=nx4.trans nx9;exact ⟨o1,o2,a,b,st,F,by_,os1,os2,mv,rfl,C,L.nx nx,nx.at hst,hF.nx nx,e,um,mm,ll,na,nb⟩
 clear L C hst hF e um mm ll na nb;rintro σ H7 ⟨o1,o2,a,b,st,F,by_,os1,os2,mv,rfl,C,L,hst,hF,e,um,mm,ll,na,nb⟩;have l1:=C.l1;have l2:=C.l2;walk_at "vc";obtain ⟨esF,hmF,okF,eF⟩:=hF;obtain ⟨dxF,kdF,ahF,srF,eF1,_⟩:=hmF.ex;refine ⟨_,_,_,(oT eF1),rfl,_,_,jb9,sc,ns,0,rfl,L.sq.noT,_,rfl,?_⟩;obtain ⟨n,hn,en⟩:∃ n:Nat,n≤65535∧ns.getD 0 0%65536=(n:Int):=⟨(ns.getD 0 0%65536).toNat,by omega,by omega⟩
 rw [en];refine ⟨F,n,esF,rfl,hn,hmF,okF,L.tb,fun H8 es8 nb8 _ _ _=>?_⟩;have hF:Ms c CM H7 F mv:=⟨esF,hmF,okF,eF⟩
 refine ⟨a,o1,os1,rfl,L.hA.nb hF na nb8,hF.lst nb8 L.g1,by omega,nb8.tb,fun H9 nx9=>?_⟩;obtain ⟨es,hm,ok,ee⟩:=(L.hB.nb hF nb nb8).nx nx9;obtain ⟨dx,kd,ah,sr,e1,_⟩:=hm.ex;refine ⟨_,rfl,?_⟩;rw [if_pos rfl];refine ⟨_,_,_,(oT e1),rfl,_,_,jF,b,es,rfl,hm,ok,by rw [← Za9,ee];omega,fun l H10 s10 nl10 hl10=>?_⟩;refine ZfD (SqL.of hl10) (SqL.of (s10 _ _ (oT (nx9.at (hF.lst nb8 L.g2))))) ?_;rw [yap ee];exact q _
end
def lamDefs:List Str:=["halved_keys","halved_counts"]
def tsK (K:ZFr):Tabs:=[((tabAt K "halved_keys").2,qK,lpK),((tabAt K "halved_counts").2,qC,lpC)]
def spLawK (K:ZFr):Sp:=fun vs H Q E=>TabsUq (tsK K)∧spLaw38 K (tsK K) vs H Q E
theorem fn_uq {k:Nat}{f:Addr}{ps:List Str}{U:Prop}(F:U→FnOk P w K mg base CX0 k f fd ps sp):FnOk P w K mg base CX0 k f fd ps (fun vs H Q E=>U∧sp vs H Q E) :=
 ⟨fun vs H Q E h=>(F h.1).len vs H Q E h.2,fun A outer s H args us vs Q E hr he hb hv hs=>(F hs.1).run A outer s H args us vs Q E hr he hb hv hs.2⟩
theorem sql_noT {a:Addr}(h:SqL K H a xs):SqL K (noT H) a xs:=by
 rcases h with h | h
 · rcases h with h | ⟨o,h⟩
   · exact .inl (.inl (Zan h (nl _)))
   · exact .inl (.inr ⟨o,Zan h fun _ z=>by cases z⟩)
 · exact .inr h
theorem ZjL {K:Params→ZFr}(w:World)(H:Hp)(a:Addr)(ns:List Int)(h1:ns.length≤63)(h2:∀ z∈ns,Builtin.Int.intBits z≤2^20)(h3:∀ y∈lamDefs,H (tabAt (K w.params) y).2=some (.tbl #[]))(h4:(lamDefs.map fun x=>(tabAt (K w.params) x).2).Nodup)(h5:SqL (K w.params) H a (ns.map V.int)):spLawK (K w.params) [.ref a] H (fun v _=>v=.bl true) fun _ _ _=>False:=by
 have ne:(tabAt (K w.params) "halved_keys").2≠(tabAt (K w.params) "halved_counts").2:=(ybS.mp h4).1 ∘ fun z=>yaj.mpr (.inl z)
 refine ⟨fun t ht u hu e=>?_,a,ns,rfl,sql_noT h5,h1,h2,fun t ht=>?_,fun _=>rfl⟩
 · simp only [tsK,yaj,ybd,zaU] at ht hu
   rcases ht with rfl | rfl<;>rcases hu with rfl | rfl
   · rfl
   · exact absurd e ne
   · exact absurd e.symm ne
   · rfl
 · simp only [tsK,yaj,ybd,zaU] at ht
   rcases ht with rfl | rfl
   · exact .inl (h3 _ (.head _))
   · exact .inl (h3 _ (.tail _ (.head _)))
theorem law_mk {h:Heap}{fa f:Addr}{oc:Value}{od an:Option Addr}{kV doc pm cdv ct:Value}(X:K.In h)(G:h.Ns mainGlobals mg)(hfa:mg "law"=some (.ref fa))(a:PySem.W.nsIn K mainGlobals "law"=some (some (.ref f)))
   (l:K.lookup f=some ⟨oc,od,.func (PySem.W.fnOf "law" "law" (defArgs ZeH) (defBody ZeH) (defScope ZeH) .none kV doc pm an cdv ct),osl⟩) (c:PySem.W.codeIn K cdv "law"=true) (k:PySem.W.keepIn K (.ref f)=true) :
   ∃ fd,Fun K "law" "law" ZeH fa fd∧∀ (s:Shared) (v:Value),BindsTo s fd ⟨[v],[]⟩ [("_law_script",v)]:=by
 have e:=hfa.symm.trans (PySem.W.mg_of X G a);cases e;exact ⟨_,Zdb l c k,fun s v=>.of_eq rfl⟩
theorem walkT {l:PySem.W.OpenLaw}{q:Program}{loose:List Str}{YP:World→Heap→Prop}{d:DefRec}{K:Params→ZFr}(hn:l.most=some 63)(hdf:d.params.defaults=[])
   (hY:∀ (w:World) (h:Heap),YP w h→(K w.params).In h) (ok:∀ P,tabsOk (K P) lamDefs=true) (rok:recsOk q lamDefs=true)
   (F:∀ (w:World) (mg:Str→Option Value) (fa:Addr) (h:Heap),(K w.params).In h→h.Ns mainGlobals mg→mg d.name=some (.ref fa)→(∀ y∈lamDefs,PySem.W.tabIn (K w.params) y=some (tabAt (K w.params) y)) →
     ∃ fd:FuncData,(∀ (s:Shared) (u:Value),BindsTo s fd ⟨[u],[]⟩ [("_law_script",u)])∧∀ base:Heap,(K w.params).In base→base.Ns mainGlobals mg→(∀ y∈lamDefs,TabIn base mg (tabAt (K w.params) y))→FnOk l.prog w (K w.params) mg base CX0 40 fa fd ["_law_script"] (spLawK (K w.params))) :
   PySem.W.WalkO q loose XP YP l.row.toRowW d [] (fun f vs=>PySem.call f vs) :=
 L2.walk_tabs (n:=63) (k:=40) (x:="_law_script") (sp:=fun w=>spLawK (K w.params)) lamDefs hn (by decide) hdf ⟨rfl,by decide,by decide⟩ hY ok rok (fun w mg fa h KX G m=>F w mg fa h KX G m fun y hy=>(ZdM (ok _) hy).1) ZjL
theorem ex_cd {h:Heap}{x:Str}{R:Addr→Prop}(X:K.In h)(G:h.Ns mainGlobals mg)(a:PySem.W.nsIn K mainGlobals x=some (some (.ref C)))(r:mg x=some (.ref C)→R C):∃ C,R C:=⟨C,r (PySem.W.mg_of X G a)⟩
end My
theorem PySem.W.Fast.te7257770608024291303:True:=trivial
def PySem.W.Fast.tw7257770608024291303:Unit:=()
theorem PySem.W.Fast.te11752051474033240031:True:=trivial
def PySem.W.Fast.tw11752051474033240031:Unit:=()
theorem PySem.W.Fast.te16789797352802379242:True:=trivial
def PySem.W.Fast.tw16789797352802379242:Unit:=()
theorem PySem.W.Fast.te8403559534865787773:True:=trivial
def PySem.W.Fast.tw8403559534865787773:Unit:=()
theorem PySem.W.Fast.te13052408679150730464:True:=trivial
def PySem.W.Fast.tw13052408679150730464:Unit:=()
theorem PySem.W.Fast.te16555476440528808052:True:=trivial
def PySem.W.Fast.tw16555476440528808052:Unit:=()
theorem PySem.W.Fast.te4868988410673395695:True:=trivial
def PySem.W.Fast.tw4868988410673395695:Unit:=()
open PySem PySem.W PyProof.Rows My L2
abbrev zP:=PySem.Challenge.rw_runmarks_k38_sets_moved.prog
local macro_rules | `(tactic| walk_at "d1")=>`(tactic| (dsimp only [L2.KOf]; refine' ZgR (by assumption) (by assumption) ?a ?l ?c ?k ?b; (case a=>k_is); (case l=>k_is); (case c=>k_is); (case k=>k_is); exact fun _ _ _ _ _ _=>all1 fun _=>rfl))
local macro_rules | `(tactic| walk_at "d2")=>`(tactic| (dsimp only [L2.KOf]; refine' ZgR (by assumption) (by assumption) ?a ?l ?c ?k ?b; (case a=>k_is); (case l=>k_is); (case c=>k_is); (case k=>k_is); exact fun _ _ _ _ _ _=>all2 fun _ _=>rfl))
local macro_rules | `(tactic| walk_at "i1")=>`(tactic| (refine' Zhu ?a ?b ?c ?d ?e ?f ?g ?h; (case a=>k_is); (case b=>k_is); (case c=>k_is); (case d=>k_is); (case e=>k_is); (case f=>k_is); (case g=>k_is); exact fun _ _ _ _ _ _=>all1 fun _=>rfl))
local macro_rules | `(tactic| walk_at "i2")=>`(tactic| (refine' Zhu ?a ?b ?c ?d ?e ?f ?g ?h; (case a=>k_is); (case b=>k_is); (case c=>k_is); (case d=>k_is); (case e=>k_is); (case f=>k_is); (case g=>k_is); exact fun _ _ _ _ _ _=>all2 fun _ _=>rfl))
local macro_rules | `(tactic| walk_at "m1")=>`(tactic| (refine' ZfP ?a ?b ?c ?d ?e ?f; (case a=>k_is); (case b=>k_is); (case c=>k_is); (case d=>k_is); (case e=>k_is); exact fun _ _ _ _ _ _=>all1 fun _=>rfl))
local macro_rules | `(tactic| walk_at "m2")=>`(tactic| (refine' ZfP ?a ?b ?c ?d ?e ?f; (case a=>k_is); (case b=>k_is); (case c=>k_is); (case d=>k_is); (case e=>k_is); exact fun _ _ _ _ _ _=>all2 fun _ _=>rfl))
local macro_rules | `(tactic| walk_at "m3")=>`(tactic| (refine' ZfP ?a ?b ?c ?d ?e ?f; (case a=>k_is); (case b=>k_is); (case c=>k_is); (case d=>k_is); (case e=>k_is); exact fun _ _ _ _ _ _=>all3 fun _ _ _=>rfl))
local macro_rules | `(tactic| walk_at "cc")=>`(tactic| (refine' ⟨?a,?b,?c,?d⟩; (case a=>k_is); (case b=>k_is); (case c=>k_is); (case d=>k_is)))
local macro_rules | `(tactic| walk_at "ci")=>`(tactic| (refine' isi_to (by assumption) (by assumption) ?a ?b; (case a=>k_is); (case b=>kit_is)))
local macro_rules | `(tactic| walk_at "cn")=>`(tactic| (show PySem.W.findIn _ _ _ = _; k_is))
local macro_rules | `(tactic| walk_at "ic")=>`(tactic| (refine' int_mk (by assumption) (by assumption) ?a; (case a=>k_is)))
set_option maxRecDepth 100000 in
set_option maxHeartbeats 0 in
theorem PySem.Challenge.cw_runmarks_k38_sets_moved_holds : PySem.Challenge.rw_runmarks_k38_sets_moved.Holds := by
 w_on;o_law;k_head;(case hw=>w_witness2)
 k_fill
 refine My.walkT (l:=PySem.Challenge.rw_runmarks_k38_sets_moved) rfl rfl (fun w h Y=>PySem.W.km_in_of Y) (fun P=>by kernel_rfl) (by kernel_rfl) ?F
 case F =>
   intro w mg fa h KX G hmg hTI;have jbS:DefAt (L2.KOf KX) mg "is_whole" Zdd ["thing"]:=by walk_at "d1"
   have jca:DefAt (L2.KOf KX) mg "bit_at" ZeU ["word","place"]:=by walk_at "d2"
   have jag:DefAt (L2.KOf KX) mg "all_below" ZcG ["place"]:=by walk_at "d1"
   have jac:DefAt (L2.KOf KX) mg "without_first" Zby ["word"]:=by walk_at "d1"
   have jb1:DefAt (L2.KOf KX) mg "counted" ZdW ["word"]:=by walk_at "d1"
   have jbz:DefAt (L2.KOf KX) mg "ones_below" Zcp ["word","place"]:=by walk_at "d2"
   have jcb:DefAt (L2.KOf KX) mg "one_at" ZeQ ["word","k"]:=by walk_at "d2"
   have jbH:DefAt (L2.KOf KX) mg "first_one" Zcx ["word"]:=by walk_at "d1"
   have jbT:DefAt (L2.KOf KX) mg "last_one" Zda ["word"]:=by walk_at "d1"
   have jbI:DefAt (L2.KOf KX) mg "span_word" ZcM ["first","last"]:=by walk_at "d2"
   have jb2:DefAt (L2.KOf KX) mg "word_of" ZdS ["places"]:=by walk_at "d1"
   have jbJ:DefAt (L2.KOf KX) mg "places_of" ZcX ["word"]:=by walk_at "d1"
   have jb3:DefAt (L2.KOf KX) mg "runs_of" Zd0 ["word"]:=by walk_at "d1"
   have ja6:DefAt (L2.KOf KX) mg "word_of_runs" ZbZ ["runs"]:=by walk_at "d1"
   have jcc:DefAt (L2.KOf KX) mg "pushed" ZeO ["word","by"]:=by walk_at "d2"
   have jcl:DefAt (L2.KOf KX) mg "sizes" Zgh ["word"]:=by walk_at "d1"
   have jcp:DefAt (L2.KOf KX) mg "kept" Zik ["word"]:=by walk_at "d1"
   have jcm:DefAt (L2.KOf KX) mg "added" Zgf ["stretch","place"]:=by walk_at "d2"
   have jcd:DefAt (L2.KOf KX) mg "halved" ZeD ["many","goes_on"]:=by walk_at "d2"
   have jbc:DefAt (L2.KOf KX) mg "halved_keys" Zbm ["keys","key"]:=by walk_at "d2"
   have jaO:DefAt (L2.KOf KX) mg "halved_counts" Za2 ["aheads","k"]:=by walk_at "d2"
   have ja7:DefAt (L2.KOf KX) mg "check_number" ZbP ["thing"]:=by walk_at "d1"
   have jbU:DefAt (L2.KOf KX) mg "marks_of" Zde ["numbers"]:=by walk_at "d1"
   have jbV:DefAt (L2.KOf KX) mg "of_words" Zdl ["words"]:=by walk_at "d1"
   have jbW:DefAt (L2.KOf KX) mg "gathered" Zdf ["pairs"]:=by walk_at "d1"
   have jcn:DefAt (L2.KOf KX) mg "moved" s_moved ["marks","by"]:=by walk_at "d2"
   have ja8:DefAt (L2.KOf KX) mg "keys_of_both" ZbU ["one","other"]:=by walk_at "d2"
   have jce:DefAt (L2.KOf KX) mg "joined" ZeW ["one","other"]:=by walk_at "d2"
   have jbK:DefAt (L2.KOf KX) mg "_law_cell_at" ZcD ["_law_script","_law_k"]:=by walk_at "d2"
   have jb4:DefAt (L2.KOf KX) mg "_law_whole" ZdR ["_law_found"]:=by walk_at "d1"
   have jb5:DefAt (L2.KOf KX) mg "_law_mixed" ZdZ ["_law_cell","_law_k"]:=by walk_at "d2"
   have jcf:DefAt (L2.KOf KX) mg "_law_word" ZeT ["_law_places"]:=by walk_at "d1"
   have jcg:DefAt (L2.KOf KX) mg "_law_runs" ZeK ["_law_places"]:=by walk_at "d1"
   have jb6:DefAt (L2.KOf KX) mg "_law_least" ZdI ["_law_places"]:=by walk_at "d1"
   have jb7:DefAt (L2.KOf KX) mg "_law_piece" ZdV ["_law_number","_law_home"]:=by walk_at "d2"
   have jch:DefAt (L2.KOf KX) mg "_law_sets" Ze2 ["_law_script"]:=by walk_at "d1"
   have jci:DefAt (L2.KOf KX) mg "_law_told" ZeN ["_law_numbers"]:=by walk_at "d1"
   have jcq:DefAt (L2.KOf KX) mg "_law_is" Zh7 ["_law_found","_law_numbers"]:=by walk_at "d2"
   have jcj:DefAt (L2.KOf KX) mg "_law_book" Ze8 ["_law_numbers"]:=by walk_at "d1"
   have jck:DefAt (L2.KOf KX) mg "_law_ends" Zex ["_law_found","_law_numbers"]:=by walk_at "d2"
   have jcr:DefAt (L2.KOf KX) mg "_law_by" ZhJ ["_law_cell"]:=by walk_at "d1"
   have jbd:∃ C,CD_ListStretch (L2.KOf KX) mg C:=by
     dsimp only [L2.KOf];refine' ex_cd (x:="ListStretch") KX G ?aListStretch ?bListStretch
     (case aListStretch=>k_is)
     intro z;refine' ⟨z,?_,?_,?_,?_,?_,?_,?_,?_,?_,?_,?_⟩
     · walk_at "cc"
     · walk_at "i2"
     · walk_at "m1"
     · walk_at "m1"
     · walk_at "m1"
     · walk_at "m1"
     · walk_at "m1"
     · walk_at "m2"
     · walk_at "m2"
     · walk_at "m2"
     · walk_at "cn"
   obtain ⟨jbe,ja9⟩:=jbd;have jbA:∃ C,CD_BitStretch (L2.KOf KX) mg C:=by
     dsimp only [L2.KOf];refine' ex_cd (x:="BitStretch") KX G ?aBitStretch ?bBitStretch
     (case aBitStretch=>k_is)
     intro z;refine' ⟨z,?_,?_,?_,?_,?_,?_,?_,?_,?_,?_,?_⟩
     · walk_at "cc"
     · walk_at "i2"
     · walk_at "m1"
     · walk_at "m1"
     · walk_at "m1"
     · walk_at "m1"
     · walk_at "m1"
     · walk_at "m2"
     · walk_at "m2"
     · walk_at "m2"
     · walk_at "cn"
   obtain ⟨jbB,jbf⟩:=jbA;have jbC:∃ C,CD_RunStretch (L2.KOf KX) mg C:=by
     dsimp only [L2.KOf];refine' ex_cd (x:="RunStretch") KX G ?aRunStretch ?bRunStretch
     (case aRunStretch=>k_is)
     intro z;refine' ⟨z,?_,?_,?_,?_,?_,?_,?_,?_,?_,?_,?_⟩
     · walk_at "cc"
     · walk_at "i2"
     · walk_at "m1"
     · walk_at "m1"
     · walk_at "m1"
     · walk_at "m1"
     · walk_at "m1"
     · walk_at "m2"
     · walk_at "m2"
     · walk_at "m2"
     · walk_at "cn"
   obtain ⟨jbD,jbg⟩:=jbC;have jco:∃ C,CD_Marks (L2.KOf KX) mg C:=by
     dsimp only [L2.KOf];refine' ex_cd (x:="Marks") KX G ?aMarks ?bMarks
     (case aMarks=>k_is)
     intro z;refine' ⟨z,?_,?_,?_,?_,?_,?_,?_,?_,?_,?_,?_,?_,?_,?_,?_,?_,?_,?_,?_,?_,?_,?_,?_,?_,?_,?_⟩
     · walk_at "cc"
     · walk_at "i1"
     · walk_at "m2"
     · walk_at "m2"
     · walk_at "m1"
     · walk_at "m2"
     · walk_at "m2"
     · walk_at "m2"
     · walk_at "m2"
     · walk_at "m1"
     · walk_at "m1"
     · walk_at "m1"
     · walk_at "m1"
     · walk_at "m2"
     · walk_at "m2"
     · walk_at "m2"
     · walk_at "m2"
     · walk_at "m3"
     · walk_at "m2"
     · walk_at "m3"
     · walk_at "cc"
     · walk_at "ci"
     · walk_at "cn"
     · walk_at "cn"
     · walk_at "cn"
     · walk_at "cn"
   obtain ⟨jby,jb⟩:=jco;have ja:∃ t,mg "PLACES"=some (.int 256 t):=by walk_at "ic"
   have jah:∃ t,mg "LOWER_1"=some (.int 38597363079105398474523661669562635951089994888546854679819194669304376546645 t):=by walk_at "ic"
   have jai:∃ t,mg "LOWER_2"=some (.int 23158417847463239084714197001737581570653996933128112807891516801582625927987 t):=by walk_at "ic"
   have jaj:∃ t,mg "LOWER_4"=some (.int 6811299366900952671974763824040465167839410862684739061144563765171360567055 t):=by walk_at "ic"
   have jak:∃ t,mg "LOWER_8"=some (.int 450552876409790643671482431940419874915447411150352389258589821042463539455 t):=by walk_at "ic"
   have jar:∃ t,mg "GREATEST"=some (.int 65535 t):=by walk_at "ic"
   have jbQ:∃ t,mg "KEYS"=some (.int 256 t):=by walk_at "ic"
   have B:Blt mg:=by
     refine' ⟨zat KX G ?z0,zat KX G ?z1,zat KX G ?z2,zat KX G ?z3,zat KX G ?z4,zat KX G ?z5,zat KX G ?z6,zat KX G ?z7,zat KX G ?z8,zat KX G ?z9⟩
     (case z0=>k_is);(case z1=>k_is);(case z2=>k_is);(case z3=>k_is);(case z4=>k_is);(case z5=>k_is);(case z6=>k_is);(case z7=>k_is);(case z8=>k_is);(case z9=>k_is)
   have L:∃ fd,Fun (L2.KOf KX) "law" "law" ZeH fa fd∧∀ (s:Shared) (v:Value),BindsTo s fd ⟨[v],[]⟩ [("_law_script",v)]:=by
     dsimp only [L2.KOf];refine' My.law_mk KX G hmg ?aL ?lL ?cL ?kL
     (case aL=>k_is);(case lL=>k_is);(case cL=>k_is);(case kL=>k_is)
   obtain ⟨fd,FL,bL⟩:=L;refine ⟨fd,bL,fun base _ _ hTB=>?_⟩;refine fn_uq fun uq=>?_
   let c:Kd→Addr:=fun k=>match k with | .l=>jbe | .b=>jbB | .r=>jbD
   have cL:CD_ListStretch (L2.KOf KX) mg (c .l):=ja9;have cB:CD_BitStretch (L2.KOf KX) mg (c .b):=jbf;have cR:CD_RunStretch (L2.KOf KX) mg (c .r):=jbg;have cc:∀ k,Cls (L2.KOf KX) (c k):=fun k=>match k with | .l=>cL.c | .b=>cB.c | .r=>cR.c
   have je:=ok_mixed (P:=zP) (w:=w) (base:=base) jb5;have jd:=Zhz (P:=zP) (w:=w) (base:=base) B jbK;have jaG:=ok_whole (P:=zP) (w:=w) (base:=base) B jb4;have jk:=Zgm (P:=zP) (w:=w) (base:=base) (Zcs jag) jbI;have jc:=Zf2 (P:=zP) (w:=w) (base:=base) (Zgr jbT) jbH;have jf:=Zh9 (P:=zP) (w:=w) (base:=base) ⟨jah,jai,jaj,jak⟩ jb1;have jaD:=Zh8 (P:=zP) (w:=w) (base:=base) jc jk jb3;have jl:=Zf8 (P:=zP) (w:=w) (base:=base) jc (Zcl jac) jbJ;have jaC:=Zh2 (P:=zP) (w:=w) (base:=base) jb2;have jN:=Zeh (P:=zP) (w:=w) (base:=base) jk ja6;have iL:=Zi3 (P:=zP) (w:=w) (base:=base) B cL;have iB:=ZiV (P:=zP) (w:=w) (base:=base) cB;have iR:=Zjy (P:=zP) (w:=w) (base:=base) B cR;have hw:∀ k,MethAt zP w (L2.KOf KX) mg base (c k) "word" ["self"] 4 (spWordM c k):=fun k=>match k with | .l=>Zjc jaC cL | .b=>ZiY cB | .r=>ZiW jN cR
   have jbs:=ok_sizes (P:=zP) (w:=w) (base:=base) ja jf jcl;have jz:=ok_kept (P:=zP) (w:=w) (base:=base) jbs jl jaD iL iB iR jcp;have jbw:=ok_added (P:=zP) (w:=w) (base:=base) hw jz jcm;have j3:=Zfg (P:=zP) (w:=w) (base:=base) (Zcs jag) jf jbz;have jaV:=Zjz (P:=zP) (w:=w) (base:=base) jca;have hhas:∀ k,MethAt zP w (L2.KOf KX) mg base (c k) "has" ["self","place"] 5 (spHasM c k):=fun k=>ok_has hw jaV k (cc k) (match k with | .l=>cL.m_has | .b=>cB.m_has | .r=>cR.m_has)
   have hbelow:∀ k,MethAt zP w (L2.KOf KX) mg base (c k) "below" ["self","place"] 5 (spBelowM c k):=fun k=>ok_below hw j3 k (cc k) (match k with | .l=>cL.m_below | .b=>cB.m_below | .r=>cR.m_below)
   have hmany:∀ k,MethAt zP w (L2.KOf KX) mg base (c k) "many" ["self"] 5 (spManyM c k):=fun k=>ok_many hw jf k (cc k) (match k with | .l=>cL.m_many | .b=>cB.m_many | .r=>cR.m_many)
   have jZ:=fun base=>Zjp (P:=zP) (w:=w) (base:=base) jcd
   have h_hk:=(ok_hkeys (P:=zP) (w:=w) (base:=base) B (hTB _ (.head _)) jZ (DefAt.toC KX G jbc (hTI _ (.head _)))).imp (hkT uq (.head _));have jr:=Zhj (P:=zP) (w:=w) (base:=base) B jbS;have jaA:=ok_check (P:=zP) (w:=w) (base:=base) jar jr ja7;have jE:=ok_found (c:=c) h_hk jb;have jo:=Zja (P:=zP) (w:=w) (base:=base) (c:=c) B jb;have jT:=ok_ahead (P:=zP) (w:=w) (base:=base) (c:=c) B jb;have jbX:=Zfd jE jo jb;have jaE:=ok_keep jE jo jT hmany jb;have jbx:=ok_initM (P:=zP) (w:=w) (base:=base) (c:=c) (ts:=tsK (L2.KOf KX)) jb;have jbv:=ok_hasM ja jaA jbX hhas jb;have jb9:=ok_putM ja jbv jbX jaE jz jbw jb;have jw:=Zjs ja jaA jE jo jT hbelow jb;have jt:=ZgZ jbx jaE jbW;have ju:=Zht B jz jt jbV;have j4:=ZgT ja jaA ju jbU;have jaW:=ZjA (P:=zP) (w:=w) (base:=base) B (Zcl jac) jc jcb;have hchosen:∀ k,MethAt zP w (L2.KOf KX) mg base (c k) "chosen" ["self","k"] 5 (spChosenM c k):=fun k=>ZjO hw jaW k (cc k) (match k with | .l=>cL.m_chosen | .b=>cB.m_chosen | .r=>cR.m_chosen)
   have h_hc:=(Zij (P:=zP) (w:=w) (base:=base) B (hTB _ (.tail _ (.head _))) jZ (DefAt.toC KX G jaO (hTI _ (.tail _ (.head _))))).imp (hkT uq (.tail _ (.head _)));have hkind:∀ k,MethAt zP w (L2.KOf KX) mg base (c k) "kind" ["self"] 4 (spKindS k):=fun k=>match k with | .l=>(Zjk cL).mono (by decide) | .b=>(Zjd cB).mono (by decide) | .r=>(Zi1 cR).mono (by decide)
   have hbody:∀ k,MethAt zP w (L2.KOf KX) mg base (c k) "body" ["self"] 4 (spBodyN c k):=fun k=>match k with | .l=>(ZhU B cL).mono (by decide) | .b=>(ZhF cB).mono (by decide) | .r=>(ZhH B cR).mono (by decide)
   have jh:=Zhe (P:=zP) (w:=w) (base:=base) (c:=c) B jb;have jv:=ZhN jbX hw jb;have jbO:=Zjg (P:=zP) (w:=w) (base:=base) (c:=c) jb;have jas:=ok_toldM B hkind hbody jb;have jbP:=ok_bookM (P:=zP) (w:=w) (base:=base) (c:=c) B jb;have jcs:=ok_both B jh ja8;have jaB:=Zjo jcs jv jz jt jce;have ja3:=Zjl (P:=zP) (w:=w) (base:=base) ja (Zcs jag) jcc;have jal:=ok_moved ja jbQ jh jv ja3 ju jcn;have h_chk:=ok_chk39 (c:=c) jr jb;have h_ch:=ok_ch39 ja h_chk h_hc hchosen jb;have h_on:=ok_on39 jw h_ch jb;have jct:=ZjH jbv jw h_ch jb;have jF:=Zib B ja hw jl jb;have jaY:=ok_word (P:=zP) (w:=w) (base:=base) jcf;have jaZ:=ok_runsS (P:=zP) (w:=w) (base:=base) jcg;have jaF:=ZjR B jaY jaZ jb6;have ja0:=ok_ltold B jaF jci;have ja1:=ok_lbook (P:=zP) (w:=w) (base:=base) B jcj;have ja2:=ok_lends B h_on jct jw h_ch jck;have ja5:=ok_lis B jb.at_ jb jF jbO jaG jas ja0 jbP ja1 ja2 jcq;have jaH:=ZhL (P:=zP) (w:=w) (base:=base) B jb7;have ja4:=ZjN B je jd jaH jch;have jbR:=ok_by38 je jcr;exact (ok_law B je jd ja4 jbR j4 jal jaB ja5 jas jF jb9 FL).mono (by decide)
#print axioms PySem.Challenge.cw_runmarks_k38_sets_moved_holds
