import PyProof.Rows.All
import Wide.All
import OpenK.AllK
import Wide.FinOn
import Lean
import PyProof.EqAt
import PyProof.EqKinds
import PyProof.TupleCall
import PyProof.Rows.TupIter
import PyProof.ZipIter
import PyProof.MinMaxWalk
import PyProof.WalkInts
import PyProof.WalksMore
import PyProof.SeqI3
import PyProof.Rows.SetFrom
import PyProof.Rows.SortShell
import OpenK.KMore
import KE.KSortTup
import KE.KDictSum
import PyProof.CollectWalk
import PyProof.ListNew
import PyProof.SumWalkG
import KE.KDictLaws
import KE.KIntText
import KE.IntTextLaws
import PyProof.StrBlockI
import PyProof.ConsumeWalk
import PyProof.StrLawsIn
import KE.KDictOf
import KE.KEqDict
import KE.KMinBuiltin
import PyProof.Rows.CallKwBuiltin
import KE.KTryOn
import PyProof.NsDelKeeps
import PyProof.RulesAs
import PyProof.ExcArgsOwn
import PyProof.IsiH_list
import KE.KIsAll
import PyProof.Rows.FStr
import PyProof.FString
import PyProof.ExcInit
import PyProof.ReprStr
import PyProof.StrLawsRepr
import PyProof.Draws
import PyProof.EnumMake
import PyProof.EnumFor
import KE.KDictList
import KE.KNestM
import PySem.Challenge.RW_runmarks_k76_what_is_neat
set_option maxHeartbeats 4000000
local macro_rules | `(tactic| omega) => `(tactic| lia)
local macro_rules | `(tactic| walk_at "l") => `(tactic| first | exact Or.inl rfl | exact Or.inr rfl)
local macro_rules | `(tactic| walk_at "s") => `(tactic| exact ⟨rfl,rfl,rfl,by decide +kernel,rfl,by decide +kernel,by decide +kernel⟩)
set_option Elab.async false
set_option linter.all false
set_option maxRecDepth 100000
namespace L2
open PySem PySem.Spec PyProof.Rows
abbrev Key:=Sum Int Str
def keyIs:Key→Value→Bool
 | .inl k,v=>Value.isInt k v
 | .inr x,v=>Value.isStrOf x v
def keyH (w:World):Key→Int
 | .inl k=>hashInt k
 | .inr x=>hashStr w x
theorem ZaM:∀ {k:Key} {v:Value},keyIs k v=true→(∃ i t,k=Sum.inl i∧v=Value.int i t)∨(∃ x t,k=Sum.inr x∧v=Value.str x t)
 | .inl i,v,h=>by
   obtain ⟨t,e⟩:=Value.isInt_shape (k:=i) (v:=v) h;exact .inl ⟨i,t,rfl,e⟩
 | .inr x,v,h=>by
   obtain ⟨t,e⟩:=Value.isStrOf_shape (x:=x) (v:=v) h;exact .inr ⟨x,t,rfl,e⟩
theorem ZgZ (i:Int)(t:Tok):keyIs (.inl i) (.int i t)=true:=by simp [keyIs,Value.isInt]
theorem ZgG (x:Str)(t:Tok):keyIs (.inr x) (.str x t)=true:=by simp [keyIs,Value.isStrOf]
theorem key_ll (a b:Int):decide ((Sum.inl a:Key)=Sum.inl b)=(a==b):=by
 by_cases e:a=b
 · subst e;simp
 · have h:¬ (Sum.inl a:Key)=Sum.inl b:=fun q=>e (Sum.inl.inj q)
   rw [decide_eq_false h];exact (beq_eq_false_iff_ne.mpr e).symm
theorem key_rr (a b:Str):decide ((Sum.inr a:Key)=Sum.inr b)=decide (a=b):=by
 by_cases e:a=b
 · subst e;simp
 · have h:¬ (Sum.inr a:Key)=Sum.inr b:=fun q=>e (Sum.inr.inj q)
   rw [decide_eq_false h,decide_eq_false e]
theorem key_lr (a:Int)(b:Str):decide ((Sum.inl a:Key)=Sum.inr b)=false:=decide_eq_false (fun q=>nomatch q)
theorem key_rl (a:Str)(b:Int):decide ((Sum.inr a:Key)=Sum.inl b)=false:=decide_eq_false (fun q=>nomatch q)
def mixKind (prog:Program) (w:World):PySem.KeyKind prog w Key where
 is:=keyIs
 hash:=keyH w
 inj := fun v a b ha hb=>by
   rcases ZaM ha with ⟨i,t,rfl,rfl⟩ | ⟨x,t,rfl,rfl⟩
   · rcases ZaM hb with ⟨j,u,rfl,e⟩ | ⟨y,u,rfl,e⟩
     · injection e with e1 _;rw [e1]
     · exact nomatch e
   · rcases ZaM hb with ⟨j,u,rfl,e⟩ | ⟨y,u,rfl,e⟩
     · exact nomatch e
     · injection e with e1 _;rw [e1]
 byValue:=fun k v h=>by
   rcases ZaM h with ⟨i,t,rfl,rfl⟩ | ⟨x,t,rfl,rfl⟩<;>rfl
 pyHash:=fun hv h=>by
   rcases ZaM hv with ⟨i,t,rfl,rfl⟩ | ⟨x,t,rfl,rfl⟩
   · exact wpAny_pyHash_int h
   · exact wpAny_pyHash_str h
 eqBool:=fun hu hv h=>by
   rcases ZaM hu with ⟨i,t,rfl,rfl⟩ | ⟨x,t,rfl,rfl⟩
   · rcases ZaM hv with ⟨j,u,rfl,rfl⟩ | ⟨y,u,rfl,rfl⟩
     · rw [key_ll] at h;exact wpAny_eqBool_int h
     · rw [key_lr] at h;exact SeqAt.EqAt.int_str i t y u _ _ _ _ h
   · rcases ZaM hv with ⟨j,u,rfl,rfl⟩ | ⟨y,u,rfl,rfl⟩
     · rw [key_rl] at h;exact SeqAt.EqAt.str_int x t j u _ _ _ _ h
     · rw [key_rr] at h;exact wpAny_eqBool_str h
 «strs»:=fun k x t v h=>by
   rcases ZaM h with ⟨i,u,rfl,e⟩ | ⟨y,u,rfl,e⟩
   · exact nomatch e
   · injection e with e1 _
     subst e1;cases v<;>rfl
theorem ZfE (prog:Program)(w:World)(k:Key)(v:Value):(mixKind prog w).is k v=keyIs k v:=rfl
theorem Ze9 (prog:Program)(w:World)(i:Int)(t:Tok):(mixKind prog w).is (.inl i) (.int i t)=true:=ZgZ i t
theorem Ze5 (prog:Program)(w:World)(x:Str)(t:Tok):(mixKind prog w).is (.inr x) (.str x t)=true:=ZgG x t
inductive V where
 | non | bl (b:Bool) | int (i:Int) | str (x:Str) | byt (b:Array UInt8) | flt (b:UInt64) | ref (a:Addr) | ty (n:String)
 deriving DecidableEq
def RelV:V→Value→Prop
 | .non,u=>u=Value.none
 | .bl b,u=>u=Value.bool b
 | .int i,u=>∃ t,u=Value.int i t
 | .str x,u=>∃ t,u=Value.str x t
 | .byt b,u=>∃ t,u=Value.bytes b t
 | .flt b,u=>∃ t,u=Value.float b t
 | .ref a,u=>u=Value.ref a
 | .ty n,u=>u=Value.type n
abbrev Vals:List V→List Value→Prop:=Paired RelV
theorem Vals.length {xs:List V}{us:List Value}(r:Vals xs us):xs.length=us.length:=Paired.length r
theorem Vals.get:∀ {xs:List V} {us:List Value} {i:Nat} {x:V},Vals xs us→xs[i]?=some x→∃ u,us[i]?=some u∧RelV x u
 | _,_,_,_,.nil,e=>by simp at e
 | _,_,0,_,.cons r _,e=>by simp at e;subst e;exact ⟨_,rfl,r⟩
 | _,_,i+1,x,.cons _ t,e=>by
   obtain ⟨u,h1,h2⟩:=Vals.get (i:=i) (x:=x) t (by simpa using e);exact ⟨u,by simpa using h1,h2⟩
theorem Vals.append:∀ {xs ys:List V} {us ws:List Value},Vals xs us→Vals ys ws→Vals (xs++ys) (us++ws)
 | _,_,_,_,.nil,s=>s
 | _,_,_,_,.cons r t,s=>.cons r (Vals.append t s)
theorem Vals.take:∀ {xs:List V} {us:List Value} (n:Nat),Vals xs us→Vals (xs.take n) (us.take n)
 | _,_,0,_=>.nil
 | _,_,_+1,.nil=>.nil
 | _,_,n+1,.cons r t=>.cons r (Vals.take n t)
theorem Vals.drop:∀ {xs:List V} {us:List Value} (n:Nat),Vals xs us→Vals (xs.drop n) (us.drop n)
 | _,_,0,r=>r
 | _,_,_+1,.nil=>.nil
 | _,_,n+1,.cons _ t=>Vals.drop n t
def RelO:Option V→Option Value→Prop
 | some v,some u=>RelV v u
 | none,none=>True
 | _,_=>False
def KV {κ:Type}:List (κ × V)→List (κ × Value)→Prop:=Paired fun (p:κ × V) (q:κ × Value)=>p.1=q.1∧RelV p.2 q.2
def kV:Key→V
 | .inl i=>.int i
 | .inr x=>.str x
inductive HO where
 | lst (xs:List V)
 | tup (xs:List V)
 | dK (kvs:List (Key × V)) | dT (kvs:List (List Key × V))
 | set (S:Int→Bool) (n:Nat)
 | ins (C dx:Addr) (fs:List (Str × V))
 | own (x:Addr)
 | xd (fs:List (Str × V))
 | met (f x:Addr)
 | rng (lo hi:Int)
 | frz (o:Obj) (u:HO)
 | tbl (ps:Array Value)
 | ext (φ:Heap→Prop)
abbrev Hp:=Addr→Option HO
def upd (H:Hp)(a:Addr)(o:HO):Hp:=fun b=>if b=a then some o else H b
theorem Zab {H:Hp}{a:Addr}{o:HO}:upd H a o a=some o:=by unfold upd;rw [if_pos rfl]
theorem Zah {H:Hp}{a b:Addr}{o:HO}(h:b≠a):upd H a o b=H b:=by unfold upd;rw [if_neg h]
theorem upd_upd {H:Hp}{a:Addr}{o u:HO}:upd (upd H a o) a u=upd H a u:=by funext b;unfold upd;split<;>rfl
theorem ne_of {H:Hp}{a b:Addr}{o u:HO}(h:H a=some o)(h':H b=some u)(d:o≠u):a≠b:=by intro e;subst e;rw [h] at h';exact d (Option.some.inj h')
theorem Zak {H:Hp}{a b:Addr}{o:HO}(h:H a=some o)(h':H b=none):a≠b:=by intro e;subst e;rw [h] at h';cases h'
section
variable (P:Program)(w:World)
def ObjOk (H:Hp)(h:Heap)(a:Addr):HO→Prop
 | .lst xs=>xs.length≤sizeLine∧∃ (its:List Value) (n:Nat),Vals xs its∧h.get? a=some { cls:=.type "list",data:=.seq its.toArray n }
 | .tup xs=>xs.length≤sizeLine∧∃ its:List Value,Vals xs its∧IsTup h a its.toArray
 | .dK kvs=>kvs.length≤sizeLine∧(a==sysModules)=false∧∃ vs,KV kvs vs∧h.DictOf (mixKind P w) a vs
 | .dT kvs=>kvs.length≤sizeLine∧(a==sysModules)=false∧∃ xs:List (List Key × Addr × Value),
     Paired (fun (p:List Key × V) (q:List Key × Addr × Value)=>p.1=q.1∧H q.2.1=some (.tup (p.1.map kV))∧RelV p.2 q.2.2) kvs xs ∧
     ∃ o es ep,h.get? a=some o∧o.ExactDict∧o.data=.dict es ep∧es.toList=xs.map (entryOfKey (tupleKind (mixKind P w)))∧(xs.map (·.1)).Nodup
 | .set S n=>h.SetOf (intKind P w) a S n
 | .ins C dx fs=>H dx=some (.own a)∧fs.length≤1000∧dx≠a∧h.get? a=some (PySem.W.instObj C dx) ∧
     ∃ mA,h.Ns1 dx mA∧(∀ f,RelO (fs.lookup f) (mA f))∧PySem.Within mA (fs.map (·.1))
 | .own _=>∃ o,h.get? a=some o
 | .xd fs=>∃ mA,h.Ns1 a mA∧∀ f,RelO (fs.lookup f) (mA f)
 | .rng lo hi=>∃ t u v,h.get? a=some { cls:=.type "range",data:=.fields #[.int lo t,.int hi u,.int 1 v] }
 | .frz o u=>h.get? a=some o∧ObjOk H h a u
 | .tbl ps=>h.get? a=some { cls:=.none,data:=.fields ps }
 | .met f x=>h.get? a=some (PySem.W.methodObj (.ref f) (.ref x))
 | .ext φ=>φ h∧(∃ o,h.get? a=some o)∧∀ h1 h2:Heap,φ h1→(∀ o,h1.get? a=some o→h2.get? a=some o)→φ h2
def HOk (H:Hp)(h:Heap):Prop:=∀ a o,H a=some o→ObjOk P w H h a o
end
section
variable {P:Program}{w:World}{H H':Hp}{h h':Heap}{a:Addr}{o:HO}
theorem ObjOk.lt (x:ObjOk P w H h a o):a<h.objs.size:=by
 cases o with
 | lst xs=>obtain ⟨_,_,_,_,e⟩:=x;exact Heap.lt_size e
 | tup xs=>obtain ⟨_,_,_,p⟩:=x;exact p.lt
 | dK kvs=>obtain ⟨_,_,_,_,o,_,_,e,_⟩:=x;exact Heap.lt_size e
 | dT kvs=>obtain ⟨_,_,_,_,o,_,_,e,_⟩:=x;exact Heap.lt_size e
 | set S n=>obtain ⟨o,_,_,_,e,_⟩:=x;exact Heap.lt_size e
 | ins C dx fs=>obtain ⟨_,_,_,e,_⟩:=x;exact Heap.lt_size e
 | own y=>obtain ⟨_,e⟩:=x;exact Heap.lt_size e
 | xd fs=>obtain ⟨_,⟨_,_,_,e,_⟩,_⟩:=x;exact Heap.lt_size e
 | rng lo hi=>obtain ⟨_,_,_,e⟩:=x;exact Heap.lt_size e
 | frz ob u=>obtain ⟨e,_⟩:=x;exact Heap.lt_size e
 | tbl ps=>exact Heap.lt_size (show h.get? a=some _ from x)
 | met f y=>exact Heap.lt_size (show h.get? a=some _ from x)
 | ext φ=>obtain ⟨_,⟨_,e⟩,_⟩:=x;exact Heap.lt_size e
theorem Paired.mapP {α β:Type}{F G:α→β→Prop}:∀ {l₁:List α} {l₂:List β},Paired F l₁ l₂→(∀ a b,F a b→G a b)→Paired G l₁ l₂
 | _,_,.nil,_=>.nil
 | _,_,.cons r t,f=>.cons (f _ _ r) (Paired.mapP t f)
theorem ObjOk.stay (x:ObjOk P w H h a o)(k:∀ b u,(b=a∨H b=some (.own a))→h.get? b=some u→h'.get? b=some u)
   (ho:∀ b,H b=some (.own a)→H' b=some (.own a)) (ht:∀ b xs,H b=some (.tup xs)→H' b=some (.tup xs)):ObjOk P w H' h' a o:=by
 induction o with
 | lst xs=>obtain ⟨z,its,n,r,e⟩:=x;exact ⟨z,its,n,r,k _ _ (.inl rfl) e⟩
 | tup xs=>obtain ⟨z,its,r,ob,e,c⟩:=x;exact ⟨z,its,r,ob,k _ _ (.inl rfl) e,c⟩
 | dK kvs=>obtain ⟨z,y,vs,r,ob,es,ep,e,c⟩:=x;exact ⟨z,y,vs,r,ob,es,ep,k _ _ (.inl rfl) e,c⟩
 | dT kvs =>
   obtain ⟨z,y,xs,r,ob,es,ep,e,c⟩:=x;exact ⟨z,y,xs,Paired.mapP r fun p q z=>⟨z.1,ht _ _ z.2.1,z.2.2⟩,ob,es,ep,k _ _ (.inl rfl) e,c⟩
 | set S n=>obtain ⟨ob,es,ep,t,e,c⟩:=x;exact ⟨ob,es,ep,t,k _ _ (.inl rfl) e,c⟩
 | ins C dx fs =>
   obtain ⟨d,z,ne,e,mA,⟨od,es,ep,e2,c⟩,r⟩:=x;exact ⟨ho _ d,z,ne,k _ _ (.inl rfl) e,mA,⟨od,es,ep,k _ _ (.inr d) e2,c⟩,r⟩
 | own y=>obtain ⟨ob,e⟩:=x;exact ⟨ob,k _ _ (.inl rfl) e⟩
 | xd fs=>obtain ⟨mA,⟨od,es,ep,e,c⟩,r⟩:=x;exact ⟨mA,⟨od,es,ep,k _ _ (.inl rfl) e,c⟩,r⟩
 | rng lo hi=>obtain ⟨t,u,v,e⟩:=x;exact ⟨t,u,v,k _ _ (.inl rfl) e⟩
 | frz ob u ih=>obtain ⟨e,q⟩:=x;exact ⟨k _ _ (.inl rfl) e,ih q⟩
 | tbl ps =>
   have e:h.get? a=some { cls:=.none,data:=.fields ps }:=x;show h'.get? a=some { cls:=.none,data:=.fields ps };exact k a _ (.inl rfl) e
 | met f y =>
   have e:h.get? a=some (PySem.W.methodObj (.ref f) (.ref y)):=x;show h'.get? a=some (PySem.W.methodObj (.ref f) (.ref y));exact k a _ (.inl rfl) e
 | ext φ=>obtain ⟨p,⟨o,e⟩,st⟩:=x;exact ⟨st _ _ p fun o q=>k _ _ (.inl rfl) q,⟨o,k _ _ (.inl rfl) e⟩,st⟩
theorem HOk.lt (x:HOk P w H h)(e:H a=some o):a<h.objs.size:=(x a o e).lt
theorem HOk.fresh (x:HOk P w H h)(e:h.objs.size≤a):H a=none:=by
 cases q:H a with
 | none=>rfl
 | some u=>exact absurd (Nat.lt_of_lt_of_le (x.lt q) e) (Nat.lt_irrefl _)
theorem HOk.kept (x:HOk P w H h)(k:∀ b u,h.get? b=some u→h'.get? b=some u):HOk P w H h':=fun a o e =>
 (x a o e).stay (fun b u _ q=>k b u q) (fun _ q=>q) fun _ _ q=>q
theorem HOk.laid (x:HOk P w H h)(k:∀ b u,h.get? b=some u→h'.get? b=some u)(hp:h.objs.size≤a)(new:ObjOk P w (upd H a o) h' a o):HOk P w (upd H a o) h':=fun b u e=>by
 have hn:=x.fresh hp;by_cases hb:b=a
 · subst hb;rw [Zab] at e;cases e;exact new
 · rw [Zah hb] at e;exact (x b u e).stay (fun c v _ q=>k c v q) (fun c q=>by rw [Zah (Zak q hn)];exact q) fun c xs q=>by rw [Zah (Zak q hn)];exact q
end
def Rd (H:Hp)(a:Addr)(u:HO):Prop:=H a=some u∨∃ o,H a=some (.frz o u)
theorem Rd.ok {P:Program}{w:World}{H:Hp}{h:Heap}{a:Addr}{u:HO}(r:Rd H a u)(x:HOk P w H h):ObjOk P w H h a u:=by
 rcases r with r | ⟨o,r⟩
 · exact x a u r
 · obtain ⟨_,q⟩:=x a _ r;exact q
def Mut:Option HO→Prop
 | some (.lst _)=>True
 | some (.dK _)=>True
 | some (.dT _)=>True
 | some (.set _ _)=>True
 | some (.ins _ _ _)=>True
 | some (.ext _)=>True
 | _=>False
section
variable {P:Program}{w:World}{H:Hp}{h h':Heap}{x e:Addr}{o':HO}
theorem HOk.write (ok:HOk P w H h) (mu:Mut (H x)) (he:e=x∨H e=some (.own x)) (k:∀ b u,b≠e→h.get? b=some u→h'.get? b=some u) (heo:∃ u,h'.get? e=some u)
   (new:ObjOk P w (upd H x o') h' x o'):HOk P w (upd H x o') h':=fun b u q=>by
 have nown:∀ c y,H c=some (.own y)→c≠x:=fun c y r z=>by subst z;rw [r] at mu;exact mu
 have ntup:∀ c xs,H c=some (.tup xs)→c≠x:=fun c xs r z=>by subst z;rw [r] at mu;exact mu
 by_cases hb:b=x
 · subst hb;rw [Zab] at q;cases q;exact new
 · rw [Zah hb] at q
   by_cases hbe:b=e
   · have q':H b=some (.own x):=by
       rcases he with z | z
       · exact absurd (hbe.trans z) hb
       · rw [hbe];exact z
     rw [q] at q';cases q';obtain ⟨v,hv⟩:=heo;exact ⟨v,by rw [hbe];exact hv⟩
   · refine (ok b u q).stay (fun c v hc r=>k c v ?_ r) (fun c r=>by rw [Zah (nown c b r)];exact r) fun c xs r=>by rw [Zah (ntup c xs r)];exact r
     rcases hc with rfl | hc
     · exact hbe
     · rintro rfl;rcases he with z | z
       · exact nown c b hc z
       · rw [hc] at z;cases z;exact hb rfl
end
structure Un (fs ex:List Addr)(H H':Hp)(h h':Heap):Prop where
 keep:∀ b o,h.get? b=some o→H b=none→b∉fs→b∉ex→h'.get? b=some o
 slot:∀ b o,h.get? b=some o→H b=none→b∈fs→b∉ex→∃ sl,h'.get? b=some { o with slots:=sl }
 free:∀ b o,h.get? b=some o→H b=none→b∉ex→H' b=none
 there:∀ b o,h.get? b=some o→b∉ex→∃ o',h'.get? b=some o'
 tups:∀ b xs,H b=some (.tup xs)→H' b=some (.tup xs)
 frzs:∀ b o u,H b=some (.frz o u)→H' b=some (.frz o u)
 tbls:∀ b ps,H b=some (.tbl ps)→∃ more,H' b=some (.tbl (ps++more))
section
variable {fs fs' ex ex':List Addr}{H H1 H2:Hp}{h h1 h2 h':Heap}{a x e:Addr}{o:HO}
theorem Un.any (u:Un fs ex H H1 h h1){b:Addr}{ob:Obj}(q:h.get? b=some ob)(n:H b=none)(hx:b∉ex):∃ sl,h1.get? b=some { ob with slots:=sl }:=by
 by_cases hb:b∈fs
 · exact u.slot b ob q n hb hx
 · exact ⟨ob.slots,u.keep b ob q n hb hx⟩
theorem Un.trans (a:Un fs ex H H1 h h1)(b:Un fs ex H1 H2 h1 h2):Un fs ex H H2 h h2 where
 keep:=fun c ob q n hc hx=>b.keep c ob (a.keep c ob q n hc hx) (a.free c ob q n hx) hc hx
 slot:=fun c ob q n hc hx=>by
   obtain ⟨sl,e1⟩:=a.slot c ob q n hc hx;obtain ⟨sl',e2⟩:=b.slot c _ e1 (a.free c ob q n hx) hc hx;exact ⟨sl',e2⟩
 free:=fun c ob q n hx=>by
   obtain ⟨o',e1⟩:=a.there c ob q hx;exact b.free c o' e1 (a.free c ob q n hx) hx
 there:=fun c ob q hx=>by
   obtain ⟨o',e1⟩:=a.there c ob q hx;exact b.there c o' e1 hx
 tups:=fun c xs q=>b.tups c xs (a.tups c xs q)
 frzs:=fun c ob xs q=>b.frzs c ob xs (a.frzs c ob xs q)
 tbls:=fun c ps q=>by
   obtain ⟨m1,e1⟩:=a.tbls c ps q;obtain ⟨m2,e2⟩:=b.tbls c _ e1;exact ⟨m1++m2,by rw [e2,Array.append_assoc]⟩
theorem Un.kept (k:∀ b u,h.get? b=some u→h'.get? b=some u):Un fs ex H H h h' :=
 ⟨fun b ob q _ _ _=>k b ob q,fun b ob q _ _ _=>⟨ob.slots,k b ob q⟩,fun _ _ _ n _=>n,fun b ob q _=>⟨ob,k b ob q⟩,fun _ _ q=>q,fun _ _ _ q=>q,fun _ ps q=>⟨#[],by rw [q];simp⟩⟩
theorem Un.refl:Un fs ex H H h h:=Un.kept fun _ _ q=>q
theorem Un.laid (k:∀ b u,h.get? b=some u→h'.get? b=some u)(hp:h.objs.size≤a)(hn:H a=none):Un fs ex H (upd H a o) h h' where
 keep:=fun b u q _ _ _=>k b u q
 slot:=fun b u q _ _ _=>⟨u.slots,k b u q⟩
 free:=fun b u q n _=>by rw [Zah (Nat.ne_of_lt (Nat.lt_of_lt_of_le (Heap.lt_size q) hp))];exact n
 there:=fun b u q _=>⟨u,k b u q⟩
 tups:=fun b xs q=>by rw [Zah (Zak q hn)];exact q
 frzs:=fun b u xs q=>by rw [Zah (Zak q hn)];exact q
 tbls:=fun b ps q=>⟨#[],by rw [Zah (Zak q hn),q];simp⟩
theorem Un.write (mu:Mut (H x))(he:e=x∨H e=some (.own x))(k:∀ b u,b≠e→h.get? b=some u→h'.get? b=some u)(heo:∃ u,h'.get? e=some u):Un fs ex H (upd H x o) h h':=by
 have hx:∀ b,H b=none→b≠x:=fun b n z=>by subst z;rw [n] at mu;exact mu
 have hb:∀ b,H b=none→b≠e:=fun b n z=>by
   subst z;rcases he with r | r
   · exact hx b n r
   · rw [n] at r;cases r
 have hm:∀ b u,H b=some u→¬ Mut (some u)→b≠x:=fun b u q nm z=>by subst z;rw [q] at mu;exact nm mu
 refine ⟨fun b u q n _ _=>k b u (hb b n) q,fun b u q n _ _=>⟨u.slots,k b u (hb b n) q⟩,fun b u q n _=>by rw [Zah (hx b n)];exact n,fun b u q _=>?_,
   fun b xs q=>by rw [Zah (hm b _ q fun z=>z)];exact q,fun b u xs q=>by rw [Zah (hm b _ q fun z=>z)];exact q,fun b ps q=>⟨#[],by rw [Zah (hm b _ q fun z=>z),q];simp⟩⟩
 by_cases hbe:b=e
 · subst hbe;exact heo
 · exact ⟨u,k b u hbe q⟩
end
def trk (h:Heap)(H:Hp):List Addr:=(List.range h.objs.size).filter fun a=>(H a).isSome
def hidT (h:Heap)(H:Hp):Heap:=PySem.W.hideAll h (trk h H)
theorem Zg1 (h:Heap)(H:Hp):(hidT h H).objs.size=h.objs.size:=PySem.W.hideAll_size _ _
theorem hidT_get {h:Heap}{H:Hp}{b:Addr}{o:Obj}(e:h.get? b=some o)(n:H b=none):(hidT h H).get? b=some o :=
 PySem.W.hideAll_get _ e fun hm=>by
   have q:(H b).isSome=true:=(List.mem_filter.mp hm).2;rw [n] at q;simp at q
theorem of_hidT {h:Heap}{H:Hp}{b:Addr}{o:Obj}(e:(hidT h H).get? b=some o):h.get? b=some o∧H b=none:=by
 have e':h.get? b=some o:=PySem.W.of_hideAll (trk h H) e;refine ⟨e',?_⟩;cases q:H b with
 | none=>rfl
 | some x =>
   have hm:b∈trk h H:=List.mem_filter.mpr ⟨List.mem_range.mpr (Heap.lt_size e'),by simp [q]⟩;have z:(hidT h H).get? b=none:=PySem.W.hideAll_none (trk h H) hm;rw [z] at e;cases e
def allNews (g h:Heap)(L:Addr):List (Addr × Obj):=(List.range h.objs.size).filterMap fun a=>if a=L∨(g.get? a).isSome=true then none else (h.get? a).map fun o=>(a,o)
def rest (g h:Heap)(L d:Addr):List (Addr × Obj):=(allNews g h L).filter fun p=>decide (p.1≠d)
structure Mod (K:PySem.W.Frag)(mg:Str→Option Value)(base:Heap):Prop where
 kin:K.In base
 glob:base.Ns mainGlobals mg
 blt:∃ mb,base.Ns builtinsNs mb∧∀ x:Str,x≠"__name__"→mb x=bootBuiltins x
 nolimit:base.NoLimit
structure Cx where
 prog:Program
 w:World
 K:PySem.W.Frag
 mg:Str→Option Value
 base:Heap
 A:Around
 N:List Str
 s₀:Shared
 H₀:Hp
 env:Env
 outer:List Env
 stack:List Env
 ex:List Addr
 fn:Str→Bool
 calm:Bool
 pn:List (Addr × Obj)
 xe:Value→Shared→Prop
def frs (l:List Env):List Addr:=l.filterMap (·.frame)
abbrev Cx.fs (X:Cx):List Addr:=frs X.outer
def Vis (sc:Scope)(x:Str):Prop:=sc.names.lookup x=some .local∨sc.names.lookup x=some .cell∨sc.names.lookup x=some .free
def Loc (sc:Scope)(x:Str):Prop:=sc.names.lookup x=some .local∨sc.names.lookup x=some .cell
def Look (env:Env)(h:Heap)(m:Str→Option Value)(x:Str)(u:Value):Prop :=
 (env.kindOf x=some .local∧m x=some u)∨((env.kindOf x=some .cell∨env.kindOf x=some .free)∧∃ c,env.cells.lookup x=some c∧h.IsCell c (some u))
structure Cx.Ok (X:Cx):Prop where
 mod:Mod X.K X.mg X.base
 kind:X.env.scope.kind=.function
 glob:X.env.globals=mainGlobals
 blt:X.env.builtins=builtinsNs
 above:X.s₀.heap.objs.size≤X.env.locals
 inj:∀ x y c,X.env.cells.lookup x=some c→X.env.cells.lookup y=some c→x=y
 has:∀ x,(X.env.kindOf x=some .cell∨X.env.kindOf x=some .free)→∃ c,X.env.cells.lookup x=some c
 cab:∀ x c,X.fn x=true→X.env.cells.lookup x=some c→X.s₀.heap.objs.size≤c
 hd:X.calm=true→X.A.handled=none
 frames:X.A.frames=some X.stack
 stk:X.stack=X.outer∨(X.stack=X.env::X.outer∧X.env.frame=some X.env.locals)
 exf:∀ b∈X.ex,b≠X.env.locals∧∀ x c,X.env.cells.lookup x=some c→c≠b
 bs:∀ b o,X.base.get? b=some o→X.s₀.heap.get? b=some o∧X.H₀ b=none
 bsz:X.base.objs.size≤X.s₀.heap.objs.size
 noex:∀ b o,X.base.get? b=some o→b∉X.ex
 exfs:∀ b∈X.ex,b∉X.fs
 funs:X.s₀.heap.FunFrames X.base X.outer
 frf:∀ b∈X.fs,X.H₀ b=none
structure Inv (X:Cx)(pins:List (Addr × Obj))(σ:List (Option V))(H:Hp)(s:Shared):Prop where
 ok:X.Ok
 os:s.os=X.s₀.os
 bare:AllBare s.gens
 base:Un X.fs X.ex X.H₀ H X.s₀.heap s.heap
 loc:∃ m,s.heap.Ns X.env.locals m∧∀ (i:Nat) (x:Str) (v:V),X.N[i]?=some x→σ[i]?=some (some v)→Vis X.env.scope x→∃ u,RelV v u∧Look X.env s.heap m x u
 cell:∀ x c,X.env.cells.lookup x=some c→∃ v,s.heap.IsCell c v
 free:H X.env.locals=none
 freeC:∀ x c,X.env.cells.lookup x=some c→H c=none
 pin:∀ p∈X.pn++pins,s.heap.get? p.1=some p.2∧H p.1=none∧p.1≠X.env.locals∧p.1∉X.fs∧∀ v,p.2.data≠.cell v
 hok:HOk X.prog X.w H s.heap
 len:σ.length=X.N.length
section
variable {X:Cx}{pins:List (Addr × Obj)}{σ:List (Option V)}{H H':Hp}{s:Shared}{h':Heap}
theorem Cx.Ok.nofr (ok:X.Ok){b:Addr}{o:Obj}(e:X.base.get? b=some o):b∉X.fs:=fun hb=>by
 have:=(ok.funs.mem hb).1;rw [e] at this;cases this
theorem Inv.bs (I:Inv X pins σ H s):∀ b o,X.base.get? b=some o→s.heap.get? b=some o∧H b=none:=fun b o e =>
 ⟨I.base.keep b o (I.ok.bs b o e).1 (I.ok.bs b o e).2 (I.ok.nofr e) (I.ok.noex b o e),I.base.free b o (I.ok.bs b o e).1 (I.ok.bs b o e).2 (I.ok.noex b o e)⟩
theorem Inv.bk (I:Inv X pins σ H s):∀ b o,X.base.get? b=some o→s.heap.get? b=some o:=fun b o e=>(I.bs b o e).1
theorem Inv.mod (I:Inv X pins σ H s):Mod X.K X.mg X.base:=I.ok.mod
theorem Inv.kIn (I:Inv X pins σ H s):X.K.In s.heap:=I.ok.mod.kin.keeps I.bk
theorem Inv.lt (I:Inv X pins σ H s):X.env.locals<s.heap.objs.size:=let ⟨_,hn,_⟩:=I.loc;hn.lt
theorem Inv.sz (I:Inv X pins σ H s):X.s₀.heap.objs.size≤s.heap.objs.size:=Nat.le_trans I.ok.above (Nat.le_of_lt I.lt)
theorem Inv.nofs (I:Inv X pins σ H s){a:Addr}(h:s.heap.objs.size≤a):a∉X.fs:=fun hb=>by
 obtain ⟨_,o,ho,_⟩:=I.ok.funs.mem hb;exact absurd (Nat.lt_of_lt_of_le (Heap.lt_size ho) (Nat.le_trans I.sz h)) (Nat.lt_irrefl _)
theorem Inv.cne (I:Inv X pins σ H s):∀ x c,X.env.cells.lookup x=some c→c≠X.env.locals:=fun x c e z=>by
 obtain ⟨v,o,ho,hd⟩:=I.cell x c e;obtain ⟨m,⟨o',es,ep,ho',hd',_⟩,_⟩:=I.loc;rw [z,ho'] at ho;cases ho;rw [hd'] at hd;cases hd
theorem Inv.funs (I:Inv X pins σ H s):s.heap.FunFrames X.base X.outer:=by
 have all:∀ (l:List Env),(∀ b∈frs l,b∈X.fs)→X.s₀.heap.FunFrames X.base l→s.heap.FunFrames X.base l:=by
   intro l;induction l with
   | nil=>intro _ _;trivial
   | cons env r ih =>
     intro hs hl;obtain ⟨hk,⟨L,o,hf,hn,ho,hd⟩,hr⟩:=hl;have hL:L∈X.fs:=hs L (by unfold frs;rw [List.filterMap_cons,hf];exact List.mem_cons_self);obtain ⟨sl,e⟩:=I.base.slot L o ho (I.ok.frf L hL) hL fun z=>I.ok.exfs L z hL
     exact ⟨hk,⟨L,_,hf,hn,e,hd⟩,ih (fun b hb=>hs b (by unfold frs;rw [List.filterMap_cons,hf];exact List.mem_cons_of_mem _ hb)) hr⟩
 exact all X.outer (fun _ hb=>hb) I.ok.funs
theorem Inv.stack (I:Inv X pins σ H s):s.heap.FunFrames X.base X.stack:=by
 rcases I.ok.stk with e | ⟨e,hf⟩
 · rw [e];exact I.funs
 · rw [e];obtain ⟨m,hn,_⟩:=I.loc;refine .cons (by rw [I.ok.kind];decide) hf hn ?_ I.funs;exact Heap.get?_none_of_le (Nat.le_trans I.ok.bsz I.ok.above)
theorem Inv.stkSub (I:Inv X pins σ H s):∀ b∈frs X.stack,b∈X.env.locals::X.fs:=fun b hb=>by
 rcases I.ok.stk with e | ⟨e,hf⟩
 · rw [e] at hb;exact List.mem_cons_of_mem _ hb
 · rw [e] at hb;unfold frs at hb;rw [List.filterMap_cons,hf] at hb;exact hb
theorem Inv.stkFree (I:Inv X pins σ H s):∀ b∈frs X.stack,H b=none:=fun b hb=>by
 rcases List.mem_cons.mp (I.stkSub b hb) with e | hb
 · rw [e];exact I.free
 · obtain ⟨_,o,ho,_⟩:=I.ok.funs.mem hb;exact I.base.free b o ho (I.ok.frf b hb) fun z=>I.ok.exfs b z hb
theorem Inv.step {g':Array GenState}{t':Nat}{d':Drawn}{ch:List Addr}(I:Inv X pins σ H s)
   (hch:∀ b∈ch,(b∈X.ex∨X.s₀.heap.objs.size≤b)∧b≠X.env.locals∧(∀ x c,X.env.cells.lookup x=some c→c≠b)∧∀ p∈X.pn++pins,p.1≠b)
   (keep:∀ b o,b≠X.env.locals→b∉X.fs→b∉ch→s.heap.get? b=some o→H b=none→h'.get? b=some o)
   (slot:∀ b o,b≠X.env.locals→b∈X.fs→b∉ch→s.heap.get? b=some o→H b=none→∃ sl,h'.get? b=some { o with slots:=sl }) (free:∀ b o,b∉ch→s.heap.get? b=some o→H b=none→H' b=none)
   (there:∀ b o,b∉ch→s.heap.get? b=some o→∃ o',h'.get? b=some o')
   (tups:∀ b xs,H b=some (.tup xs)→H' b=some (.tup xs)) (frzs:∀ b o u,H b=some (.frz o u)→H' b=some (.frz o u)) (tbls:∀ b ps,H b=some (.tbl ps)→∃ more,H' b=some (.tbl (ps++more)))
   (ns:∀ m,s.heap.Ns X.env.locals m→h'.Ns X.env.locals m) (hok:HOk X.prog X.w H' h') (hg:AllBare g') :
   Inv X pins σ H' { s with heap:=h',gens:=g',drawn:=d',toks:=t' }:=by
 have neL:∀ b o,X.s₀.heap.get? b=some o→b≠X.env.locals:=fun b o e=>Nat.ne_of_lt (Nat.lt_of_lt_of_le (Heap.lt_size e) I.ok.above)
 have neC:∀ b o,X.s₀.heap.get? b=some o→b∉X.ex→b∉ch:=fun b o e hx hb=>by
   rcases (hch b hb).1 with z | z
   · exact hx z
   · exact absurd (Nat.lt_of_lt_of_le (Heap.lt_size e) z) (Nat.lt_irrefl _)
 have cellK:∀ x c,X.env.cells.lookup x=some c→∀ v,s.heap.IsCell c v→h'.IsCell c v:=fun x c e v ⟨o,ho,hd⟩=>by
   have nch:c∉ch:=fun z=>(hch c z).2.2.1 x c e rfl
   by_cases hc:c∈X.fs
   · obtain ⟨sl,q⟩:=slot c o (I.cne x c e) hc nch ho (I.freeC x c e);exact ⟨_,q,hd⟩
   · exact ⟨o,keep c o (I.cne x c e) hc nch ho (I.freeC x c e),hd⟩
 refine ⟨I.ok,I.os,hg,⟨fun b o e n hb hx=>?_,fun b o e n hb hx=>?_,fun b o e n hx=>?_,fun b o e hx=>?_,fun b xs e=>tups b xs (I.base.tups b xs e),fun b o xs e=>frzs b o xs (I.base.frzs b o xs e),fun b ps e=>?_⟩,?_,fun x c e=>?_,?_,fun x c e=>?_,fun p hp=>?_,hok,I.len⟩
 · exact keep b o (neL b o e) hb (neC b o e hx) (I.base.keep b o e n hb hx) (I.base.free b o e n hx)
 · obtain ⟨sl,e1⟩:=I.base.slot b o e n hb hx;obtain ⟨sl',e2⟩:=slot b _ (neL b o e) hb (neC b o e hx) e1 (I.base.free b o e n hx);exact ⟨sl',e2⟩
 · obtain ⟨o',e1⟩:=I.base.there b o e hx;exact free b o' (neC b o e hx) e1 (I.base.free b o e n hx)
 · obtain ⟨o',e1⟩:=I.base.there b o e hx;exact there b o' (neC b o e hx) e1
 · obtain ⟨m1,e1⟩:=I.base.tbls b ps e;obtain ⟨m2,e2⟩:=tbls b _ e1;exact ⟨m1++m2,by rw [e2,Array.append_assoc]⟩
 · obtain ⟨m,hn,hl⟩:=I.loc;refine ⟨m,ns m hn,fun i x v e1 e2 e3=>?_⟩;obtain ⟨u,r,l⟩:=hl i x v e1 e2 e3;refine ⟨u,r,?_⟩;rcases l with l | ⟨k,c,e,z⟩
   · exact .inl l
   · exact .inr ⟨k,c,e,cellK x c e _ z⟩
 · obtain ⟨v,z⟩:=I.cell x c e;exact ⟨v,cellK x c e v z⟩
 · obtain ⟨m,⟨o,_,_,ho,_⟩,_⟩:=I.loc;exact free _ o (fun z=>(hch _ z).2.1 rfl) ho I.free
 · obtain ⟨v,o,ho,hd⟩:=I.cell x c e;exact free c o (fun z=>(hch c z).2.2.1 x c e rfl) ho (I.freeC x c e)
 · obtain ⟨e,n,ne,nf,d⟩:=I.pin p hp;have nch:p.1∉ch:=fun z=>(hch p.1 z).2.2.2 p hp rfl
   exact ⟨keep p.1 p.2 ne nf nch e n,free p.1 p.2 nch e n,ne,nf,d⟩
theorem Inv.un {t':Nat}(I:Inv X pins σ H s)(u:Un X.fs [] H H' s.heap h')(hok:HOk X.prog X.w H' h'):Inv X pins σ H' { s with heap:=h',toks:=t' }:=by
 obtain ⟨m,⟨o,es,ep,ho,r⟩,_⟩:=id I.loc;obtain ⟨sl,hL⟩:=u.any ho I.free (by simp);exact I.step (g':=s.gens) (d':=s.drawn) (ch:=[]) (fun _ z=>nomatch z) (fun b o _ hb _ e n=>u.keep b o e n hb (by simp)) (fun b o _ hb _ e n=>u.slot b o e n hb (by simp)) (fun b o _ e n=>u.free b o e n (by simp)) (fun b o _ e=>u.there b o e (by simp)) u.tups u.frzs u.tbls (fun m' hm=>by
   obtain ⟨o',es',ep',ho',r'⟩:=hm;rw [ho] at ho';cases ho';exact ⟨_,es',ep',hL,r'⟩) hok I.bare
theorem Inv.call {g':Array GenState}{t':Nat}{d':Drawn}{ch:List Addr}(I:Inv X pins σ H s)(u:Un (frs X.stack) ch H H' s.heap h')(hok:HOk X.prog X.w H' h')(hg:AllBare g')
   (hch:∀ b∈ch,(b∈X.ex∨X.s₀.heap.objs.size≤b)∧b≠X.env.locals∧(∀ x c,X.env.cells.lookup x=some c→c≠b)∧∀ p∈X.pn++pins,p.1≠b) :
   Inv X pins σ H' { s with heap:=h',gens:=g',drawn:=d',toks:=t' }:=by
 obtain ⟨m,⟨o,es,ep,ho,r⟩,_⟩:=id I.loc;obtain ⟨sl,hL⟩:=u.any ho I.free fun z=>(hch _ z).2.1 rfl
 exact I.step (ch:=ch) hch (fun b o hL hb hc e n=>u.keep b o e n (fun z=>(List.mem_cons.mp (I.stkSub b z)).elim hL hb) hc) (fun b o _ _ hc e n=>u.any e n hc) (fun b o hc e n=>u.free b o e n hc) (fun b o hc e=>u.there b o e hc) u.tups u.frzs u.tbls (fun m' hm=>by
   obtain ⟨o',es',ep',ho',r'⟩:=hm;rw [ho] at ho';cases ho';exact ⟨_,es',ep',hL,r'⟩) hok hg
theorem Inv.turned {t':Nat}{it:Addr}(I:Inv X pins σ H s)(k:∀ b o,b≠it→s.heap.get? b=some o→h'.get? b=some o)(hn:H it=none)(hL:it≠X.env.locals)
   (h1:it∈X.ex∨X.s₀.heap.objs.size≤it) (h2:∀ x c,X.env.cells.lookup x=some c→c≠it) (h3:∀ p∈X.pn++pins,p.1≠it):Inv X pins σ H { s with heap:=h',toks:=t' }:=by
 have nit:∀ b u,H b=some u→b≠it:=fun b u e z=>by rw [z,hn] at e;cases e
 refine I.step (g':=s.gens) (d':=s.drawn) (ch:=[it]) (fun b hb=>?_) (fun b o _ _ hc e _=>k b o (fun z=>hc (by simp [z])) e) (fun b o _ _ hc e _=>⟨o.slots,k b o (fun z=>hc (by simp [z])) e⟩) (fun _ _ _ _ n=>n)
   (fun b o hc e=>⟨o,k b o (fun z=>hc (by simp [z])) e⟩) (fun _ _ e=>e) (fun _ _ _ e=>e) (fun b ps e=>⟨#[],by rw [e];simp⟩) (fun m hm=>?_) (fun b u e=>?_) I.bare
 · have e:b=it:=by simpa using hb
   subst e;exact ⟨h1,hL,h2,h3⟩
 · obtain ⟨o,es,ep,ho,r⟩:=hm;exact ⟨o,es,ep,k _ o (Ne.symm hL) ho,r⟩
 · refine (I.hok b u e).stay (fun c v hc q=>k c v ?_ q) (fun _ q=>q) fun _ _ q=>q
   rcases hc with z | z
   · rw [z];exact nit b u e
   · exact nit c _ z
theorem Inv.tok (I:Inv X pins σ H s)(t:Nat):Inv X pins σ H { s with toks:=t }:=I.un (h':=s.heap) (t':=t) Un.refl I.hok
theorem Inv.kept {t':Nat}(I:Inv X pins σ H s)(k:∀ b u,s.heap.get? b=some u→h'.get? b=some u):Inv X pins σ H { s with heap:=h',toks:=t' }:=I.un (Un.kept k) (I.hok.kept k)
theorem Inv.laid {a:Addr}{o:HO}{t':Nat}(I:Inv X pins σ H s)(k:∀ b u,s.heap.get? b=some u→h'.get? b=some u)(hp:s.heap.objs.size≤a)(new:ObjOk X.prog X.w (upd H a o) h' a o) :
   Inv X pins σ (upd H a o) { s with heap:=h',toks:=t' }:=I.un (Un.laid k hp (I.hok.fresh hp)) (I.hok.laid k hp new)
theorem Inv.write {x e:Addr}{o:HO}{t':Nat}(I:Inv X pins σ H s)(mu:Mut (H x))(he:e=x∨H e=some (.own x))(k:∀ b u,b≠e→s.heap.get? b=some u→h'.get? b=some u)(heo:∃ u,h'.get? e=some u)
   (new:ObjOk X.prog X.w (upd H x o) h' x o):Inv X pins σ (upd H x o) { s with heap:=h',toks:=t' }:=I.un (Un.write mu he k heo) (I.hok.write mu he k heo new)
theorem Inv.weak {σ':List (Option V)}(I:Inv X pins σ H s)(hl:σ'.length=σ.length)(w:∀ (i:Nat) v,σ'[i]?=some (some v)→σ[i]?=some (some v)):Inv X pins σ' H s :=
 ⟨I.ok,I.os,I.bare,I.base,let ⟨m,hn,hl'⟩:=I.loc;⟨m,hn,fun i x v e1 e2 e3=>hl' i x v e1 (w i v e2) e3⟩,I.cell,I.free,I.freeC,I.pin,I.hok,hl.trans I.len⟩
theorem Inv.pins_of {pins':List (Addr × Obj)}(I:Inv X pins σ H s)(h:∀ p∈pins',s.heap.get? p.1=some p.2∧H p.1=none∧p.1≠X.env.locals∧p.1∉X.fs∧∀ v,p.2.data≠.cell v):Inv X pins' σ H s :=
 ⟨I.ok,I.os,I.bare,I.base,I.loc,I.cell,I.free,I.freeC,fun p hp=>(List.mem_append.mp hp).elim (fun z=>I.pin p (List.mem_append_left _ z)) (h p),I.hok,I.len⟩
theorem Zfh {N:List Str}(hN:N.Nodup){i j:Nat}{x:Str}(a:N[i]?=some x)(b:N[j]?=some x):i=j:=by obtain ⟨h1,e1⟩:=List.getElem?_eq_some_iff.mp a;obtain ⟨h2,e2⟩:=List.getElem?_eq_some_iff.mp b;exact (List.getElem_inj hN).mp (e1.trans e2.symm)
theorem ZgD {M:Model} {A:Around} {E:Value→Shared→Prop} {i:Nat} {x:Str} {v:V} {u:Value} {Q:Unit→Shared→Prop} (I:Inv X pins σ H s) (hN:X.N.Nodup) (hi:X.N[i]?=some x) (hx:Loc X.env.scope x) (r:RelV v u)
   (h:∀ s',Inv X pins (σ.set i (some v)) H s'→(∃ a,Heap.SameBut a s.heap s'.heap∧(a=X.env.locals∨X.env.cells.lookup x=some a))→Q () s') (hf:X.fn x=true∨X.env.scope.names.lookup x=some .local:=by first | exact .inl rfl | exact .inr rfl | assumption):wpAny M A (storeName X.env x u) Q E s:=by
 obtain ⟨m,hn,hl⟩:=id I.loc;have hcls:(X.env.scope.kind==.class||(X.env.scope.kind==.module&&X.env.locals != X.env.globals))=false:=by rw [I.ok.kind];rfl
 have hiσ:i<σ.length:=by rw [I.len];exact (List.getElem?_eq_some_iff.mp hi).1
 have cne:=I.cne;have tracked:∀ {a:Addr} {h':Heap},(∃ o,s.heap.get? a=some o∧H a=none)→Heap.SameBut a s.heap h'→HOk X.prog X.w H h':=fun {a h'} ha hs b ob e=>by
   obtain ⟨_,_,hfree⟩:=ha;refine (I.hok b ob e).stay (fun c w' hc q=>(hs.2 c ?_).trans q) (fun _ q=>q) fun _ _ q=>q
   rintro rfl;rcases hc with rfl | hc
   · rw [hfree] at e;cases e
   · rw [hfree] at hc;cases hc
 rcases hx with hk | hk
 · refine wpAny_storeName_local hk hn (fun h' hn' hs=>?_) hcls;obtain ⟨oL,_,_,hoL,_⟩:=id hn;refine h _ ⟨I.ok,I.os,I.bare,⟨fun b o e n hb hx=>?_,fun b o e n hb hx=>?_,I.base.free,fun b o e hx=>?_,I.base.tups,I.base.frzs,I.base.tbls⟩,⟨_,hn',fun j y v' e1 e2 e3=>?_⟩,fun y c e=>?_,I.free,I.freeC,fun p hp=>?_,tracked ⟨oL,hoL,I.free⟩ hs,by simpa using I.len⟩ ⟨_,hs,.inl rfl⟩
   · exact (hs.2 b (Nat.ne_of_lt (Nat.lt_of_lt_of_le (Heap.lt_size e) I.ok.above))).trans (I.base.keep b o e n hb hx)
   · obtain ⟨sl,e1⟩:=I.base.slot b o e n hb hx;exact ⟨sl,(hs.2 b (Nat.ne_of_lt (Nat.lt_of_lt_of_le (Heap.lt_size e) I.ok.above))).trans e1⟩
   · obtain ⟨o',e1⟩:=I.base.there b o e hx;exact ⟨o',(hs.2 b (Nat.ne_of_lt (Nat.lt_of_lt_of_le (Heap.lt_size e) I.ok.above))).trans e1⟩
   · by_cases hj:j=i
     · subst hj;rw [hi] at e1;cases e1;rw [List.getElem?_set_self hiσ] at e2;cases e2;exact ⟨u,r,.inl ⟨hk,by simp⟩⟩
     · rw [List.getElem?_set_ne (Ne.symm hj)] at e2;obtain ⟨u',r',q⟩:=hl j y v' e1 e2 e3;refine ⟨u',r',?_⟩;rcases q with ⟨k,e⟩ | ⟨k,c,e,z⟩
       · refine .inl ⟨k,?_⟩;have:y≠x:=fun e=>hj (Zfh hN e1 (e ▸ hi))
         simp [this,e]
       · exact .inr ⟨k,c,e,z.sameBut hs (cne y c e)⟩
   · obtain ⟨w',z⟩:=I.cell y c e;exact ⟨w',z.sameBut hs (cne y c e)⟩
   · obtain ⟨e,n,ne,nf,d⟩:=I.pin p hp;exact ⟨(hs.2 p.1 ne).trans e,n,ne,nf,d⟩
 · have hfn:X.fn x=true:=by
     rcases hf with z | z
     · exact z
     · rw [z] at hk;cases hk
   obtain ⟨c,hc⟩:=I.ok.has x (.inl hk);obtain ⟨w',z⟩:=I.cell x c hc;refine wpAny_storeName_cell I.ok.kind hk hc z (fun h' hc' hs=>?_);obtain ⟨oc,hoc,hocd⟩:=id z;refine h { s with heap:=h' } ⟨I.ok,I.os,I.bare,⟨fun b o e n hb hx=>?_,fun b o e n hb hx=>?_,I.base.free,fun b o e hx=>?_,I.base.tups,I.base.frzs,I.base.tbls⟩,⟨m,hn.sameBut hs (Ne.symm (cne x c hc)),fun j y v' e1 e2 e3=>?_⟩,fun y c' e=>?_,I.free,I.freeC,fun p hp=>?_,tracked ⟨oc,hoc,I.freeC x c hc⟩ hs,by simpa using I.len⟩ ⟨c,hs,.inr hc⟩
   · exact (hs.2 b (Nat.ne_of_lt (Nat.lt_of_lt_of_le (Heap.lt_size e) (I.ok.cab x c hfn hc)))).trans (I.base.keep b o e n hb hx)
   · obtain ⟨sl,e1⟩:=I.base.slot b o e n hb hx;exact ⟨sl,(hs.2 b (Nat.ne_of_lt (Nat.lt_of_lt_of_le (Heap.lt_size e) (I.ok.cab x c hfn hc)))).trans e1⟩
   · obtain ⟨o',e1⟩:=I.base.there b o e hx;exact ⟨o',(hs.2 b (Nat.ne_of_lt (Nat.lt_of_lt_of_le (Heap.lt_size e) (I.ok.cab x c hfn hc)))).trans e1⟩
   · by_cases hj:j=i
     · subst hj;rw [hi] at e1;cases e1;rw [List.getElem?_set_self hiσ] at e2;cases e2;exact ⟨u,r,.inr ⟨.inl hk,c,hc,hc'⟩⟩
     · rw [List.getElem?_set_ne (Ne.symm hj)] at e2;obtain ⟨u',r',q⟩:=hl j y v' e1 e2 e3;refine ⟨u',r',?_⟩;rcases q with q | ⟨k,c',e,z'⟩
       · exact .inl q
       · refine .inr ⟨k,c',e,z'.sameBut hs ?_⟩;rintro rfl;exact hj (Zfh hN e1 (I.ok.inj _ _ _ e hc ▸ hi))
   · by_cases hcc:c'=c
     · subst hcc;exact ⟨_,hc'⟩
     · obtain ⟨w2,z2⟩:=I.cell y c' e;exact ⟨w2,z2.sameBut hs hcc⟩
   · obtain ⟨e,n,ne,nf,d⟩:=I.pin p hp;refine ⟨(hs.2 p.1 ?_).trans e,n,ne,nf,d⟩;intro q;rw [q,hoc] at e;have q':oc=p.2:=Option.some.inj e;exact d w' (by rw [← q'];exact hocd)
theorem ZcH {M:Model}{A:Around}{E:Value→Shared→Prop}{i:Nat}{x:Str}{v:V}{u:Value}{Q:Unit→Shared→Prop}(I:Inv X pins σ H s)(hN:X.N.Nodup)(hi:X.N[i]?=some x)(hx:Loc X.env.scope x)(r:RelV v u)
   (h:∀ s',Inv X pins (σ.set i (some v)) H s'→Q () s') (hf:X.fn x=true∨X.env.scope.names.lookup x=some .local:=by first | exact .inl rfl | exact .inr rfl | assumption):wpAny M A (storeName X.env x u) Q E s :=
 ZgD I hN hi hx r (fun s' I' _=>h s' I') hf
theorem Inv.call' {s':Shared}{ch:List Addr}(I:Inv X pins σ H s)(ho:s'.os=s.os)(u:Un (frs X.stack) ch H H' s.heap s'.heap)(hok:HOk X.prog X.w H' s'.heap)(hg:AllBare s'.gens)
   (hch:∀ b∈ch,(b∈X.ex∨X.s₀.heap.objs.size≤b)∧b≠X.env.locals∧(∀ x c,X.env.cells.lookup x=some c→c≠b)∧∀ p∈X.pn++pins,p.1≠b):Inv X pins σ H' s':=by
 obtain ⟨h',g',d',t',o'⟩:=s';have e:o'=s.os:=ho;subst e;exact I.call (g':=g') (t':=t') (d':=d') u hok hg hch
end
abbrev XK:=Value→Option Addr→Hp→Prop
abbrev St:=List (Option V)
abbrev VK:=V→Hp→Prop
abbrev TE:=St→Hp→VK→Prop
abbrev TT:=St→Hp→(Bool→Hp→Prop)→Prop
abbrev TA:=St→Hp→(List V→Hp→Prop)→Prop
structure Ends where
 nx:St→Hp→Prop
 rt:VK
 bk:St→Hp→Prop:=fun _ _=>False
 ct:St→Hp→Prop:=fun _ _=>False
abbrev TS:=Ends→St→Hp→Prop
def EP (X:Cx)(pins:List (Addr × Obj))(σ:St)(Q:VK)(u:Value)(s':Shared):Prop:=∃ v H',Inv X pins σ H' s'∧RelV v u∧Q v H'
def TP (X:Cx)(pins:List (Addr × Obj))(σ:St)(Q:Bool→Hp→Prop)(b:Bool)(s':Shared):Prop:=∃ H',Inv X pins σ H' s'∧Q b H'
def AP (X:Cx)(pins:List (Addr × Obj))(σ:St)(Q:List V→Hp→Prop)(us:List Value)(s':Shared):Prop:=∃ vs H',Inv X pins σ H' s'∧Vals vs us∧Q vs H'
def SP (X:Cx)(pins:List (Addr × Obj))(D:Ends)(f:Flow)(s':Shared):Prop :=
 match f with
 | .next=>∃ σ' H',Inv X pins σ' H' s'∧D.nx σ' H'
 | .brk=>∃ σ' H',Inv X pins σ' H' s'∧D.bk σ' H'
 | .cont=>∃ σ' H',Inv X pins σ' H' s'∧D.ct σ' H'
 | .ret u=>∃ v σ' H',Inv X pins σ' H' s'∧RelV v u∧D.rt v H'
def PE (X:Cx)(e:Expr)(t:TE):Prop :=
 ∀ (pins:List (Addr × Obj)) (s:Shared) (σ:St) (H:Hp) (Q:VK),Inv X pins σ H s→t σ H Q→wpAny (model X.prog X.w) X.A (eval e X.env) (EP X pins σ Q) X.xe s
def PT (X:Cx)(e:Expr)(t:TT):Prop :=
 ∀ (pins:List (Addr × Obj)) (s:Shared) (σ:St) (H:Hp) (Q:Bool→Hp→Prop),Inv X pins σ H s→t σ H Q→wpAny (model X.prog X.w) X.A (isTrue e X.env (eval e X.env)) (TP X pins σ Q) X.xe s
def PW (X:Cx)(e:Expr)(t:TT):Prop :=
 ∀ (whole:Sem Value) (pins:List (Addr × Obj)) (s:Shared) (σ:St) (H:Hp) (Q:Bool→Hp→Prop),Inv X pins σ H s→t σ H Q→wpAny (model X.prog X.w) X.A (isTrue e X.env whole) (TP X pins σ Q) X.xe s
theorem PW.pt {X:Cx}{e:Expr}{t:TT}(h:PW X e t):PT X e t:=h _
def PA (X:Cx)(es:List Expr)(t:TA):Prop :=
 ∀ (pos:Pos) (pins:List (Addr × Obj)) (s:Shared) (σ:St) (H:Hp) (Q:List V→Hp→Prop),Inv X pins σ H s→t σ H Q→wpAny (model X.prog X.w) X.A (spliced (backTo pos (starEach es X.env))) (AP X pins σ Q) X.xe s
def PS (X:Cx)(st:Stmt)(t:TS):Prop :=
 ∀ (pins:List (Addr × Obj)) (s:Shared) (σ:St) (H:Hp) (D:Ends),Inv X pins σ H s→t D σ H→wpAny (model X.prog X.w) X.A (exec st X.env) (SP X pins D) X.xe s
def PSs (X:Cx)(st:List Stmt)(t:TS):Prop :=
 ∀ (pins:List (Addr × Obj)) (s:Shared) (σ:St) (H:Hp) (D:Ends),Inv X pins σ H s→t D σ H→wpAny (model X.prog X.w) X.A (execs st X.env) (SP X pins D) X.xe s
theorem thn {α:Type}{t:Sem α}{Q Q':α→Shared→Prop}{M:Model}{A:Around}{E:Value→Shared→Prop}{s:Shared}(h:wpAny M A t Q E s)(hQ:∀ a s,Q a s→Q' a s):wpAny M A t Q' E s:=wpAny_mono h hQ fun _ _ x=>x
section
variable {X:Cx}
def tVar (i:Nat):TE:=fun σ H Q=>∃ v,σ[i]?=some (some v)∧Q v H
def tC (v:V):TE:=fun _ H Q=>Q v H
theorem pe_var {i:Nat}{x:Str}{pos:Pos}(hN:X.N[i]?=some x)(hv:Vis X.env.scope x)(hd:(x==("__debug__":Str))=false:=by decide)(hcd:(x==("__classdict__":Str))=false:=by decide):PE X (.Name x pos) (tVar i):=by
 intro pins s σ H Q I h;obtain ⟨v,e,h⟩:=h;obtain ⟨m,hn,hl⟩:=I.loc;obtain ⟨u,r,l⟩:=hl i x v hN e hv;have fin:EP X pins σ Q u s:=⟨v,H,I,r,h⟩
 rcases l with ⟨hk,hm⟩ | ⟨hk,c,hc,hcell⟩
 · exact wpAny_Name (wpAny_loadName_local I.ok.kind hk hn hm fin) hd
 · rcases hk with hk | hk
   · exact wpAny_Name (wpAny_loadName_cell I.ok.kind hk hc hcell fin) hd
   · exact wpAny_Name (wpAny_loadName_free I.ok.kind hk hc hcell fin hcd) hd
theorem Zad {i j pos}:PE X (.Constant (.int i) j pos) (tC (.int i)):=fun _ _ _ H _ I h=>wpAny_Constant_int ⟨.int i,H,I.tok _,⟨_,rfl⟩,h⟩
theorem ZbO {b j pos}:PE X (.Constant (.bool b) j pos) (tC (.bl b)):=fun _ _ _ H _ I h=>Constant_bool ⟨.bl b,H,I,rfl,h⟩
theorem Zao {x j pos}:PE X (.Constant (.str x) j pos) (tC (.str x)):=fun _ _ _ H _ I h=>Calls.Constant_str ⟨.str x,H,I.tok _,⟨_,rfl⟩,h⟩
def Gl (X:Cx)(x:Str):Prop:=X.env.kindOf x=some .globalImplicit
theorem Zcc {E:Value→Shared→Prop}{pins:List (Addr × Obj)}{s:Shared}{σ:St}{H:Hp}{x:Str}{u:Value}{pos:Pos}{Q:Value→Shared→Prop}(I:Inv X pins σ H s)(hg:Gl X x)(hm:X.mg x=some u)(h:Q u s)
   (hd:(x==("__debug__":Str))=false:=by decide):wpAny (model X.prog X.w) X.A (eval (.Name x pos) X.env) Q E s :=
 Calls.Name_function_global I.ok.kind hg (Calls.loadGlobal_global (by rw [I.ok.glob];exact I.mod.glob.keeps I.bk) hm h) hd
theorem Zc2 {E:Value→Shared→Prop}{pins:List (Addr × Obj)}{s:Shared}{σ:St}{H:Hp}{x:Str}{u:Value}{pos:Pos}{Q:Value→Shared→Prop}(I:Inv X pins σ H s)(hg:Gl X x)(hm:X.mg x=none)(hv:bootBuiltins x=some u)(h:Q u s)
   (hn:x≠"__name__":=by decide) (hd:(x==("__debug__":Str))=false:=by decide):wpAny (model X.prog X.w) X.A (eval (.Name x pos) X.env) Q E s:=by
 obtain ⟨mb,h1,h2⟩:=I.mod.blt;exact Calls.Name_function_global I.ok.kind hg (Calls.loadGlobal_builtin (by rw [I.ok.glob];exact I.mod.glob.keeps I.bk) hm (by rw [I.ok.blt];exact h1.keeps I.bk) ((h2 x hn).trans hv) h) hd
theorem Zay {x:Str}{v:V}{u:Value}{pos:Pos}(hg:Gl X x)(hm:X.mg x=some u)(r:RelV v u)(hd:(x==("__debug__":Str))=false:=by decide):PE X (.Name x pos) (tC v) :=
 fun _ _ _ H _ I h=>Zcc I hg hm ⟨v,H,I,r,h⟩ hd
theorem pe_bltn {x:Str}{v:V}{u:Value}{pos:Pos}(hg:Gl X x)(hm:X.mg x=none)(hv:bootBuiltins x=some u)(r:RelV v u)(hn:x≠"__name__":=by decide)(hd:(x==("__debug__":Str))=false:=by decide):PE X (.Name x pos) (tC v) :=
 fun _ _ _ H _ I h=>Zc2 I hg hm hv ⟨v,H,I,r,h⟩ hn hd
variable {a b:Expr}{ta tb:TE}{pos:Pos}
def PC (X:Cx) (op:CmpOp) (a b:Expr) (t:TE):Prop :=
 ∀ (pins:List (Addr × Obj)) (s:Shared) (σ:St) (H:Hp) (Q:VK),Inv X pins σ H s→t σ H Q →
   wpAny (model X.prog X.w) X.A (eval a X.env) (fun v s₁=>wpAny (model X.prog X.w) X.A (eval b X.env) (fun u s₂=>wpAny (model X.prog X.w) X.A (compareOp op v u) (EP X pins σ Q) X.xe s₂) X.xe s₁) X.xe s
theorem nobehind (b:Expr){op:CmpOp}(h:op≠.In)(h2:op≠.NotIn):behindInMarks op b=false:=by
 have e1:(op==CmpOp.In)=false:=by cases op<;>first | rfl | exact absurd rfl h
 have e2:(op==CmpOp.NotIn)=false:=by cases op<;>first | rfl | exact absurd rfl h2
 cases b<;>simp [behindInMarks,e1,e2]
def tB (t:TE):TT:=fun σ H Q=>t σ H fun x H1=>∃ c,x=.bl c∧Q c H1
theorem pt_cmp {op:CmpOp}{t:TE}(h:PC X op a b t)(h1:behindInMarks op b=false:=by first | exact nobehind _ (by decide) (by decide) | rfl):PT X (.Compare a [op] [b] pos) (tB t):=by intro pins s σ H Q I hw;refine wpAny_isTrue_Compare1 (thn (h pins s σ H _ I hw) fun v s1 h1=>thn h1 fun u s2 h2=>thn h2 fun c s3 ⟨x,H1,I1,r1,q1⟩=>?_) h1;obtain ⟨d,rfl,q⟩:=q1;cases r1;exact wpAny_truthy_bool ⟨H1,I1,q⟩
theorem Zbk {e:Expr}{t:TE}(h:PE X e t)(he:∀ whole,isTrue e X.env whole=(do let v ← whole;standAt e.pos;holding [v] (truthy v)):=by intro _;rfl):PT X e (tB t):=by intro pins s σ H Q I hw;refine isTrue_plain (thn (h pins s σ H _ I hw) fun v s1 ⟨x,H1,I1,r1,q1⟩=>?_) (he _);obtain ⟨d,rfl,q⟩:=q1;cases r1;exact wpAny_truthy_bool ⟨H1,I1,q⟩
variable {tA tB':TT}{rest:List Expr}
def tAnd (t u:TT):TT:=fun σ H Q=>t σ H fun c H1=>if c=true then u σ H1 Q else Q false H1
def tOr (t u:TT):TT:=fun σ H Q=>t σ H fun c H1=>if c=true then Q true H1 else u σ H1 Q
def tNot (t:TT):TT:=fun σ H Q=>t σ H fun c H1=>Q (!c) H1
theorem ZfU (ha:PT X a tA):PW X (.BoolOp .And [a] pos) tA:=by
 intro wh pins s σ H Q I h;refine isTrue_and (thn (ha pins s σ H Q I h) fun c s1 e=>?_);cases c with
 | true=>exact isTrue_and_nil e
 | false=>exact e
theorem Zcv (ha:PT X a tA):PW X (.BoolOp .Or [a] pos) tA:=by
 intro wh pins s σ H Q I h;refine isTrue_or (thn (ha pins s σ H Q I h) fun c s1 e=>?_);cases c with
 | false=>exact isTrue_or_nil e
 | true=>exact e
theorem pw_and (ha:PT X a tA)(hb:PW X (.BoolOp .And (b::rest) pos) tB'):PW X (.BoolOp .And (a::b::rest) pos) (tAnd tA tB'):=by
 intro wh pins s σ H Q I h;refine isTrue_and (thn (ha pins s σ H _ I h) fun c s1 ⟨H1,I1,q1⟩=>?_);cases c with
 | true=>exact hb wh pins s1 σ H1 Q I1 q1
 | false=>exact ⟨H1,I1,q1⟩
theorem Zcp (ha:PT X a tA)(hb:PW X (.BoolOp .Or (b::rest) pos) tB'):PW X (.BoolOp .Or (a::b::rest) pos) (tOr tA tB'):=by
 intro wh pins s σ H Q I h;refine isTrue_or (thn (ha pins s σ H _ I h) fun c s1 ⟨H1,I1,q1⟩=>?_);cases c with
 | true=>exact ⟨H1,I1,q1⟩
 | false=>exact hb wh pins s1 σ H1 Q I1 q1
theorem ZfA (ha:PT X a tA):PT X (.UnaryOp .Not a pos) (tNot tA):=by intro pins s σ H Q I h;exact isTrue_not (ha pins s σ H (fun c H1=>Q (!c) H1) I h)
def tAndV (ta tb:TE):TE:=fun σ H Q=>ta σ H fun x H1=>∃ c,x=.bl c∧if c=true then tb σ H1 Q else Q (.bl false) H1
def tOrV (ta tb:TE):TE:=fun σ H Q=>ta σ H fun x H1=>∃ c,x=.bl c∧if c=true then Q (.bl true) H1 else tb σ H1 Q
def tNotV (ta:TE):TE:=fun σ H Q=>ta σ H fun x H1=>∃ c,x=.bl c∧Q (.bl (!c)) H1
theorem ZaI {op}{t:TE}(h:PE X a t):PE X (.BoolOp op [a] pos) t:=fun pins s σ H Q I hw=>BoolOp_one (h pins s σ H Q I hw)
theorem ZaR (ha:PE X a ta)(hb:PE X (.BoolOp .And (b::rest) pos) tb):PE X (.BoolOp .And (a::b::rest) pos) (tAndV ta tb):=by
 intro pins s σ H Q I h;refine BoolOp_and (thn (ha pins s σ H _ I h) fun v s1 ⟨x,H1,I1,r1,q1⟩=>?_);obtain ⟨c,rfl,q1⟩:=q1;cases r1;refine wpAny_truthy_bool ?_;cases c with
 | true=>exact hb pins s1 σ H1 Q I1 q1
 | false=>exact ⟨.bl false,H1,I1,rfl,q1⟩
theorem Zco (ha:PE X a ta)(hb:PE X (.BoolOp .Or (b::rest) pos) tb):PE X (.BoolOp .Or (a::b::rest) pos) (tOrV ta tb):=by
 intro pins s σ H Q I h;refine BoolOp_or (thn (ha pins s σ H _ I h) fun v s1 ⟨x,H1,I1,r1,q1⟩=>?_);obtain ⟨c,rfl,q1⟩:=q1;cases r1;refine wpAny_truthy_bool ?_;cases c with
 | false=>exact hb pins s1 σ H1 Q I1 q1
 | true=>exact ⟨.bl true,H1,I1,rfl,q1⟩
theorem Zex (ha:PE X a ta):PE X (.UnaryOp .Not a pos) (tNotV ta):=by intro pins s σ H Q I h;refine UnaryOp_ (thn (ha pins s σ H _ I h) fun v s1 ⟨x,H1,I1,r1,q1⟩=>?_);obtain ⟨c,rfl,q1⟩:=q1;cases r1;exact not_of (wpAny_truthy_bool ⟨.bl (!c),H1,I1,rfl,q1⟩)
def tIf (t:TT)(ta tb:TE):TE:=fun σ H Q=>t σ H fun c H1=>if c=true then ta σ H1 Q else tb σ H1 Q
theorem pe_ifExp {c:Expr}(hc:PT X c tA)(ha:PE X a ta)(hb:PE X b tb):PE X (.IfExp c a b pos) (tIf tA ta tb):=by
 intro pins s σ H Q I h;refine wpAny_IfExp (thn (hc pins s σ H _ I h) fun d s1 ⟨H1,I1,q1⟩=>?_);cases d with
 | true=>exact ha pins s1 σ H1 Q I1 q1
 | false=>exact hb pins s1 σ H1 Q I1 q1
end
def SqL (K:PySem.W.Frag) (H:Hp) (a:Addr) (xs:List V):Prop :=
 Rd H a (.lst xs) ∨
   ∃ (o:Obj) (its:Array Value) (n:Nat),K.lookup a=some o∧o.cls=.type "list"∧o.dict=none∧o.data=.seq its n∧its.size≤sizeLine∧Vals xs its.toList
def SqT (K:PySem.W.Frag) (H:Hp) (a:Addr) (xs:List V):Prop :=
 Rd H a (.tup xs) ∨
   ∃ (o:Obj) (its:Array Value) (n:Nat),K.lookup a=some o∧o.cls=.type "tuple"∧o.data=.seq its n∧its.size≤sizeLine∧Vals xs its.toList
def absV:Value→Option V
 | .none=>some .non
 | .bool b=>some (.bl b)
 | .int i _=>some (.int i)
 | .str x _=>some (.str x)
 | .bytes b _=>some (.byt b)
 | .float b _=>some (.flt b)
 | .ref a=>some (.ref a)
 | .type n=>some (.ty n)
 | _=>none
theorem RelV.abs {x:V}{u:Value}(r:RelV x u):absV u=some x:=by
 cases x with
 | non=>cases r;rfl
 | bl _=>cases r;rfl
 | int _=>obtain ⟨t,rfl⟩:=r;rfl
 | str _=>obtain ⟨t,rfl⟩:=r;rfl
 | byt _=>obtain ⟨t,rfl⟩:=r;rfl
 | flt _=>obtain ⟨t,rfl⟩:=r;rfl
 | ref _=>cases r;rfl
 | ty _=>cases r;rfl
theorem RelV.inj {x y:V}{u:Value}(r:RelV x u)(q:RelV y u):x=y:=Option.some.inj (r.abs.symm.trans q.abs)
theorem Vals.inj:∀ {xs ys:List V} {us:List Value},Vals xs us→Vals ys us→xs=ys
 | _,_,_,.nil,.nil=>rfl
 | _,_,_,.cons r t,.cons r' t'=>by rw [r.inj r',Vals.inj t t']
section
variable {X:Cx}{pins:List (Addr × Obj)}{σ:St}{H:Hp}{s:Shared}{a:Addr}{xs ys:List V}
theorem SqL.of {K:PySem.W.Frag}(h:H a=some (.lst xs)):SqL K H a xs:=.inl (.inl h)
theorem Inv.list (I:Inv X pins σ H s)(h:SqL X.K H a xs):∃ its:List Value,Vals xs its∧PlainL s.heap a its.toArray∧xs.length≤sizeLine:=by
 rcases h with h | ⟨o,its,n,hk,hc,hd,hs,hz,r⟩
 · obtain ⟨z,its,n,r,e⟩:=h.ok I.hok;exact ⟨its,r,⟨_,n,e,rfl,rfl,rfl⟩,z⟩
 · refine ⟨its.toList,r,⟨o,n,I.kIn a o hk,hc,hd,by simpa using hs⟩,?_⟩;have e:=r.length;simp only [Array.length_toList] at e;omega
theorem Inv.tuple (I:Inv X pins σ H s)(h:SqT X.K H a xs):∃ its:List Value,Vals xs its∧IsTup s.heap a its.toArray∧xs.length≤sizeLine:=by
 rcases h with h | ⟨o,its,n,hk,hc,hs,hz,r⟩
 · obtain ⟨z,its,r,p⟩:=h.ok I.hok;exact ⟨its,r,p,z⟩
 · refine ⟨its.toList,r,⟨o,I.kIn a o hk,hc,n,by simpa using hs⟩,?_⟩;have e:=r.length;simp only [Array.length_toList] at e;omega
theorem Inv.list_inj (I:Inv X pins σ H s)(h:SqL X.K H a xs)(h':SqL X.K H a ys):xs=ys:=by
 obtain ⟨its,r,⟨o,n,e,_,_,d⟩,_⟩:=I.list h;obtain ⟨its',r',⟨o',n',e',_,_,d'⟩,_⟩:=I.list h';rw [e] at e';cases e';rw [d] at d';injection d' with d1 _
 have:its=its':=by simpa using congrArg Array.toList d1
 subst this;exact r.inj r'
end
abbrev Cx.wish (X:Cx)(E:Value→Shared→Prop):Cx:={ X with xe:=E }
abbrev Cx.nox (X:Cx):Cx:=X.wish fun _ _=>False
theorem Cx.Ok.wish {X:Cx}(ok:X.Ok)(E:Value→Shared→Prop):(X.wish E).Ok :=
 ⟨ok.mod,ok.kind,ok.glob,ok.blt,ok.above,ok.inj,ok.has,ok.cab,ok.hd,ok.frames,ok.stk,ok.exf,ok.bs,ok.bsz,ok.noex,ok.exfs,ok.funs,ok.frf⟩
theorem Cx.Ok.unwish {X:Cx}{E:Value→Shared→Prop}(ok:(X.wish E).Ok):X.Ok :=
 ⟨ok.mod,ok.kind,ok.glob,ok.blt,ok.above,ok.inj,ok.has,ok.cab,ok.hd,ok.frames,ok.stk,ok.exf,ok.bs,ok.bsz,ok.noex,ok.exfs,ok.funs,ok.frf⟩
section
variable {X:Cx}{pins:List (Addr × Obj)}{σ:St}{H:Hp}{s:Shared}{E:Value→Shared→Prop}
theorem Inv.wish (I:Inv X pins σ H s)(E:Value→Shared→Prop):Inv (X.wish E) pins σ H s:=⟨I.ok.wish E,I.os,I.bare,I.base,I.loc,I.cell,I.free,I.freeC,I.pin,I.hok,I.len⟩
theorem Inv.unwish (I:Inv (X.wish E) pins σ H s):Inv X pins σ H s:=⟨I.ok.unwish,I.os,I.bare,I.base,I.loc,I.cell,I.free,I.freeC,I.pin,I.hok,I.len⟩
theorem SP.unwish {D:Ends}{f:Flow}{s':Shared}(h:SP (X.wish E) pins D f s'):SP X pins D f s':=by
 cases f with
 | next=>obtain ⟨σ',H',I,q⟩:=h;exact ⟨σ',H',I.unwish,q⟩
 | brk=>obtain ⟨σ',H',I,q⟩:=h;exact ⟨σ',H',I.unwish,q⟩
 | cont=>obtain ⟨σ',H',I,q⟩:=h;exact ⟨σ',H',I.unwish,q⟩
 | ret u=>obtain ⟨v,σ',H',I,r,q⟩:=h;exact ⟨v,σ',H',I.unwish,r,q⟩
theorem PSs.nox {st:List Stmt}{t:TS}(h:PSs X.nox st t):PSs X st t:=fun pins s σ H D I hw =>
 wpAny_mono (h pins s σ H D (I.wish _) hw) (fun _ _ q=>q.unwish) fun _ _ z=>False.elim z
end
section
variable {X:Cx}{st:Stmt}{rest:List Stmt}{t u:TS}{e:Expr}{te:TE}{pos:Pos}
def tNext:TS:=fun D σ H=>D.nx σ H
def tSeq (t u:TS):TS:=fun D σ H=>t { D with nx:=u D } σ H
theorem Zas:PSs X [] tNext:=fun _ _ σ H _ I h=>wpAny_execs_nil ⟨σ,H,I,h⟩
theorem Zae (h1:PS X st t)(h2:PSs X rest u):PSs X (st::rest) (tSeq t u):=by
 intro pins s σ H D I h;refine wpAny_execs_cons (thn (h1 pins s σ H { D with nx:=u D } I h) fun f s1 q=>?_);cases f with
 | next =>
   obtain ⟨σ',H',I',q⟩:=q;exact h2 pins s1 σ' H' D I' q
 | ret v=>exact q
 | brk=>exact q
 | cont=>exact q
theorem Zaf (h1:PS X st t):PSs X [st] t:=by
 intro pins s σ H D I h;refine wpAny_execs_cons (thn (h1 pins s σ H D I h) fun f s1 q=>?_);cases f with
 | next=>exact wpAny_execs_nil q
 | ret v=>exact q
 | brk=>exact q
 | cont=>exact q
theorem Inv.quiet {pins:List (Addr × Obj)}{σ:St}{H:Hp}{s:Shared}(I:Inv X pins σ H s):interactive X.env=false:=by simp [interactive,I.ok.kind]
def tDrop (te:TE):TS:=fun D σ H=>te σ H fun _ H1=>D.nx σ H1
theorem Za8 (he:PE X e te)(hs:swapsWith e none pos.line X.env=pure false:=by rfl):PS X (.Expr e pos) (tDrop te):=by intro pins s σ H D I h;exact wpAny_Expr_any (thn (he pins s σ H _ I h) fun v s1 ⟨x,H1,I1,r1,q1⟩=>⟨σ,H1,I1,q1⟩) I.quiet hs
def tRet (te:TE):TS:=fun D σ H=>te σ H D.rt
theorem Zam (he:PE X e te):PS X (.Return (some e) pos) (tRet te):=by intro pins s σ H D I h;exact wpAny_Return_some (thn (he pins s σ H _ I h) fun v s1 ⟨x,H1,I1,r1,q1⟩=>⟨x,σ,H1,I1,r1,q1⟩)
def tIfS (c:TT)(t u:TS):TS:=fun D σ H=>c σ H fun b H1=>if b=true then t D σ H1 else u D σ H1
theorem ZaD {c:Expr}{a b:List Stmt}{tc:TT}(hc:PT X c tc)(ha:PSs X a t)(hb:PSs X b u):PS X (.If c a b pos) (tIfS tc t u):=by
 intro pins s σ H D I h;refine wpAny_If (thn (hc pins s σ H _ I h) fun d s1 ⟨H1,I1,q1⟩=>?_);cases d with
 | true=>exact ha pins s1 σ H1 D I1 q1
 | false=>exact hb pins s1 σ H1 D I1 q1
def tNever:TS:=fun _ _ _=>False
theorem ps_never:PS X st tNever:=fun _ _ _ _ _ _ h=>h.elim
end
abbrev TG:=V→St→Hp→(St→Hp→Prop)→Prop
abbrev TGs:=List V→St→Hp→(St→Hp→Prop)→Prop
def PG (X:Cx) (target:Expr) (t:TG):Prop :=
 ∀ (pins:List (Addr × Obj)) (s:Shared) (σ:St) (H:Hp) (v:V) (u:Value) (Q:St→Hp→Prop),Inv X pins σ H s→RelV v u→t v σ H Q →
   wpAny (model X.prog X.w) X.A (assign target X.env u) (fun _ s'=>∃ σ' H',Inv X pins σ' H' s'∧Q σ' H') X.xe s
def PGs (X:Cx) (ts:List Expr) (t:TGs):Prop :=
 ∀ (pins:List (Addr × Obj)) (s:Shared) (σ:St) (H:Hp) (vs:List V) (us:List Value) (Q:St→Hp→Prop),Inv X pins σ H s→Vals vs us→t vs σ H Q →
   wpAny (model X.prog X.w) X.A (assignInOrder ((assignEach ts X.env).map (·.2)) us) (fun _ s'=>∃ σ' H',Inv X pins σ' H' s'∧Q σ' H') X.xe s
section
variable {X:Cx}{pos:Pos}
def gName (i:Nat):TG:=fun v σ H Q=>Q (σ.set i (some v)) H
theorem Zav {i:Nat}{x:Str}(hN:X.N.Nodup)(hi:X.N[i]?=some x)(hx:Loc X.env.scope x)(hf:X.fn x=true∨X.env.scope.names.lookup x=some .local:=by first | exact .inl rfl | exact .inr rfl | assumption):PG X (.Name x pos) (gName i):=by intro pins s σ H v u Q I r h;exact wpAny_assign_Name (ZcH I hN hi hx r (fun s' I'=>⟨_,H,I',h⟩) hf)
def gNil:TGs:=fun vs σ H Q=>vs=[]∧Q σ H
def gCons (t:TG)(u:TGs):TGs:=fun vs σ H Q=>∃ v r,vs=v::r∧t v σ H fun σ' H'=>u r σ' H' Q
theorem ZeF:PGs X [] gNil:=by intro pins s σ H vs us Q I r h;obtain ⟨e,h⟩:=h;subst e;cases r;exact assignInOrder_nil ⟨σ,H,I,h⟩
theorem ZbS {e:Expr}{es:List Expr}{t:TG}{u:TGs}(h1:PG X e t)(h2:PGs X es u)
   (hs:(assignEach (e::es) X.env).map (·.2)=assign e X.env::(assignEach es X.env).map (·.2):=by rfl):PGs X (e::es) (gCons t u):=by
 intro pins s σ H vs us Q I r h;obtain ⟨v,vr,e1,h⟩:=h;subst e1;cases r with
 | cons r rr =>
   rw [hs];refine assignInOrder_cons (thn (h1 pins s σ H _ _ _ I r h) fun _ s1 ⟨σ1,H1,I1,q1⟩=>?_);exact h2 pins s1 σ1 H1 _ _ Q I1 rr q1
def gTup (K:PySem.W.Frag)(n:Nat)(t:TGs):TG:=fun v σ H Q=>∃ a xs,v=.ref a∧SqT K H a xs∧xs.length=n∧t xs σ H Q
theorem pg_tup {es:List Expr}{k:Nat}{t:TGs}{n:Nat}(hc:X.calm=true)(h:PGs X es t)
   (hn:(assignEach es X.env).length=n:=by rfl) (hst:(assignEach es X.env).findIdx? (·.1)=none:=by rfl):PG X (.Tuple es k pos) (gTup X.K n t):=by
 intro pins s σ H v u Q I r hw;obtain ⟨a,xs,e1,hq,hl,hw⟩:=hw;subst e1;cases r;obtain ⟨its,rv,ht,hz⟩:=I.tuple hq;refine assign_Tuple_tuple (I.ok.hd hc) ht (by simp [hn,← hl,rv.length]) hst fun h' hx=>?_
 have I1:Inv X pins σ H { s with heap:=h' }:=I.kept (t':=s.toks) fun b o e=>hx b o (Nat.ne_of_lt (Heap.lt_size e)) e
 exact h pins _ σ H xs _ Q I1 (by simpa using rv) hw
def tAsg (te:TE)(g:TG):TS:=fun D σ H=>te σ H fun x H1=>g x σ H1 D.nx
theorem ps_asg {tg e:Expr}{te:TE}{g:TG}(he:PE X e te)(hg:PG X tg g)(hs:swapsWithSole [tg] e pos.line X.env=pure false:=by rfl)(hw:swappedStores [tg] e X.env=pure none:=by rfl)
   (h1:(assignEach [tg] X.env).map (·.2)=[assign tg X.env]:=by rfl):PS X (.Assign [tg] e pos) (tAsg te g):=by
 intro pins s σ H D I h;refine wpAny_Assign_stores (thn (he pins s σ H _ I h) fun v s1 ⟨x,H1,I1,r1,q1⟩=>?_) hs hw;rw [h1];exact thn (hg pins s1 σ H1 x v _ I1 r1 q1) fun _ s2 q=>q
theorem Zaq {i:Nat}{x:Str}{e:Expr}{te:TE}{pos':Pos}(hN:X.N.Nodup)(hi:X.N[i]?=some x)(hx:Loc X.env.scope x)(he:PE X e te)(hs:swapsWith e (some (.Name x pos')) pos.line X.env=pure false:=by rfl)(hf:X.fn x=true∨X.env.scope.names.lookup x=some .local:=by first | exact .inl rfl | exact .inr rfl | assumption) :
   PS X (.Assign [.Name x pos'] e pos) (tAsg te (gName i)):=by
 intro pins s σ H D I h;refine wpAny_Assign_Name (thn (he pins s σ H _ I h) fun v s1 ⟨y,H1,I1,r1,q1⟩=>?_) hs;exact ZcH I1 hN hi hx r1 (fun s2 I2=>⟨_,H1,I2,q1⟩) hf
def tPar (i j:Nat)(ta:TA):TS:=fun D σ H=>ta σ H fun vs H1=>∃ v w,vs=[v,w]∧D.nx ((σ.set i (some v)).set j (some w)) H1
theorem ps_par {i j:Nat} {x y:Str} {a b:Expr} {ta:TA} {px py pt:Pos} {kt k2 pt2} (hc:X.calm=true) (hN:X.N.Nodup) (hi:X.N[i]?=some x) (hj:X.N[j]?=some y) (hij:i≠j)
   (hx:X.env.scope.names.lookup x=some .local) (hy:X.env.scope.names.lookup y=some .local) (ha:PA X [a,b] ta)
   (hw:swappedStores [.Tuple [.Name x px,.Name y py] kt pt] (.Tuple [a,b] k2 pt2) X.env=pure (some [x,y]))
   (hs:swapsWithSole [.Tuple [.Name x px,.Name y py] kt pt] (.Tuple [a,b] k2 pt2) pos.line X.env=pure false:=by rfl) :
   PS X (.Assign [.Tuple [.Name x px,.Name y py] kt pt] (.Tuple [a,b] k2 pt2) pos) (tPar i j ta):=by
 intro pins s σ H D I h;rw [exec_Assign_arm];refine wpAny_bind (wpAny_standAt ?_);rw [hs];refine wpAny_bind (wpAny_pure ?_);rw [if_neg (by decide)];refine wpAny_bind (Tuple_ (thn (ha _ pins s σ H _ I h) fun us s1 ⟨vs,H1,I1,r1,q1⟩=>?_));obtain ⟨v,w,e1,q1⟩:=q1;subst e1;obtain ⟨u1,u2,rfl,rv,rw'⟩:∃ u1 u2,us=[u1,u2]∧RelV v u1∧RelV w u2:=by
   cases r1 with
   | cons p q =>
     cases q with
     | cons p' q' =>
       cases q';exact ⟨_,_,rfl,p,p'⟩
 refine wpAny_newObj_type ?_ (by show 2≤sizeLine;decide);have I2:Inv X pins σ H1 { s1 with heap:=s1.heap.push { cls:=.type "tuple",data:=.seq [u1,u2].toArray } }:=I1.kept (t':=s1.toks) fun b o e=>Heap.get?_push_of_some _ e
 rw [hw];refine wpAny_bind (wpAny_pure ?_);show wpAny (model X.prog X.w) X.A (do rule "assign.swapped-stores";let items ← unpackItems (.ref s1.heap.objs.size) 2 none;assignInOrder [fun v=>bindName X.env y v,fun v=>bindName X.env x v] items.reverse;pure Flow.next) _ _ _;refine wpAny_bind (wpAny_rule (wpAny_bind (unpackItems_tuple (items:=#[u1,u2]) (I.ok.hd hc) (IsTup.new s1.heap _) fun h' hx'=>?_)));have I3:=I2.kept (h':=h') (t':=s1.toks) fun b o e=>hx' b o (Nat.ne_of_lt (Heap.lt_size e)) e
 show wpAny _ _ (assignInOrder [fun v=>bindName X.env y v,fun v=>bindName X.env x v] [u2,u1] >>= fun _=>pure Flow.next) _ _ _;refine wpAny_bind (assignInOrder_cons (wpAny_bindName (ZcH I3 hN hj (.inl hy) rw' (fun s2 I4=>?_) (.inr hy))));refine assignInOrder_cons (wpAny_bindName (ZcH I4 hN hi (.inl hx) rv (fun s3 I5=>assignInOrder_nil (wpAny_pure ?_)) (.inr hx)));rw [List.set_comm _ _ (Ne.symm hij)] at I5;exact ⟨_,H1,I5,q1⟩
end
section
variable {X:Cx}{pos:Pos}
end
structure It where
 go:Nat→Hp→Prop
 yld:Nat→Hp→V→Hp→Prop
 stop:Nat→Hp→Prop
def FpOk (X:Cx)(pins:List (Addr × Obj))(H:Hp)(b:Addr):Prop :=
 H b=none∧b≠X.env.locals∧b∉X.fs∧(b∈X.ex∨X.s₀.heap.objs.size≤b)∧(∀ x c,X.env.cells.lookup x=some c→c≠b)∧∀ p∈X.pn++pins,p.1≠b
theorem Inv.fpOk {X:Cx}{pins:List (Addr × Obj)}{σ:St}{H H':Hp}{s:Shared}{b:Addr}(I:Inv X pins σ H s)(hb:s.heap.objs.size≤b)(hn:H' b=none):FpOk X pins H' b:=by
 refine ⟨hn,Nat.ne_of_gt (Nat.lt_of_lt_of_le I.lt hb),I.nofs hb,.inr (Nat.le_trans I.sz hb),fun x c e z=>?_,fun p hp z=>?_⟩
 · obtain ⟨v,q⟩:=I.cell x c e;exact absurd (Nat.lt_of_lt_of_le q.lt (by rw [z];exact hb)) (Nat.lt_irrefl _)
 · exact absurd (Nat.lt_of_lt_of_le (Heap.lt_size (I.pin p hp).1) (by rw [z];exact hb)) (Nat.lt_irrefl _)
structure Turn (P:Program)(w:World)(K:PySem.W.Frag)(tg:Expr)(J:It)(fp:List Addr)(it:Addr)(tn:Nat→Heap→Prop):Prop where
 mem:it∈fp
 obj:∀ i h,tn i h→∀ b∈fp,∃ o,h.get? b=some o∧∀ v,o.data≠.cell v
 keep:∀ i h h',tn i h→(∀ b∈fp,∀ o,h.get? b=some o→h'.get? b=some o)→tn i h'
 item:∀ (X:Cx),X.prog=P→X.w=w→X.K=K→X.calm=true→∀ (i:Nat) (pins:List (Addr × Obj)) (s:Shared) (σ:St) (H:Hp) (E:Value→Shared→Prop),Inv X pins σ H s→(∀ b∈fp,FpOk X pins H b)→tn i s.heap→J.go i H →
   wpAny (model P w) X.A (pyNext (.ref it)) (fun r s1=>∃ u,r=some u ∧
     wpAny (model P w) X.A (letOwnedTupleGo tg (.ref it) u) (fun _ s2=>∃ x H',Inv X pins σ H' s2∧RelV x u∧J.yld i H x H'∧tn (i+1) s2.heap∧∀ b∈fp,H' b=none) E s1) E s
 done:∀ (X:Cx),X.prog=P→X.w=w→X.K=K→X.calm=true→∀ (i:Nat) (pins:List (Addr × Obj)) (s:Shared) (σ:St) (H:Hp) (E:Value→Shared→Prop),Inv X pins σ H s→(∀ b∈fp,FpOk X pins H b)→tn i s.heap→J.stop i H →
   wpAny (model P w) X.A (pyNext (.ref it)) (fun r s1=>r=none∧Inv X pins σ H s1) E s
 self:∀ (A:Around) (i:Nat) (s:Shared) (Q:Value→Shared→Prop) (E:Value→Shared→Prop),tn i s.heap→Q (.ref it) s→wpAny (model P w) A (pyIter (.ref it)) Q E s
abbrev TI:=St→Hp→(It→Hp→Prop)→Prop
def PIE (X:Cx)(pins:List (Addr × Obj))(σ:St)(tg:Expr)(R:It→Hp→Prop)(itv:Value)(s2:Shared):Prop :=
 ∃ (it:Addr) (fp:List Addr) (tn:Nat→Heap→Prop) (J:It) (H':Hp),itv=.ref it∧Inv X pins σ H' s2∧Turn X.prog X.w X.K tg J fp it tn∧tn 0 s2.heap∧(∀ b∈fp,FpOk X pins H' b)∧R J H'
def PI (X:Cx) (tg iter:Expr) (wi:TI):Prop :=
 ∀ (pins:List (Addr × Obj)) (s:Shared) (σ:St) (H:Hp) (R:It→Hp→Prop),Inv X pins σ H s→wi σ H R →
   wpAny (model X.prog X.w) X.A (eval iter X.env) (fun v s1=>wpAny (model X.prog X.w) X.A (pyIter v) (PIE X pins σ tg R) X.xe s1) X.xe s
theorem go_of {M:Model} {A:Around} {E:Value→Shared→Prop} {s:Shared} {tg:Expr} {it:Addr} {u:Value} {o:Obj} {n:String} {vs:Array Value} {Q:Unit→Shared→Prop} (ho:s.heap.get? it=some o) (hc:o.cls=.type n) (hd:o.data=.fields vs)
   (hn:["enumerate","zip","dict_itemiterator","dict_reverseitemiterator","odict_iterator","itertools.zip_longest","itertools.pairwise"].contains n=false) (hQ:Q () s):wpAny M A (letOwnedTupleGo tg (.ref it) u) Q E s:=by
 unfold letOwnedTupleGo
 cases tg <;> first
   | exact wpAny_pure hQ
   | (cases u<;>first
       | exact wpAny_pure hQ
       | (refine wpAny_bind (wpAny_load ho ?_)
          rw [hc,hd];show wpAny M A (if (["enumerate","zip","dict_itemiterator","dict_reverseitemiterator","odict_iterator","itertools.zip_longest","itertools.pairwise"].contains n&&vs[0]?==some (rawInt _))=true then _ else _) Q E s;rw [if_neg (by intro h;rw [hn,Bool.false_and] at h;cases h)];exact wpAny_pure hQ))
def Itl (K:PySem.W.Frag)(a:Addr):It :=
 ⟨fun i H=>∃ xs x,SqL K H a xs∧xs[i]?=some x,fun i H x H'=>H'=H∧∀ xs,SqL K H a xs→xs[i]?=some x,fun i H=>∃ xs,SqL K H a xs∧xs.length≤i⟩
def Itr (lo:Int)(n:Nat):It:=⟨fun i _=>i<n,fun i H x H'=>H'=H∧x=.int (lo+i),fun i _=>n≤i⟩
theorem ZgU {P:Program}{w:World}{K:PySem.W.Frag}{tg:Expr}(a it:Addr):Turn P w K tg (Itl K a) [it] it (fun i h=>h.IsListIter it a i) where
 mem:=by simp
 obj:=fun i h st b hb=>by
   have e:b=it:=by simpa using hb
   subst e;obtain ⟨o,e,c,d⟩:=st;exact ⟨o,e,fun v z=>by rw [d] at z;cases z⟩
 keep:=fun i h h' st k=>st.at fun o e=>k it (by simp) o e
 item:=by
   intro X hP hw hK hc i pins s σ H E I hf st hg;subst hP hw hK;obtain ⟨xs,x,hq,hx⟩:=hg;obtain ⟨its,rv,p,hz⟩:=I.list hq;obtain ⟨u,hu,ru⟩:=rv.get hx;obtain ⟨f0,f1,f2,f3,f4,f5⟩:=hf it (by simp);refine wpAny_pyNext_list_item st p.isList (x:=u) (by simpa using hu) fun h' st' sb=>?_
   have I1:Inv X pins σ H { s with heap:=h' }:=I.turned (t':=s.toks) (fun b o hb e=>(sb.2 b hb).trans e) f0 f1 f3 f4 f5;obtain ⟨o,e,c,d⟩:=id st';exact ⟨u,rfl,go_of (s:={ s with heap:=h' }) e c d (by decide) ⟨x,H,I1,ru,⟨rfl,fun ys hy=>by rw [I.list_inj hy hq];exact hx⟩,st',fun b hb=>(hf b hb).1⟩⟩
 done:=by intro X hP hw hK hc i pins s σ H E I hf st hg;subst hP hw hK;obtain ⟨xs,hq,hx⟩:=hg;obtain ⟨its,rv,p,hz⟩:=I.list hq;obtain ⟨f0,f1,f2,f3,f4,f5⟩:=hf it (by simp);have hl:=rv.length;exact wpAny_pyNext_list_end (I.ok.hd hc) st p.isList (by simp;omega) fun h' eb=>⟨rfl,I.turned (t':=s.toks) (fun b o hb e=>eb b o hb e) f0 f1 f3 f4 f5⟩
 self:=fun _ _ _ _ _ st h=>wpAny_pyIter_listiter st h
theorem Zfv {P:Program}{w:World}{K:PySem.W.Frag}{tg:Expr}(it:Addr)(lo:Int)(n:Nat):Turn P w K tg (Itr lo n) [it] it (fun i h=>IsRangeIter h it (lo+(i:Nat)*1) ((n:Int)-(i:Nat)) 1) where
 mem:=by simp
 obj := fun i h st b hb=>by
   have e:b=it:=by simpa using hb
   subst e;exact ⟨_,st,fun v z=>by
     have z':Data.fields _=Data.cell v:=z;cases z'⟩
 keep:=fun i h h' st k=>k it (by simp) _ st
 item:=by
   intro X hP hw hK hc i pins s σ H E I hf st hg;subst hP hw hK;obtain ⟨f0,f1,f2,f3,f4,f5⟩:=hf it (by simp);have W:=Walks.range (prog:=X.prog) (w:=X.w) (I.ok.hd hc) it lo 1 n;refine W.item i s _ _ hg st fun v h' tk hv st' kk=>?_
   obtain ⟨t,rfl⟩:=hv;have I1:Inv X pins σ H { s with heap:=h',toks:=tk }:=I.turned (fun b o hb e=>kk b o (by simpa using hb) e) f0 f1 f3 f4 f5;refine ⟨_,rfl,go_of (s:={ s with heap:=h',toks:=tk }) (n:="range_iterator") st' rfl rfl (by decide) ⟨.int (lo+i),H,I1,⟨t,?_⟩,⟨rfl,rfl⟩,st',fun b hb=>(hf b hb).1⟩⟩;rw [Int.mul_one]
 done:=by intro X hP hw hK hc i pins s σ H E I hf st hg;subst hP hw hK;obtain ⟨f0,f1,f2,f3,f4,f5⟩:=hf it (by simp);exact wpAny_pyNext_range_end (I.ok.hd hc) st (by have:n≤i:=hg;omega) fun h' eb=>⟨rfl,I.turned (t':=s.toks) (fun b o hb e=>eb b o hb e) f0 f1 f3 f4 f5⟩
 self:=fun _ _ _ _ _ st h=>wpAny_pyIter_rangeiter st h
section
variable {X:Cx}{tg:Expr}
def iList (K:PySem.W.Frag)(tl:TE):TI:=fun σ H R=>tl σ H fun x H1=>∃ a,x=.ref a∧(∃ xs,SqL K H1 a xs)∧R (Itl K a) H1
theorem pi_list {l:Expr}{tl:TE}(hl:PE X l tl):PI X tg l (iList X.K tl):=by
 intro pins s σ H R I h;refine thn (hl pins s σ H _ I h) fun v s1 ⟨x,H1,I1,r1,q1⟩=>?_
 obtain ⟨a,e,⟨xs,hq⟩,q⟩:=q1;subst e;cases r1;obtain ⟨its,rv,p,hz⟩:=I1.list hq;refine wpAny_pyIter_list p.isList ?_;refine ⟨s1.heap.objs.size,[s1.heap.objs.size],_,_,H1,rfl,I1.kept (t':=s1.toks) fun b o e=>Heap.get?_push_of_some _ e,ZgU a _,⟨_,Heap.get?_push_size _ rfl,rfl,rfl⟩,fun b hb=>?_,q⟩;have e:b=s1.heap.objs.size:=by simpa using hb
 subst e;exact I1.fpOk (Nat.le_refl _) (I1.hok.fresh (Nat.le_refl _))
theorem range_it {pins:List (Addr × Obj)}{σ:St}{H:Hp}{s:Shared}{R:It→Hp→Prop}{E:Value→Shared→Prop}{lo hi:Int}{t u v:Tok}{tk:Nat}(I:Inv X pins σ H s)(h1:-(2^62)≤lo)(h2:lo<2^62)(h3:-(2^62)≤hi)(h4:hi<2^62)
   (q:R (Itr lo (hi-lo).toNat) H):wpAny (model X.prog X.w) X.A (pyIter (.ref s.heap.objs.size)) (PIE X pins σ tg R) E { s with heap:=s.heap.push { cls:=.type "range",data:=.fields #[.int lo t,.int hi u,.int 1 v] },toks:=tk }:=by
 refine wpAny_pyIter_range (IsRange.new ..) (small_one h1 h2 h3 h4) ?_;have I1:Inv X pins σ H { s with heap:=s.heap.push { cls:=.type "range",data:=.fields #[.int lo t,.int hi u,.int 1 v] },toks:=tk }:=I.kept fun b o e=>Heap.get?_push_of_some _ e
 refine ⟨(s.heap.push { cls:=.type "range",data:=.fields #[.int lo t,.int hi u,.int 1 v] }).objs.size,[(s.heap.push { cls:=.type "range",data:=.fields #[.int lo t,.int hi u,.int 1 v] }).objs.size],_,_,H,rfl,
   I1.kept (t':=tk) fun b o e=>Heap.get?_push_of_some _ e,Zfv _ lo (hi-lo).toNat,?_,fun b hb=>?_,q⟩
 · have e1:lo+((0:Nat):Int)*1=lo:=by simp
   have e2:(((hi-lo).toNat:Nat):Int)-((0:Nat):Int)=Builtin.Range.rangeSize lo hi 1:=by rw [rangeSize_one];split<;>omega
   show IsRangeIter _ _ (lo+((0:Nat):Int)*1) ((((hi-lo).toNat:Nat):Int)-((0:Nat):Int)) 1;rw [e1,e2];exact Heap.get?_push_size _ rfl
 · have e:b=(s.heap.push { cls:=.type "range",data:=.fields #[.int lo t,.int hi u,.int 1 v] }).objs.size:=by simpa using hb
   subst e;exact I1.fpOk (Nat.le_refl _) (I1.hok.fresh (Nat.le_refl _))
def iRng1 (ta:TA):TI:=fun σ H R=>ta σ H fun vs H1=>∃ j:Int,vs=[.int j]∧-(2^62)≤j∧j<2^62∧R (Itr 0 j.toNat) H1
theorem Zbg {a:Expr}{ta:TA}{p pos:Pos}(hg:Gl X "range")(hm:X.mg "range"=none)(ha:PA X [a] ta)(hs:starEach [a] X.env=[(false,eval a X.env)]:=by rfl):PI X tg (.Call (.Name "range" p) [a] [] pos) (iRng1 ta):=by
 intro pins s σ H R I h;refine Call_ (Zc2 I hg hm boot_range (PyProof.Rows.callWith_type1 (thn (ha pos pins s σ H _ I h) fun us s1 ⟨vs,H1,I1,r1,q1⟩=>?_) hs rfl));obtain ⟨j,e,q1,q2,q⟩:=q1;subst e;cases r1 with
 | cons r rr =>
   cases rr;obtain ⟨t,rfl⟩:=r;exact call_range_1 (range_it I1 (by omega) (by omega) q1 q2 (by simpa using q))
def tFor (wi:TI)(g:TG)(tb:TS):TS:=fun D σ H=>wi σ H fun J H1=>∃ W:Nat→Nat→St→Hp→Prop,(∃ m,W 0 m σ H1)∧∀ i m σ H,W i m σ H →
 (J.stop i H∧D.nx σ H)∨(J.go i H∧∃ N:St→Hp→Prop,(∀ σ' H',N σ' H'→∃ m',m'<m∧W (i+1) m' σ' H')∧∀ x H',J.yld i H x H'→g x σ H' fun σ2 H2=>tb { D with nx:=N,ct:=N,bk:=D.nx } σ2 H2)
def pinsAt (fp:List Addr)(h:Heap):List (Addr × Obj):=fp.filterMap fun b=>(h.get? b).map fun o=>(b,o)
theorem Zcw {fp:List Addr}{h:Heap}{b:Addr}{o:Obj}(hb:b∈fp)(e:h.get? b=some o):(b,o)∈pinsAt fp h:=List.mem_filterMap.mpr ⟨b,hb,by rw [e];rfl⟩
theorem Zg3 {fp:List Addr}{h:Heap}{p:Addr × Obj}(hp:p∈pinsAt fp h):p.1∈fp∧h.get? p.1=some p.2:=by
 obtain ⟨b,hb,e⟩:=List.mem_filterMap.mp hp;cases q:h.get? b with
 | none=>rw [q] at e;cases e
 | some o =>
   rw [q] at e;have e':(b,o)=p:=Option.some.inj e;subst e';exact ⟨hb,q⟩
theorem Inv.pinned {pins:List (Addr × Obj)}{σ:St}{H:Hp}{s:Shared}{fp:List Addr}(I:Inv X pins σ H s)(hf:∀ b∈fp,FpOk X pins H b)(ho:∀ b∈fp,∃ o,s.heap.get? b=some o∧∀ v,o.data≠.cell v):Inv X (pins++pinsAt fp s.heap) σ H s :=
 I.pins_of fun p hp=>(List.mem_append.mp hp).elim (fun z=>I.pin p (List.mem_append_right _ z)) fun z=>by
   obtain ⟨hb,e⟩:=Zg3 z;obtain ⟨f0,f1,f2,_⟩:=hf p.1 hb;obtain ⟨o,e',d⟩:=ho p.1 hb;rw [e] at e';cases e';exact ⟨e,f0,f1,f2,d⟩
theorem Inv.unpinned {pins pl:List (Addr × Obj)}{σ:St}{H:Hp}{s:Shared}(I:Inv X (pins++pl) σ H s):Inv X pins σ H s:=I.pins_of fun p hp=>I.pin p (List.mem_append_right _ (List.mem_append_left _ hp))
theorem ZbE {iter:Expr}{body:List Stmt}{wi:TI}{g:TG}{tb:TS}{pos:Pos}(hp:PassesOwn (model X.prog X.w) X.A X.env X.xe)(hc:X.calm=true)(hi:PI X tg iter wi)(hg:PG X tg g)(hb:PSs X body tb)
   (hs:∀ x,foldedSetIterable iter X.env x=pure x:=by intro _;rfl):PS X (.For tg iter body [] pos) (tFor wi g tb):=by
 intro pins s σ H D I h;refine wpAny_For (thn (hi pins s σ H _ I h) fun v s1 h1=>thn h1 fun itv s2 h2=>?_) hs;obtain ⟨it,fp,tn,J,H2,e,I2,T,st2,f2,W,⟨m0,w0⟩,turn⟩:=h2;subst e;have stat:∀ {H':Hp},(∀ b∈fp,H' b=none)→∀ b∈fp,FpOk X pins H' b:=fun hn b hb=>⟨hn b hb,(f2 b hb).2⟩
 refine codeAny_forLoop_any (fun n s'=>∃ i σ' H',Inv X pins σ' H' s'∧tn i s'.heap∧(∀ b∈fp,H' b=none)∧W i n σ' H') ?_ m0 ⟨0,σ,H2,I2,st2,fun b hb=>(f2 b hb).1,w0⟩;rintro n s3 ⟨i,σ3,H3,I3,st3,fr3,w3⟩;rcases turn i n σ3 H3 w3 with ⟨stop,qn⟩ | ⟨go,N,hN,step⟩
 · refine wpAny_passesOwn hp (thn (T.done X rfl rfl rfl hc i pins s3 σ3 H3 X.xe I3 (stat fr3) st3 stop) fun r s4 ⟨hr,I4⟩=>?_);subst hr;exact wpAny_execs_nil ⟨σ3,H3,I4,qn⟩
 · refine wpAny_passesOwn hp (thn (T.item X rfl rfl rfl hc i pins s3 σ3 H3 X.xe I3 (stat fr3) st3 go) fun r s4 ⟨u,hr,h4⟩=>?_);subst hr;refine wpAny_passesOwn hp (thn h4 fun _ s5 ⟨x,H5,I5,r5,y5,st5,fr5⟩=>?_);have I5':=I5.pinned (stat fr5) (T.obj _ _ st5);refine wpAny_passesOwn hp (thn (hg _ s5 σ3 H5 x u _ I5' r5 (step x H5 y5)) fun _ s6 ⟨σ6,H6,I6,q6⟩=>?_);refine wpAny_passesOwn hp (thn (hb _ s6 σ6 H6 _ I6 q6) fun f s7 q7=>?_);have again:∀ {σ7:St} {H7:Hp},Inv X (pins++pinsAt fp s5.heap) σ7 H7 s7→N σ7 H7→∃ m,m<n∧∃ i σ' H',Inv X pins σ' H' s7∧tn i s7.heap∧(∀ b∈fp,H' b=none)∧W i m σ' H':=fun {σ7 H7} I7 n7=>by
     obtain ⟨m',hm,w7⟩:=hN σ7 H7 n7;refine ⟨m',hm,i+1,σ7,H7,I7.unpinned,T.keep _ _ _ st5 fun b hb o e=>(I7.pin (b,o) (List.mem_append_right _ (List.mem_append_right _ (Zcw hb e)))).1,fun b hb=>?_,w7⟩;obtain ⟨o,e,d⟩:=T.obj _ _ st5 b hb;exact (I7.pin (b,o) (List.mem_append_right _ (List.mem_append_right _ (Zcw hb e)))).2.1
   cases f with
   | next=>obtain ⟨σ7,H7,I7,n7⟩:=q7;exact again I7 n7
   | cont=>obtain ⟨σ7,H7,I7,n7⟩:=q7;exact again I7 n7
   | brk=>obtain ⟨σ7,H7,I7,q7⟩:=q7;exact ⟨σ7,H7,I7.unpinned,q7⟩
   | ret v=>obtain ⟨x7,σ7,H7,I7,r7,q7⟩:=q7;exact ⟨x7,σ7,H7,I7.unpinned,r7,q7⟩
end
theorem for_list {K:PySem.W.Frag}{a:Addr}{xs:List V}{g:TG}{tb:TS}{D:Ends}{σ:St}{H:Hp}(Pv:Nat→St→Hp→Prop)(h0:Pv 0 σ H)(hl:∀ i σ H,i≤xs.length→Pv i σ H→SqL K H a xs)
   (hs:∀ i x σ H,xs[i]?=some x→Pv i σ H→g x σ H fun σ2 H2=>tb { D with nx:=Pv (i+1),ct:=Pv (i+1),bk:=D.nx } σ2 H2) (hd:∀ σ H,Pv xs.length σ H→D.nx σ H) :
   ∃ W:Nat→Nat→St→Hp→Prop,(∃ m,W 0 m σ H)∧∀ i m σ H,W i m σ H →
     ((Itl K a).stop i H∧D.nx σ H)∨((Itl K a).go i H∧∃ N:St→Hp→Prop,(∀ σ' H',N σ' H'→∃ m',m'<m∧W (i+1) m' σ' H')∧∀ x H',(Itl K a).yld i H x H'→g x σ H' fun σ2 H2=>tb { D with nx:=N,ct:=N,bk:=D.nx } σ2 H2):=by
 refine ⟨fun i m σ H=>m=xs.length-i∧i≤xs.length∧Pv i σ H,⟨xs.length,by simp,Nat.zero_le _,h0⟩,?_⟩;rintro i m σ H ⟨rfl,hi,p⟩;have q:=hl i σ H hi p;by_cases hlt:i<xs.length
 · refine .inr ⟨⟨xs,xs[i],q,by simp [hlt]⟩,Pv (i+1),fun σ' H' p'=>⟨xs.length-(i+1),by omega,rfl,hlt,p'⟩,fun x H' y=>?_⟩;obtain ⟨e,y⟩:=y;subst e;exact hs i x σ _ (y xs q) p
 · have e:i=xs.length:=by omega
   subst e;exact .inl ⟨⟨xs,q,Nat.le_refl _⟩,hd σ H p⟩
theorem Zg0 {lo:Int}{n:Nat}{g:TG}{tb:TS}{D:Ends}{σ:St}{H:Hp}(Pv:Nat→St→Hp→Prop)(h0:Pv 0 σ H)
   (hs:∀ i σ H,i<n→Pv i σ H→g (.int (lo+i)) σ H fun σ2 H2=>tb { D with nx:=Pv (i+1),ct:=Pv (i+1),bk:=D.nx } σ2 H2) (hd:∀ σ H,Pv n σ H→D.nx σ H) :
   ∃ W:Nat→Nat→St→Hp→Prop,(∃ m,W 0 m σ H)∧∀ i m σ H,W i m σ H →
     ((Itr lo n).stop i H∧D.nx σ H)∨((Itr lo n).go i H∧∃ N:St→Hp→Prop,(∀ σ' H',N σ' H'→∃ m',m'<m∧W (i+1) m' σ' H')∧∀ x H',(Itr lo n).yld i H x H'→g x σ H' fun σ2 H2=>tb { D with nx:=N,ct:=N,bk:=D.nx } σ2 H2):=by
 refine ⟨fun i m σ H=>m=n-i∧i≤n∧Pv i σ H,⟨n,by simp,Nat.zero_le _,h0⟩,?_⟩;rintro i m σ H ⟨rfl,hi,p⟩;by_cases hlt:i<n
 · refine .inr ⟨hlt,Pv (i+1),fun σ' H' p'=>⟨n-(i+1),by omega,rfl,hlt,p'⟩,fun x H' y=>?_⟩;obtain ⟨e,y⟩:=y;subst e y;exact hs i σ _ hlt p
 · have e:i=n:=by omega
   subst e;exact .inl ⟨Nat.le_refl _,hd σ H p⟩
abbrev R2:=V→V→Hp→VK→Prop
def OpR (X:Cx) (f:Value→Value→Sem Value) (r:R2):Prop :=
 ∀ (pins:List (Addr × Obj)) (s:Shared) (σ:St) (H:Hp) (x y:V) (v u:Value) (Q:VK),Inv X pins σ H s→RelV x v→RelV y u→r x y H Q →
   wpAny (model X.prog X.w) X.A (f v u) (EP X pins σ Q) X.xe s
def CallR (X:Cx) (f:Value) (r:List V→Hp→VK→Prop):Prop :=
 ∀ (pins:List (Addr × Obj)) (s:Shared) (σ:St) (H:Hp) (xs:List V) (us:List Value) (Q:VK),Inv X pins σ H s→Vals xs us→r xs H Q →
   wpAny (model X.prog X.w) X.A (call f us) (EP X pins σ Q) X.xe s
def tOp (r:R2)(ta tb:TE):TE:=fun σ H Q=>ta σ H fun x H1=>tb σ H1 fun y H2=>r x y H2 Q
def rI (C:Int→Int→Prop)(g:Int→Int→V):R2:=fun x y H Q=>∃ i j,x=.int i∧y=.int j∧C i j∧Q (g i j) H
def rI0 (g:Int→Int→V):R2:=fun x y H Q=>∃ i j,x=.int i∧y=.int j∧Q (g i j) H
section
variable {X:Cx}{a b c:Expr}{ta tb tc:TE}{pos:Pos}
theorem binT (ha:PE X a ta)(hb:PE X b tb){pins:List (Addr × Obj)}{s:Shared}{σ:St}{H:Hp}{R:V→V→Hp→Prop}(I:Inv X pins σ H s)
   (h:ta σ H fun x H1=>tb σ H1 fun y H2=>R x y H2) {Q:Value→Shared→Prop} {f:Value→Value→Sem Value}
   (hf:∀ v u s2 x y H2,Inv X pins σ H2 s2→RelV x v→RelV y u→R x y H2→wpAny (model X.prog X.w) X.A (f v u) Q X.xe s2) :
   wpAny (model X.prog X.w) X.A (eval a X.env) (fun v s₁=>wpAny (model X.prog X.w) X.A (eval b X.env) (fun u s₂=>wpAny (model X.prog X.w) X.A (f v u) Q X.xe s₂) X.xe s₁) X.xe s:=by
 refine thn (ha pins s σ H _ I h) fun v s1 ⟨x,H1,I1,r1,q1⟩=>?_
 refine thn (hb pins s1 σ H1 _ I1 q1) fun u s2 ⟨y,H2,I2,r2,q2⟩=>?_
 exact hf v u s2 x y H2 I2 r1 r2 q2
theorem Zal {op:Operator}{r:R2}(ho:OpR X (binaryOp op) r)(ha:PE X a ta)(hb:PE X b tb):PE X (.BinOp a op b pos) (tOp r ta tb):=by intro pins s σ H Q I h;exact wpAny_BinOp (binT ha hb I h fun v u s2 x y H2 I2 rx ry q=>ho pins s2 σ H2 x y v u Q I2 rx ry q)
theorem opI {f:Value→Value→Sem Value}{C:Int→Int→Prop}{g:Int→Int→Int}
   (rule:∀ (i j:Int) (t u:Tok) (s:Shared) (Q:Value→Shared→Prop) (E:Value→Shared→Prop),C i j→Q (.int (g i j) s.toks) { s with toks:=s.toks+1 }→wpAny (model X.prog X.w) X.A (f (.int i t) (.int j u)) Q E s) :
   OpR X f (rI C fun i j=>.int (g i j)):=by
 intro pins s σ H x y v u Q I rx ry h;obtain ⟨i,j,rfl,rfl,hc,q⟩:=h;obtain ⟨t,rfl⟩:=rx;obtain ⟨t',rfl⟩:=ry;exact rule i j t t' s _ _ hc ⟨.int (g i j),H,I.tok _,⟨_,rfl⟩,q⟩
theorem opI0 {f:Value→Value→Sem Value}{g:Int→Int→Int}
   (rule:∀ (i j:Int) (t u:Tok) (s:Shared) (Q:Value→Shared→Prop) (E:Value→Shared→Prop),Q (.int (g i j) s.toks) { s with toks:=s.toks+1 }→wpAny (model X.prog X.w) X.A (f (.int i t) (.int j u)) Q E s) :
   OpR X f (rI0 fun i j=>.int (g i j)):=by
 intro pins s σ H x y v u Q I rx ry h;obtain ⟨i,j,rfl,rfl,q⟩:=h;obtain ⟨t,rfl⟩:=rx;obtain ⟨t',rfl⟩:=ry;exact rule i j t t' s _ _ ⟨.int (g i j),H,I.tok _,⟨_,rfl⟩,q⟩
theorem opB0 {f:Value→Value→Sem Value}{g:Int→Int→Bool}
   (rule:∀ (i j:Int) (t u:Tok) (s:Shared) (Q:Value→Shared→Prop) (E:Value→Shared→Prop),Q (.bool (g i j)) s→wpAny (model X.prog X.w) X.A (f (.int i t) (.int j u)) Q E s) :
   OpR X f (rI0 fun i j=>.bl (g i j)):=by
 intro pins s σ H x y v u Q I rx ry h;obtain ⟨i,j,rfl,rfl,q⟩:=h;obtain ⟨t,rfl⟩:=rx;obtain ⟨t',rfl⟩:=ry;exact rule i j t t' s _ _ ⟨.bl (g i j),H,I,rfl,q⟩
def CDiv (i j:Int):Prop:=0<j∧j<1073741824
def CPow (i j:Int):Prop:=0≤j∧j≤1000000∧i.natAbs<2^64
def CMul (i j:Int):Prop:=(-(2^64)<i∧i<2^64)∨(-(2^64)<j∧j<2^64)
theorem CMul.ok {i j:Int}(h:CMul i j):IntMulOk i j:=by
 rcases h with ⟨h1,h2⟩ | ⟨h1,h2⟩
 · exact .of_left (intBits_le_64 h1 h2)
 · exact .of_right (intBits_le_64 h1 h2)
theorem ZaJ:OpR X (binaryOp .Add) (rI0 fun i j=>.int (i+j)):=opI0 fun _ _ _ _ _ _ _ q=>add_int q
theorem ZbL:OpR X (binaryOp .Sub) (rI0 fun i j=>.int (i-j)):=opI0 fun _ _ _ _ _ _ _ q=>sub_int q
theorem Zb9:OpR X (binaryOp .Mult) (rI CMul fun i j=>.int (i*j)):=opI fun _ _ _ _ _ _ _ hc q=>mul_int q hc.ok
theorem ZbJ:OpR X (binaryOp .FloorDiv) (rI CDiv fun i j=>.int (i/j)):=opI fun i j _ _ _ _ _ hc q=>by
 have h1:(0:Int)<j:=hc.1;have h2:j<1073741824:=hc.2;exact floordiv_int (by omega) (by rw [Int.fdiv_eq_ediv_of_nonneg i (by omega)];exact q) (.inl (PyProof.noPylong_small (by omega)))
theorem ZaA:OpR X (binaryOp .Mod) (rI (fun _ j=>0<j) fun i j=>.int (i%j)):=opI fun i j _ _ _ _ _ hc q=>by
 have h1:(0:Int)<j:=hc;exact mod_int' (by omega) (by rw [Int.fmod_eq_emod_of_nonneg i (by omega)];exact q)
theorem op_pow:OpR X (binaryOp .Pow) (rI CPow fun i j=>.int (i^j.toNat)):=opI fun _ _ _ _ _ _ _ hc q=>pow_int_small hc.1 hc.2.1 hc.2.2 q
end
def scal:V→V→Bool
 | .non,.non=>true | .non,.int _=>true | .int _,.non=>true | .non,.bl _=>true | .bl _,.non=>true | .non,.str _=>true | .str _,.non=>true
 | .int _,.int _=>true | .bl _,.bl _=>true | .str _,.str _=>true | .byt _,.byt _=>true
 | .int _,.str _=>true | .str _,.int _=>true | .bl _,.str _=>true | .str _,.bl _=>true
 | _,_=>false
def rEq:R2:=fun x y H Q=>scal x y=true∧Q (.bl (decide (x=y))) H
def rNe:R2:=fun x y H Q=>scal x y=true∧Q (.bl (!decide (x=y))) H
theorem Zge {i j:Int}:decide (V.int i=V.int j)=(i==j):=by rw [Bool.eq_iff_iff];simp
theorem dec_bl {i j:Bool}:decide (V.bl i=V.bl j)=(i==j):=by rw [Bool.eq_iff_iff];simp
theorem Zgt {i j:Str}:decide (V.str i=V.str j)=(i==j):=by rw [Bool.eq_iff_iff];simp
theorem Zgb {i j:Array UInt8}:decide (V.byt i=V.byt j)=(i.toList==j.toList):=by rw [Bool.eq_iff_iff];cases i;cases j;simp
section
variable {X:Cx}{a b c:Expr}{ta tb tc:TE}{pos:Pos}
theorem ZaF {pins:List (Addr × Obj)}{σ:St}{H:Hp}{s:Shared}{Q:VK}{k k':Bool}(I:Inv X pins σ H s)(q:Q (.bl k) H)(e:k=k'):EP X pins σ Q (.bool k') s:=by subst e;exact ⟨.bl k,H,I,rfl,q⟩
theorem ZaT:OpR X (compareOp .Eq) rEq:=by
 intro pins s σ H x y v u Q I rx ry h;obtain ⟨hs,q⟩:=h;cases x with
 | non =>
   cases rx;cases y with
   | non=>cases ry;exact PySem.EqNone.eq_none_none (ZaF I q (by simp))
   | bl j=>cases ry;exact PySem.EqNone.eq_none_bool (ZaF I q (by simp))
   | int j=>obtain ⟨t',rfl⟩:=ry;exact PySem.EqNone.eq_none_int (ZaF I q (by simp))
   | str j=>obtain ⟨t',rfl⟩:=ry;exact PySem.EqNone.eq_none_str (ZaF I q (by simp))
   | _=>exact absurd (show false=true from hs) Bool.false_ne_true
 | bl i =>
   cases rx;cases y with
   | non=>cases ry;exact PySem.EqNone.eq_bool_none (ZaF I q (by simp))
   | bl j=>cases ry;exact eq_bool (ZaF I q dec_bl)
   | str j=>obtain ⟨t',rfl⟩:=ry;exact PySem.EqMixed.eq_bool_str (ZaF I q (by simp))
   | _=>exact absurd (show false=true from hs) Bool.false_ne_true
 | int i =>
   obtain ⟨t,rfl⟩:=rx;cases y with
   | non=>cases ry;exact PySem.EqNone.eq_int_none (ZaF I q (by simp))
   | int j=>obtain ⟨t',rfl⟩:=ry;exact eq_int (ZaF I q Zge)
   | str j=>obtain ⟨t',rfl⟩:=ry;exact PySem.EqMixed.eq_int_str (ZaF I q (by simp))
   | _=>exact absurd (show false=true from hs) Bool.false_ne_true
 | str i =>
   obtain ⟨t,rfl⟩:=rx;cases y with
   | non=>cases ry;exact PySem.EqNone.eq_str_none (ZaF I q (by simp))
   | bl j=>cases ry;exact PySem.EqMixed.eq_str_bool (ZaF I q (by simp))
   | int j=>obtain ⟨t',rfl⟩:=ry;exact PySem.EqMixed.eq_str_int (ZaF I q (by simp))
   | str j=>obtain ⟨t',rfl⟩:=ry;exact eq_str (ZaF I q Zgt)
   | _=>exact absurd (show false=true from hs) Bool.false_ne_true
 | byt i =>
   obtain ⟨t,rfl⟩:=rx;cases y with
   | byt j=>obtain ⟨t',rfl⟩:=ry;exact PySem.W.eq_bytes (ZaF I q Zgb)
   | _=>exact absurd (show false=true from hs) Bool.false_ne_true
 | _=>cases y<;>exact absurd (show false=true from hs) Bool.false_ne_true
theorem op_ne:OpR X (compareOp .NotEq) rNe:=by
 intro pins s σ H x y v u Q I rx ry h;obtain ⟨hs,q⟩:=h;cases x with
 | non =>
   cases rx;cases y with
   | non=>cases ry;exact PySem.EqNone.ne_none_none (ZaF I q (by simp))
   | bl j=>cases ry;exact PySem.EqNone.ne_none_bool (ZaF I q (by simp))
   | int j=>obtain ⟨t',rfl⟩:=ry;exact PySem.EqNone.ne_none_int (ZaF I q (by simp))
   | str j=>obtain ⟨t',rfl⟩:=ry;exact PySem.EqNone.ne_none_str (ZaF I q (by simp))
   | _=>exact absurd (show false=true from hs) Bool.false_ne_true
 | bl i =>
   cases rx;cases y with
   | non=>cases ry;exact PySem.EqNone.ne_bool_none (ZaF I q (by simp))
   | bl j=>cases ry;exact ne_bool (ZaF I q (congrArg not dec_bl))
   | str j=>obtain ⟨t',rfl⟩:=ry;exact PySem.EqMixed.ne_bool_str (ZaF I q (by simp))
   | _=>exact absurd (show false=true from hs) Bool.false_ne_true
 | int i =>
   obtain ⟨t,rfl⟩:=rx;cases y with
   | non=>cases ry;exact PySem.EqNone.ne_int_none (ZaF I q (by simp))
   | int j=>obtain ⟨t',rfl⟩:=ry;exact ne_int (ZaF I q (congrArg not Zge))
   | str j=>obtain ⟨t',rfl⟩:=ry;exact PySem.EqMixed.ne_int_str (ZaF I q (by simp))
   | _=>exact absurd (show false=true from hs) Bool.false_ne_true
 | str i =>
   obtain ⟨t,rfl⟩:=rx;cases y with
   | non=>cases ry;exact PySem.EqNone.ne_str_none (ZaF I q (by simp))
   | bl j=>cases ry;exact PySem.EqMixed.ne_str_bool (ZaF I q (by simp))
   | int j=>obtain ⟨t',rfl⟩:=ry;exact PySem.EqMixed.ne_str_int (ZaF I q (by simp))
   | str j=>obtain ⟨t',rfl⟩:=ry;exact ne_str (ZaF I q (congrArg not Zgt))
   | _=>exact absurd (show false=true from hs) Bool.false_ne_true
 | byt i =>
   obtain ⟨t,rfl⟩:=rx;cases y with
   | byt j=>obtain ⟨t',rfl⟩:=ry;exact PySem.W.ne_bytes (ZaF I q (congrArg not Zgb))
   | _=>exact absurd (show false=true from hs) Bool.false_ne_true
 | _=>cases y<;>exact absurd (show false=true from hs) Bool.false_ne_true
theorem Zcl:OpR X (compareOp .Lt) (rI0 fun i j=>.bl (decide (i<j))):=opB0 fun _ _ _ _ _ _ _ q=>lt_int q
theorem Zcn:OpR X (compareOp .LtE) (rI0 fun i j=>.bl (decide (i≤j))):=opB0 fun _ _ _ _ _ _ _ q=>le_int q
theorem op_gt:OpR X (compareOp .Gt) (rI0 fun i j=>.bl (decide (j<i))):=opB0 fun _ _ _ _ _ _ _ q=>gt_int q
theorem op_ge:OpR X (compareOp .GtE) (rI0 fun i j=>.bl (decide (j≤i))):=opB0 fun _ _ _ _ _ _ _ q=>ge_int q
theorem nomark (b:Expr){op:CmpOp}(h:op≠.In:=by decide)(h2:op≠.NotIn:=by decide):behindInMarks op b=false:=by
 have e1:(op==CmpOp.In)=false:=by cases op<;>first | rfl | exact absurd rfl h
 have e2:(op==CmpOp.NotIn)=false:=by cases op<;>first | rfl | exact absurd rfl h2
 cases b<;>simp [behindInMarks,e1,e2]
theorem ZaS {op:CmpOp}{r:R2}(ho:OpR X (compareOp op) r)(ha:PE X a ta)(hb:PE X b tb)(hm:behindInMarks op b=false):PE X (.Compare a [op] [b] pos) (tOp r ta tb):=by intro pins s σ H Q I h;exact wpAny_Compare1 (binT ha hb I h fun v u s2 x y H2 I2 rx ry q=>ho pins s2 σ H2 x y v u Q I2 rx ry q) hm
def tTest (t:TE):TT:=fun σ H Q=>t σ H fun x H'=>∃ k,x=.bl k∧Q k H'
theorem Zar {op:CmpOp}{r:R2}(ho:OpR X (compareOp op) r)(ha:PE X a ta)(hb:PE X b tb)(hm:behindInMarks op b=false):PT X (.Compare a [op] [b] pos) (tTest (tOp r ta tb)):=by
 intro pins s σ H Q I h;refine wpAny_isTrue_Compare1 (thn (ha pins s σ H _ I h) fun v s1 ⟨x,H1,I1,r1,q1⟩=>thn (hb pins s1 σ H1 _ I1 q1) fun u s2 ⟨y,H2,I2,r2,q2⟩ =>
   thn (ho pins s2 σ H2 x y v u _ I2 r1 r2 q2) fun c s3 ⟨z,H3,I3,r3,k,e,q3⟩=>?_) hm
 subst e;cases r3;exact wpAny_truthy_bool ⟨H3,I3,q3⟩
theorem line63:(sizeLine:Nat)<2^63:=by rw [sizeLine_eq];decide
theorem ZfM:OpR X (binaryOp .Add) (fun x y H Q=>∃ i j,x=.str i∧y=.str j∧i.length+j.length≤sizeLine∧Q (.str (i++j)) H):=by intro pins s σ H x y v u Q I rx ry h;obtain ⟨i,j,rfl,rfl,hz,q⟩:=h;obtain ⟨t,rfl⟩:=rx;obtain ⟨t',rfl⟩:=ry;exact add_str (fun t' tk=>⟨.str (i++j),H,I.tok _,⟨_,rfl⟩,q⟩) hz
theorem vals1 {x:V}{us:List Value}(r:Vals [x] us):∃ u,us=[u]∧RelV x u:=by
 cases r with
 | cons r1 r2=>cases r2;exact ⟨_,rfl,r1⟩
theorem vals2 {x y:V}{us:List Value}(r:Vals [x,y] us):∃ u w',us=[u,w']∧RelV x u∧RelV y w':=by
 cases r with
 | cons r1 r2 =>
   cases r2 with
   | cons r3 r4=>cases r4;exact ⟨_,_,rfl,r1,r3⟩
theorem ZdU (hc:X.calm=true):CallR X (.builtin "max") (fun xs H Q=>∃ i j,xs=[.int i,.int j]∧Q (.int (if j > i then j else i)) H):=by
 intro pins s σ H xs us Q I r h;obtain ⟨i,j,rfl,q⟩:=h;obtain ⟨u,w',rfl,⟨t,rfl⟩,⟨t',rfl⟩⟩:=vals2 r;refine max_two_ints (I.ok.hd hc) fun h' tk k=>⟨_,H,I.kept k,?_,q⟩
 by_cases hj:j > i
 · rw [if_pos hj,if_pos hj];exact ⟨_,rfl⟩
 · rw [if_neg hj,if_neg hj];exact ⟨_,rfl⟩
theorem Zc4 (hc:X.calm=true):CallR X (.builtin "min") (fun xs H Q=>∃ i j,xs=[.int i,.int j]∧Q (.int (if j<i then j else i)) H):=by
 intro pins s σ H xs us Q I r h;obtain ⟨i,j,rfl,q⟩:=h;obtain ⟨u,w',rfl,⟨t,rfl⟩,⟨t',rfl⟩⟩:=vals2 r;refine min_two_ints (I.ok.hd hc) fun h' tk k=>⟨_,H,I.kept k,?_,q⟩
 by_cases hj:j<i
 · rw [if_pos hj,if_pos hj];exact ⟨_,rfl⟩
 · rw [if_neg hj,if_neg hj];exact ⟨_,rfl⟩
theorem ZcX:CallR X (.type "int") (fun xs H Q=>(∃ i,xs=[.int i]∧Q (.int i) H)∨∃ k,xs=[.bl k]∧Q (.int (if k then 1 else 0)) H):=by
 intro pins s σ H xs us Q I r h;rcases h with ⟨i,rfl,q⟩ | ⟨k,rfl,q⟩
 · obtain ⟨u,rfl,t,rfl⟩:=vals1 r;exact call_int_int ⟨.int i,H,I,⟨_,rfl⟩,q⟩
 · obtain ⟨u,rfl,r1⟩:=vals1 r;cases r1;exact call_int_bool ⟨.int (if k then 1 else 0),H,I.tok _,⟨_,rfl⟩,q⟩
end
structure ObjM (h:Heap)(x dx C:Addr)(mA:Str→Option Value):Prop where
 obj:h.get? x=some (PySem.W.instObj C dx)
 ns:h.Ns1 dx mA
 ne:dx≠x
theorem ZgO {h:Heap}{dx:Addr}{mA:Str→Option Value}(n:h.Ns1 dx mA):∃ od,h.get? dx=some od∧∀ name,PySem.W.lookIn name od=some (mA name):=by
 obtain ⟨o,es,ep,ho,hd,hk,_,hm⟩:=n;refine ⟨o,ho,fun name=>?_⟩;have e:=hm name;unfold nsFind findBy at e;rw [← Array.find?_toList] at e;unfold PySem.W.lookIn;rw [hd];dsimp only;split
 · rename_i y q
   rw [q] at e;exact congrArg some e
 · rename_i q
   rw [q] at e;have a:es.toList.any (·.refKey)=false:=by rw [List.any_eq_false];intro y hy;obtain ⟨z,t,hkey⟩:=hk y (Array.mem_toList_iff.mp hy);simp [DictEntry.refKey,hkey]
   have a':¬ es.toList.any (·.refKey)=true:=by rw [a];exact Bool.false_ne_true
   rw [if_neg a'];exact congrArg some e
theorem ObjM.look {h:Heap}{x dx C:Addr}{mA:Str→Option Value}(I:ObjM h x dx C mA):∃ od,PySem.W.InstAt h x (PySem.W.instObj C dx) C (some od)∧∀ name,PySem.W.lookIn name od=some (mA name) :=
 let ⟨od,ho,hl⟩:=ZgO I.ns
 ⟨od,⟨I.obj,rfl,rfl,ho⟩,hl⟩
section
variable {prog:Program}{w:World}{A:Around}{E:Value→Shared→Prop}{s:Shared}{K:PySem.W.Frag}{x dx C f:Addr}{mA:Str→Option Value}{name:Str}{v:Value}
theorem get_map {expr:Bool}{Q:Value→Shared→Prop}(X:K.In s.heap)(I:ObjM s.heap x dx C mA)(hg:PySem.W.plainGet K C name=true)(hh:PySem.W.hasDictIn K C=true)
   (ha:PySem.W.findIn K (.ref C) name=some none) (hv:mA name=some v) (hv':PySem.W.handedIn v=true) (h:Q v { s with toks:=s.toks+1 }) :
   wpAny (model prog w) A (getAttr (.ref x) name expr) Q E s:=by
 obtain ⟨od,J,hl⟩:=I.look;exact PySem.W.get_value X J (PySem.W.plainGet_of hg).1 (PySem.W.findObj_own hh ha rfl (by rw [hl,hv])) hv' h
theorem get_meth {pl:Sem Bool}{Q:Value × List Value→Shared→Prop}(X:K.In s.heap)(I:ObjM s.heap x dx C mA)(hg:PySem.W.plainGet K C name=true)
   (hf:PySem.W.findIn K (.ref C) name=some (some (.ref f))) (ht:PySem.W.isFn K (.ref f)=true) (hv:mA name=none) (h:Q (.ref f,[.ref x]) s) :
   wpAny (model prog w) A (getMethod (.ref x) name pl) Q E s:=by
 obtain ⟨od,J,hl⟩:=I.look;exact PySem.W.method_fn X J (PySem.W.plainGet_of hg).1 (PySem.W.plainGet_of hg).2 hf (beq_iff_eq.mp ht) (by show (PySem.W.lookIn name od).map (·.isSome)=some false;rw [hl,hv];rfl) h
theorem set_map {ns:List Str}{Q:Unit→Shared→Prop}(X:K.In s.heap)(I:ObjM s.heap x dx C mA)
   (hs:PySem.W.findIn K (.ref C) "__setattr__"=some (some (.builtin "object.__setattr__"))) (hp:PySem.W.plainOver K C=true) (ht:PySem.W.takerIn K C name=some none) (hh:PySem.W.hasDictIn K C=true)
   (hw:PySem.Within mA ns) (hsz:ns.length≤sizeLine)
   (h:∀ h',ObjM h' x dx C (fun y=>if y=name then some v else mA y)→Heap.SameBut dx s.heap h'→Q () { s with heap:=h',toks:=s.toks+2 }) :
   wpAny (model prog w) A (setAttr (.ref x) name v) Q E s:=by
 obtain ⟨od,J,hl⟩:=I.look;refine PySem.W.set_plain X J hs (PySem.W.osa_open (s:={ s with toks:=s.toks+1 }) (r:=none) X J hp ht fun b=>?_);obtain ⟨cd,hc,hd'⟩:=PySem.W.any_some hh;have hx:s.heap.get? x=some ⟨.ref C,some dx,.plain,#[]⟩:=I.obj;refine wpAny_bind (wpAny_pure (wpAny_bind (wpAny_bind (wpAny_loadPart hx (wpAny_bind (PySem.W.Looks.here (s:={ s with toks:=s.toks+1 }) (PySem.W.looks_clsIn X hc) ?_))))));rw [hd'];refine wpAny_pure (a:=some dx) (wpAny_bind (wpAny_pure (wpAny_bind ?_)));refine wpAny_nsSet1 (s:={ s with toks:=s.toks+1 }) I.ns fun h' hn2 hs2=>?_
 obtain ⟨oD,esD,epD,hoD,hdD,hcD⟩:=hn2.count (PySem.Within.cons name v hw);refine wpAny_bind (wpAny_lookBehind hoD (by rw [hdD];exact pastItsLine_dict (Nat.le_trans hcD (by rw [List.length_cons];omega))) ?_);exact wpAny_pure (h _ ⟨(hs2.2 _ (Ne.symm I.ne)).trans I.obj,hn2,I.ne⟩ hs2)
theorem make_map {R:Result→Shared→Prop}{vs:List Value}{kw:List (Str × Value)}(X:K.In s.heap)(hm:PySem.W.makesIn K C=true)
   (hi:PySem.W.findIn K (.ref C) "__init__"=some (some (.ref f))) (hf:PySem.W.typeIn K (.ref f)=some (.type "function"))
   (h:codeAny (model prog w) (A.under (.builtin "type.__call__" ⟨.ref C::vs,kw⟩)) (.call (.ref f) ⟨.ref (s.heap.objs.size+1)::vs,kw⟩) (PySem.W.InitBack (s.heap.objs.size+1) R)
     { s with heap:=(s.heap.push PySem.W.emptyDict).push (PySem.W.instObj C s.heap.objs.size) }) :
   codeAny (model prog w) A (.call (.ref C) ⟨vs,kw⟩) R s:=by
 obtain ⟨hh,g,d,t,os⟩:=s;exact PySem.W.make_core (PySem.W.makes_of X hm) (PySem.W.looks_findIn X hi) (fun self=>PySem.W.bind_fn X self hf) (.inl rfl) h
end
def putF (f:Str)(v:V):List (Str × V)→List (Str × V)
 | []=>[(f,v)]
 | (g,x)::r=>if g=f then (g,v)::r else (g,x)::putF f v r
theorem Zda (f g:Str) (v:V):∀ fs:List (Str × V),(putF f v fs).lookup g=if g=f then some v else fs.lookup g
 | []=>by
   show List.lookup g [(f,v)]=_;by_cases h:g=f
   · have hb:(g==f)=true:=beq_iff_eq.mpr h;simp only [List.lookup,hb,if_pos h]
   · have hb:(g==f)=false:=beq_eq_false_iff_ne.mpr h;simp only [List.lookup,hb,if_neg h]
 | (k, x)::r=>by
   have ih:=Zda f g v r;rw [show putF f v ((k,x)::r)=(if k=f then (k,v)::r else (k,x)::putF f v r) from rfl];by_cases hk:k=f
   · rw [if_pos hk];by_cases h:g=k
     · have hb:(g==k)=true:=beq_iff_eq.mpr h;simp only [List.lookup,hb,if_pos (h.trans hk)]
     · have hb:(g==k)=false:=beq_eq_false_iff_ne.mpr h;simp only [List.lookup,hb,if_neg (fun e:g=f=>h (e.trans hk.symm))]
   · rw [if_neg hk];by_cases h:g=k
     · have hb:(g==k)=true:=beq_iff_eq.mpr h;simp only [List.lookup,hb,if_neg (fun e:g=f=>hk (h.symm.trans e))]
     · have hb:(g==k)=false:=beq_eq_false_iff_ne.mpr h;simp only [List.lookup,hb];exact ih
theorem Zc3 (f:Str) (v:V):∀ fs:List (Str × V),f∈(putF f v fs).map (·.1)∧∀ g,g∈fs.map (·.1)→g∈(putF f v fs).map (·.1)
 | []=>⟨by simp [putF],fun g h=>by simp at h⟩
 | (k, x)::r=>by
   obtain ⟨i1,i2⟩:=Zc3 f v r;rw [show putF f v ((k,x)::r)=(if k=f then (k,v)::r else (k,x)::putF f v r) from rfl];by_cases hk:k=f
   · rw [if_pos hk];subst hk;exact ⟨by simp,fun g h=>by simpa using h⟩
   · rw [if_neg hk];refine ⟨?_,fun g h=>?_⟩
     · rw [List.map_cons];exact List.mem_cons_of_mem _ i1
     · rw [List.map_cons] at h ⊢;rcases List.mem_cons.mp h with e | e
       · exact List.mem_cons.mpr (.inl e)
       · exact List.mem_cons_of_mem _ (i2 g e)
theorem Zc8 (f:Str)(v:V):∀ fs:List (Str × V),(putF f v fs).length≤fs.length+1
 | []=>by simp [putF]
 | (k,x)::r=>by
   have ih:=Zc8 f v r;rw [show putF f v ((k,x)::r)=(if k=f then (k,v)::r else (k,x)::putF f v r) from rfl];by_cases hk:k=f
   · rw [if_pos hk,List.length_cons,List.length_cons];omega
   · rw [if_neg hk,List.length_cons,List.length_cons];omega
theorem RelO.some_of {v:V}{o:Option Value}(r:RelO (some v) o):∃ u,o=some u∧RelV v u:=by
 cases o with
 | none=>exact (show False from r).elim
 | some u=>exact ⟨u,rfl,r⟩
theorem RelO.none_of {o:Option Value}(r:RelO none o):o=none:=by
 cases o with
 | none=>rfl
 | some u=>exact (show False from r).elim
theorem ZgE {v:V}{u:Value}(r:RelV v u):PySem.W.handedIn u=true:=by
 cases v with
 | non=>cases (show u=Value.none from r);rfl
 | bl b=>cases (show u=Value.bool b from r);rfl
 | int i=>obtain ⟨t,e⟩:=(show ∃ t,u=Value.int i t from r);cases e;rfl
 | str x=>obtain ⟨t,e⟩:=(show ∃ t,u=Value.str x t from r);cases e;rfl
 | byt b=>obtain ⟨t,e⟩:=(show ∃ t,u=Value.bytes b t from r);cases e;rfl
 | flt b=>obtain ⟨t,e⟩:=(show ∃ t,u=Value.float b t from r);cases e;rfl
 | ref a=>cases (show u=Value.ref a from r);rfl
 | ty n=>cases (show u=Value.type n from r);rfl
section
variable {P:Program}{w:World}{H H':Hp}{h h':Heap}{a C dx:Addr}{fs fs':List (Str × V)}
theorem ZcN (hok:HOk P w H h)(e:H a=some (.ins C dx fs)):∃ mA,ObjM h a dx C mA∧(∀ f,RelO (fs.lookup f) (mA f))∧PySem.Within mA (fs.map (·.1))∧fs.length≤1000∧H dx=some (.own a):=by
 obtain ⟨d,z,ne,ob,mA,n,r,q⟩:=(show ObjOk P w H h a (.ins C dx fs) from hok a _ e)
 exact ⟨mA,⟨ob,n,ne⟩,r,q,z,d⟩
end
structure Cls (K:PySem.W.Frag)(C:Addr):Prop where
 pg:PySem.W.plainGet K C Str.empty=true
 hd:PySem.W.hasDictIn K C=true
 po:PySem.W.plainOver K C=true
 sa:PySem.W.findIn K (.ref C) "__setattr__"=some (some (.builtin "object.__setattr__"))
theorem Cls.get {K:PySem.W.Frag}{C:Addr}(c:Cls K C)(f:Str):PySem.W.plainGet K C f=true:=c.pg
def NoAttr (K:PySem.W.Frag)(C:Addr)(f:Str):Prop:=PySem.W.findIn K (.ref C) f=some none
theorem NoAttr.taker {K:PySem.W.Frag}{C:Addr}{f:Str}(n:NoAttr K C f):PySem.W.takerIn K C f=some none:=by unfold PySem.W.takerIn;rw [show PySem.W.findIn K (.ref C) f=some none from n];rfl
structure Con (K:PySem.W.Frag)(C:Addr)(f:Str)(v:V)(u:Value):Prop where
 at_:PySem.W.findIn K (.ref C) f=some (some u)
 rel:RelV v u
 get:PySem.W.specialIn K u "__get__"=some none
 cp:PySem.W.copiedNames.contains f=false
structure Meth (K:PySem.W.Frag)(C:Addr)(m:Str)(f:Addr):Prop where
 at_:PySem.W.findIn K (.ref C) m=some (some (.ref f))
 fn:PySem.W.isFn K (.ref f)=true
 kp:PySem.W.keepIn K (.ref f)=true
section
variable {X:Cx}{pins:List (Addr × Obj)}{σ:St}{H:Hp}{s:Shared}{a C dx:Addr}{fs:List (Str × V)}{f:Str}{v:V}{A:Around}{E:Value→Shared→Prop}
theorem Zfz {b:Bool}{Q:Value→Shared→Prop}(I:Inv X pins σ H s)(e:H a=some (.ins C dx fs))(c:Cls X.K C)(n:NoAttr X.K C f)(l:fs.lookup f=some v)
   (h:∀ u s',Inv X pins σ H s'→RelV v u→Q u s'):wpAny (model X.prog X.w) A (getAttr (.ref a) f b) Q E s:=by
 obtain ⟨mA,O,r,_,_,_⟩:=ZcN I.hok e;obtain ⟨u,hu,ru⟩:=RelO.some_of (v:=v) (o:=mA f) (by rw [← l];exact r f);exact get_map I.kIn O (c.get f) c.hd n hu (ZgE ru) (h u _ (I.tok _) ru)
theorem Zdn {m:Str}{g:Addr}{pl:Sem Bool}{Q:Value × List Value→Shared→Prop}(I:Inv X pins σ H s)(e:H a=some (.ins C dx fs))(c:Cls X.K C)(k:Meth X.K C m g)(l:fs.lookup m=none)
   (h:Q (.ref g,[.ref a]) s):wpAny (model X.prog X.w) A (getMethod (.ref a) m pl) Q E s:=by
 obtain ⟨mA,O,r,_,_,_⟩:=ZcN I.hok e;have hn:mA m=none:=RelO.none_of (by rw [← l];exact r m);exact get_meth I.kIn O (c.get m) k.at_ k.fn hn h
theorem Zfw {y:V}{u:Value}{Q:Unit→Shared→Prop}(I:Inv X pins σ H s)(e:H a=some (.ins C dx fs))(c:Cls X.K C)(n:NoAttr X.K C f)(hl:fs.length<1000)(ry:RelV y u)
   (h:∀ s',Inv X pins σ (upd H a (.ins C dx (putF f y fs))) s'→Q () s'):wpAny (model X.prog X.w) A (setAttr (.ref a) f u) Q E s:=by
 obtain ⟨mA,O,r,wi,_,ho⟩:=ZcN I.hok e;have hz:(fs.map (·.1)).length≤sizeLine:=by rw [List.length_map,sizeLine_eq];omega
 refine set_map I.kIn O c.sa c.po n.taker c.hd wi hz fun h' O' sb=>h _ ?_
 have hd:∃ o,h'.get? dx=some o:=let ⟨o,_,_,e',_⟩:=O'.ns;⟨o,e'⟩
 refine I.write (x:=a) (e:=dx) (by rw [e];exact True.intro) (.inr ho) (fun b q hb z=>(sb.2 b hb).trans z) hd ?_;refine ⟨by rw [Zah O.ne];exact ho,?_,O.ne,O'.obj,_,O'.ns,fun g=>?_,fun g hg=>?_⟩
 · have:=Zc8 f y fs;omega
 · show RelO ((putF f y fs).lookup g) (if g=f then some u else mA g);rw [Zda];by_cases q:g=f
   · rw [if_pos q,if_pos q];exact ry
   · rw [if_neg q,if_neg q];exact r g
 · by_cases q:g=f
   · rw [q];exact (Zc3 f y fs).1
   · refine (Zc3 f y fs).2 g (wi g fun z=>hg ?_);show (if g=f then some u else mA g)=none;rw [if_neg q];exact z
theorem Inv.made (I:Inv X pins σ H s):Inv X pins σ (upd (upd H s.heap.objs.size (.own (s.heap.objs.size+1))) (s.heap.objs.size+1) (.ins C s.heap.objs.size []))
   { s with heap:=(s.heap.push PySem.W.emptyDict).push (PySem.W.instObj C s.heap.objs.size) }:=by
 have e1:(s.heap.push PySem.W.emptyDict).get? s.heap.objs.size=some PySem.W.emptyDict:=Heap.get?_push_size s.heap rfl;have e2:((s.heap.push PySem.W.emptyDict).push (PySem.W.instObj C s.heap.objs.size)).get? (s.heap.objs.size+1)=some (PySem.W.instObj C s.heap.objs.size):=by
   have:=Heap.get?_push_size (s.heap.push PySem.W.emptyDict) (o:=PySem.W.instObj C s.heap.objs.size) rfl
   rwa [Heap.size_push] at this
 have e3:(s.heap.push PySem.W.emptyDict).Ns s.heap.objs.size (fun _=>none):=⟨PySem.W.emptyDict,#[],_,e1,rfl,(fun e he=>absurd he (by simp)),fun _=>rfl⟩
 have I1:=I.laid (a:=s.heap.objs.size) (o:=.own (s.heap.objs.size+1)) (h':=s.heap.push PySem.W.emptyDict) (t':=s.toks) (fun b u q=>Heap.get?_push_of_some _ q) (Nat.le_refl _) ⟨_,e1⟩;refine I1.laid (a:=s.heap.objs.size+1) (o:=.ins C s.heap.objs.size []) (t':=s.toks) (fun b u q=>Heap.get?_push_of_some _ q) (Nat.le_of_eq (Heap.size_push _ _)) ?_;have ne:s.heap.objs.size≠s.heap.objs.size+1:=Nat.ne_of_lt (Nat.lt_succ_self _);refine ⟨by rw [Zah ne,Zab],Nat.zero_le _,ne,e2,fun _=>none,(Heap.Ns1.of_empty e3).at fun o q=>Heap.get?_push_of_some _ q,fun _=>True.intro,fun y hy=>absurd rfl hy⟩
theorem attr_of {prog:Program}{w:World}{env:Env}{e:Expr}{f:Str}{pos:Pos}{s:Shared}{Q:Value→Shared→Prop}(hb:attributeBase e f env (eval e env)=eval e env)
   (h:wpAny (model prog w) A (eval e env) (fun o s₁=>wpAny (model prog w) A (getAttr o f true) Q E s₁) E s):wpAny (model prog w) A (eval (.Attribute e f pos) env) Q E s :=
 Attribute_any_ h (by rw [arm_eval_Attribute,hb])
end
def tFld (K:PySem.W.Frag)(ta:TE)(f:Str):TE:=fun σ H Q=>ta σ H fun x H1=>∃ a C dx fs v,x=.ref a∧H1 a=some (.ins C dx fs)∧Cls K C∧NoAttr K C f∧fs.lookup f=some v∧Q v H1
def sFld (K:PySem.W.Frag)(ta tv:TE)(f:Str):TS:=fun D σ H=>tv σ H fun y H1=>ta σ H1 fun x H2=>∃ a C dx fs,x=.ref a∧H2 a=some (.ins C dx fs)∧Cls K C∧NoAttr K C f∧fs.length<1000 ∧
 D.nx σ (upd H2 a (.ins C dx (putF f y fs)))
section
variable {X:Cx}{o e value:Expr}{f:Str}{pos pos' tpos:Pos}{ta tv:TE}
theorem pe_fld (he:PE X e ta)(hb:attributeBase e f X.env (eval e X.env)=eval e X.env):PE X (.Attribute e f pos) (tFld X.K ta f):=by intro pins s σ H Q I h;refine attr_of hb (thn (he pins s σ H _ I h) fun u s1 ⟨x,H1,I1,rx,a,C,dx,fs,v,ex,ea,c,n,l,q⟩=>?_);subst ex;obtain rfl:u=Value.ref a:=rx;exact Zfz I1 ea c n l fun u' s2 I2 ru=>⟨v,H1,I2,ru,q⟩
theorem ps_fld (ha:PE X o ta)(hv:PE X value tv)(hs:swapsWith value (some (.Attribute o f pos')) pos.line X.env=pure false):PS X (.Assign [.Attribute o f pos'] value pos) (sFld X.K ta tv f):=by intro pins s σ H D I h;refine plainObj_wpAny_Assign_Attribute (thn (hv pins s σ H _ I h) fun u s1 ⟨y,H1,I1,ry,q⟩=>thn (ha pins s1 σ H1 _ I1 q) fun ov s2 ⟨x,H2,I2,rx,a,C,dx,fs,ex,ea,c,n,l,q2⟩=>?_) hs;subst ex;obtain rfl:ov=Value.ref a:=rx;exact Zfw I2 ea c n l ry fun s3 I3=>⟨σ,_,I3,q2⟩
end
section
variable {X:Cx}{pins:List (Addr × Obj)}{σ:St}{H:Hp}{s:Shared}{A:Around}{E:Value→Shared→Prop}{Q:Value→Shared→Prop}{c:Value}{b:Bool}
inductive TyOf (K:PySem.W.Frag) (H:Hp):V→Value→Prop where
 | non:TyOf K H .non (.type "NoneType")
 | bl (x:Bool):TyOf K H (.bl x) (.type "bool")
 | int (i:Int):TyOf K H (.int i) (.type "int")
 | str (x:Str):TyOf K H (.str x) (.type "str")
 | flt (x:UInt64):TyOf K H (.flt x) (.type "float")
 | lst {a:Addr} {xs:List V} (e:H a=some (.lst xs)):TyOf K H (.ref a) (.type "list")
 | frz {a:Addr} {o:Obj} {xs:List V} (e:H a=some (.frz o (.lst xs))):TyOf K H (.ref a) (.type "list")
 | tup {a:Addr} {xs:List V} (e:H a=some (.tup xs)):TyOf K H (.ref a) (.type "tuple")
 | dK {a:Addr} {kvs:List (Key × V)} (e:H a=some (.dK kvs)):TyOf K H (.ref a) (.type "dict")
 | dT {a:Addr} {kvs:List (List Key × V)} (e:H a=some (.dT kvs)):TyOf K H (.ref a) (.type "dict")
 | ins {a C dx:Addr} {fs:List (Str × V)} (e:H a=some (.ins C dx fs)) (cl:Cls K C) (ha:PySem.W.findIn K (.ref C) "__class__"=some (some (.builtin "object.__class__")))
     (hn:PySem.W.specialIn K (.builtin "object.__class__") "__get__"=some (some (.builtin "getset_descriptor.__get__"))) (htk:PySem.W.takesIn K (.builtin "object.__class__")=some true)
     (hm:PySem.W.mroIn K C (.type "object")=some true):TyOf K H (.ref a) (.ref C)
theorem ZgC {x:V}{u t:Value}(I:Inv X pins σ H s)(rx:RelV x u)(ty:TyOf X.K H x t)(e:PySem.W.kitOne X.K t c=some b)(h:∀ tk,Q (.bool b) { s with toks:=tk }) :
   wpAny (model X.prog X.w) A (call (.builtin "isinstance") [u,c]) Q E s:=by
 cases ty with
 | non=>cases (show u=Value.none from rx);exact PySem.W.kia_one PySem.W.kitx_none I.kIn True.intro e (fun z=>nomatch z) h
 | bl y=>cases (show u=Value.bool y from rx);exact PySem.W.kia_one PySem.W.kitx_bool I.kIn True.intro e (fun z=>nomatch z) h
 | int i=>obtain ⟨t,q⟩:=(show ∃ t,u=Value.int i t from rx);cases q;exact PySem.W.kia_one PySem.W.kitx_int I.kIn True.intro e (fun z=>nomatch z) h
 | str y=>obtain ⟨t,q⟩:=(show ∃ t,u=Value.str y t from rx);cases q;exact PySem.W.kia_one PySem.W.kitx_str I.kIn True.intro e (fun z=>nomatch z) h
 | flt y=>obtain ⟨t,q⟩:=(show ∃ t,u=Value.float y t from rx);cases q;exact PySem.W.kia_one PySem.W.kitx_float I.kIn True.intro e (fun z=>nomatch z) h
 | @lst a xs ea =>
   cases (show u=Value.ref a from rx);obtain ⟨_,_,n,_,h1⟩:=(show ObjOk X.prog X.w H s.heap a (.lst xs) from I.hok a _ ea)
   exact PySem.W.kia_one PySem.W.kitx_list I.kIn ⟨_,h1,rfl⟩ e (fun z=>nomatch z) h
 | @frz a ob xs ea =>
   cases (show u=Value.ref a from rx);obtain ⟨_,_,_,n,_,h1⟩:=(show ObjOk X.prog X.w H s.heap a (.frz ob (.lst xs)) from I.hok a _ ea)
   exact PySem.W.kia_one PySem.W.kitx_list I.kIn ⟨_,h1,rfl⟩ e (fun z=>nomatch z) h
 | @tup a xs ea =>
   cases (show u=Value.ref a from rx);obtain ⟨_,_,_,p⟩:=(show ObjOk X.prog X.w H s.heap a (.tup xs) from I.hok a _ ea)
   obtain ⟨o,h1,h2,_⟩:=p;exact PySem.W.kia_one PySem.W.kitx_tuple I.kIn ⟨o,h1,h2⟩ e (fun z=>nomatch z) h
 | @dK a kvs ea =>
   cases (show u=Value.ref a from rx);obtain ⟨_,_,vs,_,p⟩:=(show ObjOk X.prog X.w H s.heap a (.dK kvs) from I.hok a _ ea)
   obtain ⟨o,es,ep,h1,h2,_⟩:=p;exact PySem.W.kia_one PySem.W.kitx_dict I.kIn ⟨o,h1,h2.1⟩ e (fun z=>nomatch z) h
 | @dT a kvs ea =>
   cases (show u=Value.ref a from rx);obtain ⟨_,_,xs,_,o,es,ep,h1,h2,_⟩:=(show ObjOk X.prog X.w H s.heap a (.dT kvs) from I.hok a _ ea)
   exact PySem.W.kia_one PySem.W.kitx_dict I.kIn ⟨o,h1,h2.1⟩ e (fun z=>nomatch z) h
 | @ins a C dx fs ea cl ha hn htk hm =>
   cases (show u=Value.ref a from rx);obtain ⟨mA,O,_⟩:=ZcN I.hok ea;obtain ⟨od,J,_⟩:=O.look;exact PySem.W.kia_one (PySem.W.kitx_own (cl.get _) cl.hd ha hn htk hm) I.kIn J e (fun z=>nomatch z) h
end
structure Room (k:Nat)(A:Around):Prop where
 hd:A.handled=none
 dp:A.depth+3*k+5<recursionLimit
 un:A.units+16*k+200<cLine
theorem Room.mono {j k:Nat}{A:Around}(r:Room k A)(h:j≤k):Room j A:=⟨r.hd,by have:=r.dp;omega,by have:=r.un;omega⟩
theorem Room.deeper {k:Nat}{A:Around}(r:Room (k+1) A)(env:Env):Room k (A.deeper env) :=
 ⟨r.hd,by have:=r.dp;show A.depth+1+3*k+5<_;omega,by have:=r.un;show A.units+3+16*k+200<_;omega⟩
theorem Zfr {A:Around}{C:Addr}{us:List Value}{kw:List (Str × Value)}:(A.under (.builtin "type.__call__" ⟨.ref C::us,kw⟩)).depth=A.depth+1:=by
 first | rfl | simp [Around.under,Code.weight,Code.isCreation,Code.isGuard,Code.isCaller,Code.frames,Code.isFrame,guardIds]
theorem Zfo {A:Around}{C:Addr}{us:List Value}{kw:List (Str × Value)}:(A.under (.builtin "type.__call__" ⟨.ref C::us,kw⟩)).units=A.units+1:=by
 first | rfl | simp [Around.under,Code.cUnits,Code.frames,Code.isFrame]
theorem Room.make {k:Nat}{A:Around}(r:Room (k+1) A)(C:Addr)(us:List Value)(kw:List (Str × Value)):Room k (A.under (.builtin "type.__call__" ⟨.ref C::us,kw⟩)) :=
 ⟨r.hd,by have:=r.dp;rw [Zfr];omega,by have:=r.un;rw [Zfo];omega⟩
theorem Room.depth {k:Nat}{A:Around}(r:Room k A):A.depth<recursionLimit:=by have:=r.dp;omega
def tNil:TA:=fun _ H Q=>Q [] H
def tCons (ta:TE)(tr:TA):TA:=fun σ H Q=>ta σ H fun x H1=>tr σ H1 fun xs H2=>Q (x::xs) H2
section
variable {X:Cx}{e:Expr}{es:List Expr}{te:TE}{t:TA}{pos:Pos}
theorem Zac:PA X [] tNil:=fun _ _ _ _ H Q I h=>Calls.spliced_nil ⟨[],H,I,.nil,h⟩
theorem Zaa (ha:PE X e te)(hr:PA X es t)(hs:starEach (e::es) X.env=(false,eval e X.env)::starEach es X.env:=by rfl):PA X (e::es) (tCons te t):=by intro pos pins s σ H Q I h;rw [hs];show wpAny _ _ (spliced ((false,eval e X.env)::backTo pos (starEach es X.env))) _ _ s;refine Calls.spliced_cons (thn (ha pins s σ H _ I h) fun u s1 ⟨x,H1,I1,r1,q1⟩=>?_);exact thn (hr pos pins s1 σ H1 _ I1 q1) fun us s2 ⟨xs,H2,I2,r2,q2⟩=>⟨x::xs,H2,I2,.cons r1 r2,q2⟩
def tTup (t:TA):TE:=fun σ H Q=>t σ H fun xs H1=>xs.length≤sizeLine∧∀ p,H1 p=none→Q (.ref p) (upd H1 p (.tup xs))
def tLst (t:TA):TE:=fun σ H Q=>t σ H fun xs H1=>xs.length≤sizeLine∧∀ p,H1 p=none→Q (.ref p) (upd H1 p (.lst xs))
theorem ZaL {x1}(h:PA X es t):PE X (.Tuple es x1 pos) (tTup t):=by intro pins s σ H Q I hq;refine wpAny_Tuple_spliced (thn (h pos pins s σ H _ I hq) fun us s1 ⟨xs,H1,I1,r,z,q⟩=>⟨by rw [← r.length];exact z,?_⟩);have hf:H1 s1.heap.objs.size=none:=I1.hok.fresh (Nat.le_refl _);refine ⟨.ref s1.heap.objs.size,upd H1 s1.heap.objs.size (.tup xs),I1.laid (t':=s1.toks) (fun b u e=>Heap.get?_push_of_some _ e) (Nat.le_refl _) ?_,rfl,q _ hf⟩;exact ⟨z,us,r,⟨_,Heap.get?_push_size _ rfl,rfl,_,rfl⟩⟩
theorem ZaG (h:PA X es t):PE X (.List es pos) (tLst t):=by intro pins s σ H Q I hq;refine wpAny_List_spliced (thn (h pos pins s σ H _ I hq) fun us s1 ⟨xs,H1,I1,r,z,q⟩=>⟨by rw [← r.length];exact z,?_⟩);have hf:H1 s1.heap.objs.size=none:=I1.hok.fresh (Nat.le_refl _);refine ⟨.ref s1.heap.objs.size,upd H1 s1.heap.objs.size (.lst xs),I1.laid (t':=s1.toks) (fun b u e=>Heap.get?_push_of_some _ e) (Nat.le_refl _) ?_,rfl,q _ hf⟩;exact ⟨z,us,0,r,Heap.get?_push_size _ rfl⟩
end
abbrev Sp:=List V→Hp→VK→XK→Prop
abbrev CXT:=List Env→Hp→Shared→XK→Value→Shared→Prop
structure Env0 (P:Program)(w:World)(K:PySem.W.Frag)(mg:Str→Option Value)(base:Heap)(A:Around)(outer:List Env)(s:Shared)(H:Hp):Prop where
 frames:A.frames=some outer
 mod:Mod K mg base
 bs:∀ b o,base.get? b=some o→s.heap.get? b=some o∧H b=none
 bsz:base.objs.size≤s.heap.objs.size
 funs:s.heap.FunFrames base outer
 frf:∀ b∈frs outer,H b=none
 hok:HOk P w H s.heap
 bare:AllBare s.gens
def CE (outer:List Env)(P:Program)(w:World)(H:Hp)(s:Shared)(Q:VK)(u:Value)(s':Shared):Prop :=
 ∃ v H',s'.os=s.os∧AllBare s'.gens∧Un (frs outer) [] H H' s.heap s'.heap∧HOk P w H' s'.heap∧RelV v u∧Q v H'
def CR (CX:CXT)(outer:List Env)(P:Program)(w:World)(H:Hp)(s:Shared)(Q:VK)(E:XK)(r:Result)(s':Shared):Prop :=
 match r with
 | .ok (.ret u)=>CE outer P w H s Q u s'
 | .ok _=>False
 | .error e=>CX outer H s E e s'
structure FnOk (P:Program)(w:World)(K:PySem.W.Frag)(mg:Str→Option Value)(base:Heap)(CX:CXT)(k:Nat)(f:Addr)(fd:FuncData)(ps:List Str)(sp:Sp):Prop where
 len:∀ vs H Q E,sp vs H Q E→vs.length=ps.length
 run:∀ (A:Around) (outer:List Env) (s:Shared) (H:Hp) (args:Args) (us:List Value) (vs:List V) (Q:VK) (E:XK),Room k A→Env0 P w K mg base A outer s H→BindsTo s fd args (ps.zip us)→Vals vs us→sp vs H Q E →
   codeAny (model P w) A (.call (.ref f) args) (CR CX outer P w H s Q E) s
theorem FnOk.mono {P:Program}{w:World}{K:PySem.W.Frag}{mg:Str→Option Value}{base:Heap}{CX:CXT}{j k:Nat}{f:Addr}{fd:FuncData}{ps:List Str}{sp:Sp}(F:FnOk P w K mg base CX j f fd ps sp)(h:j≤k) :
   FnOk P w K mg base CX k f fd ps sp:=⟨F.len,fun A outer s H args us vs Q E hr=>F.run A outer s H args us vs Q E (hr.mono h)⟩
theorem FnOk.imp {P:Program}{w:World}{K:PySem.W.Frag}{mg:Str→Option Value}{base:Heap}{CX:CXT}{k:Nat}{f:Addr}{fd:FuncData}{ps:List Str}{sp sp':Sp}(F:FnOk P w K mg base CX k f fd ps sp)
   (h:∀ vs H Q E,sp' vs H Q E→sp vs H Q E):FnOk P w K mg base CX k f fd ps sp' :=
 ⟨fun vs H Q E q=>F.len vs H Q E (h _ _ _ _ q),fun A outer s H args us vs Q E hr he hb hv hs=>F.run A outer s H args us vs Q E hr he hb hv (h _ _ _ _ hs)⟩
theorem Env0.make {P:Program}{w:World}{K:PySem.W.Frag}{mg:Str→Option Value}{base:Heap}{A:Around}{outer:List Env}{s:Shared}{H:Hp}(e:Env0 P w K mg base A outer s H)(C:Addr)(us:List Value)(kw:List (Str × Value)) :
   Env0 P w K mg base (A.under (.builtin "type.__call__" ⟨.ref C::us,kw⟩)) outer s H:=⟨by first | exact e.frames | (simpa [Around.under,Code.envs,Code.isFrame,pushEnvs] using e.frames),e.mod,e.bs,e.bsz,e.funs,e.frf,e.hok,e.bare⟩
section
variable {X:Cx}{pins:List (Addr × Obj)}{σ:St}{H:Hp}{s s':Shared}
theorem Inv.env0 (I:Inv X pins σ H s):Env0 X.prog X.w X.K X.mg X.base X.A X.stack s H :=
 ⟨I.ok.frames,I.ok.mod,I.bs,Nat.le_trans I.ok.bsz I.sz,I.stack,I.stkFree,I.hok,I.bare⟩
theorem Inv.after {Q:VK}{u:Value}(I:Inv X pins σ H s)(h:CE X.stack X.prog X.w H s Q u s'):EP X pins σ Q u s':=by obtain ⟨v,H',os,bare,un,hok,r,q⟩:=h;obtain ⟨hh,g,d,t,os'⟩:=s';obtain rfl:os'=s.os:=os;exact ⟨v,H',I.call (h':=hh) (g':=g) (d':=d) (t':=t) (ch:=[]) un hok bare (fun b z=>absurd z (by simp)),r,q⟩
end
def tCall (sp:Sp)(dvs:List V)(E:XK)(t:TA):TE:=fun σ H Q=>t σ H fun vs H1=>sp (vs++dvs) H1 Q E
def tMake (C:Addr)(sp:Sp)(dvs:List V)(E:XK)(t:TA):TE:=fun σ H Q=>t σ H fun vs H1=>∀ x dx,H1 x=none→H1 dx=none→dx≠x →
 sp (.ref x::(vs++dvs)) (upd (upd H1 dx (.own x)) x (.ins C dx [])) (fun v H2=>v=.non∧Q (.ref x) H2) E
def Binds (K:PySem.W.Frag)(fd:FuncData)(ps:List Str)(ds:List Value):Prop :=
 ∀ (s:Shared) (us:List Value),K.In s.heap→(us++ds).length=ps.length→BindsTo s fd ⟨us,[]⟩ (ps.zip (us++ds))
theorem Binds.all {K:PySem.W.Frag}{fd:FuncData}{ps:List Str}(h:∀ us:List Value,us.length=ps.length→bindArgs fd ⟨us,[]⟩=pure (ps.zip us)):Binds K fd ps []:=fun s us _ hl=>by
 rw [List.append_nil] at hl ⊢;exact .of_eq (h us hl)
def Passes (CX:CXT)(X:Cx)(E:XK):Prop:=∀ (pins:List (Addr × Obj)) (σ:St) (H:Hp) (s:Shared) (e:Value) (s':Shared),Inv X pins σ H s→CX X.stack H s E e s'→X.xe e s'
section
variable {X:Cx}{CX:CXT}{k:Nat}{f C:Addr}{fd:FuncData}{ps:List Str}{sp:Sp}{dvs:List V}{ds:List Value}{E:XK}{x m:Str}{p pos apos:Pos}{e o:Expr}{es:List Expr}{ta:TE}{t:TA}
theorem Zea {pins:List (Addr × Obj)}{σ:St}{H:Hp}{s:Shared}{Q:VK}{us:List Value}{vs:List V}(F:FnOk X.prog X.w X.K X.mg X.base CX k f fd ps sp)(hr:Room k X.A)(hb:Binds X.K fd ps ds)(hd:Vals dvs ds)(hx:Passes CX X E)
   (I:Inv X pins σ H s) (r:Vals vs us) (h:sp (vs++dvs) H Q E):wpAny (model X.prog X.w) X.A (call (.ref f) us) (EP X pins σ Q) X.xe s:=by
 have r2:Vals (vs++dvs) (us++ds):=r.append hd;have hl:(us++ds).length=ps.length:=by rw [← r2.length];exact F.len _ _ _ _ h
 refine wpAny_call (codeAny_mono (F.run X.A X.stack s H ⟨us,[]⟩ (us++ds) (vs++dvs) Q E hr I.env0 (hb s us I.kIn hl) r2 h) fun r s' hq=>?_);cases r with
 | error e=>exact hx pins σ H s e s' I hq
 | ok fl =>
   cases fl with
   | ret u=>exact I.after hq
   | next=>exact False.elim hq
   | brk=>exact False.elim hq
   | cont=>exact False.elim hq
theorem pe_call (F:FnOk X.prog X.w X.K X.mg X.base CX k f fd ps sp)(hr:Room k X.A)(hg:Gl X x)(hm:X.mg x=some (.ref f))(hk:PySem.W.keepIn X.K (.ref f)=true)(hb:Binds X.K fd ps ds)(hd:Vals dvs ds)(hx:Passes CX X E)
   (ha:PA X (e::es) t) (hdb:(x==("__debug__":Str))=false:=by decide) (he:starEach (e::es) X.env=(false,eval e X.env)::starEach es X.env:=by rfl) (hpl:(backTo pos (starEach es X.env)).any (·.1)=false:=by rfl) :
   PE X (.Call (.Name x p) (e::es) [] pos) (tCall sp dvs E t):=by
 intro pins s σ H Q I h;refine wpAny_Call_Name_kw (Zcc I hg hm ?_ hdb);refine PySem.W.callWith_K (h₀:=X.base) I.ok.mod.kin hk (thn (ha pos pins s σ H _ I h) fun us s1 ⟨vs,H1,I1,r,q⟩=>⟨I1.kIn,?_⟩) he hpl;exact Zea F hr hb hd hx I1 r q
structure Mk (K:PySem.W.Frag)(C f:Addr):Prop where
 makes:PySem.W.makesIn K C=true
 init:PySem.W.findIn K (.ref C) "__init__"=some (some (.ref f))
 fn:PySem.W.isFn K (.ref f)=true
 kp:PySem.W.keepIn K (.ref C)=true
theorem Zfe {pins:List (Addr × Obj)}{σ:St}{H:Hp}{s:Shared}{Q:VK}{us:List Value}{vs:List V}(M:Mk X.K C f)(F:FnOk X.prog X.w X.K X.mg X.base CX k f fd ps sp)(hr:Room (k+1) X.A)(hb:Binds X.K fd ps ds)(hd:Vals dvs ds)
   (hx:Passes CX X E) (I:Inv X pins σ H s) (r:Vals vs us)
   (h:∀ x dx,H x=none→H dx=none→dx≠x→sp (.ref x::(vs++dvs)) (upd (upd H dx (.own x)) x (.ins C dx [])) (fun v H2=>v=.non∧Q (.ref x) H2) E) :
   wpAny (model X.prog X.w) X.A (call (.ref C) us) (EP X pins σ Q) X.xe s:=by
 have hq:=h (s.heap.objs.size+1) s.heap.objs.size (I.hok.fresh (Nat.le_succ _)) (I.hok.fresh (Nat.le_refl _)) (Nat.ne_of_lt (Nat.lt_succ_self _));have I2:=Inv.made (C:=C) I;have r2:Vals (V.ref (s.heap.objs.size+1)::(vs++dvs)) (Value.ref (s.heap.objs.size+1)::(us++ds)):=.cons rfl (r.append hd);have hl:(Value.ref (s.heap.objs.size+1)::us++ds).length=ps.length:=by have e:=r2.length;rw [F.len _ _ _ _ hq] at e;exact e.symm
 refine wpAny_call (make_map (f:=f) I.kIn M.makes M.init (beq_iff_eq.mp M.fn) (codeAny_mono (F.run _ X.stack _ _ ⟨Value.ref (s.heap.objs.size+1)::us,[]⟩ (Value.ref (s.heap.objs.size+1)::(us++ds)) _ _ E (hr.make C us [])
   (I2.env0.make C us []) (hb _ (Value.ref (s.heap.objs.size+1)::us) I2.kIn hl) r2 hq) fun r s' hq'=>?_))
 cases r with
 | error e=>exact hx pins σ _ _ e s' I2 hq'
 | ok fl =>
   cases fl with
   | ret u =>
     obtain ⟨v,H',I3,rv,ev,q3⟩:=I2.after hq';subst ev;exact ⟨rv,⟨V.ref (s.heap.objs.size+1),H',I3,rfl,q3⟩⟩
   | next=>exact False.elim hq'
   | brk=>exact False.elim hq'
   | cont=>exact False.elim hq'
theorem pe_make (M:Mk X.K C f)(F:FnOk X.prog X.w X.K X.mg X.base CX k f fd ps sp)(hr:Room (k+1) X.A)(hg:Gl X x)(hm:X.mg x=some (.ref C))(hb:Binds X.K fd ps ds)(hd:Vals dvs ds)(hx:Passes CX X E)
   (ha:PA X (e::es) t) (hdb:(x==("__debug__":Str))=false:=by decide) (he:starEach (e::es) X.env=(false,eval e X.env)::starEach es X.env:=by rfl) (hpl:(backTo pos (starEach es X.env)).any (·.1)=false:=by rfl) :
   PE X (.Call (.Name x p) (e::es) [] pos) (tMake C sp dvs E t):=by
 intro pins s σ H Q I h;refine wpAny_Call_Name_kw (Zcc I hg hm ?_ hdb);refine PySem.W.callWith_K (h₀:=X.base) I.ok.mod.kin M.kp (thn (ha pos pins s σ H _ I h) fun us s1 ⟨vs,H1,I1,r,q⟩=>⟨I1.kIn,?_⟩) he hpl;exact Zfe M F hr hb hd hx I1 r q
theorem pe_make0 (M:Mk X.K C f)(F:FnOk X.prog X.w X.K X.mg X.base CX k f fd ps sp)(hr:Room (k+1) X.A)(hg:Gl X x)(hm:X.mg x=some (.ref C))(hb:Binds X.K fd ps ds)(hd:Vals dvs ds)(hx:Passes CX X E)
   (hdb:(x==("__debug__":Str))=false:=by decide):PE X (.Call (.Name x p) [] [] pos) (tMake C sp dvs E tNil):=by
 intro pins s σ H Q I h;refine wpAny_Call_Name_kw (Zcc I hg hm ?_ hdb);exact PySem.W.callWith_K0 I.kIn M.kp (Zfe (us:=[]) M F hr hb hd hx I .nil h)
end
section
variable {X:Cx}{CX:CXT}{k:Nat}{f C:Addr}{fd:FuncData}{ps ks:List Str}{sp:Sp}{E:XK}{x m:Str}{p pos apos kpos:Pos}{e o:Expr}{es:List Expr}{kws:List Keyword}{te ta:TE}{t tk:TA}{nm:Option Str}
structure KBinds (K:PySem.W.Frag)(fd:FuncData)(ps ks:List Str)(g:List Value→List Value→List Value)(gV:List V→List V→List V):Prop where
 to:∀ (s:Shared) (us ws:List Value),K.In s.heap→(g us ws).length=ps.length→BindsTo s fd ⟨us,ks.zip ws⟩ (ps.zip (g us ws))
 rel:∀ {vs:List V} {us:List Value} {zs:List V} {ws:List Value},Vals vs us→Vals zs ws→Vals (gV vs zs) (g us ws)
variable {g:List Value→List Value→List Value}{gV:List V→List V→List V}
end
structure FnScope (N P:List Str)(sc:Scope):Prop where
 kind:sc.kind=.function
 co:sc.isCoroutine=false
 gen:sc.isGenerator=false
 nd:N.Nodup
 pre:N.take P.length=P
 par:∀ x∈P,sc.names.lookup x=some .local∨sc.names.lookup x=some .cell
 nofree:∀ y∈sc.names,y.2≠.free
theorem ZdW {kindOf:Str→Option NameKind}{x:Str}:∀ {binds:List (Str × Value)} {m:Str→Option Value},(∀ v,(x,v)∉binds)→bindL kindOf binds m x=m x
 | [],_,_=>rfl
 | (n,v)::r,m,h=>by
   unfold bindL;rw [ZdW fun w hw=>h w (List.mem_cons_of_mem _ hw)];split
   · have:x≠n:=by rintro rfl;exact h v List.mem_cons_self
     simp [this]
   · rfl
theorem ZdR {kindOf:Str→Option NameKind}{x:Str}:∀ {binds:List (Str × Value)} {m:Str→Option Value},(∀ v,(x,v)∉binds)→bindC kindOf binds m x=m x
 | [],_,_=>rfl
 | (n,v)::r,m,h=>by
   unfold bindC;rw [ZdR fun w hw=>h w (List.mem_cons_of_mem _ hw)];split
   · rfl
   · have:x≠n:=by rintro rfl;exact h v List.mem_cons_self
     simp [this]
theorem Zd6 {kindOf:Str→Option NameKind}{x:Str}{v:Value}:∀ {P:List Str} {vs:List Value} {i:Nat} {m:Str→Option Value},P.Nodup→P[i]?=some x→vs[i]?=some v→kindOf x=some .local →
   bindL kindOf (P.zip vs) m x=some v
 | [],_,_,_,_,h,_,_=>by simp at h
 | _::_,[],_,_,_,_,h,_=>by simp at h
 | p::P,w::vs,0,m,nd,h1,h2,hk=>by
   simp at h1 h2;subst h1;subst h2;show bindL kindOf ((p,w)::P.zip vs) m p=_;unfold bindL;rw [ZdW fun v hv=>(List.nodup_cons.mp nd).1 (List.of_mem_zip hv).1,if_pos hk];simp
 | p::P,w::vs,i+1,m,nd,h1,h2,hk=>by
   show bindL kindOf ((p,w)::P.zip vs) m x=_;unfold bindL;exact Zd6 (i:=i) (List.nodup_cons.mp nd).2 (by simpa using h1) (by simpa using h2) hk
theorem ZdV {kindOf:Str→Option NameKind}{x:Str}{v:Value}:∀ {P:List Str} {vs:List Value} {i:Nat} {m:Str→Option Value},P.Nodup→P[i]?=some x→vs[i]?=some v→kindOf x≠some .local →
   bindC kindOf (P.zip vs) m x=some v
 | [],_,_,_,_,h,_,_=>by simp at h
 | _::_,[],_,_,_,_,h,_=>by simp at h
 | p::P,w::vs,0,m,nd,h1,h2,hk=>by
   simp at h1 h2;subst h1;subst h2;show bindC kindOf ((p,w)::P.zip vs) m p=_;unfold bindC;rw [ZdR fun v hv=>(List.nodup_cons.mp nd).1 (List.of_mem_zip hv).1,if_neg hk];simp
 | p::P,w::vs,i+1,m,nd,h1,h2,hk=>by
   show bindC kindOf ((p,w)::P.zip vs) m x=_;unfold bindC;exact ZdV (i:=i) (List.nodup_cons.mp nd).2 (by simpa using h1) (by simpa using h2) hk
def start (N:List Str)(vs:List V):St:=vs.map some++List.replicate (N.length-vs.length) none
def cxOf (CX:CXT)(P:Program)(w:World)(K:PySem.W.Frag)(mg:Str→Option Value)(base:Heap)(N:List Str)(qual:Str)(scope:Scope)(f:Addr)(cd:Value)(A:Around)(outer:List Env)(s:Shared)(H:Hp)(E:XK):Cx where
 prog:=P
 w:=w
 K:=K
 mg:=mg
 base:=base
 A:=A.deeper (envOfC qual scope s.heap.objs.size f cd)
 N:=N
 s₀:=s
 H₀:=H
 env:=envOfC qual scope s.heap.objs.size f cd
 outer:=outer
 stack:=envOfC qual scope s.heap.objs.size f cd::outer
 ex:=[]
 calm:=true
 fn:=fun _=>true
 pn:=[]
 xe:=fun e s'=>wpAny (model P w) (A.deeper (envOfC qual scope s.heap.objs.size f cd)) (leaving (envOfC qual scope s.heap.objs.size f cd) e) (fun _ s''=>CX outer H s E e s'') (fun e' s''=>CX outer H s E e' s'') s'
theorem Zfc {sc:Scope}{n:Nat}{x:Str}(h:sc.names.lookup x=some .cell):∃ c,(cellsFrom n sc.names []).lookup x=some c:=by have q:=PySem.W.cellsFrom_some sc.names n [] (.inl h);exact Option.isSome_iff_exists.mp q
theorem ZgB {CX:CXT} {P:Program} {w:World} {K:PySem.W.Frag} {mg:Str→Option Value} {base:Heap} {N ps:List Str} {qual:Str} {scope:Scope} {f:Addr} {cd:Value} {A:Around} {outer:List Env} {s s1:Shared} {H:Hp} {E:XK} {us:List Value} {vs:List V}
   (S:FnScope N ps scope) (hd:A.handled=none) (e0:Env0 P w K mg base A outer s H) (hl:vs.length=ps.length) (r:Vals vs us)
   (x:InCallC s s.heap.objs.size (bindL (envOfC qual scope s.heap.objs.size f cd).kindOf (ps.zip us) fun _=>none) (cellsFrom (s.heap.objs.size+1) scope.names []) (bindC (envOfC qual scope s.heap.objs.size f cd).kindOf (ps.zip us) fun _=>none) s1) :
   Inv (cxOf CX P w K mg base N qual scope f cd A outer s H E) [] (start N vs) H s1:=by
 have hpl:ps.length≤N.length:=by have:=congrArg List.length S.pre;rw [List.length_take] at this;omega
 obtain ⟨h1,tk,rfl,hk⟩:=x.done;have noA:∀ b:Addr,b∉(cxOf CX P w K mg base N qual scope f cd A outer s H E).ex:=fun b z=>absurd (show b∈([]:List Addr) from z) (by simp)
 refine ⟨⟨e0.mod,S.kind,rfl,rfl,Nat.le_refl _,fun y z c h1 h2=>?_,fun y hy=>?_,fun y c _ h=>?_,fun _=>hd,Around.frames_deeper e0.frames,.inr ⟨rfl,rfl⟩,fun b z=>absurd z (noA b),e0.bs,e0.bsz,fun b _ _=>noA b,fun b z=>absurd z (noA b),e0.funs,e0.frf⟩,
   rfl,e0.bare,Un.kept hk,⟨_,x.toInCall.ns,fun i y v h1 h2 h3=>?_⟩,fun y c h=>⟨_,x.cell y c h⟩,e0.hok.fresh (Nat.le_refl _),fun y c h=>?_,fun p hp=>absurd (show p∈([]:List (Addr × Obj)) from hp) (by simp),e0.hok.kept hk,?_⟩
 · exact name_of_addr x.apart (PySem.mem_of_lookup h1) (PySem.mem_of_lookup h2)
 · have hy:scope.names.lookup y=some .cell∨scope.names.lookup y=some .free:=hy;rcases hy with hy | hy
   · exact Zfc hy
   · exact absurd rfl (S.nofree _ (PySem.mem_of_lookup hy))
 · exact Nat.le_of_lt (x.above y c (PySem.mem_of_lookup h))
 · have hi:i<vs.length:=by
     unfold start at h2;by_cases hi:i<vs.length
     · exact hi
     · rw [List.getElem?_append_right (by simpa using hi)] at h2;rw [List.getElem?_replicate] at h2;split at h2<;>cases h2
   have ha:vs[i]?=some v:=by
     unfold start at h2;rw [List.getElem?_append_left (by simpa using hi),List.getElem?_map] at h2;cases e:vs[i]? with
     | none=>rw [e] at h2;cases h2
     | some a=>rw [e] at h2;cases h2;rfl
   obtain ⟨u,hu,rv⟩:=r.get ha;have hp:ps[i]?=some y:=by rw [← S.pre,List.getElem?_take_of_lt (by omega)];exact h1
   have ndP:ps.Nodup:=by rw [← S.pre];exact S.nd.sublist (List.take_sublist _ _)
   refine ⟨u,rv,?_⟩;rcases S.par y (List.mem_of_getElem? hp) with k | k
   · exact .inl ⟨k,Zd6 ndP hp hu k⟩
   · obtain ⟨c,e⟩:=Zfc (n:=s.heap.objs.size+1) k;refine .inr ⟨.inl k,c,e,?_⟩;have q:=x.cell y c e;rw [ZdV ndP hp hu (by show scope.names.lookup y≠_;rw [k];decide)] at q;exact q
 · exact e0.hok.fresh (Nat.le_of_lt (x.above y c (PySem.mem_of_lookup h)))
 · unfold start;show _=N.length;rw [List.length_append,List.length_map,List.length_replicate];omega
theorem fn_of {CX:CXT}{P:Program}{w:World}{K:PySem.W.Frag}{mg:Str→Option Value}{base:Heap}{k:Nat}{f:Addr}{name qual:Str}{params:Arguments}{body:List Stmt}{scope:Scope}{dV kV doc pm cdv ct oc:Value}{an od:Option Addr}
   {osl:Array (Option Value)} {N ps:List Str} {sp:Sp} (lk:K.lookup f=some ⟨oc,od,.func (PySem.W.fnOf name qual params body scope dV kV doc pm an cdv ct),osl⟩) (hcd:PySem.W.codeIn K cdv qual=true) (S:FnScope N ps scope)
   (len:∀ vs H Q E,sp vs H Q E→vs.length=ps.length)
   (hbody:∀ (A:Around) (outer:List Env) (s:Shared) (H:Hp) (vs:List V) (Q:VK) (E:XK),Room k (A.deeper (envOfC qual scope s.heap.objs.size f cdv))→sp vs H Q E →
     ∃ t,PSs (cxOf CX P w K mg base N qual scope f cdv A outer s H E) body t∧t { nx:=fun _ H'=>Q .non H',rt:=Q } (start N vs) H) :
   FnOk P w K mg base CX (k+1) f (PySem.W.fnOf name qual params body scope dV kV doc pm an cdv ct) ps sp:=by
 refine ⟨len,fun A outer s H args us vs Q E hr e0 hb r hsp=>?_⟩;have hl:=len _ _ _ _ hsp;have KX:K.In s.heap:=e0.mod.kin.keeps fun b o e=>(e0.bs b o e).1
 have lim:s.heap.NoLimit:=e0.mod.nolimit.keeps fun b o e=>(e0.bs b o e).1
 have hkind:∀ y∈ps.zip us,scope.names.lookup y.1=some .local∨(scope.names.lookup y.1=some .cell∧((cellsFrom (s.heap.objs.size+1) scope.names []).lookup y.1).isSome=true):=fun ⟨n,v⟩ hy=>by
   rcases S.par n (List.of_mem_zip hy).1 with q | q
   · exact .inl q
   · exact .inr ⟨q,PySem.W.cellsFrom_some _ _ _ (.inl q)⟩
 refine codeAny_call_function hr.depth (KX _ _ lk) rfl S.co S.gen rfl (PySem.W.codeRec_of KX hcd) (hb _ _ _ _ ?_);refine wpAny_newFunctionEnv_cells S.kind hkind fun env he s1 x=>?_
 subst he;refine ⟨lim.keeps x.toInCall.keep,codeAny_func ?_⟩;obtain ⟨t,ht,hq⟩:=hbody A outer s H vs Q E (hr.deeper _) hsp;have I:Inv (cxOf CX P w K mg base N qual scope f cdv A outer s H E) [] (start N vs) H s1:=ZgB S hr.hd e0 hl r x;refine wpAny_mono (ht [] s1 (start N vs) H _ I hq) (fun fl s' hs=>?_) fun e s' hs=>hs
 have fin:∀ {σ':St} {H':Hp} {v:V} {u:Value},Inv (cxOf CX P w K mg base N qual scope f cdv A outer s H E) [] σ' H' s'→RelV v u→Q v H'→CE outer P w H s Q u s' :=
   fun {σ' H' v u} J rv q=>⟨v,H',J.os,J.bare,J.base,J.hok,rv,q⟩
 cases fl with
 | ret u =>
   obtain ⟨v,σ',H',J,rv,q⟩:=hs;exact fin J rv q
 | next =>
   obtain ⟨σ',H',J,q⟩:=hs;exact fin (v:=V.non) (u:=Value.none) J rfl q
 | brk =>
   obtain ⟨_,_,_,q⟩:=hs;exact False.elim q
 | cont =>
   obtain ⟨_,_,_,q⟩:=hs;exact False.elim q
section
variable {X:Cx}{x:Str}{p pos:Pos}{e:Expr}{es:List Expr}{t:TA}{id T:String}{r:List V→Hp→VK→Prop}
def tCB (r:List V→Hp→VK→Prop)(t:TA):TE:=fun σ H Q=>t σ H fun vs H1=>r vs H1 Q
theorem Zaj (hc:CallR X (.builtin id) r)(hg:Gl X x)(hm:X.mg x=none)(hv:bootBuiltins x=some (.builtin id))(ha:PA X (e::es) t)(hn:x≠"__name__":=by decide)(hdb:(x==("__debug__":Str))=false:=by decide)
   (he:starEach (e::es) X.env=(false,eval e X.env)::starEach es X.env:=by rfl) (hpl:(backTo pos (starEach es X.env)).any (·.1)=false:=by rfl):PE X (.Call (.Name x p) (e::es) [] pos) (tCB r t):=by
 intro pins s σ H Q I h;refine wpAny_Call_Name_kw (Zc2 I hg hm hv ?_ hn hdb);exact PyProof.Rows.callWith_builtin1 (thn (ha pos pins s σ H _ I h) fun us s1 ⟨vs,H1,I1,r1,q1⟩=>hc pins s1 σ H1 vs us Q I1 r1 q1) he hpl
theorem Za1 (hc:CallR X (.type T) r)(hg:Gl X x)(hm:X.mg x=none)(hv:bootBuiltins x=some (.type T))(ha:PA X (e::es) t)(hn:x≠"__name__":=by decide)(hdb:(x==("__debug__":Str))=false:=by decide)
   (he:starEach (e::es) X.env=(false,eval e X.env)::starEach es X.env:=by rfl) (hpl:(backTo pos (starEach es X.env)).any (·.1)=false:=by rfl):PE X (.Call (.Name x p) (e::es) [] pos) (tCB r t):=by
 intro pins s σ H Q I h;refine wpAny_Call_Name_kw (Zc2 I hg hm hv ?_ hn hdb);exact PyProof.Rows.callWith_type1 (thn (ha pos pins s σ H _ I h) fun us s1 ⟨vs,H1,I1,r1,q1⟩=>hc pins s1 σ H1 vs us Q I1 r1 q1) he hpl
end
end L2
namespace HT
open PySem PyProof.Rows
section
open PySem.SeqAt
open PySem.AutoSeq1 (wpAny_loadPart')
open PySem.MeetsSeq PySem.MeetsSeq2 PySem.MeetsSeq3
end
section
variable {prog:Program}{w:World}{A:Around}{E:Value→Shared→Prop}{s:Shared}
def sIx (n d:Nat):Option Int→Nat
 | none=>d
 | some v=>if v<0 then (v+(n:Int)).toNat else min v.toNat n
theorem sIx_nat (n d k:Nat):sIx n d (some (k:Int))=min k n:=by show (if (k:Int)<0 then ((k:Int)+(n:Int)).toNat else min (k:Int).toNat n)=min k n;rw [if_neg (by omega),Int.toNat_natCast]
end
end HT
namespace L2
open PySem PySem.Spec PyProof.Rows
abbrev TO:=St→Hp→(Option Int→Hp→Prop)→Prop
def PO (X:Cx) (e:Option Expr) (t:TO):Prop :=
 ∀ (pins:List (Addr × Obj)) (s:Shared) (σ:St) (H:Hp) (Q:Option Int→Hp→Prop),Inv X pins σ H s→t σ H Q →
   wpAny (model X.prog X.w) X.A (evalPart e X.env) (fun u s'=>∃ o H',Inv X pins σ H' s'∧IsPart u o∧Q o H') X.xe s
def tNoPart:TO:=fun _ H Q=>Q none H
def tPart (t:TE):TO:=fun σ H Q=>t σ H fun x H1=>∃ i,x=.int i∧Q (some i) H1
section
variable {X:Cx}{e:Expr}{te:TE}{lo hi:Option Expr}{tl th:TO}{pos p2:Pos}
theorem Zb1:PO X none tNoPart:=by intro pins s σ H Q I h;rw [evalPart_none];exact wpAny_pure ⟨none,H,I,.none,h⟩
theorem ZbZ (h:PE X e te):PO X (some e) (tPart te):=by
 intro pins s σ H Q I hw;rw [evalPart_some];refine thn (h pins s σ H _ I hw) fun u s1 ⟨x,H1,I1,r1,q1⟩=>?_
 obtain ⟨i,rfl,q⟩:=q1;obtain ⟨t,rfl⟩:=r1;exact ⟨some i,H1,I1,.int i t,q⟩
def SlR (X:Cx) (r:V→Option Int→Option Int→Hp→VK→Prop):Prop :=
 ∀ (pins:List (Addr × Obj)) (s:Shared) (σ:St) (H:Hp) (x:V) (v vl vu:Value) (lo hi:Option Int) (sl:Addr) (Q:VK),Inv X pins σ H s→RelV x v→s.heap.IsSliceOf sl vl vu .none→IsPart vl lo→IsPart vu hi→r x lo hi H Q →
   ∃ T id,typeLookup (.type T) "__getitem__"=pure (some (.builtin id))∧s.TypeIs v T∧wpAny (model X.prog X.w) X.A (getItem v (.ref sl)) (EP X pins σ Q) X.xe s
def tSl (r:V→Option Int→Option Int→Hp→VK→Prop)(te:TE)(tl th:TO):TE:=fun σ H Q=>te σ H fun x H1=>tl σ H1 fun l H2=>th σ H2 fun u H3=>r x l u H3 Q
theorem ZbD {r:V→Option Int→Option Int→Hp→VK→Prop}(hr:SlR X r)(he:PE X e te)(hl:PO X lo tl)(hu:PO X hi th):PE X (.Subscript e (.Slice lo hi none p2) pos) (tSl r te tl th):=by
 intro pins s σ H Q I h;refine Subscript_ (thn (he pins s σ H _ I h) fun v s1 ⟨x,H1,I1,r1,q1⟩=>?_);refine wpAny_Slice (thn (hl pins s1 σ H1 _ I1 q1) fun vl s2 ⟨l,H2,I2,pl,q2⟩=>thn (hu pins s2 σ H2 _ I2 q2) fun vu s3 ⟨u,H3,I3,pu,q3⟩=>?_);rw [evalPart_none];refine wpAny_pure ?_;have I4:Inv X pins σ H3 { s3 with heap:=s3.heap.push { cls:=.type "slice",data:=.fields #[vl,vu,.none] } }:=I3.kept (t':=s3.toks) fun b ob q=>Heap.get?_push_of_some _ q
 obtain ⟨T,id,hT,ht,hg⟩:=hr pins { s3 with heap:=s3.heap.push { cls:=.type "slice",data:=.fields #[vl,vu,.none] } } σ H3 x v vl vu l u s3.heap.objs.size Q I4 r1 (Heap.IsSliceOf.new ..) pl pu q3;show wpAny (model X.prog X.w) X.A (subscriptTail e (.Slice lo hi none p2) v (.ref s3.heap.objs.size)) (EP X pins σ Q) X.xe { s3 with heap:=s3.heap.push { cls:=.type "slice",data:=.fields #[vl,vu,.none] } };exact tail_any (ops:=[.ref s3.heap.objs.size,v]) ht hT hg (by with_unfolding_all rfl)
def cutV (xs:List V)(lo hi:Option Int):List V:=(xs.drop (HT.sIx xs.length 0 lo)).take (HT.sIx xs.length xs.length hi-HT.sIx xs.length 0 lo)
theorem Zfk (xs:List V)(lo hi:Option Int):(cutV xs lo hi).length≤xs.length:=by unfold cutV;rw [List.length_take,List.length_drop];omega
end
def ixN (n:Nat)(i:Int):Option Nat:=if 0≤i then (if i<n then some i.toNat else none) else if -(n:Int)≤i then some (i+n).toNat else none
def atI {α:Type}(xs:List α)(i:Int):Option α:=(ixN xs.length i).bind fun j=>xs[j]?
theorem ixN_seq {n:Nat}{i:Int}{j:Nat}(h:ixN n i=some j):seqIndex? i n=some j∧j<n∧-(n:Int)≤i∧i<n:=by
 unfold ixN at h;by_cases h0:0≤i
 · rw [if_pos h0] at h;by_cases h1:i<n
   · rw [if_pos h1] at h;have e:i.toNat=j:=Option.some.inj h;exact ⟨by rw [seqIndex_of h0 h1,e],by omega,by omega,h1⟩
   · rw [if_neg h1] at h;cases h
 · rw [if_neg h0] at h;by_cases h1:-(n:Int)≤i
   · rw [if_pos h1] at h;have e:(i+n).toNat=j:=Option.some.inj h;exact ⟨by rw [seqIndex_neg (by omega) h1,e],by omega,h1,by omega⟩
   · rw [if_neg h1] at h;cases h
theorem ZeA {α:Type}{xs:List α}{i:Int}{v:α}(h:atI xs i=some v):∃ j,seqIndex? i xs.length=some j∧xs[j]?=some v∧j<xs.length∧-(xs.length:Int)≤i∧i<xs.length:=by
 unfold atI at h;cases e:ixN xs.length i with
 | none=>rw [e] at h;cases h
 | some j =>
   rw [e] at h;obtain ⟨h1,h2,h3,h4⟩:=ixN_seq e;exact ⟨j,h1,h,h2,h3,h4⟩
theorem ZaV {α:Type}{xs:List α}{j:Nat}{v:α}(h:xs[j]?=some v):atI xs (j:Int)=some v:=by
 have hj:j<xs.length:=(List.getElem?_eq_some_iff.mp h).1;have e:ixN xs.length (j:Int)=some j:=by unfold ixN;rw [if_pos (by omega),if_pos (by omega)];simp
 unfold atI;rw [e];exact h
def PlainIx (b:Expr):Prop:=∀ o i,subscripted b false o i=operate [o,i] (getItem o i)
def IxR (X:Cx) (r:R2):Prop :=
 ∀ (value slice:Expr) (pins:List (Addr × Obj)) (s:Shared) (σ:St) (H:Hp) (x y:V) (v u:Value) (Q:VK),Inv X pins σ H s→RelV x v→RelV y u→r x y H Q →
   subscripted slice false v u=operate [v,u] (getItem v u)→wpAny (model X.prog X.w) X.A (subscriptTail value slice v u) (EP X pins σ Q) X.xe s
def MtR (X:Cx) (id:String) (r:V→List V→Hp→VK→Prop):Prop :=
 ∀ (pins:List (Addr × Obj)) (s:Shared) (σ:St) (H:Hp) (x:V) (xs:List V) (v:Value) (us:List Value) (Q:VK),Inv X pins σ H s→RelV x v→Vals xs us→r x xs H Q →
   wpAny (model X.prog X.w) X.A (call (.builtin id) (v::us)) (EP X pins σ Q) X.xe s
section
variable {X:Cx}{a b:Expr}{ta tb:TE}{pos:Pos}
theorem Zap {r:R2}(hr:IxR X r)(ha:PE X a ta)(hb:PE X b tb)(hs:PlainIx b):PE X (.Subscript a b pos) (tOp r ta tb):=by intro pins s σ H Q I h;exact Subscript_ (binT ha hb I h fun v u s2 x y H2 I2 rx ry q=>hr a b pins s2 σ H2 x y v u Q I2 rx ry q (hs _ _))
def rIxL (K:PySem.W.Frag):R2:=fun x y H Q=>∃ p xs i v,x=.ref p∧y=.int i∧SqL K H p xs∧atI xs i=some v∧Q v H
def rIxT (K:PySem.W.Frag):R2:=fun x y H Q=>∃ p xs i v,x=.ref p∧y=.int i∧SqT K H p xs∧atI xs i=some v∧Q v H
def rIxS:R2:=fun x y H Q=>∃ z i c,x=.str z∧y=.int i∧z.length≤sizeLine∧atI z.cps.toList i=some c∧Q (.str ⟨#[c]⟩) H
theorem ix_list:IxR X (rIxL X.K):=by
 intro value slice pins s σ H x y v u Q I rx ry h hs;obtain ⟨p,xs,i,z,rfl,rfl,hq,he,q⟩:=h;cases rx;obtain ⟨t,rfl⟩:=ry;obtain ⟨its,r,pl,hz⟩:=I.list hq;obtain ⟨j,h1,h2,h3,h4,h5⟩:=ZeA he;obtain ⟨w,ew,rw'⟩:=r.get h2;have hl:=r.length;have hn:=line63;have fin:EP X pins σ Q w s:=⟨z,H,I,rw',q⟩
 by_cases h0:0≤i
 · have hj:i.toNat=j:=by
     rw [seqIndex_of h0 h5] at h1;exact Option.some.inj h1
   exact item_listR pl.isList h0 (by omega) (by rw [hj];simpa using ew) fin hs
 · have hj:(i+(its.toArray.size:Int)).toNat=j:=by
     rw [seqIndex_neg (by omega) h4] at h1;rw [List.size_toArray,← hl];exact Option.some.inj h1
   exact subscriptTail_builtinR (x:=w) pl.isList.typeIs slot_list_getitem.lookup
     (wpAny_getItem_list_neg (Q:=fun r s'=>r=w∧EP X pins σ Q r s') pl.isList (by omega) (by rw [List.size_toArray]<;>omega) (by omega) (by rw [hj];simpa using ew) ⟨rfl,fin⟩) hs
theorem ix_tup:IxR X (rIxT X.K):=by
 intro value slice pins s σ H x y v u Q I rx ry h hs;obtain ⟨p,xs,i,z,rfl,rfl,hq,he,q⟩:=h;cases rx;obtain ⟨t,rfl⟩:=ry;obtain ⟨its,r,pl,hz⟩:=I.tuple hq;obtain ⟨j,h1,h2,h3,h4,h5⟩:=ZeA he;obtain ⟨w,ew,rw'⟩:=r.get h2;have hl:=r.length;have hn:=line63;have fin:EP X pins σ Q w s:=⟨z,H,I,rw',q⟩
 exact subscriptTail_builtinR (x:=w) pl.typeIs slot_tuple_getitem.lookup
   (getItem_tuple (j:=j) (Q:=fun r s'=>r=w∧EP X pins σ Q r s') pl (by omega) (by omega) (by rw [List.size_toArray,← hl];exact h1) (by simpa using ew) ⟨rfl,fin⟩) hs
theorem ix_str:IxR X rIxS:=by
 intro value slice pins s σ H x y v u Q I rx ry h hs;obtain ⟨z,i,c,rfl,rfl,hz,he,q⟩:=h;obtain ⟨t,rfl⟩:=rx;obtain ⟨t',rfl⟩:=ry;obtain ⟨j,h1,h2,h3,h4,h5⟩:=ZeA he;have hl:z.cps.toList.length=z.length:=by simp [Str.length]
 rw [hl] at h1 h4 h5;have hn:=line63;exact tail_any (typeIs_str s z t) slot_str_getitem.lookup (getItem_str (c:=c) (by
   have e1:decide (i < -(2^63:Int))=false:=decide_eq_false (by omega);have e2:decide (i≥2^63)=false:=decide_eq_false (by omega);rw [e1,e2,Bool.or_false]) (by rw [h1];simpa using h2) ⟨.str ⟨#[c]⟩,H,I.tok _,⟨_,rfl⟩,q⟩) hs
theorem Zee (lo hi:Option Int)(n:Nat):(sliceBounds lo hi none n).1=((HT.sIx n 0 lo:Nat):Int)∧(sliceBounds lo hi none n).2.1=((HT.sIx n n hi:Nat):Int)∧(sliceBounds lo hi none n).2.2=1:=by
 refine ⟨?_,?_,rfl⟩
 · cases lo with
   | none=>simp [sliceBounds,HT.sIx]
   | some i =>
     simp only [sliceBounds,HT.sIx,Option.getD_none,show (1:Int) > 0 by decide,if_true];by_cases h:i<0
     · simp only [h,if_true]<;>omega
     · simp only [h,if_false]<;>omega
 · cases hi with
   | none=>simp [sliceBounds,HT.sIx]
   | some i =>
     simp only [sliceBounds,HT.sIx,Option.getD_none,show (1:Int) > 0 by decide,if_true];by_cases h:i<0
     · simp only [h,if_true]<;>omega
     · simp only [h,if_false]<;>omega
theorem ZdL (its:List Value)(lo hi:Option Int):slicePick its.toArray lo hi none=((its.drop (HT.sIx its.length 0 lo)).take (HT.sIx its.length its.length hi-HT.sIx its.length 0 lo)).toArray:=by obtain ⟨h1,h2,h3⟩:=Zee lo hi its.toArray.size;unfold slicePick;rw [h1,h2,h3];simp only [sliceRange_one,pick_run,List.size_toArray]<;>rfl
def rSlL (K:PySem.W.Frag):V→Option Int→Option Int→Hp→VK→Prop:=fun x lo hi H Q=>∃ a xs,x=.ref a∧SqL K H a xs∧∀ p,H p=none→Q (.ref p) (upd H p (.lst (cutV xs lo hi)))
theorem sl_list:SlR X (rSlL X.K):=by intro pins s σ H x v vl vu lo hi sl Q I rx hs pl pu h;obtain ⟨a,xs,rfl,hx,q⟩:=h;cases rx;obtain ⟨its,r,ht,hz⟩:=I.list hx;have hlen:=r.length;refine ⟨"list",_,slot_list_getitem.lookup,ht.isList.typeIs,?_⟩;refine wpAny_getItem_list_slice ht.isList hs pl pu .none (by simp) ?_ (by rw [List.size_toArray]<;>omega);rw [ZdL,← hlen];refine ⟨.ref s.heap.objs.size,_,I.laid (t':=s.toks) (o:=.lst (cutV xs lo hi)) (fun b ob q=>Heap.get?_push_of_some _ q) (Nat.le_refl _) ?_,rfl,q _ (I.hok.fresh (Nat.le_refl _))⟩;exact ⟨Nat.le_trans (Zfk xs lo hi) hz,_,0,(r.drop (HT.sIx xs.length 0 lo)).take (HT.sIx xs.length xs.length hi-HT.sIx xs.length 0 lo),Heap.get?_push_size _ rfl⟩
def flatV:V→Bool
 | .non=>true
 | .bl _=>true
 | .int _=>true
 | .str _=>true
 | _=>false
def eqV:V→V→Bool
 | .non,.non=>true
 | .bl a,.bl b=>a==b
 | .bl a,.int b=>(if a then 1 else 0)==b
 | .int a,.bl b=>a==(if b then 1 else 0)
 | .int a,.int b=>a==b
 | .str a,.str b=>a==b
 | _,_=>false
theorem eqAt_V {A:Around}{s:Shared}{y x:V}{u v:Value}(ry:RelV y u)(rx:RelV x v)(fy:flatV y=true)(fx:flatV x=true):SeqAt.EqAt A s u v (eqV y x):=by
 cases y with
 | non =>
   cases ry;cases x with
   | non=>cases rx;exact SeqAt.EqAt.same _
   | bl b=>cases rx;exact SeqAt.EqAt.none_bool b
   | int b=>obtain ⟨t,rfl⟩:=rx;exact SeqAt.EqAt.none_int b t
   | str b=>obtain ⟨t,rfl⟩:=rx;exact SeqAt.EqAt.none_str b t
   | _=>exact absurd (show false=true from fx) Bool.false_ne_true
 | bl a =>
   cases ry;cases x with
   | non=>cases rx;exact SeqAt.EqAt.bool_none a
   | bl b=>cases rx;exact SeqAt.EqAt.bool_bool a b
   | int b=>obtain ⟨t,rfl⟩:=rx;exact SeqAt.EqAt.bool_int a b t
   | str b=>obtain ⟨t,rfl⟩:=rx;exact SeqAt.EqAt.bool_str a b t
   | _=>exact absurd (show false=true from fx) Bool.false_ne_true
 | int a =>
   obtain ⟨t',rfl⟩:=ry;cases x with
   | non=>cases rx;exact SeqAt.EqAt.int_none a t'
   | bl b=>cases rx;exact SeqAt.EqAt.int_bool a t' b
   | int b=>obtain ⟨t,rfl⟩:=rx;exact SeqAt.EqAt.int_int a t' b t
   | str b=>obtain ⟨t,rfl⟩:=rx;exact SeqAt.EqAt.int_str a t' b t
   | _=>exact absurd (show false=true from fx) Bool.false_ne_true
 | str a =>
   obtain ⟨t',rfl⟩:=ry;cases x with
   | non=>cases rx;exact SeqAt.EqAt.str_none a t'
   | bl b=>cases rx;exact SeqAt.EqAt.str_bool a t' b
   | int b=>obtain ⟨t,rfl⟩:=rx;exact SeqAt.EqAt.str_int a t' b t
   | str b=>obtain ⟨t,rfl⟩:=rx;exact SeqAt.EqAt.str_str a t' b t
   | _=>exact absurd (show false=true from fx) Bool.false_ne_true
 | _=>exact absurd (show false=true from fy) Bool.false_ne_true
def eqU (x:V)(u:Value):Bool:=match u with
 | .none=>eqV .non x
 | .bool b=>eqV (.bl b) x
 | .int i _=>eqV (.int i) x
 | .str z _=>eqV (.str z) x
 | _=>false
theorem eqU_of {x y:V}{u:Value}(r:RelV y u)(f:flatV y=true):eqU x u=eqV y x:=by
 cases y with
 | non=>cases r;rfl
 | bl b=>cases r;rfl
 | int i=>obtain ⟨t,rfl⟩:=r;rfl
 | str z=>obtain ⟨t,rfl⟩:=r;rfl
 | _=>exact absurd (show false=true from f) Bool.false_ne_true
theorem Zec {x:V}:∀ {xs:List V} {us:List Value},Vals xs us→xs.all flatV=true→us.any (eqU x)=xs.any fun y=>eqV y x
 | _,_,.nil,_=>rfl
 | y::xs,u::us,.cons r t,f=>by
   rw [List.all_cons,Bool.and_eq_true] at f;rw [List.any_cons,List.any_cons,eqU_of r f.1,Zec t f.2]
theorem ZdB {A:Around}{s:Shared}{x:V}{v:Value}(rx:RelV x v)(fx:flatV x=true):∀ {xs:List V} {us:List Value},Vals xs us→xs.all flatV=true→∀ u∈us,SeqAt.EqAt A s u v (eqU x u)
 | _,_,.nil,_=>fun u hu=>by cases hu
 | y::xs,u::us,.cons r t,f=>fun u' hu=>by
   rw [List.all_cons,Bool.and_eq_true] at f;rcases List.mem_cons.mp hu with rfl | hu
   · rw [eqU_of r f.1];exact eqAt_V r rx f.1 fx
   · exact ZdB rx fx t f.2 u' hu
def inV (x:V)(xs:List V):Bool:=xs.any fun y=>eqV y x
def rIn (K:PySem.W.Frag)(neg:Bool):R2:=fun x y H Q=>∃ p xs,y=.ref p∧(SqL K H p xs∨SqT K H p xs)∧flatV x=true∧xs.all flatV=true∧Q (.bl (if neg then !inV x xs else inV x xs)) H
theorem ZgQ:OpR X (compareOp .In) (rIn X.K false):=by
 intro pins s σ H x y v u Q I rx ry h;obtain ⟨p,xs,rfl,hq,fx,fs,q⟩:=h;cases ry;rcases hq with hq | hq
 · obtain ⟨its,r,pl,hz⟩:=I.list hq;refine SeqAt.in_listAt (eqU x) pl.isList (fun w hw=>ZdB rx fx r fs w (by simpa using hw)) ⟨.bl _,H,I,rfl,?_⟩;rw [show its.toArray.any (eqU x)=its.any (eqU x) by simp,Zec r fs];exact q
 · obtain ⟨its,r,pl,hz⟩:=I.tuple hq;refine SeqAt.in_tupleAt (eqU x) pl (fun w hw=>ZdB rx fx r fs w (by simpa using hw)) ⟨.bl _,H,I,rfl,?_⟩;rw [show its.toArray.any (eqU x)=its.any (eqU x) by simp,Zec r fs];exact q
theorem Zeu:CallR X (.builtin "len") (fun xs H Q=>∃ p ys,xs=[.ref p]∧(SqL X.K H p ys∨SqT X.K H p ys)∧Q (.int ys.length) H):=by
 intro pins s σ H xs us Q I r h;obtain ⟨p,ys,rfl,hq,q⟩:=h;obtain ⟨u,rfl,rx⟩:=vals1 r;cases rx;have hn:=line63;rcases hq with hq | hq
 · obtain ⟨its,r',pl,hz⟩:=I.list hq;have hlen:=r'.length;exact Calls.call_len_list pl.isList (by simp only [List.size_toArray]<;>omega) ⟨.int ys.length,H,I.tok _,⟨s.toks+1,by rw [List.size_toArray,hlen]⟩,q⟩
 · obtain ⟨its,r',pl,hz⟩:=I.tuple hq;have hlen:=r'.length;exact len_tuple pl (by simp only [List.size_toArray]<;>omega) ⟨.int ys.length,H,I.tok _,⟨s.toks+1,by rw [List.size_toArray,hlen]⟩,q⟩
theorem Zev:CallR X (.type "list") (fun xs H Q=>∃ p ys,xs=[.ref p]∧(SqL X.K H p ys∨SqT X.K H p ys)∧∀ l,H l=none→Q (.ref l) (upd H l (.lst ys))):=by
 intro pins s σ H xs us Q I r h;obtain ⟨p,ys,rfl,hq,q⟩:=h;obtain ⟨u,rfl,rx⟩:=vals1 r;cases rx;have fin:∀ (its:List Value),Vals ys its→ys.length≤sizeLine→∀ (h':Heap) (c':Nat),(∀ b o',s.heap.get? b=some o'→h'.get? b=some o') →
     h'.get? s.heap.objs.size=some { cls:=.type "list",dict:=none,data:=.seq its.toArray c',slots:=#[] }→EP X pins σ Q (.ref s.heap.objs.size) { s with heap:=h' }:=fun its r' hz h' c' kp e =>
   ⟨.ref s.heap.objs.size,_,I.laid (t':=s.toks) kp (Nat.le_refl _) (show ObjOk X.prog X.w _ h' _ (.lst ys) from ⟨hz,its,c',r',e⟩),rfl,q _ (I.hok.fresh (Nat.le_refl _))⟩
 rcases hq with hq | hq
 · obtain ⟨its,r',pl,hz⟩:=I.list hq;have hlen:=r'.length;obtain ⟨o,ho,hc,n,hd⟩:=pl.isList;exact call_list_seq p (.inl rfl) ho hc hd (fun h' c' kp e=>fin its r' hz h' c' kp e) (by simp only [List.size_toArray]<;>omega)
 · obtain ⟨its,r',pl,hz⟩:=I.tuple hq;have hlen:=r'.length;obtain ⟨o,ho,hc,n,hd⟩:=pl;exact call_list_seq p (.inr rfl) ho hc hd (fun h' c' kp e=>fin its r' hz h' c' kp e) (by simp only [List.size_toArray]<;>omega)
def tyV (K:PySem.W.Frag)(T:String)(x:V)(H:Hp):Prop:=match x with
 | .str _=>T="str"
 | .int _=>T="int"
 | .ref p=>(T="list"∧∃ xs,SqL K H p xs)∨(T="tuple"∧∃ o,K.lookup p=some o∧o.cls=.type "tuple"∧o.dict=none) ∨
     (T="dict"∧((∃ kvs,H p=some (.dK kvs))∨∃ kvs,H p=some (.dT kvs)))∨(T="set"∧∃ S n,H p=some (.set S n))
 | _=>False
theorem tyV_is {pins:List (Addr × Obj)} {σ:St} {H:Hp} {s:Shared} {T:String} {x:V} {v:Value} (I:Inv X pins σ H s) (r:RelV x v) (ty:tyV X.K T x H) :
   s.TypeIs v T∧∀ a,v=.ref a→∃ ob,s.heap.get? a=some ob∧ob.dict=none:=by
 cases x with
 | str z =>
   obtain ⟨t,rfl⟩:=r;cases (show T="str" from ty);exact ⟨typeIs_str s z t,fun _ e=>nomatch e⟩
 | int i =>
   obtain ⟨t,rfl⟩:=r;cases (show T="int" from ty);exact ⟨typeIs_int s i t,fun _ e=>nomatch e⟩
 | ref p =>
   cases r;rcases ty with ⟨rfl,xs,hq⟩ | ⟨rfl,o,hk,hc,hd⟩ | ⟨rfl,hk⟩ | ⟨rfl,S,n,hk⟩
   · obtain ⟨its,_,pl,_⟩:=I.list hq;refine ⟨pl.isList.typeIs,fun a e=>?_⟩;cases e;obtain ⟨o,n,e,c,hd,_⟩:=pl;exact ⟨o,e,hd⟩
   · refine ⟨⟨o,I.kIn p o hk,hc⟩,fun a e=>?_⟩;cases e;exact ⟨o,I.kIn _ o hk,hd⟩
   · have z:∃ o,s.heap.get? p=some o∧o.ExactDict:=by
       rcases hk with ⟨kvs,hk⟩ | ⟨kvs,hk⟩
       · obtain ⟨_,_,_,_,o,_,_,e,ex,_⟩:=I.hok p _ hk;exact ⟨o,e,ex⟩
       · obtain ⟨_,_,_,_,o,_,_,e,ex,_⟩:=I.hok p _ hk;exact ⟨o,e,ex⟩
     obtain ⟨o,e,ex⟩:=z;refine ⟨⟨o,e,ex.1⟩,fun a e2=>?_⟩;cases e2;exact ⟨o,e,ex.2.1⟩
   · obtain ⟨o,_,_,_,e,ex,_⟩:=I.hok p _ hk;refine ⟨⟨o,e,ex.1⟩,fun a e2=>?_⟩;cases e2;exact ⟨o,e,ex.2.1⟩
 | _=>exact False.elim ty
def tBM0 (K:PySem.W.Frag)(T:String)(r:V→List V→Hp→VK→Prop)(to:TE):TE:=fun σ H Q=>to σ H fun x H1=>tyV K T x H1∧r x [] H1 Q
def tBM (K:PySem.W.Frag)(T:String)(r:V→List V→Hp→VK→Prop)(to:TE)(t:TA):TE:=fun σ H Q=>to σ H fun x H1=>tyV K T x H1∧t σ H1 fun xs H2=>r x xs H2 Q
variable {o e:Expr}{es:List Expr}{to:TE}{t:TA}{name:Str}{apos cpos:Pos}{T id:String}{r:V→List V→Hp→VK→Prop}
theorem pe_bm0 (pa:PlainAttrs T)(slot:Slot T name id)(hty:typeOf (.builtin id)=pure (.type "method_descriptor"))(hm:MtR X id r)(ho:PE X o to)
   (hbase:attributeBase o name X.env (eval o X.env)=eval o X.env:=by rfl) (hline:(apos.endLine==cpos.line)=true:=by rfl):PE X (.Call (.Attribute o name apos) [] [] cpos) (tBM0 X.K T r to):=by
 intro pins s σ H Q I h;refine wpAny_Call_method0_late hbase hline (thn (ho pins s σ H _ I h) fun v s1 ⟨x,H1,I1,r1,ty,q1⟩=>?_);obtain ⟨h1,h2⟩:=tyV_is I1 r1 ty;exact ⟨T,id,pa,slot,hty,h1,h2,Calls.callWith_builtin rfl (PySem.evalArgs_none (hm pins s1 σ H1 x [] v [] Q I1 r1 .nil q1))⟩
theorem pe_bm (pa:PlainAttrs T)(slot:Slot T name id)(hty:typeOf (.builtin id)=pure (.type "method_descriptor"))(hm:MtR X id r)(ho:PE X o to)(ha:PA X (e::es) t)
   (hbase:attributeBase o name X.env (eval o X.env)=eval o X.env:=by rfl)
   (hfew:((backTo cpos (starEach (e::es) X.env)).all (fun x=>!x.1)&&(backToKw cpos (keywordEach [] X.env)).all (fun x=>x.1.isSome)
     && decide ((e::es).length+([]:List Keyword).length+(if ([]:List Keyword).isEmpty then 0 else 1)<30))=true:=by rfl)
   (hline:(apos.endLine==cpos.line)=true:=by rfl) (hs:starEach (e::es) X.env=(false,eval e X.env)::starEach es X.env:=by rfl) (hplain:(backTo cpos (starEach es X.env)).any (·.1)=false:=by rfl) :
   PE X (.Call (.Attribute o name apos) (e::es) [] cpos) (tBM X.K T r to t):=by
 intro pins s σ H Q I h;refine wpAny_Call_method_late hbase hfew hline rfl (thn (ho pins s σ H _ I h) fun v s1 ⟨x,H1,I1,r1,ty,q1⟩=>?_);obtain ⟨h1,h2⟩:=tyV_is I1 r1 ty;refine ⟨T,id,pa,slot,hty,h1,h2,?_⟩;have hA:=ha cpos pins s1 σ H1 _ I1 q1;rw [hs] at hA ⊢;refine Calls.callWith_builtin (by show (false||(backTo cpos (starEach es X.env)).any (·.1))=false;rw [hplain]<;>rfl) (Calls.evalArgs_plain ?_);exact thn hA fun us s2 ⟨vs,H2,I2,r2,q2⟩=>hm pins s2 σ H2 x vs v us Q I2 r1 r2 q2
end
def MtM (X:Cx) (id:String) (r:V→List V→Hp→VK→Prop):Prop :=
 ∀ (pins:List (Addr × Obj)) (s:Shared) (σ:St) (H:Hp) (x:V) (xs:List V) (v:Value) (us:List Value) (Q:VK),Inv X pins σ H s→RelV x v→Vals xs us→r x xs H Q →
   wpAny (model X.prog X.w) X.A (call (.builtin id) (v::us)) (EP X pins σ Q) X.xe s
theorem Vals.one:∀ {x:V} {us:List Value},Vals [x] us→∃ u,us=[u]∧RelV x u
 | _,_,.cons r .nil=>⟨_,rfl,r⟩
theorem Vals.two:∀ {x y:V} {us:List Value},Vals [x,y] us→∃ u v,us=[u,v]∧RelV x u∧RelV y v:=by
 intro x y us h;cases h with
 | cons r t =>
   cases t with
   | cons q t2 =>
     cases t2;exact ⟨_,_,rfl,r,q⟩
theorem Vals.zero:∀ {us:List Value},Vals [] us→us=[]
 | _,.nil=>rfl
theorem Vals.dropLast {xs:List V}{us:List Value}(h:Vals xs us):Vals xs.dropLast us.dropLast:=by
 induction h with
 | nil=>exact .nil
 | cons r t ih =>
   cases t with
   | nil=>exact .nil
   | cons q t'=>exact .cons r ih
theorem ZfP {α:Type} (l:List α):l.eraseIdx (l.length-1)=l.dropLast:=by
 induction l with
 | nil=>rfl
 | cons a r ih =>
   cases r with
   | nil=>rfl
   | cons b r =>
     have e:(a::b::r).length-1=((b::r).length-1)+1:=by have h1:(a::b::r).length=r.length+2:=rfl;have h2:(b::r).length=r.length+1:=rfl;omega
     rw [e,List.eraseIdx_cons_succ,ih]
     all_goals rfl
section
variable {X:Cx}{pins:List (Addr × Obj)}{σ:St}{H:Hp}{s:Shared}{l b:Addr}{xs ys zs:List V}
theorem Inv.lset {its its':List Value}{n:Nat}{f:Array Value→Array Value}{t':Nat}(I:Inv X pins σ H s)(hH:H l=some (.lst xs))
   (e:s.heap.get? l=some { cls:=.type "list",data:=.seq its.toArray n }) (hf:f its.toArray=its'.toArray) (hv:Vals ys its') (hz:ys.length≤sizeLine) :
   Inv X pins σ (upd H l (.lst ys)) { s with heap:=s.heap.update l (Obj.mapSeq f),toks:=t' }:=by
 have q:=PySem.IsL.update e f;rw [hf] at q;refine I.write (x:=l) (e:=l) (by rw [hH];exact trivial) (.inl rfl) (fun b' u hb hu=>(Heap.get?_update_other s.heap (Obj.mapSeq f) (Ne.symm hb)).trans hu) ⟨_,q⟩ ?_;exact ⟨hz,its',_,hv,q⟩
theorem Inv.lnew {its:List Value}{t':Nat}(I:Inv X pins σ H s)(hv:Vals ys its)(hz:ys.length≤sizeLine) :
   Inv X pins σ (upd H s.heap.objs.size (.lst ys)) { s with heap:=s.heap.push { cls:=.type "list",data:=.seq its.toArray },toks:=t' } :=
 I.laid (fun _ _ q=>Heap.get?_push_of_some _ q) (Nat.le_refl _) ⟨hz,its,0,hv,Heap.get?_push_size _ rfl⟩
theorem Inv.fresh (I:Inv X pins σ H s):H s.heap.objs.size=none:=I.hok.fresh (Nat.le_refl _)
theorem Inv.lstM (I:Inv X pins σ H s)(hH:H l=some (.lst xs)):xs.length≤sizeLine∧∃ (its:List Value) (n:Nat),Vals xs its∧xs.length=its.length∧s.heap.get? l=some { cls:=.type "list",data:=.seq its.toArray n }:=by obtain ⟨z,its,n,r,e⟩:=I.hok l _ hH;exact ⟨z,its,n,r,r.length,e⟩
theorem notLongL {n:Nat}(h:n≤sizeLine):Builtin.List.listTooLong n=false:=by unfold Builtin.List.listTooLong;exact decide_eq_false (by omega)
end
section
variable {X:Cx}
def rAppend:V→List V→Hp→VK→Prop:=fun x vs H Q=>∃ l xs y,x=.ref l∧vs=[y]∧H l=some (.lst xs)∧xs.length<sizeLine∧Q .non (upd H l (.lst (xs++[y])))
theorem Zbm:MtM X "list.append" rAppend:=by intro pins s σ H x vs v us Q I rx rv h;obtain ⟨l,xs,y,rfl,rfl,hH,hz,q⟩:=h;cases rx;obtain ⟨u,rfl,ru⟩:=rv.one;obtain ⟨z,its,n,r,hl,e⟩:=I.lstM hH;refine call_meets F.slot_list_append ⟨_,e,rfl⟩ F.entry_list_append (F.args_list_append_2 _ _) (PySem.list_append l its.toArray n u (by rw [List.size_toArray];omega)) ⟨e,?_⟩;refine ⟨.non,_,I.lset (its':=its++[u]) hH e (by simp) (r.append (.cons ru .nil)) ?_,rfl,q⟩;rw [List.length_append,List.length_singleton];omega
def rExtend:V→List V→Hp→VK→Prop:=fun x vs H Q=>∃ l b xs zs,x=.ref l∧vs=[.ref b]∧H l=some (.lst xs)∧H b=some (.lst zs)∧xs.length+zs.length≤sizeLine∧Q .non (upd H l (.lst (xs++zs)))
theorem Zd2:MtM X "list.extend" rExtend:=by
 intro pins s σ H x vs v us Q I rx rv h;obtain ⟨l,b,xs,zs,rfl,rfl,hH,hB,hz,q⟩:=h;cases rx;obtain ⟨u,rfl,ru⟩:=rv.one;cases ru;obtain ⟨z,its,n,r,hl,e⟩:=I.lstM hH;obtain ⟨z2,its2,n2,r2,hl2,e2⟩:=I.lstM hB;have hsz:its.toArray.size+its2.toArray.size≤sizeLine:=by rw [List.size_toArray,List.size_toArray];omega
 have hlong:¬ (!its.toArray.isEmpty&&Builtin.List.listTooLong (its.toArray.size+its2.toArray.size))=true:=by rw [notLongL hsz,Bool.and_false];exact Bool.false_ne_true
 refine call_meets F.slot_list_extend ⟨_,e,rfl⟩ F.entry_list_extend (F.args_list_extend_2 _ _)
   (AutoSeq1.list_extend_list_list_0 l its.toArray n b its2.toArray n2 hlong (by rw [List.size_toArray];omega) (by omega)) ⟨e,e2,?_⟩
 refine ⟨.non,_,I.lset (its':=its++its2) hH e (by simp) (r.append r2) ?_,rfl,q⟩;rw [List.length_append];omega
def rPop:V→List V→Hp→VK→Prop:=fun x vs H Q=>∃ l xs y,x=.ref l∧vs=[]∧H l=some (.lst xs)∧xs[xs.length-1]?=some y∧Q y (upd H l (.lst xs.dropLast))
theorem mt_pop:MtM X "list.pop" rPop:=by
 intro pins s σ H x vs v us Q I rx rv h;obtain ⟨l,xs,y,rfl,rfl,hH,hy,q⟩:=h;cases rx;have hus:=rv.zero;subst hus;obtain ⟨z,its,n,r,hl,e⟩:=I.lstM hH;obtain ⟨u,hu,ru⟩:=r.get hy;have hy':its.toArray[its.toArray.size-1]?=some u:=by show its.toArray[its.length-1]?=some u;rw [← Array.getElem?_toList,← hl];exact hu
 refine call_meets F.slot_list_pop ⟨_,e,rfl⟩ F.entry_list_pop (F.args_list_pop_1 _) (MeetsSeq.list_pop_last l its.toArray n u hy' (by rw [List.size_toArray];omega)) ⟨e,?_⟩;refine ⟨y,_,I.lset (its':=its.dropLast) hH e ?_ r.dropLast ?_,ru,q⟩
 · show its.toArray.eraseIdxIfInBounds (its.toArray.size-1)=its.dropLast.toArray;rw [List.size_toArray,List.eraseIdxIfInBounds_toArray,ZfP]
 · rw [List.length_dropLast];omega
def rCat:R2:=fun x y H Q=>∃ l b xs zs,x=.ref l∧y=.ref b∧H l=some (.lst xs)∧H b=some (.lst zs)∧xs.length+zs.length≤sizeLine∧∀ p,H p=none→Q (.ref p) (upd H p (.lst (xs++zs)))
theorem ZfB:OpR X (binaryOp .Add) rCat:=by
 intro pins s σ H x y v u Q I rx ry h;obtain ⟨l,b,xs,zs,rfl,rfl,hH,hB,hz,q⟩:=h;cases rx;cases ry;obtain ⟨z,its,n,r,hl,e⟩:=I.lstM hH;obtain ⟨z2,its2,n2,r2,hl2,e2⟩:=I.lstM hB;refine PySem.P.add_list e e2 ?_ (by rw [List.size_toArray,List.size_toArray];omega);have ea:its.toArray++its2.toArray=(its++its2).toArray:=by simp
 rw [ea];exact ⟨.ref _,_,I.lnew (t':=s.toks) (r.append r2) (by rw [List.length_append];omega),rfl,q _ I.fresh⟩
end
section
variable {prog:Program}{w:World}{A:Around}{E:Value→Shared→Prop}{s:Shared}
set_option maxRecDepth 100000 in
end
section
variable {X:Cx}
end
end L2
namespace Att
open PySem PySem.W PySem.Calls PyProof.Rows
theorem Zdf {P:Params}{h:Heap}:∀ (ns:List Int) (vs:List Value),WellAll P h vs (ns.map WData.int)→IntsAre vs ns:=by
 intro ns;induction ns with
 | nil =>
   intro vs w;rw [List.map_nil] at w;cases w;exact .nil
 | cons n ns ih =>
   intro vs w;rw [List.map_cons] at w;cases w with
   | cons a b =>
     cases a;exact .cons _ _ (ih _ b)
theorem ZgV {l:OpenLaw}{n:Nat}(hn:l.most=some n){P:Params}{h:Heap}{args:List WData}{vals:List Value}
   (hpre:l.row.toRowW.claim.pre args=true) (hwl:WellAll P h vals args) :
   ∃ a vs ns,vals=[Value.ref a]∧args=[WData.list (ns.map WData.int)]∧h.get? a=some { cls:=.type "list",data:=.seq vs.toArray }∧IntsAre vs ns∧ns.length≤n:=by
 have hsh:WShape.hasAll [] args [.list .int]=true:=(pre_splitW hpre).1;have hc:l.pre.holds [] { args:=args }=true:=(pre_splitW hpre).2;obtain ⟨d,r,rfl,h1,h2⟩:=hasAllW_cons hsh;obtain rfl:=hasAllW_nil h2;obtain ⟨xs,rfl,h3⟩:=hasW_list h1;obtain ⟨ns,rfl⟩:=items_int h3;have hlen:ns.length≤n:=by
   unfold OpenLaw.pre at hc;have h4:(WTm.not (.lt (.lit (.int (n:Int))) (.len (.arg 0)))).holds [] { args:=[.list (ns.map .int)] }=true:=by have h4:=(holds_andW hc).1;rw [hn] at h4;exact h4
   have h5:=condW_of h4 (w_not (w_lt w_lit (w_len_list (w_arg rfl))));rw [List.length_map] at h5;refine Nat.le_of_not_lt fun q=>?_
   have q':(n:Int)<((ns.length:Nat):Int):=by omega
   first
     | (rw [decide_eq_true q'] at h5;exact absurd h5 (by decide))
     | (simp at h5;omega)
 cases hwl with
 | cons w1 w2 =>
   cases w2;cases w1 with
   | list ho hall=>exact ⟨_,_,ns,rfl,rfl,ho,Zdf ns _ hall,hlen⟩
theorem ZgW (l:OpenLaw)(args:List WData):l.row.toRowW.claim.post args (.bool true) args=true :=
 postW_of (r:=l.row.toRowW) (X:=(true==true))
   (show WShape.has [] (.bool true) .bool=true by first | rfl | decide | simp [WShape.has,WShape.arms,WShape.armsAll])
   (show (WTm.eq .res (.lit (.bool true))).value [] { args:=args,res:=some (.bool true),after:=args }=some (.bool (true==true)) from w_eq_bool (w_res rfl) w_lit) rfl
theorem attach_call {l:OpenLaw}{n:Nat}{q:Program}{loose:List Str}{XP:(Str→Option Value)→Heap→Prop}{YP:World→Heap→Prop}{d:DefRec}
   (hn:l.most=some n) (hdf:d.params.defaults=[])
   (call:∀ (w:World) (s₀ s₁:Shared) (mg mb:Str→Option Value) (fa:Addr) (o:Obj) (pm cd doc:Value) (a:Addr) (vs:List Value) (ns:List Int),
     Ground q loose [] XP w s₀ mg mb s₁.heap→YP w s₁.heap →
     s₁.heap.get? fa=some o→o.data=.func (docDef d.name d.params d.body d.scope pm cd doc)→s₁.heap.CodeRec cd d.name→mg d.name=some (.ref fa) →
     s₁.heap.get? a=some { cls:=.type "list",data:=.seq vs.toArray }→IntsAre vs ns→ns.length≤n→s₁.gens=#[] →
     codeAny (model l.prog w) callerA (.call (.ref fa) ⟨[.ref a],[]⟩) (fun r s'=>r=.ok (.ret (.bool true))∧OldK s₁.heap s'.heap∧s'.os=s₁.os∧AllBare s'.gens) s₁) :
   WalkO q loose XP YP l.row.toRowW d [] (fun f vs=>PySem.call f vs):=by
 intro w s₀ s₁ mg mb G Y fa o pm cd doc dV kV ho hd hcd hD hmg hg args vals as hpre hlay hrd hwl hlo;obtain rfl:dV=.none:=Dflts.none hD hdf;obtain rfl:kV=.none:=Dflts.noKw hD;obtain ⟨a,vs,ns,rfl,rfl,hobj,hints,hlen⟩:=ZgV hn hpre hwl;refine enter_call (codeAny_mono (call w s₀ s₁ mg mb fa o pm cd doc a vs ns G Y ho (fd_plain hd) hcd hmg hobj hints hlen hg) fun r s' hq=>?_);obtain ⟨rfl,h2,h3,h4⟩:=hq;exact ⟨.inl ⟨.bool true,.bool true,[],rfl,fun _=>rfl,.bool true,ZgW l _,fun _=>⟨List.Pairwise.nil,fun _ hm=>(nomatch hm)⟩⟩,h2,h3,h4⟩
section
variable {prog:Program}{w:World}{A:Around}{E:Value→Shared→Prop}{s:Shared}{K:Frag}
end
end Att
namespace L2
open PySem PySem.Spec PyProof.Rows
theorem Zd8:∀ {vs:List Value} {ns:List Int},IntsAre vs ns→Vals (ns.map V.int) vs
 | _,_,.nil=>.nil
 | _,_,.cons n t h=>.cons ⟨t,rfl⟩ (Zd8 h)
def Only (H:Hp):Prop:=∀ b,H b=none∨∃ o xs,H b=some (.frz o (.lst xs))
theorem law_call {P:Program} {w:World} {K:PySem.W.Frag} {mg mb:Str→Option Value} {CX:CXT} {k:Nat} {fa a:Addr} {fd:FuncData} {x:Str} {sp:Sp} {s₁:Shared} {vs:List Value} {ns:List Int}
   (KX:K.In s₁.heap) (hns:s₁.heap.Ns mainGlobals mg) (hb:s₁.heap.Ns builtinsNs mb) (hbb:∀ x:Str,x≠"__name__"→mb x=bootBuiltins x) (hlim:s₁.heap.NoLimit) (hg:s₁.gens=#[])
   (ha:s₁.heap.get? a=some { cls:=.type "list",data:=.seq vs.toArray }) (hi:IntsAre vs ns) (hl:ns.length≤sizeLine) (hr:Room k callerA)
   (F:∀ base:Heap,K.In base→base.Ns mainGlobals mg→FnOk P w K mg base CX k fa fd [x] sp) (hbind:∀ (s:Shared) (u:Value),BindsTo s fd ⟨[u],[]⟩ [(x,u)])
   (hsp:∀ H:Hp,Only H→SqL K H a (ns.map V.int)→sp [.ref a] H (fun v _=>v=.bl true) fun _ _ _=>False)
   (hCX:∀ H e s',CX [] H s₁ (fun _ _ _=>False) e s'→False) :
   codeAny (model P w) callerA (.call (.ref fa) ⟨[.ref a],[]⟩) (fun r s'=>r=.ok (.ret (.bool true))∧OldK s₁.heap s'.heap∧s'.os=s₁.os∧AllBare s'.gens) s₁:=by
 have rv:=Zd8 hi;have lenV:=hi.length
 have core : ∀ H:Hp,Only H→SqL K H a (ns.map V.int)→HOk P w H s₁.heap→(∀ b,H b≠none→b=a)→(H a≠none→K.lookup a=none) →
     codeAny (model P w) callerA (.call (.ref fa) ⟨[.ref a],[]⟩) (fun r s'=>r=.ok (.ret (.bool true))∧OldK s₁.heap s'.heap∧s'.os=s₁.os∧AllBare s'.gens) s₁:=by
   intro H hO hS hok hA hK;have base_of:∀ {b:Addr} {o:Obj},s₁.heap.get? b=some o→H b=none→(hidT s₁.heap H).get? b=some o:=fun e n=>hidT_get e n
   have noA:∀ {b:Addr} {o:Obj} {es:Array DictEntry} {ep:Nat},s₁.heap.get? b=some o→o.data=.dict es ep→H b=none:=fun {b o es ep} e d=>by
     cases q:H b with
     | none=>rfl
     | some u =>
       have e':b=a:=hA b (by rw [q];simp);subst e';rw [ha] at e;cases e;have d':Data.seq vs.toArray _=Data.dict es ep:=d;cases d'
   have nsK:∀ {b:Addr} {m:Str→Option Value},s₁.heap.Ns b m→(hidT s₁.heap H).Ns b m:=fun {b m} ⟨o,es,ep,e,d,r⟩=>⟨o,es,ep,base_of e (noA e d),d,r⟩
   have hKb:K.In (hidT s₁.heap H):=fun b o e=>base_of (KX b o e) (by
     cases q:H b with
     | none=>rfl
     | some u =>
       have e':b=a:=hA b (by rw [q];simp);subst e';rw [hK (by rw [q];simp)] at e;cases e)
   have hM:Mod K mg (hidT s₁.heap H):=⟨hKb,nsK hns,⟨mb,nsK hb,hbb⟩,let ⟨mc,h1,h2⟩:=hlim;⟨mc,nsK h1,h2⟩⟩
   have e0:Env0 P w K mg (hidT s₁.heap H) callerA [] s₁ H:=⟨rfl,hM,fun b o e=>of_hidT e,Nat.le_of_eq (Zg1 _ _),trivial,fun b hb=>absurd (show b∈([]:List Addr) from hb) (by simp),hok,.of_eq hg⟩
   refine codeAny_mono ((F _ hKb (nsK hns)).run callerA [] s₁ H ⟨[.ref a],[]⟩ [.ref a] [.ref a] _ _ hr e0 (hbind s₁ (.ref a)) (.cons rfl .nil) (hsp H hO hS)) fun r s' h=>?_
   cases r with
   | error e=>exact (hCX H e s' h).elim
   | ok fl =>
     cases fl with
     | next=>exact False.elim h
     | brk=>exact False.elim h
     | cont=>exact False.elim h
     | ret u =>
       obtain ⟨v,H',os,bare,un,hok',r',q⟩:=h;have q':v=.bl true:=q;subst q';obtain rfl:u=Value.bool true:=r';refine ⟨rfl,OldK.of_keep fun b o e=>?_,os,bare⟩;cases q:H b with
       | none=>exact un.keep b o e q (by intro z;exact absurd (show b∈([]:List Addr) from z) (by simp)) (by simp)
       | some u =>
         rcases hO b with z | ⟨ob,xs,z⟩
         · rw [q] at z;cases z
         · have z2:=un.frzs b ob _ z;obtain ⟨e1,_⟩:=hok b _ z;obtain ⟨e2,_⟩:=hok' b _ z2;rw [e] at e1;cases e1;exact e2
 cases hk:K.lookup a with
 | some o =>
   have e:=KX a o hk;rw [ha] at e;cases e;refine core (fun _=>none) (fun _=>.inl rfl) (.inr ⟨_,vs.toArray,_,hk,rfl,rfl,rfl,by rw [List.size_toArray,lenV];exact hl,by simpa using rv⟩) (fun b u z=>by have z':(none:Option HO)=some u:=z;cases z') (fun b z=>absurd rfl z) fun z=>absurd rfl z
 | none =>
   refine core (fun b=>if b=a then some (.frz { cls:=.type "list",data:=.seq vs.toArray } (.lst (ns.map V.int))) else none) (fun b=>?_) (.inl (.inr ⟨{ cls:=.type "list",data:=.seq vs.toArray },if_pos rfl⟩)) (fun b u z=>?_) (fun b z=>?_) fun _=>hk
   · by_cases hb:b=a
     · exact .inr ⟨_,_,if_pos hb⟩
     · exact .inl (if_neg hb)
   · by_cases hb:b=a
     · have z':=(if_pos hb).symm.trans z;cases z';subst hb;exact ⟨ha,by rw [List.length_map];exact hl,vs,_,rv,ha⟩
     · have z':=(if_neg hb).symm.trans z;cases z'
   · by_cases hb:b=a
     · exact hb
     · exact absurd (if_neg hb) z
abbrev KOf {K:PySem.W.Frag}{h:Heap}(_:K.In h):PySem.W.Frag:=K
theorem walk_of {l:PySem.W.OpenLaw} {n k:Nat} {q:Program} {loose:List Str} {XP:(Str→Option Value)→Heap→Prop} {YP:World→Heap→Prop} {d:DefRec} {K:Params→PySem.W.Frag} {CX:World→CXT} {sp:World→Sp} {x:Str}
   (hn:l.most=some n) (hn2:n≤sizeLine) (hdf:d.params.defaults=[]) (hr:Room k callerA)
   (hY:∀ (w:World) (h:Heap),YP w h→(K w.params).In h)
   (F:∀ (w:World) (mg:Str→Option Value) (fa:Addr) (h:Heap),(K w.params).In h→h.Ns mainGlobals mg→mg d.name=some (.ref fa) →
     ∃ fd:FuncData,(∀ (s:Shared) (u:Value),BindsTo s fd ⟨[u],[]⟩ [(x,u)]) ∧
       ∀ base:Heap,(K w.params).In base→base.Ns mainGlobals mg→FnOk l.prog w (K w.params) mg base (CX w) k fa fd [x] (sp w))
   (hsp:∀ (w:World) (H:Hp) (a:Addr) (ns:List Int),ns.length≤n→Only H→SqL (K w.params) H a (ns.map V.int)→sp w [.ref a] H (fun v _=>v=.bl true) fun _ _ _=>False)
   (hCX:∀ (w:World) (H:Hp) (s:Shared) (e:Value) (s':Shared),CX w [] H s (fun _ _ _=>False) e s'→False) :
   PySem.W.WalkO q loose XP YP l.row.toRowW d [] (fun f vs=>PySem.call f vs):=by
 refine Att.attach_call hn hdf fun w s₀ s₁ mg mb fa o pm cd doc a vs ns G Y ho hd hcd hmg hobj hints hlen hg=>?_
 have KX:=hY w _ Y;obtain ⟨fd,hb,hF⟩:=F w mg fa _ KX G.T.g hmg;exact law_call KX G.T.g G.T.b G.T.builtins G.T.nolimit hg hobj hints (Nat.le_trans hlen hn2) hr hF hb (fun H hO hS=>hsp w H a ns hlen hO hS) fun H e s'=>hCX w H s₁ e s'
def inClass (s:Stmt)(j:Nat):Stmt:=match s with
 | .ClassDef _ _ _ body _ _ _ _ _ _ _=>body.getD j (.Pass ⟨0,0,0,0⟩)
 | _=>.Pass ⟨0,0,0,0⟩
def defArgs (s:Stmt):Arguments:=match s with
 | .FunctionDef _ a _ _ _ _ _ _ _ _=>a
 | _=>{ posonlyargs:=[],args:=[],vararg:=none,kwonlyargs:=[],kw_defaults:=[],kwarg:=none,defaults:=[] }
def defBody (s:Stmt):List Stmt:=match s with
 | .FunctionDef _ _ b _ _ _ _ _ _ _=>b
 | _=>[]
def defScope (s:Stmt):Scope:=match s with
 | .FunctionDef _ _ _ _ _ _ sc _ _ _=>sc
 | _=>{ kind:=.function,names:=[],isGenerator:=false,isCoroutine:=false }
abbrev CX0:CXT:=fun _ _ _ _ _ _=>False
abbrev E0:XK:=fun _ _ _=>False
theorem pass0 {X:Cx}:Passes CX0 X E0:=fun _ _ _ _ _ _ _ h=>h.elim
structure Fun (K:PySem.W.Frag)(x qual:Str)(st:Stmt)(f:Addr)(fd:FuncData):Prop where
 ex:∃ (oc:Value) (od:Option Addr) (kV doc pm:Value) (an:Option Addr) (cdv ct:Value) (osl:Array (Option Value)),
   fd=PySem.W.fnOf x qual (defArgs st) (defBody st) (defScope st) .none kV doc pm an cdv ct∧K.lookup f=some ⟨oc,od,.func fd,osl⟩∧PySem.W.codeIn K cdv qual=true
 kp:PySem.W.keepIn K (.ref f)=true
section
variable {P:Program}{w:World}{K:PySem.W.Frag}{mg:Str→Option Value}{base:Heap}
theorem Fun.ok {x qual:Str}{st:Stmt}{f:Addr}{fd:FuncData}{N ps:List Str}{k:Nat}{sp:Sp}(F:Fun K x qual st f fd)(S:FnScope N ps (defScope st))(len:∀ vs H Q E,sp vs H Q E→vs.length=ps.length)
   (hbody:∀ (cdv:Value) (A:Around) (outer:List Env) (s:Shared) (H:Hp) (vs:List V) (Q:VK) (E:XK),Room k (A.deeper (envOfC qual (defScope st) s.heap.objs.size f cdv))→sp vs H Q E →
     ∃ t,PSs (cxOf CX0 P w K mg base N qual (defScope st) f cdv A outer s H E).nox (defBody st) t∧t { nx:=fun _ H'=>Q .non H',rt:=Q } (start N vs) H):FnOk P w K mg base CX0 (k+1) f fd ps sp:=by
 obtain ⟨oc,od,kV,doc,pm,an,cdv,ct,osl,rfl,lk,hcd⟩:=F.ex;refine fn_of lk hcd S len fun A outer s H vs Q E hr hsp=>?_
 obtain ⟨t,h,q⟩:=hbody cdv A outer s H vs Q E hr hsp;exact ⟨t,h.nox,q⟩
theorem Fun.binds {x qual:Str}{st:Stmt}{f:Addr}{fd:FuncData}{ps:List Str}(F:Fun K x qual st f fd)
   (h:∀ (kV doc pm:Value) (an:Option Addr) (cdv ct:Value) (us:List Value),us.length=ps.length→bindArgs (PySem.W.fnOf x qual (defArgs st) (defBody st) (defScope st) .none kV doc pm an cdv ct) ⟨us,[]⟩=pure (ps.zip us)):Binds K fd ps []:=by
 obtain ⟨oc,od,kV,doc,pm,an,cdv,ct,osl,rfl,lk,hcd⟩:=F.ex;exact .all (h kV doc pm an cdv ct)
theorem ZbY {x qual:Str}{st:Stmt}{f:Addr}{oc:Value}{od an:Option Addr}{osl:Array (Option Value)}{kV doc pm cdv ct:Value}(l:K.lookup f=some ⟨oc,od,.func (PySem.W.fnOf x qual (defArgs st) (defBody st) (defScope st) .none kV doc pm an cdv ct),osl⟩)
   (c:PySem.W.codeIn K cdv qual=true) (k:PySem.W.keepIn K (.ref f)=true):Fun K x qual st f (PySem.W.fnOf x qual (defArgs st) (defBody st) (defScope st) .none kV doc pm an cdv ct):=⟨⟨oc,od,kV,doc,pm,an,cdv,ct,osl,rfl,l,c⟩,k⟩
end
section
variable {X:Cx}
theorem pv (i:Nat){x:Str}{pos:Pos}(hN:X.N[i]?=some x:=by rfl)(hv:Vis X.env.scope x:=by first | exact Or.inl rfl | exact Or.inr (Or.inl rfl) | exact Or.inr (Or.inr rfl))(hd:(x==("__debug__":Str))=false:=by decide)
   (hcd:(x==("__classdict__":Str))=false:=by decide):PE X (.Name x pos) (tVar i):=pe_var hN hv hd hcd
end
def Same (H H':Hp):Prop:=∀ b o,H b=some o→H' b=some o
theorem Same.refl (H:Hp):Same H H:=fun _ _ h=>h
theorem Same.trans {H H1 H2:Hp}(a:Same H H1)(b:Same H1 H2):Same H H2:=fun c o h=>b c o (a c o h)
theorem Same.seq {K:PySem.W.Frag}{H H':Hp}{a:Addr}{xs:List V}(e:Same H H')(h:SqL K H a xs):SqL K H' a xs:=by
 rcases h with (h | ⟨o,h⟩) | h
 · exact .inl (.inl (e _ _ h))
 · exact .inl (.inr ⟨o,e _ _ h⟩)
 · exact .inr h
end L2
namespace L2
open PySem PySem.Spec PyProof.Rows
section
variable {κ:Type}[DecidableEq κ]
def valV (kvs:List (κ × V))(k:κ):Option V:=(kvs.find? fun kv=>decide (kv.1=k)).map (·.2)
def putK (kvs:List (κ × V))(k:κ)(v:V):List (κ × V) :=
 if (kvs.any fun kv=>decide (kv.1=k))=true then kvs.map (fun kv=>if kv.1=k then (kv.1,v) else kv) else kvs++[(k,v)]
theorem Za6 {p:κ × V}{r:List (κ × V)}{k:κ}(e:p.1=k):valV (p::r) k=some p.2:=by simp [valV,List.find?_cons,e]
theorem Za4 {p:κ × V}{r:List (κ × V)}{k:κ}(e:¬ p.1=k):valV (p::r) k=valV r k:=by simp [valV,List.find?_cons,e]
theorem ZcC (k:κ):∀ kvs:List (κ × V),(kvs.any fun kv=>decide (kv.1=k))=(valV kvs k).isSome
 | []=>rfl
 | p::r=>by
   rw [List.any_cons];by_cases e:p.1=k
   · simp only [Za6 e,decide_eq_true e,Bool.true_or,Option.isSome_some]
   · rw [Za4 e,decide_eq_false e,Bool.false_or];exact ZcC k r
theorem Zfl (k j:κ)(y:V):∀ kvs:List (κ × V),valV (kvs.map fun kv=>if kv.1=k then (kv.1,y) else kv) j=(valV kvs j).map fun x=>if j=k then y else x
 | []=>rfl
 | p :: r=>by
   have ih:=Zfl k j y r;rw [List.map_cons];by_cases h:p.1=k
   · rw [if_pos h];by_cases e:p.1=j
     · rw [Za6 (p:=(p.1,y)) e,Za6 e,Option.map_some,if_pos (e.symm.trans h)]
     · rw [Za4 (p:=(p.1,y)) e,Za4 e,ih]
   · rw [if_neg h];by_cases e:p.1=j
     · rw [Za6 (p:=p) e,Za6 e,Option.map_some,if_neg (fun z=>h (e.trans z))]
     · rw [Za4 (p:=p) e,Za4 e,ih]
theorem Zd3 (k j:κ)(y:V):∀ kvs:List (κ × V),valV kvs k=none→valV (kvs++[(k,y)]) j=if j=k then some y else valV kvs j
 | [],_=>by
   by_cases e:k=j
   · rw [if_pos e.symm];exact Za6 (p:=(k,y)) e
   · rw [if_neg (fun z=>e z.symm)];exact Za4 (p:=(k,y)) e
 | p::r,hn=>by
   rw [List.cons_append];have hk:¬ p.1=k:=fun z=>by rw [Za6 z] at hn;cases hn
   rw [Za4 hk] at hn;have ih:=Zd3 k j y r hn;by_cases e:p.1=j
   · rw [Za6 e,Za6 e,if_neg (fun z=>hk (e.trans z))]
   · rw [Za4 e,Za4 e,ih]
theorem ZeL (kvs:List (κ × V))(k j:κ)(y:V):valV (putK kvs k y) j=if j=k then some y else valV kvs j:=by
 unfold putK;by_cases a:(kvs.any fun kv=>decide (kv.1=k))=true
 · rw [if_pos a,Zfl];rw [ZcC] at a;by_cases e:j=k
   · obtain ⟨x,hx⟩:=Option.isSome_iff_exists.mp a;rw [if_pos e,e,hx,Option.map_some,if_pos rfl]
   · rw [if_neg e];cases valV kvs j with
     | none=>rfl
     | some x=>rw [Option.map_some,if_neg e]
 · rw [if_neg a];refine Zd3 k j y kvs ?_;rw [ZcC] at a;cases q:valV kvs k with
   | none=>rfl
   | some x=>rw [q] at a;exact (a rfl).elim
theorem Zbs (kvs:List (κ × V))(k:κ)(v:V):(putK kvs k v).length≤kvs.length+1:=by
 unfold putK;split
 · rw [List.length_map];omega
 · rw [List.length_append,List.length_cons,List.length_nil];omega
theorem RelO.isSome_eq {o:Option V}{u:Option Value}(r:RelO o u):o.isSome=u.isSome:=by
 cases o with
 | none=>cases u with
   | none=>rfl
   | some _=>exact (show False from r).elim
 | some _=>cases u with
   | none=>exact (show False from r).elim
   | some _=>rfl
theorem KV.val {kvs:List (κ × V)}{vs:List (κ × Value)}(r:KV kvs vs)(k:κ):RelO (valV kvs k) (valueAt vs k):=by
 unfold KV at r;induction r with
 | nil=>exact True.intro
 | @cons p q ps qs h t ih =>
   obtain ⟨h1,h2⟩:=h;by_cases e:p.1=k
   · have e':q.1=k:=h1.symm.trans e;have b:valueAt (q::qs) k=some q.2:=by simp [valueAt,List.find?_cons,e']
     rw [Za6 e,b];exact h2
   · have e':¬ q.1=k:=fun z=>e (h1.trans z)
     have b:valueAt (q::qs) k=valueAt qs k:=by simp [valueAt,List.find?_cons,e']
     rw [Za4 e,b];exact ih
theorem KV.any {kvs:List (κ × V)}{vs:List (κ × Value)}(r:KV kvs vs)(k:κ):(kvs.any fun kv=>decide (kv.1=k))=vs.any fun kv=>decide (kv.1=k):=by
 unfold KV at r;induction r with
 | nil=>rfl
 | cons h t ih=>rw [List.any_cons,List.any_cons,ih,h.1]
theorem KV.repl {kvs:List (κ × V)}{vs:List (κ × Value)}(r:KV kvs vs)(k:κ){y:V}{u:Value}(ry:RelV y u) :
   KV (kvs.map fun kv=>if kv.1=k then (kv.1,y) else kv) (vs.map fun kv=>if kv.1=k then (kv.1,u) else kv):=by
 unfold KV at r ⊢;induction r with
 | nil=>exact .nil
 | @cons p q ps qs h t ih =>
   rw [List.map_cons,List.map_cons];refine .cons ?_ ih;obtain ⟨h1,h2⟩:=h;by_cases e:p.1=k
   · rw [if_pos e,if_pos (h1.symm.trans e)];exact ⟨h1,ry⟩
   · rw [if_neg e,if_neg (fun z=>e (h1.trans z))];exact ⟨h1,h2⟩
theorem KV.put {kvs:List (κ × V)}{vs:List (κ × Value)}(r:KV kvs vs)(k:κ){y:V}{u:Value}(ry:RelV y u):KV (putK kvs k y) (stored vs k u):=by
 unfold putK stored;rw [r.any k];by_cases e:(vs.any fun kv=>decide (kv.1=k))=true
 · rw [if_pos e,if_pos e];exact r.repl k ry
 · rw [if_neg e,if_neg e];exact Paired.snoc r ⟨rfl,ry⟩
theorem KV.keys {kvs:List (κ × V)}{vs:List (κ × Value)}(r:KV kvs vs):kvs.map (·.1)=vs.map (·.1):=by
 unfold KV at r;induction r with
 | nil=>rfl
 | cons h t ih=>rw [List.map_cons,List.map_cons,ih,h.1]
theorem KV.length {kvs:List (κ × V)}{vs:List (κ × Value)}(r:KV kvs vs):kvs.length=vs.length:=Paired.length r
end
theorem kV_is {P:Program}{w:World}{k:Key}{u:Value}(r:RelV (kV k) u):(mixKind P w).is k u=true:=by
 cases k with
 | inl i=>obtain ⟨t,e⟩:=(show ∃ t,u=Value.int i t from r);subst e;exact Ze9 P w i t
 | inr x=>obtain ⟨t,e⟩:=(show ∃ t,u=Value.str x t from r);subst e;exact Ze5 P w x t
theorem Zd4 {P:Program}{w:World}:∀ {ks:List Key} {us:List Value},Vals (ks.map kV) us→ItemsAre (mixKind P w) ks us
 | [],_,r=>by rw [List.map_nil] at r;cases r;exact .nil
 | k::ks,_,r=>by
   rw [List.map_cons] at r;cases r with
   | cons h t=>exact .cons (kV_is h) (Zd4 t)
abbrev KT (H:Hp):List (List Key × V)→List (List Key × Addr × Value)→Prop:=Paired fun p q=>p.1=q.1∧H q.2.1=some (.tup (p.1.map kV))∧RelV p.2 q.2.2
theorem KT.val {H:Hp}{kvs:List (List Key × V)}{xs:List (List Key × Addr × Value)}(r:KT H kvs xs)(k:List Key):RelO (valV kvs k) ((atKey xs k).map (·.2)):=by
 induction r with
 | nil=>exact True.intro
 | @cons p q ps qs h t ih =>
   obtain ⟨h1,_,h2⟩:=h;by_cases e:p.1=k
   · have e':q.1=k:=h1.symm.trans e;have b:atKey (q::qs) k=some q.2:=by simp [atKey,List.find?_cons,e']
     rw [Za6 e,b];exact h2
   · have e':¬ q.1=k:=fun z=>e (h1.trans z)
     have b:atKey (q::qs) k=atKey qs k:=by simp [atKey,List.find?_cons,e']
     rw [Za4 e,b];exact ih
theorem KT.repl {H:Hp}{kvs:List (List Key × V)}{xs:List (List Key × Addr × Value)}(r:KT H kvs xs)(k:List Key){y:V}{u:Value}(ry:RelV y u) :
   KT H (kvs.map fun kv=>if kv.1=k then (kv.1,y) else kv) (xs.map (putAt k u)):=by
 induction r with
 | nil=>exact .nil
 | @cons p q ps qs h t ih =>
   rw [List.map_cons,List.map_cons];refine .cons ?_ ih;obtain ⟨h1,h2,h3⟩:=h;unfold putAt;by_cases e:p.1=k
   · rw [if_pos e,if_pos (h1.symm.trans e)];exact ⟨h1,h2,ry⟩
   · rw [if_neg e,if_neg (fun z=>e (h1.trans z))];exact ⟨h1,h2,h3⟩
theorem KT.put {H:Hp}{kvs:List (List Key × V)}{xs:List (List Key × Addr × Value)}(r:KT H kvs xs)(k:List Key){b:Addr}{y:V}{u:Value}(hb:H b=some (.tup (k.map kV)))(ry:RelV y u) :
   KT H (putK kvs k y) (storedH xs k b u):=by
 have e:(kvs.any fun kv=>decide (kv.1=k))=(atKey xs k).isSome:=by rw [ZcC,(r.val k).isSome_eq,Option.isSome_map]
 unfold putK storedH;rw [e];by_cases q:(atKey xs k).isSome=true
 · rw [if_pos q,if_pos q];exact r.repl k ry
 · rw [if_neg q,if_neg q];exact Paired.snoc r ⟨rfl,hb,ry⟩
theorem KT.keeps {H H':Hp}{kvs:List (List Key × V)}{xs:List (List Key × Addr × Value)}(r:KT H kvs xs)(ht:∀ b ys,H b=some (.tup ys)→H' b=some (.tup ys)):KT H' kvs xs :=
 Paired.mapP r fun _ _ z=>⟨z.1,ht _ _ z.2.1,z.2.2⟩
section
variable {P:Program}{w:World}{H:Hp}{h:Heap}{a:Addr}
theorem rd_of {u:HO}(ok:HOk P w H h)(e:Rd H a u):ObjOk P w H h a u:=e.ok ok
theorem ZeT {kvs:List (Key × V)}(ok:HOk P w H h)(e:Rd H a (.dK kvs)):kvs.length≤sizeLine∧(a==sysModules)=false∧∃ vs,KV kvs vs∧h.DictOf (mixKind P w) a vs :=
 show ObjOk P w H h a (.dK kvs) from rd_of ok e
theorem dk_of {kvs:List (Key × V)}(ok:HOk P w H h)(e:H a=some (.dK kvs)):kvs.length≤sizeLine∧(a==sysModules)=false∧∃ vs,KV kvs vs∧h.DictOf (mixKind P w) a vs:=ZeT ok (.inl e)
theorem ZeG {ks:List Key}(ok:HOk P w H h)(e:H a=some (.tup (ks.map kV))):(tupleKind (mixKind P w)).is h ks a:=by
 obtain ⟨_,its,r,o,h1,h2,n,h3⟩:=(show ObjOk P w H h a (.tup (ks.map kV)) from ok a _ e)
 exact ⟨o,its.toArray,n,h1,h2,h3,by simpa using Zd4 r⟩
theorem dt_rd {kvs:List (List Key × V)} (ok:HOk P w H h) (e:Rd H a (.dT kvs)):kvs.length≤sizeLine∧(a==sysModules)=false ∧
   ∃ xs,KT H kvs xs∧h.DictOfH (tupleKind (mixKind P w)) a xs:=by
 obtain ⟨z,y,xs,r,o,es,ep,h1,h2,h3,h4,h5⟩:=(show ObjOk P w H h a (.dT kvs) from rd_of ok e)
 refine ⟨z,y,xs,r,o,es,ep,h1,h2,h3,h4,fun x hx=>?_,h5⟩;have all:∀ {l:List (List Key × V)} {m:List (List Key × Addr × Value)},KT H l m→∀ x∈m,(tupleKind (mixKind P w)).is h x.1 x.2.1:=by
   intro l m q;induction q with
   | nil=>intro x hx;exact nomatch hx
   | @cons p q ps qs hq t ih =>
     intro x hx;rcases List.mem_cons.mp hx with e | hx
     · subst e;exact ZeG ok (by rw [← hq.1];exact hq.2.1)
     · exact ih x hx
 exact all r x hx
theorem dt_of {kvs:List (List Key × V)}(ok:HOk P w H h)(e:H a=some (.dT kvs)):kvs.length≤sizeLine∧(a==sysModules)=false ∧
   ∃ xs,KT H kvs xs∧h.DictOfH (tupleKind (mixKind P w)) a xs:=dt_rd ok (.inl e)
end
def DGet (H:Hp)(a:Addr)(y:V)(r:Option V):Prop :=
 (∃ kvs k,Rd H a (.dK kvs)∧y=kV k∧r=valV kvs k)∨∃ kvs k b,Rd H a (.dT kvs)∧y=.ref b∧H b=some (.tup (k.map kV))∧r=valV kvs k
def DPut (H:Hp)(a:Addr)(y v:V)(H':Hp):Prop :=
 (∃ kvs k,H a=some (.dK kvs)∧y=kV k∧kvs.length<sizeLine∧H'=upd H a (.dK (putK kvs k v))) ∨
 ∃ kvs k b,H a=some (.dT kvs)∧y=.ref b∧H b=some (.tup (k.map kV))∧kvs.length<sizeLine∧H'=upd H a (.dT (putK kvs k v))
theorem DGet.k {H:Hp}{a:Addr}{kvs:List (Key × V)}{k:Key}(e:H a=some (.dK kvs)):DGet H a (kV k) (valV kvs k):=.inl ⟨kvs,k,.inl e,rfl,rfl⟩
theorem DPut.k {H:Hp}{a:Addr}{kvs:List (Key × V)}{k:Key}{v:V}(e:H a=some (.dK kvs))(hl:kvs.length<sizeLine):DPut H a (kV k) v (upd H a (.dK (putK kvs k v))):=.inl ⟨kvs,k,e,rfl,hl,rfl⟩
section
variable {X:Cx}{pins:List (Addr × Obj)}{σ:St}{H:Hp}{s:Shared}{a:Addr}{y v:V}{u r:Value}{o:Option V}{A:Around}{E:Value→Shared→Prop}
theorem Inv.big (I:Inv X pins σ H s):sysModules<s.heap.objs.size:=by have h:mainGlobals<s.heap.objs.size:=(I.mod.glob.keeps I.bk).lt;exact Nat.lt_trans (by decide) h
theorem ZgX {Q:Value→Shared→Prop}(hu:A.units+1<cLine)(I:Inv X pins σ H s)(g:DGet H a y (some v))(ry:RelV y u)(h:∀ w' s',Inv X pins σ H s'→RelV v w'→Q w' s') :
   wpAny (model X.prog X.w) A (getItem (.ref a) u) Q E s:=by
 rcases g with ⟨kvs,k,e,ey,l⟩ | ⟨kvs,k,b,e,ey,eb,l⟩
 · subst ey;obtain ⟨z,hd,vs,rel,dd⟩:=ZeT I.hok e;obtain ⟨w',hw,rw'⟩:=RelO.some_of (v:=v) (o:=valueAt vs k) (by rw [l];exact rel.val k);exact wpAny_getItem_of (kV_is ry) dd.mapOf hw (h w' _ (I.tok _) rw')
 · subst ey;cases (show u=Value.ref b from ry);obtain ⟨z,hd,xs,rel,dd⟩:=dt_rd I.hok e;obtain ⟨w',hw,rw'⟩:=RelO.some_of (v:=v) (o:=(atKey xs k).map (·.2)) (by rw [l];exact rel.val k);obtain ⟨p,hp,hp2⟩:=Option.map_eq_some_iff.mp hw;refine wpAny_getItem_heap (tupleKind_room_in1 hu) (ZeG I.hok eb) dd hp ?_;rw [hp2];exact h w' _ (I.tok _) rw'
theorem d_notIn {Q:Value→Shared→Prop}(hu:A.units+1<cLine)(I:Inv X pins σ H s)(g:DGet H a y o)(ry:RelV y u)(h:∀ s',Inv X pins σ H s'→Q (.bool (!o.isSome)) s') :
   wpAny (model X.prog X.w) A (compareOp .NotIn u (.ref a)) Q E s:=by
 rcases g with ⟨kvs,k,e,ey,l⟩ | ⟨kvs,k,b,e,ey,eb,l⟩
 · subst ey;obtain ⟨z,hd,vs,rel,dd⟩:=ZeT I.hok e;refine wpAny_notIn_of (kV_is ry) hd dd.mapOf ?_;rw [← (rel.val k).isSome_eq,← l];exact h _ (I.tok _)
 · subst ey;cases (show u=Value.ref b from ry);obtain ⟨z,hd,xs,rel,dd⟩:=dt_rd I.hok e;refine wpAny_notIn_heap (tupleKind_room_in1 hu) (ZeG I.hok eb) hd dd ?_;have q:=(rel.val k).isSome_eq;rw [Option.isSome_map] at q;rw [← q,← l];exact h _ (I.tok _)
theorem ZfR {h':Heap}{t':Nat}{ob:HO}(I:Inv X pins σ H s)(mu:Mut (H a))(hs:Heap.SameBut a s.heap h')(he:∃ q,h'.get? a=some q)(new:ObjOk X.prog X.w (upd H a ob) h' a ob) :
   Inv X pins σ (upd H a ob) { s with heap:=h',toks:=t' } :=
 I.write (x:=a) (e:=a) mu (.inl rfl) (fun b q hb z=>(hs.2 b hb).trans z) he new
theorem dk_new {P:Program}{w:World}{H':Hp}{h':Heap}{kvs:List (Key × V)}{vs:List (Key × Value)}(z:kvs.length≤sizeLine)(hd:(a==sysModules)=false)(rel:KV kvs vs)(dd:h'.DictOf (mixKind P w) a vs) :
   ObjOk P w H' h' a (.dK kvs):=⟨z,hd,vs,rel,dd⟩
theorem ZgJ {H':Hp}{Q:Unit→Shared→Prop}(hu:A.units+1<cLine)(I:Inv X pins σ H s)(g:DPut H a y v H')(ry:RelV y u)(rv:RelV v r)(h:∀ s',Inv X pins σ H' s'→Q () s') :
   wpAny (model X.prog X.w) A (setItem (.ref a) u r) Q E s:=by
 rcases g with ⟨kvs,k,e,ey,l,eH⟩ | ⟨kvs,k,b,e,ey,eb,l,eH⟩
 · subst ey eH;obtain ⟨z,hd,vs,rel,dd⟩:=dk_of I.hok e;have hz:vs.length≤sizeLine:=by rw [← rel.length];exact z
   have hl:(putK kvs k v).length≤sizeLine:=by have:=Zbs kvs k v;omega
   refine wpAny_setItem_pairs (hsz:=hz) (kV_is ry) dd fun h' dd' hs=>h _ ?_
   have he:∃ q,h'.get? a=some q:=let ⟨q,_,_,hq,_⟩:=dd';⟨q,hq⟩
   exact ZfR I (by rw [e];exact True.intro) hs he (dk_new hl hd (rel.put k rv) dd')
 · subst ey eH;cases (show u=Value.ref b from ry);obtain ⟨z,hd,xs,rel,dd⟩:=dt_of I.hok e;have hz:xs.length≤sizeLine:=by rw [← Paired.length rel];exact z
   have hl:(putK kvs k v).length≤sizeLine:=by have:=Zbs kvs k v;omega
   refine wpAny_setItem_heap (hsz:=hz) (tupleKind_room_in1 hu) (ZeG I.hok eb) dd fun h' dd' hs=>h _ ?_
   obtain ⟨q,es,ep,hq,h2,h3,h4,_,h5⟩:=dd';refine ZfR I (by rw [e];exact True.intro) hs ⟨q,hq⟩ ⟨hl,hd,_,(rel.put k eb rv).keeps fun c ys ec=>?_,q,es,ep,hq,h2,h3,h4,h5⟩;rw [Zah (ne_of ec e (fun z=>nomatch z))];exact ec
end
section
variable {X:Cx}{pins:List (Addr × Obj)}{σ:St}{H:Hp}{s:Shared}{a:Addr}{kvs:List (Key × V)}{k:Key}{u:Value}{A:Around}{E:Value→Shared→Prop}
theorem d_len {Q:Value→Shared→Prop}(I:Inv X pins σ H s)(e:Rd H a (.dK kvs))(h:∀ t s',Inv X pins σ H s'→Q (.int kvs.length t) s'):wpAny (model X.prog X.w) A (call (.builtin "len") [.ref a]) Q E s:=by obtain ⟨z,hd,vs,rel,dd⟩:=ZeT I.hok e;refine call_len_dict hd dd (by rw [← rel.length];rw [sizeLine_eq] at z;omega) ?_;rw [← rel.length];exact h _ _ (I.tok _)
end
def NoSl (i:Expr):Prop:=∀ ov iv,subscripted i false ov iv=operate [ov,iv] (getItem ov iv)
theorem subD_of {prog:Program}{w:World}{A:Around}{E:Value→Shared→Prop}{s:Shared}{env:Env}{value slice:Expr}{pos:Pos}{T id:String}{Q:Value→Shared→Prop}
   (hl:typeLookup (.type T) "__getitem__"=pure (some (.builtin id))) (hs:NoSl slice)
   (h:wpAny (model prog w) A (eval value env) (fun o s₁=>wpAny (model prog w) A (eval slice env) (fun i s₂=>s₂.TypeIs o T∧wpAny (model prog w) A (getItem o i) Q E s₂) E s₁) E s) :
   wpAny (model prog w) A (eval (.Subscript value slice pos) env) Q E s:=by
 refine Subscript_ (wpAny_mono h (fun o s₁ h₁=>wpAny_mono h₁ (fun i s₂ h₂=>?_) fun _ _ x=>x) fun _ _ x=>x);obtain ⟨hT,h₂⟩:=h₂;unfold subscriptTail;refine wpAny_bind ?_;rw [getitemInPython_of_ne hT.not_modules];refine wpAny_bind (wpAny_specialOf hT hl ?_);have fin:wpAny (model prog w) A (subscripted slice false o i) (fun r s₃=>wpAny (model prog w) A (letTemporaryGo value o r >>= fun _=>pure r) Q E s₃) E s₂:=by rw [hs o i];exact wpAny_operating (wpAny_mono h₂ (fun r s₃ h₃=>wpAny_bind (wpAny_letTemporaryGo (wpAny_pure h₃))) fun _ _ x=>x)
 first
   | exact wpAny_pure (wpAny_bind fin)
   | exact wpAny_bind (wpAny_pure (wpAny_bind fin))
   | exact wpAny_bind fin
theorem Zfm {X:Cx}{pins:List (Addr × Obj)}{σ:St}{H:Hp}{s:Shared}{a:Addr}{y:V}{o:Option V}(I:Inv X pins σ H s)(g:DGet H a y o):s.TypeIs (.ref a) "dict":=by
 rcases g with ⟨kvs,k,e,_,_⟩ | ⟨kvs,k,b,e,_,_,_⟩
 · obtain ⟨_,_,vs,_,dd⟩:=ZeT I.hok e;exact dd.typeIs
 · obtain ⟨_,_,xs,_,dd⟩:=dt_rd I.hok e;exact dd.typeIs
def tDGet (td ty:TE):TE:=fun σ H Q=>td σ H fun x H1=>ty σ H1 fun y H2=>∃ a v,x=.ref a∧DGet H2 a y (some v)∧Q v H2
def tDNotIn (ty td:TE):TE:=fun σ H Q=>ty σ H fun y H1=>td σ H1 fun x H2=>∃ a o,x=.ref a∧DGet H2 a y o∧Q (.bl (!o.isSome)) H2
def sDPut (td ty tv:TE):TS:=fun D σ H=>tv σ H fun v H1=>td σ H1 fun x H2=>ty σ H2 fun y H3=>∃ a H4,x=.ref a∧DPut H3 a y v H4∧D.nx σ H4
section
variable {X:Cx}{o i e value:Expr}{pos pos' tpos:Pos}{td ty tv:TE}
theorem Zbe (hu:X.A.units+1<cLine)(ho:PE X o td)(hi:PE X i ty)(hs:NoSl i):PE X (.Subscript o i pos) (tDGet td ty):=by intro pins s σ H Q I h;refine subD_of PySem.F.slot_dict_getitem.lookup hs (thn (ho pins s σ H _ I h) fun u s1 ⟨x,H1,I1,rx,q1⟩=>thn (hi pins s1 σ H1 _ I1 q1) fun iv s2 ⟨y,H2,I2,ry,a,v,ex,g,q2⟩=>?_);subst ex;obtain rfl:u=Value.ref a:=rx;exact ⟨Zfm I2 g,ZgX hu I2 g ry fun w' s3 I3 rw'=>⟨v,H2,I3,rw',q2⟩⟩
theorem Zg2 (hu:X.A.units+1<cLine)(hi:PE X i ty)(ho:PE X o td):PC X .NotIn i o (tDNotIn ty td):=by
 intro pins s σ H Q I h;refine thn (hi pins s σ H _ I h) fun iv s1 ⟨y,H1,I1,ry,q1⟩=>thn (ho pins s1 σ H1 _ I1 q1) fun u s2 ⟨x,H2,I2,rx,a,ov,ex,g,q2⟩=>?_
 subst ex;obtain rfl:u=Value.ref a:=rx;exact d_notIn hu I2 g ry fun s3 I3=>⟨.bl (!ov.isSome),H2,I3,rfl,q2⟩
theorem Zf7 (hu:X.A.units+1<cLine)(ho:PE X o td)(hi:PE X i ty)(hv:PE X value tv)(hs:swapsWith value (some (.Subscript o i pos')) pos.line X.env=pure false) :
   PS X (.Assign [.Subscript o i pos'] value pos) (sDPut td ty tv):=by
 intro pins s σ H D I h;refine wpAny_Assign_Subscript (thn (hv pins s σ H _ I h) fun r s1 ⟨v,H1,I1,rv,q1⟩=>thn (ho pins s1 σ H1 _ I1 q1) fun u s2 ⟨x,H2,I2,rx,q2⟩=>thn (hi pins s2 σ H2 _ I2 q2) fun iv s3 ⟨y,H3,I3,ry,a,H4,ex,g,q3⟩=>?_) hs;subst ex;obtain rfl:u=Value.ref a:=rx;exact ZgJ hu I3 g ry rv fun s4 I4=>⟨σ,H4,I4,q3⟩
end
theorem dk_empty {P:Program}{w:World}{H:Hp}(h:Heap)(hb:sysModules<h.objs.size):ObjOk P w H (h.push { cls:=.type "dict",data:=.dict #[] }) h.objs.size (.dK []) :=
 ⟨Nat.zero_le _,beq_eq_false_iff_ne.mpr (Ne.symm (Nat.ne_of_lt hb)),[],.nil,Heap.DictOf.new h⟩
def tDNewK:TE:=fun _ H Q=>∀ p,H p=none→Q (.ref p) (upd H p (.dK []))
section
variable {X:Cx}{pos:Pos}
theorem ZbP:PE X (.Dict [] [] pos) tDNewK:=fun pins s σ H Q I h =>
 wpAny_Dict_empty ⟨.ref s.heap.objs.size,_,I.laid (a:=s.heap.objs.size) (o:=.dK []) (t':=s.toks) (fun _ _ q=>Heap.get?_push_of_some _ q) (Nat.le_refl _) (dk_empty s.heap I.big),rfl,h _ (I.hok.fresh (Nat.le_refl _))⟩
end
structure M1 (X:Cx)(o:Expr)(m:Str)(apos:Pos)(e:Expr)(cpos:Pos):Prop where
 base:attributeBase o m X.env (eval o X.env)=eval o X.env
 few:((backTo cpos (starEach [e] X.env)).all (fun x=>!x.1)&&(backToKw cpos (keywordEach [] X.env)).all (fun x=>x.1.isSome)
   && decide (([e]:List Expr).length+([]:List Keyword).length+(if ([]:List Keyword).isEmpty then 0 else 1)<30))=true
 line:(apos.endLine==cpos.line)=true
 trees:backTo cpos (starEach [e] X.env)=[(false,eval e X.env)]
structure M2 (X:Cx)(o:Expr)(m:Str)(apos:Pos)(e f:Expr)(cpos:Pos):Prop where
 base:attributeBase o m X.env (eval o X.env)=eval o X.env
 few:((backTo cpos (starEach [e,f] X.env)).all (fun x=>!x.1)&&(backToKw cpos (keywordEach [] X.env)).all (fun x=>x.1.isSome)
   && decide (([e,f]:List Expr).length+([]:List Keyword).length+(if ([]:List Keyword).isEmpty then 0 else 1)<30))=true
 line:(apos.endLine==cpos.line)=true
 trees:backTo cpos (starEach [e,f] X.env)=[(false,eval e X.env),(false,eval f X.env)]
section
variable {X:Cx}{pins:List (Addr × Obj)}{σ:St}{H:Hp}{s:Shared}{a:Addr}{y d:V}{u r:Value}{o:Option V}{A:Around}{E:Value→Shared→Prop}
end
section
variable {X:Cx}{o e f:Expr}{apos cpos:Pos}{td ty tx:TE}
end
section
variable {X:Cx}{pins:List (Addr × Obj)}{σ:St}{H:Hp}{s:Shared}{a:Addr}{kvs:List (Key × V)}{A:Around}{E:Value→Shared→Prop}
end
section
variable {X:Cx}{pins:List (Addr × Obj)}{σ:St}{H:Hp}{s:Shared}{a:Addr}{y:V}{u:Value}{A:Around}{E:Value→Shared→Prop}
end
section
variable {X:Cx}
theorem ZdP:CallR X (.builtin "len") (fun xs H Q=>∃ a kvs,xs=[V.ref a]∧H a=some (.dK kvs)∧Q (.int kvs.length) H):=by intro pins s σ H xs us Q I r h;obtain ⟨a,kvs,rfl,ha,q⟩:=h;obtain ⟨u,rfl,ru⟩:=vals1 r;cases ru;exact d_len I (.inl ha) fun t s' I'=>⟨.int kvs.length,H,I',⟨t,rfl⟩,q⟩
end
section
variable {κ:Type}[DecidableEq κ]
end
end L2
namespace BM
open PySem L2 PyProof.Rows
def wd:List Nat→Nat
 | []=>0
 | p::r=>2^p+wd r
def Up:Nat→List Nat→Prop
 | _,[]=>True
 | a,p::r=>a≤p∧Up (p+1) r
def pl (n w:Nat):List Nat:=(List.range n).filter w.testBit
def cov (rs:List (Nat × Nat))(i:Nat):Prop:=∃ r∈rs,r.1≤i∧i≤r.2
inductive Dec:List Nat→List (Nat × Nat)→Prop
 | nil:Dec [] []
 | cons {p n:Nat} {rest:List Nat} {rs:List (Nat × Nat)} (u:Up (p+n+2) rest) (h:Dec rest rs):Dec (List.range' p (n+1)++rest) ((p,p+n)::rs)
end BM
namespace L2
open PySem PySem.Spec PyProof.Rows
section
variable {prog:Program}{w:World}{A:Around}{R:Result→Shared→Prop}{s:Shared}
theorem Zeh {elt target iter:Expr}{ifs:List Expr}{scope:Scope}{pos:Pos}{it acc:Value}{env:Env}(I:Nat→Shared→Prop)(Ee:Value→Shared→Prop)(hx:∀ e s,Ee e s→notedBy (model prog w) A env (fun e' s'=>R (.error e') s') e s)
   (turn : ∀ n s,I n s→wpAny (model prog w) A (pyNext it) (fun r s₁=>match r with
     | none=>R (.ok .next) s₁
     | some v=>wpAny (model prog w) A (letOwnedTupleGo target it v) (fun _ s₀=>wpAny (model prog w) A (assign target env v) (fun _ s₂ =>
         wpAny (model prog w) A (forIn ifs true fun c r=>if r=true then do let ok ← isTrue c env (eval c env);pure (ForInStep.yield ok) else pure (ForInStep.yield r)) (fun ok s₃ =>
           if ok=true then wpAny (model prog w) A (eval elt env) (fun x s₄ =>
             wpAny (model prog w) A (call (.builtin "list.append") [acc,x]) (fun _ s₅=>∃ m,m<n∧I m s₅) Ee s₄) Ee s₃
           else ∃ m,m<n∧I m s₃) Ee s₂) Ee s₀) Ee s₁) Ee s)
   (n:Nat) (h:I n s):codeAny (model prog w) A (.compLoop (.ListComp elt [⟨target,iter,ifs,0⟩] scope pos) 0 it acc env) R s:=by
 refine codeAny_loop rfl I (fun n s hI=>?_) n h;show wpAny _ A ((compTurn (.ListComp elt [⟨target,iter,ifs,0⟩] scope pos) 0 it acc env).onRaise (fun x=>do noteFrame x env;theTreesLotGoes x)) _ _ s;refine wpAny_noted ?_;rw [compTurn_list];refine wpAny_bind (wpAny_standAt (wpAny_bind (wpAny_mono (turn n s hI) (fun r s₁ h₁=>?_) hx)));cases r with
 | none=>exact wpAny_pure h₁
 | some v =>
   refine wpAny_bind (wpAny_mono h₁ (fun _ s₀ h₀=>?_) hx);refine wpAny_bind (wpAny_mono h₀ (fun _ s₂ h₂=>wpAny_bind (wpAny_mono h₂ (fun ok s₃ h₃=>?_) hx)) hx);cases ok with
   | false=>exact wpAny_pure ⟨rfl,h₃⟩
   | true=>exact wpAny_bind (wpAny_bind (wpAny_mono h₃ (fun x s₄ h₄=>wpAny_bind (wpAny_mono h₄ (fun _ s₅ h₅=>wpAny_pure (wpAny_pure ⟨rfl,h₅⟩)) hx)) hx))
end
theorem Zb6 {env:Env}:∀ (names:List (Str × NameKind)) (acc:List (Str × Addr)),(∀ z∈names,z.2=.free→∃ c,env.cells.lookup z.1=some c) →
   ∃ cl,(forIn names acc fun x r=>if (x.2==NameKind.free)=true then do let a ← cellOf env x.1;pure (ForInStep.yield ((x.1,a)::r)) else pure (ForInStep.yield r):Sem (List (Str × Addr)))=pure cl ∧
     (∀ y c,cl.lookup y=some c→acc.lookup y=some c∨env.cells.lookup y=some c)∧(∀ y,((∃ c,acc.lookup y=some c)∨(y,NameKind.free)∈names)→∃ c,cl.lookup y=some c)
 | [],acc,_=>⟨acc,by rw [List.forIn_nil],fun _ _ h=>.inl h,fun y h=>by
     rcases h with h | h
     · exact h
     · simp at h⟩
 | (n, k)::r,acc,h=>by
   have hr:∀ z∈r,z.2=.free→∃ c,env.cells.lookup z.1=some c:=fun z hz=>h z (List.mem_cons_of_mem _ hz)
   by_cases hk:k=.free
   · subst hk
     obtain ⟨c,hc⟩:=h (n,.free) List.mem_cons_self rfl;obtain ⟨cl,e,h1,h2⟩:=Zb6 r ((n,c)::acc) hr;refine ⟨cl,?_,fun y d hd=>?_,fun y hy=>?_⟩
     · rw [List.forIn_cons];have e1:cellOf env n=pure c:=by unfold cellOf;rw [hc]
       simp only [beq_self_eq_true,if_true,e1,pure_bind];exact e
     · rcases h1 y d hd with z | z
       · rw [List.lookup_cons] at z;cases hy:y==n with
         | true =>
           rw [hy] at z;have:y=n:=by simpa using hy
           subst this;cases z;exact .inr hc
         | false=>rw [hy] at z;exact .inl z
       · exact .inr z
     · refine h2 y ?_;rcases hy with ⟨d,hd⟩ | hy
       · cases q:y==n with
         | true=>exact .inl ⟨c,by rw [List.lookup_cons,q]⟩
         | false=>exact .inl ⟨d,by rw [List.lookup_cons,q];exact hd⟩
       · rcases List.mem_cons.mp hy with z | z
         · cases z;exact .inl ⟨c,by rw [List.lookup_cons,beq_self_eq_true]⟩
         · exact .inr z
   · obtain ⟨cl,e,h1,h2⟩:=Zb6 r acc hr;refine ⟨cl,?_,h1,fun y hy=>h2 y ?_⟩
     · rw [List.forIn_cons];have:(k==NameKind.free)=false:=by simpa using hk
       simp only [this,Bool.false_eq_true,if_false,pure_bind];exact e
     · rcases hy with z | z
       · exact .inl z
       · rcases List.mem_cons.mp z with q | q
         · cases q;exact absurd rfl hk
         · exact .inr q
theorem ZfK {scope:Scope}{env:Env}(h:∀ z∈scope.names,z.2=.free→∃ c,env.cells.lookup z.1=some c) :
   ∃ cl,closureFor scope env=pure cl∧(∀ y c,cl.lookup y=some c→env.cells.lookup y=some c)∧∀ y,(y,NameKind.free)∈scope.names→∃ c,cl.lookup y=some c:=by
 obtain ⟨cl,e,h1,h2⟩:=Zb6 (env:=env) scope.names [] h;refine ⟨cl,?_,fun y c hc=>?_,fun y hy=>h2 y (.inr hy)⟩
 · unfold closureFor;exact (congrArg (fun m:Sem (List (Str × Addr))=>m >>= fun cs=>pure cs) e).trans (pure_bind _ _)
 · rcases h1 y c hc with z | z
   · cases z
   · exact z
def compX (X:Cx)(scope:Scope)(own:List Str)(caps:List Nat)(cl:List (Str × Addr))(C:Addr)(s₃:Shared)(H₃:Hp)(fp:List Addr):Cx :=
 { X with env:=compEnvC scope cl C X.env,N:=own++caps.map fun j=>X.N.getD j Str.empty,s₀:=s₃,H₀:=H₃,outer:=X.stack,stack:=X.stack,ex:=fp,fn:=fun _=>false,pn:=[],xe:=fun _ _=>False }
def capSt (n:Nat)(caps:List Nat)(σ:St):St:=List.replicate n none++caps.map fun j=>σ.getD j none
def compOk (sc osc:Scope):Bool :=
 (sc.kind==.function)&&sc.names.all fun z=>match z.2 with
   | .cell=>false
   | .local=>sc.names.lookup z.1==some .local
   | .free=>osc.names.lookup z.1==some .cell||osc.names.lookup z.1==some .free
   | _=>true
def capOk (X:Cx)(sc:Scope):List Nat→Prop
 | []=>True
 | j::r=>(∃ y,X.N[j]?=some y∧sc.names.lookup y=some .free∧(X.env.scope.names.lookup y=some .cell∨X.env.scope.names.lookup y=some .free))∧capOk X sc r
def gOwn (n:Nat)(g:TG):Prop:=∀ v σ H Q,g v σ H Q→g v σ H fun σ' H'=>(σ'.length=σ.length∧σ'.drop n=σ.drop n)∧Q σ' H'
theorem ZaE:gOwn 1 (gName 0):=fun v σ H Q h=>⟨⟨by simp,by cases σ<;>simp⟩,h⟩
def tNoTest:TT:=fun _ H Q=>Q true H
def tComp (n:Nat) (caps:List Nat) (wi:TI) (g:TG) (tt:TT) (te:TE):TE:=fun σ H Q=>wi σ H fun J H1=>∀ D,H1 D=none→∃ W:Nat→Nat→Hp→Prop,(∃ m,W 0 m (upd H1 D (.lst [])))∧∀ i m H2,W i m H2 →
 (J.stop i H2∧Q (.ref D) H2)∨(J.go i H2∧∀ x H3,J.yld i H2 x H3→g x (capSt n caps σ) H3 fun σ4 H4=>tt σ4 H4 fun b H5 =>
   if b=true then te σ4 H5 fun y H6=>∃ xs,H6 D=some (.lst xs)∧xs.length<sizeLine∧∃ m',m'<m∧W (i+1) m' (upd H6 D (.lst (xs++[y]))) else ∃ m',m'<m∧W (i+1) m' H5)
def PTs (X:Cx) (ifs:List Expr) (t:TT):Prop :=
 ∀ (pins:List (Addr × Obj)) (s:Shared) (σ:St) (H:Hp) (Q:Bool→Hp→Prop),Inv X pins σ H s→t σ H Q →
   wpAny (model X.prog X.w) X.A (forIn ifs true fun c r=>if r=true then do let ok ← isTrue c X.env (eval c X.env);pure (ForInStep.yield ok) else pure (ForInStep.yield r)) (TP X pins σ Q) X.xe s
theorem ZaW {X:Cx}:PTs X [] tNoTest:=fun _ _ _ H _ I h=>wpAny_tests_nil ⟨H,I,h⟩
theorem pts_one {X:Cx}{c:Expr}{t:TT}(h:PT X c t):PTs X [c] t:=fun pins s σ H Q I q=>wpAny_tests_one (h pins s σ H Q I q)
theorem Zbv {env:Env}:∀ {names:List (Str × NameKind)} {x:Str} {k:NameKind},names.lookup x=some k →
   (names.map fun (n,k)=>if (k==NameKind.free&&env.scope.kind==.function&&env.kindOf n==some .cell) then (n,NameKind.cell) else (n,k)).lookup x=some (if (k==NameKind.free&&env.scope.kind==.function&&env.kindOf x==some .cell) then NameKind.cell else k)
 | [],_,_,h=>by simp at h
 | (n,k')::r,x,k,h=>by
   have ih:=@Zbv env r x k;show List.lookup x ((if (k'==NameKind.free&&env.scope.kind==.function&&env.kindOf n==some .cell)=true then (n,NameKind.cell) else (n,k'))::_)=_;cases hx:x==n with
   | true =>
     simp only [List.lookup_cons,hx] at h;cases h;have:x=n:=by simpa using hx
     subst this;split<;>simp [List.lookup_cons]
   | false =>
     simp only [List.lookup_cons,hx] at h;split
     · simp only [List.lookup_cons,hx];exact ih h
     · simp only [List.lookup_cons,hx];exact ih h
theorem Zbf {env:Env}:∀ {names:List (Str × NameKind)} {x:Str} {k:NameKind},
   (names.map fun (n,k)=>if (k==NameKind.free&&env.scope.kind==.function&&env.kindOf n==some .cell) then (n,NameKind.cell) else (n,k)).lookup x=some k →
   ∃ k',(x,k')∈names∧(k=k'∨(k'=.free∧k=.cell))
 | [],_,_,h=>by simp at h
 | (n, k')::r,x,k,h=>by
   have ih:=@Zbf env r x k;rw [List.map_cons] at h;cases hc:(k'==NameKind.free&&env.scope.kind==.function&&env.kindOf n==some .cell) with
   | true =>
     simp only [hc,if_true,List.lookup_cons] at h;cases hx:x==n with
     | true =>
       simp only [hx,Option.some.injEq] at h;have e:x=n:=by simpa using hx
       have:k'=.free:=by simp only [Bool.and_eq_true,beq_iff_eq] at hc;exact hc.1.1
       exact ⟨.free,by rw [e,← this];exact List.mem_cons_self,.inr ⟨rfl,h.symm⟩⟩
     | false =>
       simp only [hx] at h;obtain ⟨q,m,z⟩:=ih h;exact ⟨q,List.mem_cons_of_mem _ m,z⟩
   | false =>
     simp only [hc,Bool.false_eq_true,if_false,List.lookup_cons] at h;cases hx:x==n with
     | true =>
       simp only [hx,Option.some.injEq] at h;have e:x=n:=by simpa using hx
       exact ⟨k',by rw [e];exact List.mem_cons_self,.inl h.symm⟩
     | false =>
       simp only [hx] at h;obtain ⟨q,m,z⟩:=ih h;exact ⟨q,List.mem_cons_of_mem _ m,z⟩
theorem ZcQ {sc osc:Scope}(h:compOk sc osc=true):sc.kind=.function:=by unfold compOk at h;simp only [Bool.and_eq_true,beq_iff_eq] at h;exact h.1
theorem Zeg {sc osc:Scope}(h:compOk sc osc=true):∀ z∈sc.names,(match z.2 with
   | .cell=>false
   | .local=>sc.names.lookup z.1==some .local
   | .free=>osc.names.lookup z.1==some .cell||osc.names.lookup z.1==some .free
   | _=>true)=true:=by
 unfold compOk at h;simp only [Bool.and_eq_true] at h;exact List.all_eq_true.mp h.2
theorem ZeK {sc osc:Scope}(h:compOk sc osc=true):∀ z∈sc.names,z.2≠.cell:=fun z hz e=>by
 have:=Zeg h z hz;rw [e] at this;cases this
theorem Zgd {sc osc:Scope}(h:compOk sc osc=true):∀ z∈sc.names,z.2=.local→sc.names.lookup z.1=some .local:=fun z hz e=>by
 have:=Zeg h z hz;rw [e] at this;simpa using this
theorem cok_free {sc osc:Scope}(h:compOk sc osc=true):∀ z∈sc.names,z.2=.free→osc.names.lookup z.1=some .cell∨osc.names.lookup z.1=some .free:=fun z hz e=>by
 have:=Zeg h z hz;rw [e] at this;simpa using this
theorem capOk.get {X:Cx}{sc:Scope}:∀ {caps:List Nat} {j:Nat},capOk X sc caps→j∈caps→∃ y,X.N[j]?=some y∧sc.names.lookup y=some .free∧(X.env.scope.names.lookup y=some .cell∨X.env.scope.names.lookup y=some .free)
 | [],_,_,h=>by simp at h
 | i::r,j,h,hj=>by
   rcases List.mem_cons.mp hj with e | e
   · subst e;exact h.1
   · exact h.2.get e
theorem Zb5 {x:Str}{k:NameKind}:∀ {l:List (Str × NameKind)},l.lookup x=some k→(x,k)∈l
 | [],h=>by simp at h
 | (n,k')::r,h=>by
   rw [List.lookup_cons] at h;cases hx:x==n with
   | true =>
     simp only [hx,Option.some.injEq] at h;have e:x=n:=by simpa using hx
     rw [e,h];exact List.mem_cons_self
   | false =>
     simp only [hx] at h;exact List.mem_cons_of_mem _ (Zb5 h)
section
variable {X:Cx}{pins:List (Addr × Obj)}{σ:St}{H2:Hp}{s2:Shared}{scope:Scope}{own:List Str}{caps:List Nat}
theorem Zd7 {n:Nat}{caps:List Nat}{σ:St}{i:Nat}{v:V}(h:(capSt n caps σ)[i]?=some (some v)):n≤i∧∃ j,caps[i-n]?=some j∧σ[j]?=some (some v):=by
 unfold capSt at h;rw [List.getElem?_append] at h;split at h
 · rename_i hl
   rw [List.length_replicate] at hl;rw [List.getElem?_replicate,if_pos hl] at h;cases h
 · rename_i hl
   rw [List.length_replicate] at h hl;refine ⟨by omega,?_⟩;rw [List.getElem?_map] at h;cases q:caps[i-n]? with
   | none=>rw [q] at h;cases h
   | some j =>
     rw [q] at h;refine ⟨j,rfl,?_⟩;have h:σ.getD j none=some v:=Option.some.inj h;rw [List.getD_eq_getElem?_getD] at h;cases z:σ[j]? with
     | none=>rw [z] at h;cases h
     | some o=>rw [z] at h;exact congrArg some h
theorem Inv.comp {n:Nat} {fp:List Addr} {cl:List (Str × Addr)} {C:Addr} {h4:Heap} {tk:Nat}
   (I2:Inv X pins σ H2 s2) (hok:compOk scope X.env.scope=true) (hcap:capOk X scope caps) (hown:own.length=n)
   (cl1:∀ y c,cl.lookup y=some c→X.env.cells.lookup y=some c) (cl2:∀ y,(y,NameKind.free)∈scope.names→∃ c,cl.lookup y=some c)
   (hfp:∀ b∈fp,FpOk X pins H2 b) (hobj:∀ b∈fp,b<s2.heap.objs.size) (hC:C=s2.heap.objs.size) (hn:h4.Ns C fun _=>none)
   (hsb:∀ b o,s2.heap.get? b=some o→h4.get? b=some o) :
   Inv (compX X scope own caps cl C s2 H2 fp) [] (capSt n caps σ) H2 { s2 with heap:=h4,toks:=tk }:=by
 have hkind:=ZcQ hok;have ok':(compX X scope own caps cl C s2 H2 fp).Ok:=by
   refine ⟨I2.ok.mod,hkind,I2.ok.glob,I2.ok.blt,by rw [hC];exact Nat.le_refl _,fun x y c h1 h2=>I2.ok.inj x y c (cl1 x c h1) (cl1 y c h2),fun x hx=>?_,fun x c h=>(by cases h),I2.ok.hd,I2.ok.frames,.inl rfl,fun b hb=>⟨?_,fun x c h=>(hfp b hb).2.2.2.2.1 x c (cl1 x c h)⟩,I2.bs,?_,fun b o e hb=>?_,fun b hb hf=>?_,I2.stack,I2.stkFree⟩
   · have:∃ k',(x,k')∈scope.names∧(k'=.cell∨k'=.free):=by
       rcases hx with hx | hx
       · obtain ⟨k',m,z⟩:=Zbf (env:=X.env) (names:=scope.names) (x:=x) (k:=.cell) hx;rcases z with z | z
         · exact ⟨k',m,.inl z.symm⟩
         · exact ⟨k',m,.inr z.1⟩
       · obtain ⟨k',m,z⟩:=Zbf (env:=X.env) (names:=scope.names) (x:=x) (k:=.free) hx;rcases z with z | z
         · exact ⟨k',m,.inr z.symm⟩
         · cases z.2
     obtain ⟨k',m,z | z⟩:=this
     · subst z;exact absurd rfl (ZeK hok _ m)
     · subst z;exact cl2 x m
   · show b≠C;rw [hC];exact Nat.ne_of_lt (hobj b hb)
   · exact Nat.le_trans I2.ok.bsz (Nat.le_trans I2.ok.above (Nat.le_of_lt I2.lt))
   · rcases (hfp b hb).2.2.2.1 with z | z
     · exact I2.ok.noex b o e z
     · exact absurd (Nat.lt_of_lt_of_le (Heap.lt_size e) (Nat.le_trans I2.ok.bsz z)) (Nat.lt_irrefl _)
   · rcases List.mem_cons.mp (I2.stkSub b hf) with z | z
     · exact (hfp b hb).2.1 z
     · exact (hfp b hb).2.2.1 z
 have hCn:H2 C=none:=I2.hok.fresh (by rw [hC];exact Nat.le_refl _);refine ⟨ok',rfl,I2.bare,Un.kept hsb,⟨_,hn,fun i x v e1 e2 e3=>?_⟩,fun x c e=>?_,hCn,fun x c e=>I2.freeC x c (cl1 x c e),fun p hp=>(by cases hp),I2.hok.kept hsb,?_⟩
 · obtain ⟨hi,j,hj,hv⟩:=Zd7 e2;have e1:(own++caps.map fun j=>X.N.getD j Str.empty)[i]?=some x:=e1;rw [List.getElem?_append_right (by rw [hown];exact hi),List.getElem?_map,hown,hj] at e1;have e1:X.N.getD j Str.empty=x:=Option.some.inj e1;obtain ⟨y,hy,hfree,hout⟩:=hcap.get (List.mem_of_getElem? hj);rw [List.getD_eq_getElem?_getD,hy] at e1;have e1:y=x:=e1;subst e1;obtain ⟨m,hm,hl⟩:=I2.loc;obtain ⟨u,r,l⟩:=hl j y v hy hv (.inr hout);refine ⟨u,r,.inr ⟨?_,?_⟩⟩
   · have:=Zbv (env:=X.env) hfree;show (relabel scope X.env).names.lookup y=some .cell∨(relabel scope X.env).names.lookup y=some .free;unfold relabel;rw [this];split
     · exact .inl rfl
     · exact .inr rfl
   · obtain ⟨c,hc⟩:=cl2 y (Zb5 hfree);refine ⟨c,hc,?_⟩;rcases l with ⟨k,_⟩ | ⟨_,c',hc',hcell⟩
     · have k:X.env.scope.names.lookup y=some .local:=k;rcases hout with z | z<;>(rw [k] at z;cases z)
     · rw [cl1 y c hc] at hc';cases hc';obtain ⟨o,ho,hd⟩:=hcell;exact ⟨o,hsb _ _ ho,hd⟩
 · obtain ⟨v,o,ho,hd⟩:=I2.cell x c (cl1 x c e);exact ⟨v,o,hsb _ _ ho,hd⟩
 · show (capSt n caps σ).length=(own++caps.map fun j=>X.N.getD j Str.empty).length;unfold capSt;rw [List.length_append,List.length_append,List.length_replicate,List.length_map,List.length_map,hown]
theorem ZdZ {Xe:Addr→Shared→Hp→Value→Shared→Prop} {n:Nat} {tg iter elt:Expr} {ifs:List Expr} {pos:Pos} {it:Addr} {fp:List Addr} {tn:Nat→Heap→Prop} {J:It} {cl:List (Str × Addr)} {g:TG} {tt:TT} {te:TE} {E:Value→Shared→Prop} {RR:Value→Env→Result→Shared→Prop} {Q:VK}
   (hc:X.calm=true) (I2:Inv X pins σ H2 s2) (T:Turn X.prog X.w X.K tg J fp it tn) (st2:tn 0 s2.heap) (f2:∀ b∈fp,FpOk X pins H2 b)
   (hok:compOk scope X.env.scope=true) (hcap:capOk X scope caps) (hown:own.length=n) (hgo:gOwn n g)
   (cl1:∀ y c,cl.lookup y=some c→X.env.cells.lookup y=some c) (cl2:∀ y,(y,NameKind.free)∈scope.names→∃ c,cl.lookup y=some c)
   (hg:∀ C s₃ H₃,PG ((compX X scope own caps cl C s₃ H₃ fp).wish (Xe C s₃ H₃)) tg g) (ht:∀ C s₃ H₃,PTs ((compX X scope own caps cl C s₃ H₃ fp).wish (Xe C s₃ H₃)) ifs tt) (he:∀ C s₃ H₃,PE ((compX X scope own caps cl C s₃ H₃ fp).wish (Xe C s₃ H₃)) elt te)
   (h:∀ D,H2 D=none→∃ W:Nat→Nat→Hp→Prop,(∃ m,W 0 m (upd H2 D (.lst [])))∧∀ i m H2,W i m H2 →
     (J.stop i H2∧Q (.ref D) H2)∨(J.go i H2∧∀ x H3,J.yld i H2 x H3→g x (capSt n caps σ) H3 fun σ4 H4=>tt σ4 H4 fun b H5 =>
       if b=true then te σ4 H5 fun y H6=>∃ xs,H6 D=some (.lst xs)∧xs.length<sizeLine∧∃ m',m'<m∧W (i+1) m' (upd H6 D (.lst (xs++[y]))) else ∃ m',m'<m∧W (i+1) m' H5))
   (hRR:∀ D C s' H' m,s'.heap.Ns C m→Inv X pins σ H' s'→FpOk X pins H' C→Q (.ref D) H'→RR (.ref D) (compEnvC scope cl C X.env) (.ok .next) s')
   (hRX:∀ s₃,Inv X pins σ (upd H2 s2.heap.objs.size (.lst [])) s₃→(∀ b o,s2.heap.get? b=some o→s₃.heap.get? b=some o)→s₃.os=s2.os→∀ e s',Xe s₃.heap.objs.size s₃ (upd H2 s2.heap.objs.size (.lst [])) e s'→notedBy (model X.prog X.w) X.A (compEnvC scope cl s₃.heap.objs.size X.env) (fun e z=>RR (.ref s2.heap.objs.size) (compEnvC scope cl s₃.heap.objs.size X.env) (.error e) z) e s') :
   wpAny (model X.prog X.w) X.A (newList []) (fun acc s₃=>wpAny (model X.prog X.w) X.A (newFunctionEnv scope X.env.globals cl [] X.env.qual none .none (some X.env)) (fun cenv s₄ =>
     codeAny (model X.prog X.w) X.A (.compStart (.ListComp elt [⟨tg,iter,ifs,0⟩] scope pos) 0 (.ref it) acc { cenv with scope:=relabel scope X.env }) (RR acc { cenv with scope:=relabel scope X.env }) s₄) E s₃) E s2:=by
 refine wpAny_newList (items:=[]) (wpAny_newFunctionEnv (ZeK hok) (by intro y hy;simp at hy) (fun h₁ hns₁ hsb₁=>?_) (ZcQ hok)) (by show 0≤sizeLine;decide);obtain ⟨W,⟨m0,w0⟩,turn⟩:=h s2.heap.objs.size I2.fresh;have I3:Inv X pins σ (upd H2 s2.heap.objs.size (.lst [])) { s2 with heap:=s2.heap.push { cls:=.type "list",data:=.seq ([]:List Value).toArray } }:=I2.lnew (t':=s2.toks) .nil (by show 0≤sizeLine;decide);generalize hs3:({ s2 with heap:=s2.heap.push { cls:=.type "list",data:=.seq ([]:List Value).toArray } }:Shared)=s₃ at *;have e3:s₃.heap.objs.size=s2.heap.objs.size+1:=by rw [← hs3];exact Heap.size_push _ _
 have k23:∀ b o,s2.heap.get? b=some o→s₃.heap.get? b=some o:=fun b o e=>by rw [← hs3];exact Heap.get?_push_of_some _ e
 have hold:∀ b o,s₃.heap.get? b=some o→h₁.get? b=some o:=fun b o e=>(hsb₁.2 b (Nat.ne_of_lt (Heap.lt_size e))).trans (Heap.get?_push_of_some _ e)
 have lt2:∀ b∈fp,b<s2.heap.objs.size:=fun b hb=>by
   obtain ⟨o,e,_⟩:=T.obj _ _ st2 b hb;exact Heap.lt_size e
 have f3:∀ b∈fp,FpOk X pins (upd H2 s2.heap.objs.size (.lst [])) b:=fun b hb=>by
   obtain ⟨z,r⟩:=f2 b hb;exact ⟨by rw [Zah (Nat.ne_of_lt (lt2 b hb))];exact z,r⟩
 have tn1:tn 0 h₁:=T.keep _ _ _ st2 fun b hb o e=>hold b o (k23 b o e)
 have I4:=Inv.comp (own:=own) (caps:=caps) (n:=n) (fp:=fp) (cl:=cl) (h4:=h₁) (tk:=s₃.toks+([]:List (Str × Value)).length) I3 hok hcap hown cl1 cl2 f3 (fun b hb=>by rw [e3];exact Nat.lt_succ_of_lt (lt2 b hb)) rfl (by simpa using hns₁) hold;have hXok:=I4.ok;have loop:codeAny (model X.prog X.w) X.A (.compLoop (.ListComp elt [⟨tg,iter,ifs,0⟩] scope pos) 0 (.ref it) (.ref s2.heap.objs.size) (compEnvC scope cl s₃.heap.objs.size X.env)) (RR (.ref s2.heap.objs.size) (compEnvC scope cl s₃.heap.objs.size X.env)) { s₃ with heap:=h₁,toks:=s₃.toks+([]:List (Str × Value)).length }:=by
   have I4:=I4.wish (Xe s₃.heap.objs.size s₃ (upd H2 s2.heap.objs.size (.lst [])));have hxe:=hRX s₃ I3 k23 (by rw [← hs3]);generalize hY:Xe s₃.heap.objs.size s₃ (upd H2 s2.heap.objs.size (.lst []))=Ee at I4 hxe;generalize hX:(compX X scope own caps cl s₃.heap.objs.size s₃ (upd H2 s2.heap.objs.size (.lst [])) fp).wish Ee=X' at I4;have hXok:=I4.ok;have eP:X'.prog=X.prog:=by rw [← hX];rfl
   have eW:X'.w=X.w:=by rw [← hX];rfl
   have eK:X'.K=X.K:=by rw [← hX];rfl
   have eA:X'.A=X.A:=by rw [← hX];rfl
   have eC:X'.calm=true:=by rw [← hX];exact hc
   have eE:X'.env=compEnvC scope cl s₃.heap.objs.size X.env:=by rw [← hX];rfl
   have eL:X'.env.locals=s₃.heap.objs.size:=by rw [eE];rfl
   have eX:X'.xe=Ee:=by rw [← hX]
   have ePn:X'.pn=[]:=by rw [← hX];rfl
   have eEx:X'.ex=fp:=by rw [← hX];rfl
   have eFs:X'.fs=frs X.stack:=by rw [← hX];rfl
   have hg':=hg s₃.heap.objs.size s₃ (upd H2 s2.heap.objs.size (.lst []));have ht':=ht s₃.heap.objs.size s₃ (upd H2 s2.heap.objs.size (.lst []));have he':=he s₃.heap.objs.size s₃ (upd H2 s2.heap.objs.size (.lst []));have eS0:X'.s₀=s₃:=by rw [← hX];rfl
   have eH0:X'.H₀=upd H2 s2.heap.objs.size (.lst []):=by rw [← hX];rfl
   rw [hY,hX] at hg' ht' he';have fpOk:∀ {H':Hp} (b:Addr),b∈fp→H' b=none→FpOk X' [] H' b:=fun b hb hn=>by
     refine ⟨hn,(hXok.exf b (eEx ▸ hb)).1,hXok.exfs b (eEx ▸ hb),.inl (eEx ▸ hb),(hXok.exf b (eEx ▸ hb)).2,fun p hp=>?_⟩;rw [ePn] at hp;cases hp
   rw [← eP,← eW,← eA,← eE] at hxe;rw [← eP,← eW,← eA,← eE];refine Zeh (Ee:=Ee) (hx:=hxe) (fun n' s'=>∃ i H',Inv X' [] (capSt n caps σ) H' s'∧tn i s'.heap∧(∀ b∈fp,H' b=none)∧W i n' H') ?_ m0 ⟨0,_,I4,tn1,fun b hb=>(f3 b hb).1,w0⟩;rintro k s5 ⟨i,H5,I5,t5,fr5,w5⟩;have weaken:∀ {σ':St} {H':Hp} {s':Shared} {pl:List (Addr × Obj)},Inv X' pl σ' H' s'→σ'.length=(capSt n caps σ).length→σ'.drop n=(capSt n caps σ).drop n→Inv X' [] (capSt n caps σ) H' s':=fun {σ' H' s' pl} I' hl hd=>by
     have I'':Inv X' [] σ' H' s':=I'.pins_of fun p hp=>by cases hp
     refine I''.weak hl.symm fun j v e=>?_
     have hj:=(Zd7 e).1;have q1:(σ'.drop n)[j-n]?=σ'[j]?:=by rw [List.getElem?_drop];congr 1;omega
     have q2:((capSt n caps σ).drop n)[j-n]?=(capSt n caps σ)[j]?:=by rw [List.getElem?_drop];congr 1;omega
     rw [← q1,hd,q2];exact e
   rcases turn i k H5 w5 with ⟨stop,qn⟩ | ⟨go,step⟩
   · have z:=T.done X' eP eW eK eC i [] s5 (capSt n caps σ) H5 Ee I5 (fun b hb=>fpOk b hb (fr5 b hb)) t5 stop;rw [← eP,← eW] at z;refine thn z fun r s6 ⟨hr,I6⟩=>?_
     subst hr;obtain ⟨m,hm,_⟩:=I6.loc;have ub:Un (frs X.stack) fp (upd H2 s2.heap.objs.size (.lst [])) H5 s₃.heap s6.heap:=by have z:=I6.base;rw [eFs,eEx,eS0,eH0] at z;exact z
     have u23:Un (frs X.stack) fp H2 (upd H2 s2.heap.objs.size (.lst [])) s2.heap s₃.heap:=Un.laid k23 (Nat.le_refl _) I2.fresh;have os6:s6.os=s2.os:=by rw [I6.os,eS0,← hs3]
     have hokk:HOk X.prog X.w H5 s6.heap:=by have z:=I6.hok;rw [eP,eW] at z;exact z
     have Iend:Inv X pins σ H5 s6:=I2.call' os6 (u23.trans ub) hokk I6.bare fun b hb=>⟨(f2 b hb).2.2.2.1,(f2 b hb).2.1,(f2 b hb).2.2.2.2.1,(f2 b hb).2.2.2.2.2⟩
     have hCn:H5 s₃.heap.objs.size=none:=by have z:=I6.free;rw [eL] at z;exact z
     rw [eL] at hm;rw [eE];exact hRR _ _ s6 H5 m hm Iend (I3.fpOk (Nat.le_refl _) hCn) qn
   · have z:=T.item X' eP eW eK eC i [] s5 (capSt n caps σ) H5 Ee I5 (fun b hb=>fpOk b hb (fr5 b hb)) t5 go;rw [← eP,← eW] at z;refine thn z fun r s6 ⟨u,hr,h6⟩=>?_
     subst hr;refine thn h6 fun _ s7 ⟨x,H7,I7,r7,y7,t7,fr7⟩=>?_
     have I7':=I7.pinned (fun b hb=>fpOk b hb (fr7 b hb)) (T.obj _ _ t7);have pinD:∀ {σ':St} {H':Hp} {s':Shared},Inv X' ([]++pinsAt fp s7.heap) σ' H' s'→tn (i+1) s'.heap∧∀ b∈fp,H' b=none:=fun {σ' H' s'} I'=>by
       have pin:∀ b∈fp,∀ o,s7.heap.get? b=some o→s'.heap.get? b=some o∧H' b=none:=fun b hb o e=>by
         have z:=I'.pin (b,o) (List.mem_append_right _ (List.mem_append_right _ (Zcw hb e)));exact ⟨z.1,z.2.1⟩
       refine ⟨T.keep _ _ _ t7 fun b hb o e=>(pin b hb o e).1,fun b hb=>?_⟩;obtain ⟨o,e,_⟩:=T.obj _ _ t7 b hb;exact (pin b hb o e).2
     have xf:∀ {α:Type} {t:Sem α} {Q':α→Shared→Prop} {s':Shared},wpAny (model X'.prog X'.w) X'.A t Q' X'.xe s'→wpAny (model X'.prog X'.w) X'.A t Q' Ee s':=fun z=>by rw [eX] at z;exact z
     refine thn (xf (hg' _ s7 (capSt n caps σ) H7 x u _ I7' r7 (hgo _ _ _ _ (step x H7 y7)))) fun _ s8 ⟨σ8,H8,I8,⟨l8,d8⟩,q8⟩=>?_
     refine thn (xf (ht' _ s8 σ8 H8 _ I8 q8)) fun b s9 ⟨H9,I9,q9⟩=>?_
     cases b with
     | false =>
       rw [if_neg Bool.false_ne_true];obtain ⟨m',hm,w9⟩:=(show ∃ m',m'<k∧W (i+1) m' H9 by simpa using q9)
       obtain ⟨t9,fr9⟩:=pinD I9;exact ⟨m',hm,i+1,H9,weaken I9 l8 d8,t9,fr9,w9⟩
     | true =>
       rw [if_pos rfl];rw [if_pos rfl] at q9;refine thn (xf (he' _ s9 σ8 H9 _ I9 q9)) fun v s10 ⟨y,H10,I10,r10,xs,hD,hlen,m',hm,w10⟩=>?_
       refine thn (xf (Zbm _ s10 σ8 H10 (.ref s2.heap.objs.size) [y] (.ref s2.heap.objs.size) [v] (fun _ H'=>H'=upd H10 s2.heap.objs.size (.lst (xs++[y]))) I10 rfl (.cons r10 .nil) ⟨_,xs,y,rfl,rfl,hD,hlen,rfl⟩)) fun _ s11 ⟨_,H11,I11,_,e11⟩=>?_
       subst e11;obtain ⟨t11,fr11⟩:=pinD I11;exact ⟨m',hm,i+1,_,weaken I11 l8 d8,t11,fr11,w10⟩
 exact codeAny_compStart_list loop (T.self _ 0 _ _ _ tn1 loop)
theorem Inv.closure (I:Inv X pins σ H2 s2)(hok:compOk scope X.env.scope=true):∃ cl,closureFor scope X.env=pure cl∧(∀ y c,cl.lookup y=some c→X.env.cells.lookup y=some c)∧∀ y,(y,NameKind.free)∈scope.names→∃ c,cl.lookup y=some c :=
 ZfK fun z hz e=>I.ok.has z.1 (cok_free hok z hz e)
end
section
variable {X:Cx}{tg iter elt:Expr}{ifs:List Expr}{scope:Scope}{pos:Pos}{wi:TI}{g:TG}{tt:TT}{te:TE}{n:Nat}
theorem ZaZ (own:List Str)(caps:List Nat)(hc:X.calm=true)(hi:PI X tg iter wi)(hg:∀ cl C s₃ H₃ fp,PG (compX X scope own caps cl C s₃ H₃ fp) tg g)(ht:∀ cl C s₃ H₃ fp,PTs (compX X scope own caps cl C s₃ H₃ fp) ifs tt)
   (he:∀ cl C s₃ H₃ fp,PE (compX X scope own caps cl C s₃ H₃ fp) elt te) (hcap:capOk X scope caps) (hgo:gOwn own.length g) (hok:compOk scope X.env.scope=true:=by rfl)
   (hs:∀ x,foldedSetIterable iter X.env x=pure x:=by intro _;rfl):PE X (.ListComp elt [⟨tg,iter,ifs,0⟩] scope pos) (tComp own.length caps wi g tt te):=by
 intro pins s σ H Q I h;obtain ⟨cl,hcl,cl1,cl2⟩:=I.closure hok;rw [eval_ListComp];refine wpAny_comprehension_free (use:=none) rfl hs hcl (ZcQ hok) (Zgd hok) (thn (hi pins s σ H _ I h) fun v s1 h1=>thn h1 fun itv s2 h2=>?_);obtain ⟨it,fp,tn,J,H2,e,I2,T,st2,f2,h3⟩:=h2;subst e;refine ZdZ (Xe:=fun _ _ _ _ _=>False) (RR:=fun acc en=>compPost (model X.prog X.w) X.A X.xe none (EP X pins σ Q) acc en.locals) (own:=own) (caps:=caps) (n:=own.length) (Q:=Q) hc I2 T st2 f2 hok hcap rfl hgo cl1 cl2 (fun C s₃ H₃=>hg cl C s₃ H₃ fp) (fun C s₃ H₃=>ht cl C s₃ H₃ fp) (fun C s₃ H₃=>he cl C s₃ H₃ fp) h3 ?_ (fun _ _ _ _ _ _ z=>z.elim);intro D C s' H' m hm I' hC q;refine ⟨m,hm,fun h' hsb=>⟨.ref D,H',?_,rfl,q⟩⟩;exact I'.turned (it:=C) (t':=s'.toks) (fun b o hb e=>(hsb.2 b hb).trans e) hC.1 hC.2.1 hC.2.2.2.1 hC.2.2.2.2.1 hC.2.2.2.2.2
theorem Zct {i:Nat}{x:Str}{pos' spos:Pos}(own:List Str)(caps:List Nat)(hN:X.N.Nodup)(hx0:X.N[i]?=some x)(hx:Loc X.env.scope x)(hc:X.calm=true)(hi:PI X tg iter wi)(hg:∀ cl C s₃ H₃ fp,PG (compX X scope own caps cl C s₃ H₃ fp) tg g)(ht:∀ cl C s₃ H₃ fp,PTs (compX X scope own caps cl C s₃ H₃ fp) ifs tt)
   (he:∀ cl C s₃ H₃ fp,PE (compX X scope own caps cl C s₃ H₃ fp) elt te) (hcap:capOk X scope caps) (hgo:gOwn own.length g) (hok:compOk scope X.env.scope=true:=by rfl)
   (hs:∀ x,foldedSetIterable iter X.env x=pure x:=by intro _;rfl) (hsw:swapsWith (.ListComp elt [⟨tg,iter,ifs,0⟩] scope pos) (some (.Name x pos')) spos.line X.env=pure true:=by rfl)
   (hf:X.fn x=true∨X.env.scope.names.lookup x=some .local:=by first | exact .inl rfl | exact .inr rfl | assumption):PS X (.Assign [.Name x pos'] (.ListComp elt [⟨tg,iter,ifs,0⟩] scope pos) spos) (tAsg (tComp own.length caps wi g tt te) (gName i)):=by
 intro pins s σ H D I h;obtain ⟨cl,hcl,cl1,cl2⟩:=I.closure hok;rw [exec_Assign_Name_used _ _ _ _ hsw];refine wpAny_bind (wpAny_standAt (wpAny_bind ?_));show wpAny _ _ (do let _ ← comprehension (.ListComp elt [⟨tg,iter,ifs,0⟩] scope pos) scope X.env _ (newList []) false (eval iter X.env) (some (assign (.Name x pos') X.env))) _ _ s;refine wpAny_bind (wpAny_mono (wpAny_comprehension_free (use:=some (assign (.Name x pos') X.env)) (Q:=fun _ s'=>SP X pins D .next s') rfl hs hcl (ZcQ hok) (Zgd hok)
   (thn (hi pins s σ H _ I h) fun v s1 h1=>thn h1 fun itv s2 h2=>?_)) (fun _ s' hq=>wpAny_pure (wpAny_pure hq)) fun _ _ e=>e)
 obtain ⟨it,fp,tn,J,H2,e,I2,T,st2,f2,h3⟩:=h2;subst e;refine ZdZ (Xe:=fun _ _ _ _ _=>False) (RR:=fun acc en=>compPost (model X.prog X.w) X.A X.xe (some (assign (.Name x pos') X.env)) (fun _ s'=>SP X pins D .next s') acc en.locals) (own:=own) (caps:=caps) (n:=own.length) (Q:=fun x H1=>gName i x σ H1 D.nx) hc I2 T st2 f2 hok hcap rfl hgo cl1 cl2 (fun C s₃ H₃=>hg cl C s₃ H₃ fp) (fun C s₃ H₃=>ht cl C s₃ H₃ fp) (fun C s₃ H₃=>he cl C s₃ H₃ fp) h3 ?_ (fun _ _ _ _ _ _ z=>z.elim);intro A' C s' H' m hm I' hC q;obtain ⟨o,es,ep,ho,hd,r⟩:=id hm;have I'':Inv X (pins++[(C,o)]) σ H' s':=I'.pins_of fun p hp=>by
   rcases List.mem_append.mp hp with z | z
   · exact I'.pin p (List.mem_append_right _ z)
   · have e:p=(C,o):=by simpa using z
     subst e;exact ⟨ho,hC.1,hC.2.1,hC.2.2.1,fun v e=>by rw [hd] at e;cases e⟩
 refine thn (Zav hN hx0 hx hf _ s' σ H' (.ref A') (.ref A') _ I'' rfl q) fun _ s2' ⟨σ2,H3',I3,q3⟩=>?_
 have p3:=I3.pin (C,o) (List.mem_append_right _ (List.mem_append_right _ (by simp)));refine ⟨m,⟨o,es,ep,p3.1,hd,r⟩,fun h' hsb=>⟨σ2,H3',?_,q3⟩⟩;exact (I3.unpinned (pl:=[(C,o)])).turned (it:=C) (t':=s2'.toks) (fun b o hb e=>(hsb.2 b hb).trans e) p3.2.1 p3.2.2.1 hC.2.2.2.1 hC.2.2.2.2.1 hC.2.2.2.2.2
end
end L2
namespace L2
open PySem PySem.Spec PyProof.Rows
theorem Zaw:bootBuiltins "isinstance"=some (.builtin "isinstance"):=by decide +kernel
theorem Zc5:bootBuiltins "min"=some (.builtin "min"):=by decide +kernel
theorem ZdT:bootBuiltins "max"=some (.builtin "max"):=by decide +kernel
section
variable {X:Cx}
def vOf:V→Option Value
 | .ty n=>some (.type n)
 | .ref a=>some (.ref a)
 | _=>none
def rIsi (K:PySem.W.Frag):List V→Hp→VK→Prop:=fun xs H Q=>∃ x y c t b,xs=[x,y]∧vOf y=some c∧TyOf K H x t∧PySem.W.kitOne K t c=some b∧Q (.bl b) H
theorem call_isi:CallR X (.builtin "isinstance") (rIsi X.K):=by
 intro pins s σ H xs us Q I r h;obtain ⟨x,y,c,t,b,rfl,hy,ht,hk,q⟩:=h;obtain ⟨u,v,rfl,ru,rv⟩:=r.two;have ev:v=c:=by
   cases y with
   | ty n=>cases (show v=Value.type n from rv);exact Option.some.inj hy
   | ref a=>cases (show v=Value.ref a from rv);exact Option.some.inj hy
   | _=>cases hy
 subst ev;exact ZgC I ru ht hk fun tk=>⟨.bl b,H,I.tok _,rfl,q⟩
theorem ZdM {a:Int}{k:Nat}(h:a.natAbs<2^k):Builtin.Int.intBits a≤k:=by
 unfold Builtin.Int.intBits;split
 · exact Nat.zero_le _
 · rename_i hz
   have h0:a.natAbs≠0:=by
     intro e;have:a=0:=by omega
     subst this;exact hz rfl
   have:=(Nat.log2_lt h0).mpr h;omega
def CShl (i j:Int):Prop:=0≤j∧j≤1000000∧i.natAbs<2^1000
theorem Zgw:OpR X (binaryOp .LShift) (rI CShl fun i j=>.int (i*2^j.toNat)):=opI fun i j _ _ _ _ _ hc q=>by
 have h1:=ZdM hc.2.2;have h2:=hc.2.1;exact lshift_int hc.1 (by omega) q
end
def LoopJ (J:It)(g:TG)(tb:TS)(D:Ends)(σ:St)(H:Hp):Prop:=∃ W:Nat→Nat→St→Hp→Prop,(∃ m,W 0 m σ H)∧∀ i m σ H,W i m σ H →
 (J.stop i H∧D.nx σ H)∨(J.go i H∧∃ N:St→Hp→Prop,(∀ σ' H',N σ' H'→∃ m',m'<m∧W (i+1) m' σ' H')∧∀ x H',J.yld i H x H'→g x σ H' fun σ2 H2=>tb { D with nx:=N,ct:=N,bk:=D.nx } σ2 H2)
theorem ZfX {wi:TI}{g:TG}{tb:TS}{D:Ends}{σ:St}{H:Hp}:tFor wi g tb D σ H=wi σ H fun J H1=>LoopJ J g tb D σ H1:=rfl
theorem loopR {lo:Int}{n:Nat}{g:TG}{tb:TS}{D:Ends}{σ:St}{H:Hp}(Pv:Nat→St→Hp→Prop)(h0:Pv 0 σ H)
   (hs:∀ i σ H,i<n→Pv i σ H→g (.int (lo+i)) σ H fun σ2 H2=>tb { D with nx:=Pv (i+1),ct:=Pv (i+1),bk:=D.nx } σ2 H2) (hd:∀ σ H,Pv n σ H→D.nx σ H):LoopJ (Itr lo n) g tb D σ H:=Zg0 Pv h0 hs hd
theorem loopL {K:PySem.W.Frag}{a:Addr}{xs:List V}{g:TG}{tb:TS}{D:Ends}{σ:St}{H:Hp}(Pv:Nat→St→Hp→Prop)(h0:Pv 0 σ H)(hl:∀ i σ H,i≤xs.length→Pv i σ H→SqL K H a xs)
   (hs:∀ i x σ H,xs[i]?=some x→Pv i σ H→g x σ H fun σ2 H2=>tb { D with nx:=Pv (i+1),ct:=Pv (i+1),bk:=D.nx } σ2 H2) (hd:∀ σ H,Pv xs.length σ H→D.nx σ H):LoopJ (Itl K a) g tb D σ H:=for_list Pv h0 hl hs hd
def CompJ (J:It) (n:Nat) (caps:List Nat) (g:TG) (tt:TT) (te:TE) (σ:St) (H1:Hp) (Q:VK):Prop:=∀ D,H1 D=none→∃ W:Nat→Nat→Hp→Prop,(∃ m,W 0 m (upd H1 D (.lst [])))∧∀ i m H2,W i m H2 →
 (J.stop i H2∧Q (.ref D) H2)∨(J.go i H2∧∀ x H3,J.yld i H2 x H3→g x (capSt n caps σ) H3 fun σ4 H4=>tt σ4 H4 fun b H5 =>
   if b=true then te σ4 H5 fun y H6=>∃ xs,H6 D=some (.lst xs)∧xs.length<sizeLine∧∃ m',m'<m∧W (i+1) m' (upd H6 D (.lst (xs++[y]))) else ∃ m',m'<m∧W (i+1) m' H5)
theorem ZeW {n:Nat}{caps:List Nat}{wi:TI}{g:TG}{tt:TT}{te:TE}{σ:St}{H:Hp}{Q:VK}:tComp n caps wi g tt te σ H Q=wi σ H fun J H1=>CompJ J n caps g tt te σ H1 Q:=rfl
theorem compPure {J:It} {m n:Nat} {caps:List Nat} {g:TG} {tt:TT} {te:TE} {σ:St} {H1:Hp} {Q:VK} (x:Nat→V) (p:Nat→Bool) (f:Nat→V) (hn:n≤1000000)
   (hstop:∀ H2,Same H1 H2→J.stop n H2) (hgo:∀ i H2,i<n→Same H1 H2→J.go i H2) (hy:∀ i H2 v H3,i<n→Same H1 H2→J.yld i H2 v H3→v=x i∧H3=H2)
   (hg:∀ i H2 R,i<n→Same H1 H2→(∀ σ4,σ4=(capSt m caps σ).set 0 (some (x i))→R σ4 H2)→g (x i) (capSt m caps σ) H2 R)
   (ht:∀ i H2 R,i<n→Same H1 H2→R (p i) H2→tt ((capSt m caps σ).set 0 (some (x i))) H2 R)
   (he:∀ i H2 R,i<n→p i=true→Same H1 H2→R (f i) H2→te ((capSt m caps σ).set 0 (some (x i))) H2 R)
   (hq:∀ D,H1 D=none→Q (.ref D) (upd H1 D (.lst (((List.range n).filter p).map f)))):CompJ J m caps g tt te σ H1 Q:=by
 intro D hD;have same:∀ l,Same H1 (upd H1 D (.lst l)):=fun l b o e=>by rw [Zah (Zak e hD)];exact e
 refine ⟨fun i k H2=>k=n-i∧i≤n∧H2=upd H1 D (.lst (((List.range i).filter p).map f)),⟨n,rfl,Nat.zero_le _,rfl⟩,?_⟩;rintro i k H2 ⟨rfl,hi,rfl⟩;by_cases hlt:i<n
 · refine .inr ⟨hgo i _ hlt (same _),fun v H3 y=>?_⟩;obtain ⟨rfl,rfl⟩:=hy i _ v H3 hlt (same _) y;refine hg i _ _ hlt (same _) fun σ4 e4=>?_
   subst e4;refine ht i _ _ hlt (same _) ?_;have step:(List.range (i+1)).filter p=(List.range i).filter p++if p i=true then [i] else []:=by
     rw [List.range_succ,List.filter_append];congr 1
     cases hp:p i<;>simp [hp]
   cases hp:p i with
   | true =>
     rw [if_pos rfl];refine he i _ _ hlt hp (same _) ⟨_,Zab,?_,n-(i+1),by omega,rfl,hlt,?_⟩
     · rw [List.length_map];refine Nat.lt_of_le_of_lt (List.length_filter_le _ _) ?_;rw [List.length_range,sizeLine_eq];omega
     · rw [upd_upd,step,hp,if_pos rfl,List.map_append];rfl
   | false =>
     rw [if_neg Bool.false_ne_true];refine ⟨n-(i+1),by omega,rfl,hlt,?_⟩;rw [step,hp,if_neg Bool.false_ne_true,List.append_nil]
 · have e:i=n:=by omega
   subst e;exact .inl ⟨hstop _ (same _),hq D hD⟩
theorem compR {lo:Int}{m n:Nat}{caps:List Nat}{tt:TT}{te:TE}{σ:St}{H1:Hp}{Q:VK}(p:Nat→Bool)(f:Nat→V)(hn:n≤1000000)
   (ht:∀ i H2 R,i<n→Same H1 H2→R (p i) H2→tt ((capSt m caps σ).set 0 (some (.int (lo+i)))) H2 R)
   (he:∀ i H2 R,i<n→p i=true→Same H1 H2→R (f i) H2→te ((capSt m caps σ).set 0 (some (.int (lo+i)))) H2 R)
   (hq:∀ D,H1 D=none→Q (.ref D) (upd H1 D (.lst (((List.range n).filter p).map f)))):CompJ (Itr lo n) m caps (gName 0) tt te σ H1 Q :=
 compPure (fun i=>.int (lo+i)) p f hn (fun _ _=>Nat.le_refl _) (fun _ _ h _=>h) (fun _ _ _ _ _ _ h=>⟨h.2,h.1⟩) (fun _ _ _ _ _ h=>h _ rfl) ht he hq
theorem ZbU {α β:Type}(p:α→Bool)(f:α→β):∀ (xs:List α) (P:Nat→Bool) (F:Nat→β),(∀ i x,xs[i]?=some x→P i=p x∧F i=f x)→((List.range xs.length).filter P).map F=(xs.filter p).map f
 | [],_,_,_=>rfl
 | x::r,P,F,h=>by
   have e:List.range (x::r).length=0::(List.range r.length).map Nat.succ:=by rw [List.length_cons,List.range_succ_eq_map]
   have ih:=ZbU p f r (P ∘ Nat.succ) (F ∘ Nat.succ) fun i y hy=>h (i+1) y (by simpa using hy)
   obtain ⟨h1,h2⟩:=h 0 x rfl;rw [e,List.filter_cons,List.filter_cons,h1,List.filter_map];split
   · rw [List.map_cons,List.map_cons,h2,List.map_map,ih]
   · rw [List.map_map,ih]
theorem compL {K:PySem.W.Frag}{a:Addr}{xs:List V}{m:Nat}{caps:List Nat}{tt:TT}{te:TE}{σ:St}{H1:Hp}{Q:VK}(p:V→Bool)(f:V→V)(hS:SqL K H1 a xs)(hn:xs.length≤1000000)
   (ht:∀ x H2 R,x∈xs→Same H1 H2→R (p x) H2→tt ((capSt m caps σ).set 0 (some x)) H2 R)
   (he:∀ x H2 R,x∈xs→p x=true→Same H1 H2→R (f x) H2→te ((capSt m caps σ).set 0 (some x)) H2 R)
   (hq:∀ D,H1 D=none→Q (.ref D) (upd H1 D (.lst ((xs.filter p).map f)))):CompJ (Itl K a) m caps (gName 0) tt te σ H1 Q:=by
 have get:∀ i,i<xs.length→xs[i]?=some (xs.getD i .non):=fun i hi=>by rw [List.getD_eq_getElem?_getD,List.getElem?_eq_getElem hi];rfl
 have mem:∀ i,i<xs.length→xs.getD i .non∈xs:=fun i hi=>List.mem_of_getElem? (get i hi)
 refine compPure (fun i=>xs.getD i .non) (fun i=>p (xs.getD i .non)) (fun i=>f (xs.getD i .non)) hn (fun H2 s=>⟨xs,s.seq hS,Nat.le_refl _⟩) (fun i H2 hi s=>⟨xs,_,s.seq hS,get i hi⟩)
   (fun i H2 v H3 hi s y=>⟨?_,y.1⟩) (fun i H2 R hi _ h=>h _ rfl) (fun i H2 R hi s h=>ht _ H2 R (mem i hi) s h) (fun i H2 R hi hp s h=>he _ H2 R (mem i hi) hp s h) (fun D hD=>?_)
 · have:=y.2 xs (s.seq hS);rw [get i hi] at this;exact (Option.some.inj this).symm
 · have:=ZbU p f xs (fun i=>p (xs.getD i .non)) (fun i=>f (xs.getD i .non)) fun i x hx=>by
     have:xs.getD i .non=x:=by rw [List.getD_eq_getElem?_getD,hx];rfl
     rw [this];exact ⟨rfl,rfl⟩
   rw [this];exact hq D hD
section
variable {D:Ends}{σ:St}{H:Hp}{Q:VK}{QT:Bool→Hp→Prop}{QA:List V→Hp→Prop}{ta tb tc:TE}{t u:TS}{tA tB':TT}{te:TE}{tl:TA}{r r':R2}
theorem ZfT:tSeq t u D σ H=t { D with nx:=u D } σ H:=rfl
theorem Zbb:tNext D σ H=D.nx σ H:=rfl
theorem Zez {g:TG}:tAsg te g D σ H=te σ H fun x H1=>g x σ H1 D.nx:=rfl
theorem ZaQ {i:Nat}{v:V}{R:St→Hp→Prop}:gName i v σ H R=R (σ.set i (some v)) H:=rfl
theorem Zdk {i:Nat}:tVar i σ H Q=∃ v,σ[i]?=some (some v)∧Q v H:=rfl
theorem tC_ap {v:V}:tC v σ H Q=Q v H:=rfl
theorem tOp_ap:tOp r ta tb σ H Q=ta σ H fun x H1=>tb σ H1 fun y H2=>r x y H2 Q:=rfl
theorem rI_ap {C:Int→Int→Prop}{g:Int→Int→V}{x y:V}:rI C g x y H Q=∃ i j,x=.int i∧y=.int j∧C i j∧Q (g i j) H:=rfl
theorem rI0_ap {g:Int→Int→V}{x y:V}:rI0 g x y H Q=∃ i j,x=.int i∧y=.int j∧Q (g i j) H:=rfl
theorem rEq_ap {x y:V}:rEq x y H Q=(scal x y=true∧Q (.bl (decide (x=y))) H):=rfl
theorem rNe_ap {x y:V}:rNe x y H Q=(scal x y=true∧Q (.bl (!decide (x=y))) H):=rfl
theorem scal_ii {i j:Int}:scal (.int i) (.int j)=true:=rfl
theorem scal_bb {i j:Bool}:scal (.bl i) (.bl j)=true:=rfl
theorem scal_ss {i j:Str}:scal (.str i) (.str j)=true:=rfl
theorem Za9:tRet te D σ H=te σ H D.rt:=rfl
theorem ZeV:tDrop te D σ H=te σ H fun _ H1=>D.nx σ H1:=rfl
theorem Zbj:tIfS tA t u D σ H=tA σ H fun b H1=>if b=true then t D σ H1 else u D σ H1:=rfl
theorem ZeQ:tTest te σ H QT=te σ H fun x H'=>∃ k,x=.bl k∧QT k H':=rfl
theorem ZdD:tB te σ H QT=te σ H fun x H1=>∃ c,x=.bl c∧QT c H1:=rfl
theorem Zey:tAnd tA tB' σ H QT=tA σ H fun c H1=>if c=true then tB' σ H1 QT else QT false H1:=rfl
theorem Zel:tOr tA tB' σ H QT=tA σ H fun c H1=>if c=true then QT true H1 else tB' σ H1 QT:=rfl
theorem Zej:tNot tA σ H QT=tA σ H fun c H1=>QT (!c) H1:=rfl
theorem Zdp:tAndV ta tb σ H Q=ta σ H fun x H1=>∃ c,x=.bl c∧if c=true then tb σ H1 Q else Q (.bl false) H1:=rfl
theorem Zef:tOrV ta tb σ H Q=ta σ H fun x H1=>∃ c,x=.bl c∧if c=true then Q (.bl true) H1 else tb σ H1 Q:=rfl
theorem ZdG:tNotV ta σ H Q=ta σ H fun x H1=>∃ c,x=.bl c∧Q (.bl (!c)) H1:=rfl
theorem tIf_ap:tIf tA ta tb σ H Q=tA σ H fun c H1=>if c=true then ta σ H1 Q else tb σ H1 Q:=rfl
theorem Zfa {sp:Sp}{dvs:List V}{E:XK}:tCall sp dvs E tl σ H Q=tl σ H fun vs H1=>sp (vs++dvs) H1 Q E:=rfl
theorem Zek:tNil σ H QA=QA [] H:=rfl
theorem Zdq:tCons ta tl σ H QA=ta σ H fun x H1=>tl σ H1 fun xs H2=>QA (x::xs) H2:=rfl
theorem ZfY:tTup tl σ H Q=tl σ H fun xs H1=>xs.length≤sizeLine∧∀ p,H1 p=none→Q (.ref p) (upd H1 p (.tup xs)):=rfl
theorem Zgo:tLst tl σ H Q=tl σ H fun xs H1=>xs.length≤sizeLine∧∀ p,H1 p=none→Q (.ref p) (upd H1 p (.lst xs)):=rfl
theorem ZfL {r:List V→Hp→VK→Prop}:tCB r tl σ H Q=tl σ H fun vs H1=>r vs H1 Q:=rfl
theorem tBM_ap {K:PySem.W.Frag}{T:String}{r:V→List V→Hp→VK→Prop}:tBM K T r te tl σ H Q=te σ H fun x H1=>tyV K T x H1∧tl σ H1 fun xs H2=>r x xs H2 Q:=rfl
theorem Zgy {K:PySem.W.Frag}{T:String}{r:V→List V→Hp→VK→Prop}:tBM0 K T r te σ H Q=te σ H fun x H1=>tyV K T x H1∧r x [] H1 Q:=rfl
theorem tyV_int {K:PySem.W.Frag}{i:Int}:tyV K "int" (.int i) H:=rfl
theorem tyV_list {K:PySem.W.Frag}{p:Addr}:tyV K "list" (.ref p) H↔∃ xs,SqL K H p xs:=by unfold tyV;simp
theorem Zgk {K:PySem.W.Frag}{x y:V}:rIxL K x y H Q=∃ p xs i v,x=.ref p∧y=.int i∧SqL K H p xs∧atI xs i=some v∧Q v H:=rfl
theorem ZfZ {K:PySem.W.Frag}{x y:V}:rIxT K x y H Q=∃ p xs i v,x=.ref p∧y=.int i∧SqT K H p xs∧atI xs i=some v∧Q v H:=rfl
theorem Zf4 {x y:V}:rIxS x y H Q=∃ z i c,x=.str z∧y=.int i∧z.length≤sizeLine∧atI z.cps.toList i=some c∧Q (.str ⟨#[c]⟩) H:=rfl
theorem Zdu {x:V}{vs:List V}:rAppend x vs H Q=∃ l xs y,x=.ref l∧vs=[y]∧H l=some (.lst xs)∧xs.length<sizeLine∧Q .non (upd H l (.lst (xs++[y]))):=rfl
theorem Zgf {x y:V}:rCat x y H Q=∃ l b xs zs,x=.ref l∧y=.ref b∧H l=some (.lst xs)∧H b=some (.lst zs)∧xs.length+zs.length≤sizeLine∧∀ p,H p=none→Q (.ref p) (upd H p (.lst (xs++zs))):=rfl
theorem ZeN {R:It→Hp→Prop}:iRng1 tl σ H R=tl σ H fun vs H1=>∃ j:Int,vs=[.int j]∧-(2^62)≤j∧j<2^62∧R (Itr 0 j.toNat) H1:=rfl
theorem ZeM {K:PySem.W.Frag}{R:It→Hp→Prop}:iList K te σ H R=te σ H fun x H1=>∃ a,x=.ref a∧(∃ xs,SqL K H1 a xs)∧R (Itl K a) H1:=rfl
theorem Zbz:tNoTest σ H QT=QT true H:=rfl
theorem rIsi_blb {K:PySem.W.Frag}{k:Bool}:rIsi K [.bl k,.ty "bool"] H Q↔Q (.bl true) H :=
 ⟨fun ⟨x,y,c,t,b,e,hy,ht,hk,q⟩=>by
   cases e;cases hy;cases ht;cases hk;exact q,fun q=>⟨_,_,_,_,true,rfl,rfl,.bl k,rfl,q⟩⟩
end
end L2
namespace L2
open PySem PySem.Spec PyProof.Rows
def FnAt (P:Program)(w:World)(K:PySem.W.Frag)(mg:Str→Option Value)(base:Heap)(x:Str)(ps:List Str)(k:Nat)(sp:Sp):Prop :=
 ∃ f fd,FnOk P w K mg base CX0 k f fd ps sp∧mg x=some (.ref f)∧PySem.W.keepIn K (.ref f)=true∧Binds K fd ps []
def DefAt (K:PySem.W.Frag)(mg:Str→Option Value)(x:Str)(st:Stmt)(ps:List Str):Prop:=∃ f fd,Fun K x x st f fd∧mg x=some (.ref f)∧Binds K fd ps []
section
variable {P:Program}{w:World}{K:PySem.W.Frag}{mg:Str→Option Value}{base:Heap}
theorem FnAt.of {x:Str}{st:Stmt}{N ps:List Str}{k:Nat}{sp:Sp}(d:DefAt K mg x st ps)(S:FnScope N ps (defScope st))(len:∀ vs H Q E,sp vs H Q E→vs.length=ps.length)
   (hbody:∀ (f:Addr) (cdv:Value) (A:Around) (outer:List Env) (s:Shared) (H:Hp) (vs:List V) (Q:VK) (E:XK),Room k (A.deeper (envOfC x (defScope st) s.heap.objs.size f cdv))→sp vs H Q E →
     ∃ t,PSs (cxOf CX0 P w K mg base N x (defScope st) f cdv A outer s H E).nox (defBody st) t∧t { nx:=fun _ H'=>Q .non H',rt:=Q } (start N vs) H):FnAt P w K mg base x ps (k+1) sp:=by
 obtain ⟨f,fd,F,m,b⟩:=d;exact ⟨f,fd,F.ok S len (hbody f),m,F.kp,b⟩
theorem ZcJ {h:Heap}{x:Str}{st:Stmt}{ps:List Str}{f:Addr}{oc:Value}{od an:Option Addr}{osl:Array (Option Value)}{kV doc pm cdv ct:Value}(X:K.In h)(G:h.Ns mainGlobals mg)(a:PySem.W.nsIn K mainGlobals x=some (some (.ref f)))
   (l:K.lookup f=some ⟨oc,od,.func (PySem.W.fnOf x x (defArgs st) (defBody st) (defScope st) .none kV doc pm an cdv ct),osl⟩) (c:PySem.W.codeIn K cdv x=true) (k:PySem.W.keepIn K (.ref f)=true)
   (hb:∀ (kV doc pm:Value) (an:Option Addr) (cdv ct:Value) (us:List Value),us.length=ps.length→bindArgs (PySem.W.fnOf x x (defArgs st) (defBody st) (defScope st) .none kV doc pm an cdv ct) ⟨us,[]⟩=pure (ps.zip us)):DefAt K mg x st ps :=
 ⟨f,_,ZbY l c k,PySem.W.mg_of X G a,(ZbY l c k).binds hb⟩
end
section
variable {X:Cx}{x:Str}{ps:List Str}{k:Nat}{sp:Sp}{e:Expr}{es:List Expr}{t:TA}{p pos:Pos}
theorem Zai (F:FnAt X.prog X.w X.K X.mg X.base x ps k sp)(hr:Room k X.A)(hg:Gl X x)(ha:PA X (e::es) t)
   (he:starEach (e::es) X.env=(false,eval e X.env)::starEach es X.env:=by rfl) (hdb:(x==("__debug__":Str))=false:=by decide) (hpl:(backTo pos (starEach es X.env)).any (·.1)=false:=by rfl):PE X (.Call (.Name x p) (e::es) [] pos) (tCall sp [] E0 t):=by
 obtain ⟨f,fd,G,m,kp,b⟩:=F;exact pe_call G hr hg m kp b .nil pass0 ha hdb he hpl
end
section
variable {X:Cx}
def rLen (K:PySem.W.Frag):List V→Hp→VK→Prop:=fun xs H Q=>∃ p ys,xs=[.ref p]∧(SqL K H p ys∨SqT K H p ys)∧Q (.int ys.length) H
def rListOf (K:PySem.W.Frag):List V→Hp→VK→Prop:=fun xs H Q=>∃ p ys,xs=[.ref p]∧(SqL K H p ys∨SqT K H p ys)∧∀ l,H l=none→Q (.ref l) (upd H l (.lst ys))
theorem ZaC (K:PySem.W.Frag)(h:X.K=K:=by rfl):IxR X (rIxL K):=h ▸ ix_list
theorem Zan (K:PySem.W.Frag)(h:X.K=K:=by rfl):IxR X (rIxT K):=h ▸ ix_tup
theorem Zat (K:PySem.W.Frag)(h:X.K=K:=by rfl):CallR X (.builtin "isinstance") (rIsi K):=h ▸ call_isi
theorem ZaN (K:PySem.W.Frag)(h:X.K=K:=by rfl):CallR X (.builtin "len") (rLen K):=by subst h;exact Zeu
theorem ZbA (K:PySem.W.Frag)(h:X.K=K:=by rfl):CallR X (.type "list") (rListOf K):=by subst h;exact Zev
theorem op_inK (K:PySem.W.Frag)(h:X.K=K:=by rfl):OpR X (compareOp .In) (rIn K false):=h ▸ ZgQ
theorem Zgx {K:PySem.W.Frag}{xs:List V}{H:Hp}{Q:VK}:rLen K xs H Q=∃ p ys,xs=[.ref p]∧(SqL K H p ys∨SqT K H p ys)∧Q (.int ys.length) H:=rfl
theorem Zdt {K:PySem.W.Frag}{xs:List V}{H:Hp}{Q:VK}:rListOf K xs H Q=∃ p ys,xs=[.ref p]∧(SqL K H p ys∨SqT K H p ys)∧∀ l,H l=none→Q (.ref l) (upd H l (.lst ys)):=rfl
theorem rIn_ap {K:PySem.W.Frag}{neg:Bool}{x y:V}{H:Hp}{Q:VK}:rIn K neg x y H Q=∃ p xs,y=.ref p∧(SqL K H p xs∨SqT K H p xs)∧flatV x=true∧xs.all flatV=true∧Q (.bl (if neg then !inV x xs else inV x xs)) H:=rfl
end
section
variable {X:Cx}{tg l o e:Expr}{es:List Expr}{tl to:TE}{t:TA}{name:Str}{apos cpos:Pos}{T id:String}{r:V→List V→Hp→VK→Prop}
theorem ZaP (K:PySem.W.Frag)(hl:PE X l tl)(h:X.K=K:=by rfl):PI X tg l (iList K tl):=h ▸ pi_list hl
theorem ZbM (K:PySem.W.Frag)(pa:PlainAttrs T)(slot:Slot T name id)(hty:typeOf (.builtin id)=pure (.type "method_descriptor"))(hm:MtR X id r)(ho:PE X o to)(ha:PA X (e::es) t)(hK:X.K=K:=by rfl)
   (hbase:attributeBase o name X.env (eval o X.env)=eval o X.env:=by rfl)
   (hfew:((backTo cpos (starEach (e::es) X.env)).all (fun x=>!x.1)&&(backToKw cpos (keywordEach [] X.env)).all (fun x=>x.1.isSome)
     && decide ((e::es).length+([]:List Keyword).length+(if ([]:List Keyword).isEmpty then 0 else 1)<30))=true:=by rfl)
   (hline:(apos.endLine==cpos.line)=true:=by rfl) (hs:starEach (e::es) X.env=(false,eval e X.env)::starEach es X.env:=by rfl) (hplain:(backTo cpos (starEach es X.env)).any (·.1)=false:=by rfl) :
   PE X (.Call (.Attribute o name apos) (e::es) [] cpos) (tBM K T r to t):=hK ▸ pe_bm pa slot hty hm ho ha hbase hfew hline hs hplain
theorem pe_bm0K (K:PySem.W.Frag)(pa:PlainAttrs T)(slot:Slot T name id)(hty:typeOf (.builtin id)=pure (.type "method_descriptor"))(hm:MtR X id r)(ho:PE X o to)(hK:X.K=K:=by rfl)
   (hbase:attributeBase o name X.env (eval o X.env)=eval o X.env:=by rfl) (hline:(apos.endLine==cpos.line)=true:=by rfl):PE X (.Call (.Attribute o name apos) [] [] cpos) (tBM0 K T r to):=hK ▸ pe_bm0 pa slot hty hm ho hbase hline
end
section
variable {X:Cx}{st:Stmt}{rest:List Stmt}{t u:TS}
end
theorem rep0:List.replicate 0 (none:Option V)=[]:=rfl
theorem rep1:List.replicate 1 (none:Option V)=[none]:=rfl
theorem rep2:List.replicate 2 (none:Option V)=[none,none]:=rfl
theorem rep3:List.replicate 3 (none:Option V)=[none,none,none]:=rfl
theorem rep4:List.replicate 4 (none:Option V)=[none,none,none,none]:=rfl
theorem rep5:List.replicate 5 (none:Option V)=[none,none,none,none,none]:=rfl
theorem rep6:List.replicate 6 (none:Option V)=[none,none,none,none,none,none]:=rfl
theorem rep7:List.replicate 7 (none:Option V)=[none,none,none,none,none,none,none]:=rfl
theorem rep8:List.replicate 8 (none:Option V)=[none,none,none,none,none,none,none,none]:=rfl
theorem rep9:List.replicate 9 (none:Option V)=[none,none,none,none,none,none,none,none,none]:=rfl
theorem rep10:List.replicate 10 (none:Option V)=[none,none,none,none,none,none,none,none,none,none]:=rfl
theorem rep11:List.replicate 11 (none:Option V)=[none,none,none,none,none,none,none,none,none,none,none]:=rfl
end L2
namespace L2
open PySem PySem.Spec PyProof.Rows
mutual
inductive RdD (K:PySem.W.Frag) (H:Hp):V→PyData→Prop
 | non:RdD K H .non .none
 | bl (b:Bool):RdD K H (.bl b) (.bool b)
 | int (i:Int):RdD K H (.int i) (.int i)
 | str (x:Str):RdD K H (.str x) (.str x)
 | lst {a:Addr} {xs:List V} {ds:List PyData} (h:SqL K H a xs) (r:RdDs K H xs ds):RdD K H (.ref a) (.list ds)
 | tup {a:Addr} {xs:List V} {ds:List PyData} (h:SqT K H a xs) (r:RdDs K H xs ds):RdD K H (.ref a) (.tuple ds)
inductive RdDs (K:PySem.W.Frag) (H:Hp):List V→List PyData→Prop
 | nil:RdDs K H [] []
 | cons {x:V} {d:PyData} {xs:List V} {ds:List PyData} (h:RdD K H x d) (r:RdDs K H xs ds):RdDs K H (x::xs) (d::ds)
end
section
variable {X:Cx}{pins:List (Addr × Obj)}{σ:St}{H:Hp}{s:Shared}
mutual
theorem Inv.rd (I:Inv X pins σ H s):∀ {x:V} {d:PyData},RdD X.K H x d→∀ {u:Value},RelV x u→∃ as,Reads s.heap u d as
 | _,_,.non,_,r=>by cases r;exact ⟨_,.none⟩
 | _,_,.bl b,_,r=>by cases r;exact ⟨_,.bool b⟩
 | _,_,.int i,_,r=>by obtain ⟨t,rfl⟩:=r;exact ⟨_,.int i t⟩
 | _,_,.str x,_,r=>by obtain ⟨t,rfl⟩:=r;exact ⟨_,.str x t⟩
 | _,_,.lst h rs,_,r=>by
   cases r;obtain ⟨its,rv,pl,_⟩:=I.list h;obtain ⟨as,q⟩:=Inv.rds I rs rv;obtain ⟨o,ho,hc,n,hd⟩:=pl.isList;exact ⟨_,.list ho hc hd (by simpa using q)⟩
 | _,_,.tup h rs,_,r=>by
   cases r;obtain ⟨its,rv,pl,_⟩:=I.tuple h;obtain ⟨as,q⟩:=Inv.rds I rs rv;obtain ⟨o,ho,hc,n,hd⟩:=pl;exact ⟨_,.tuple ho hc hd (by simpa using q)⟩
theorem Inv.rds (I:Inv X pins σ H s):∀ {xs:List V} {ds:List PyData},RdDs X.K H xs ds→∀ {us:List Value},Vals xs us→∃ as,ReadsAll s.heap us ds as
 | _,_,.nil,_,r=>by cases r;exact ⟨_,.nil⟩
 | _,_,.cons h t,_,r=>by
   cases r with
   | cons r1 r2 =>
     obtain ⟨as,q⟩:=Inv.rd I h r1;obtain ⟨bs,p⟩:=Inv.rds I t r2;exact ⟨_,.cons q p⟩
end
end
section
variable {X:Cx}
def rEqD (K:PySem.W.Frag):R2:=fun x y H Q=>∃ d e,RdD K H x d∧RdD K H y e∧SeqAt.shaped d=true∧SeqAt.shaped e=true∧SeqAt.noMix d e=true∧Q (.bl (PySem.Spec.same d e)) H
theorem Zer (K:PySem.W.Frag)(hu:X.A.units+64<cLine)(h:X.K=K:=by rfl):OpR X (compareOp .Eq) (rEqD K):=by subst h;intro pins s σ H x y v u Q I rx ry h;obtain ⟨d,e,h1,h2,s1,s2,nm,q⟩:=h;obtain ⟨as,r1⟩:=I.rd h1 rx;obtain ⟨bs,r2⟩:=I.rd h2 ry;exact eq_dataH_same r1 r2 s1 s2 hu nm ⟨.bl _,H,I,rfl,q⟩
theorem hu64 {A:Around}{k:Nat}(hr:Room k A):A.units+64<cLine:=Nat.lt_of_le_of_lt (by omega) hr.un
end
section
variable {K:PySem.W.Frag}{H:Hp}{Q:VK}{a b:Addr}
end
section
variable {K:PySem.W.Frag}{H:Hp}{Q:VK}{a b:Addr}
end
section
variable {X:Cx}
end
theorem Zd0 {σ:St}{H:Hp}{Q:VK}:tDNewK σ H Q=∀ p,H p=none→Q (.ref p) (upd H p (.dK [])):=rfl
section
variable {K:PySem.W.Frag}{H:Hp}{Q:VK}{p:Addr}{xs:List V}
end
end L2
namespace BM
open PySem L2 PyProof.Rows
end BM
namespace L2
open PySem PySem.Spec PyProof.Rows
section
variable {X:Cx}{tg:Expr}
end
theorem Zds:∀ {xs:List Str} {us:List Value},Vals (xs.map V.str) us→StrsAre us xs
 | [],_,.nil=>.nil
 | _::_,_,.cons ⟨_,e⟩ r=>by subst e;exact .cons _ _ (Zds r)
section
variable {X:Cx}
def rJoin (K:PySem.W.Frag):V→List V→Hp→VK→Prop:=fun x vs H Q=>∃ z p ys,x=.str z∧vs=[.ref p]∧SqL K H p (ys.map V.str)∧(ys.map (·.length)).sum+ys.length*z.length≤16777216∧Q (.str (Txt.join z ys)) H
theorem Zgs (K:PySem.W.Frag)(h:X.K=K:=by rfl):MtR X "str.join" (rJoin K):=by subst h;intro pins s σ H x vs v us Q I rx rv h;obtain ⟨z,p,ys,rfl,rfl,hp,hz,q⟩:=h;obtain ⟨t,rfl⟩:=rx;obtain ⟨u,rfl,ru⟩:=rv.one;cases ru;obtain ⟨its,r,pl,_⟩:=I.list hp;exact join_list pl.isList (by simpa using Zds r) hz fun t' k=>⟨.str _,H,I.tok _,⟨_,rfl⟩,q⟩
theorem Zfj {K:PySem.W.Frag}{x:V}{vs:List V}{H:Hp}{Q:VK}:rJoin K x vs H Q=∃ z p ys,x=.str z∧vs=[.ref p]∧SqL K H p (ys.map V.str)∧(ys.map (·.length)).sum+ys.length*z.length≤16777216∧Q (.str (Txt.join z ys)) H:=rfl
theorem tyV_str {K:PySem.W.Frag}{z:Str}{H:Hp}:tyV K "str" (.str z) H:=rfl
end
theorem int_mk {K:PySem.W.Frag}{h:Heap}{mg:Str→Option Value}{x:Str}{n:Int}{t:Tok}(X:K.In h)(G:h.Ns mainGlobals mg)(a:PySem.W.nsIn K mainGlobals x=some (some (.int n t))):∃ t,mg x=some (.int n t):=⟨t,PySem.W.mg_of X G a⟩
end L2
namespace L2
open PySem PySem.Spec PyProof.Rows
def MethAt (P:Program)(w:World)(K:PySem.W.Frag)(mg:Str→Option Value)(base:Heap)(C:Addr)(m:Str)(ps:List Str)(k:Nat)(sp:Sp):Prop :=
 Cls K C∧∃ f fd,Meth K C m f∧FnOk P w K mg base CX0 k f fd ps sp∧Binds K fd ps []
def MDefAt (K:PySem.W.Frag)(C:Addr)(m qual:Str)(st:Stmt)(ps:List Str):Prop:=∃ f fd,Fun K m qual st f fd∧Meth K C m f∧Binds K fd ps []
def MakeAt (P:Program)(w:World)(K:PySem.W.Frag)(mg:Str→Option Value)(base:Heap)(x:Str)(C:Addr)(ps:List Str)(k:Nat)(sp:Sp):Prop :=
 mg x=some (.ref C)∧∃ f fd,Mk K C f∧FnOk P w K mg base CX0 k f fd ps sp∧Binds K fd ps []
def MakerAt (K:PySem.W.Frag)(C:Addr)(qual:Str)(st:Stmt)(ps:List Str):Prop:=∃ f fd,Fun K "__init__" qual st f fd∧Mk K C f∧Binds K fd ps []
section
variable {P:Program}{w:World}{K:PySem.W.Frag}{mg:Str→Option Value}{base:Heap}
theorem MethAt.of {C:Addr}{m qual:Str}{st:Stmt}{N ps:List Str}{k:Nat}{sp:Sp}(c:Cls K C)(d:MDefAt K C m qual st ps)(S:FnScope N ps (defScope st))(len:∀ vs H Q E,sp vs H Q E→vs.length=ps.length)
   (hbody:∀ (f:Addr) (cdv:Value) (A:Around) (outer:List Env) (s:Shared) (H:Hp) (vs:List V) (Q:VK) (E:XK),Room k (A.deeper (envOfC qual (defScope st) s.heap.objs.size f cdv))→sp vs H Q E →
     ∃ t,PSs (cxOf CX0 P w K mg base N qual (defScope st) f cdv A outer s H E).nox (defBody st) t∧t { nx:=fun _ H'=>Q .non H',rt:=Q } (start N vs) H):MethAt P w K mg base C m ps (k+1) sp:=by
 obtain ⟨f,fd,F,m,b⟩:=d;exact ⟨c,f,fd,m,F.ok S len (hbody f),b⟩
theorem MakeAt.of {x:Str}{C:Addr}{qual:Str}{st:Stmt}{N ps:List Str}{k:Nat}{sp:Sp}(hx:mg x=some (.ref C))(d:MakerAt K C qual st ps)(S:FnScope N ps (defScope st))(len:∀ vs H Q E,sp vs H Q E→vs.length=ps.length)
   (hbody:∀ (f:Addr) (cdv:Value) (A:Around) (outer:List Env) (s:Shared) (H:Hp) (vs:List V) (Q:VK) (E:XK),Room k (A.deeper (envOfC qual (defScope st) s.heap.objs.size f cdv))→sp vs H Q E →
     ∃ t,PSs (cxOf CX0 P w K mg base N qual (defScope st) f cdv A outer s H E).nox (defBody st) t∧t { nx:=fun _ H'=>Q .non H',rt:=Q } (start N vs) H):MakeAt P w K mg base x C ps (k+1) sp:=by
 obtain ⟨f,fd,F,m,b⟩:=d;exact ⟨hx,f,fd,m,F.ok S len (hbody f),b⟩
theorem mdef_mk {C:Addr}{m qual:Str}{st:Stmt}{ps:List Str}{f:Addr}{oc:Value}{od an:Option Addr}{osl:Array (Option Value)}{kV doc pm cdv ct:Value}(a:PySem.W.findIn K (.ref C) m=some (some (.ref f)))
   (l:K.lookup f=some ⟨oc,od,.func (PySem.W.fnOf m qual (defArgs st) (defBody st) (defScope st) .none kV doc pm an cdv ct),osl⟩) (c:PySem.W.codeIn K cdv qual=true) (k:PySem.W.keepIn K (.ref f)=true) (fn:PySem.W.isFn K (.ref f)=true)
   (hb:∀ (kV doc pm:Value) (an:Option Addr) (cdv ct:Value) (us:List Value),us.length=ps.length→bindArgs (PySem.W.fnOf m qual (defArgs st) (defBody st) (defScope st) .none kV doc pm an cdv ct) ⟨us,[]⟩=pure (ps.zip us)):MDefAt K C m qual st ps :=
 ⟨f,_,ZbY l c k,⟨a,fn,k⟩,(ZbY l c k).binds hb⟩
theorem ZdA {C:Addr}{qual:Str}{st:Stmt}{ps:List Str}{f:Addr}{oc:Value}{od an:Option Addr}{osl:Array (Option Value)}{kV doc pm cdv ct:Value}(a:PySem.W.findIn K (.ref C) "__init__"=some (some (.ref f)))
   (l:K.lookup f=some ⟨oc,od,.func (PySem.W.fnOf "__init__" qual (defArgs st) (defBody st) (defScope st) .none kV doc pm an cdv ct),osl⟩) (c:PySem.W.codeIn K cdv qual=true) (k:PySem.W.keepIn K (.ref f)=true) (fn:PySem.W.isFn K (.ref f)=true)
   (mk:PySem.W.makesIn K C=true) (kC:PySem.W.keepIn K (.ref C)=true)
   (hb:∀ (kV doc pm:Value) (an:Option Addr) (cdv ct:Value) (us:List Value),us.length=ps.length→bindArgs (PySem.W.fnOf "__init__" qual (defArgs st) (defBody st) (defScope st) .none kV doc pm an cdv ct) ⟨us,[]⟩=pure (ps.zip us)):MakerAt K C qual st ps :=
 ⟨f,_,ZbY l c k,⟨mk,a,fn,kC⟩,(ZbY l c k).binds hb⟩
theorem ex_cls {h:Heap}{x:Str}{C:Addr}{R:Addr→Prop}(X:K.In h)(G:h.Ns mainGlobals mg)(a:PySem.W.nsIn K mainGlobals x=some (some (.ref C)))(r:R C):∃ C,mg x=some (.ref C)∧R C:=⟨C,PySem.W.mg_of X G a,r⟩
end
def tMeD (P:Program)(w:World)(K:PySem.W.Frag)(mg:Str→Option Value)(base:Heap)(k0:Nat)(m:Str)(ta:TE)(t:TA):TE:=fun σ H Q=>ta σ H fun x H1=>∃ a C dx fs ps sp,x=.ref a∧H1 a=some (.ins C dx fs)∧fs.lookup m=none ∧
 MethAt P w K mg base C m ps k0 sp∧t σ H1 fun vs H2=>sp (x::vs) H2 Q E0
section
variable {X:Cx}{k0:Nat}{x m:Str}{p pos apos:Pos}{e o:Expr}{es:List Expr}{ta:TE}{t:TA}{P:Program}{w:World}{K:PySem.W.Frag}{mg:Str→Option Value}{base:Heap}
theorem pe_meD (k0:Nat){pl:Sem Bool}(hr:Room k0 X.A)(he:PE X o ta)(ha:PA X (e::es) t)(hP:X.prog=P:=by rfl)(hw:X.w=w:=by rfl)(hK:X.K=K:=by rfl)(hmg:X.mg=mg:=by rfl)(hbs:X.base=base:=by rfl)
   (hst:starEach (e::es) X.env=(false,eval e X.env)::starEach es X.env:=by rfl) (hpl:(backTo pos (starEach es X.env)).any (·.1)=false:=by rfl)
   (ht:eval (.Call (.Attribute o m apos) (e::es) [] pos) X.env=(do
     let ov ← eval o X.env
     standAt apos.atName
     let (f,first) ← holding [ov] (getMethod ov m pl)
     callWith pos f first (backTo pos (starEach (e::es) X.env)) (backToKw pos (keywordEach [] X.env))):=by rfl) :
   PE X (.Call (.Attribute o m apos) (e::es) [] pos) (tMeD P w K mg base k0 m ta t):=by
 subst hP hw hK hmg hbs;intro pins s σ H Q I h;refine PySem.W.methodCall_KW (pl:=pl) (thn (he pins s σ H _ I h) fun u s1 hz=>?_) ht;obtain ⟨x,H1,I1,rx,a,C,dx,fs,ps,sp,ex,ea,l,⟨c,f,fd,me,F,b⟩,q⟩:=hz;subst ex;obtain rfl:u=Value.ref a:=rx;refine Zdn I1 ea c me l ?_;refine PySem.W.callWith_K (first:=[.ref a]) (h₀:=X.base) I.ok.mod.kin me.kp (thn (ha pos pins s1 σ H1 _ I1 q) fun us s2 ⟨vs,H2,I2,r,q2⟩=>⟨I2.kIn,?_⟩) hst hpl;exact Zea (us:=.ref a::us) (vs:=.ref a::vs) (dvs:=[]) F hr b .nil pass0 I2 (.cons rfl r) (by rw [List.append_nil];exact q2)
theorem Zcg (k0:Nat){pl:Sem Bool}(hr:Room k0 X.A)(he:PE X o ta)(hP:X.prog=P:=by rfl)(hw:X.w=w:=by rfl)(hK:X.K=K:=by rfl)(hmg:X.mg=mg:=by rfl)(hbs:X.base=base:=by rfl)
   (ht:eval (.Call (.Attribute o m apos) [] [] pos) X.env=(do
     let ov ← eval o X.env
     standAt apos.atName
     let (f,first) ← holding [ov] (getMethod ov m pl)
     callWith pos f first (backTo pos (starEach [] X.env)) (backToKw pos (keywordEach [] X.env))):=by rfl) :
   PE X (.Call (.Attribute o m apos) [] [] pos) (tMeD P w K mg base k0 m ta tNil):=by
 subst hP hw hK hmg hbs;intro pins s σ H Q I h;refine PySem.W.methodCall_KW (pl:=pl) (thn (he pins s σ H _ I h) fun u s1 hz=>?_) ht;obtain ⟨x,H1,I1,rx,a,C,dx,fs,ps,sp,ex,ea,l,⟨c,f,fd,me,F,b⟩,q⟩:=hz;subst ex;obtain rfl:u=Value.ref a:=rx;refine Zdn I1 ea c me l ?_;exact PySem.W.callWith_K0 (first:=[.ref a]) I1.kIn me.kp (Zea (us:=[.ref a]) (vs:=[.ref a]) (dvs:=[]) F hr b .nil pass0 I1 (.cons rfl .nil) q)
theorem ZbN {C:Addr}{ps:List Str}{k:Nat}{sp:Sp}(F:MakeAt X.prog X.w X.K X.mg X.base x C ps k sp)(hr:Room (k+1) X.A)(hg:Gl X x)(ha:PA X (e::es) t)
   (hdb:(x==("__debug__":Str))=false:=by decide) (he:starEach (e::es) X.env=(false,eval e X.env)::starEach es X.env:=by rfl) (hpl:(backTo pos (starEach es X.env)).any (·.1)=false:=by rfl) :
   PE X (.Call (.Name x p) (e::es) [] pos) (tMake C sp [] E0 t):=by
 obtain ⟨hm,f,fd,M,F,b⟩:=F;exact pe_make M F hr hg hm b .nil pass0 ha hdb he hpl
theorem ZaY (K:PySem.W.Frag){value:Expr}{f:Str}{tv:TE}{pos':Pos}(ha:PE X o ta)(hv:PE X value tv)(hs:swapsWith value (some (.Attribute o f pos')) pos.line X.env=pure false:=by rfl)(h:X.K=K:=by rfl):PS X (.Assign [.Attribute o f pos'] value pos) (sFld K ta tv f):=h ▸ ps_fld ha hv hs
theorem Zax (K:PySem.W.Frag){f:Str}(he:PE X e ta)(h:X.K=K:=by rfl)(hb:attributeBase e f X.env (eval e X.env)=eval e X.env:=by rfl):PE X (.Attribute e f pos) (tFld K ta f):=h ▸ pe_fld he hb
end
section
variable {P:Program}{w:World}{K:PySem.W.Frag}{mg:Str→Option Value}{base:Heap}{k0:Nat}{m f:Str}{ta tv:TE}{t:TA}{σ:St}{H:Hp}{Q:VK}{C:Addr}{sp:Sp}{dvs:List V}{E:XK}{D:Ends}
theorem Zgl:tMeD P w K mg base k0 m ta t σ H Q=ta σ H fun x H1=>∃ a C dx fs ps sp,x=.ref a∧H1 a=some (.ins C dx fs)∧fs.lookup m=none∧MethAt P w K mg base C m ps k0 sp∧t σ H1 fun vs H2=>sp (x::vs) H2 Q E0:=rfl
theorem Ze0:tMake C sp dvs E t σ H Q=t σ H fun vs H1=>∀ x dx,H1 x=none→H1 dx=none→dx≠x→sp (.ref x::(vs++dvs)) (upd (upd H1 dx (.own x)) x (.ins C dx [])) (fun v H2=>v=.non∧Q (.ref x) H2) E:=rfl
theorem Zgg:tFld K ta f σ H Q=ta σ H fun x H1=>∃ a C dx fs v,x=.ref a∧H1 a=some (.ins C dx fs)∧Cls K C∧NoAttr K C f∧fs.lookup f=some v∧Q v H1:=rfl
theorem Zf8:sFld K ta tv f D σ H=tv σ H fun y H1=>ta σ H1 fun x H2=>∃ a C dx fs,x=.ref a∧H2 a=some (.ins C dx fs)∧Cls K C∧NoAttr K C f∧fs.length<1000∧D.nx σ (upd H2 a (.ins C dx (putF f y fs))):=rfl
theorem ZcG {n:Nat}{t:TGs}{v:V}{R:St→Hp→Prop}:gTup K n t v σ H R=∃ a xs,v=.ref a∧SqT K H a xs∧xs.length=n∧t xs σ H R:=rfl
theorem Zb8 {t:TG}{u:TGs}{vs:List V}{R:St→Hp→Prop}:gCons t u vs σ H R=∃ v r,vs=v::r∧t v σ H fun σ' H'=>u r σ' H' R:=rfl
theorem ZcF {vs:List V}{R:St→Hp→Prop}:gNil vs σ H R=(vs=[]∧R σ H):=rfl
theorem tSl_ap {r:V→Option Int→Option Int→Hp→VK→Prop}{te:TE}{tl th:TO}:tSl r te tl th σ H Q=te σ H fun x H1=>tl σ H1 fun l H2=>th σ H2 fun u H3=>r x l u H3 Q:=rfl
theorem Zdm {R:Option Int→Hp→Prop}:tNoPart σ H R=R none H:=rfl
theorem ZeS {R:Option Int→Hp→Prop}:tPart ta σ H R=ta σ H fun x H1=>∃ i,x=.int i∧R (some i) H1:=rfl
theorem Zf0 {x:V}{lo hi:Option Int}:rSlL K x lo hi H Q=∃ a xs,x=.ref a∧SqL K H a xs∧∀ p,H p=none→Q (.ref p) (upd H p (.lst (cutV xs lo hi))):=rfl
theorem ZbR {X:Cx}(K:PySem.W.Frag)(h:X.K=K:=by rfl):SlR X (rSlL K):=h ▸ sl_list
theorem ZeD {X:Cx}(K:PySem.W.Frag){pos:Pos}{es:List Expr}{k:Nat}{t:TGs}{n:Nat}(hc:X.calm=true)(h:PGs X es t)(hK:X.K=K:=by rfl)
   (hn:(assignEach es X.env).length=n:=by rfl) (hst:(assignEach es X.env).findIdx? (·.1)=none:=by rfl):PG X (.Tuple es k pos) (gTup K n t):=hK ▸ pg_tup hc h hn hst
end
def CompYes (n i:Nat)(D:Addr)(I:Nat→List V→Hp→Prop)(y:V)(H6:Hp):Prop:=∃ xs,H6 D=some (.lst xs)∧xs.length<sizeLine∧∃ m',m'<n-i∧m'=n-(i+1)∧∃ ys,I (i+1) ys (upd H6 D (.lst (xs++[y])))
def CompNo (n i:Nat)(I:Nat→List V→Hp→Prop)(H5:Hp):Prop:=∃ m',m'<n-i∧m'=n-(i+1)∧∃ ys,I (i+1) ys H5
theorem compYes {n i:Nat}{D:Addr}{I:Nat→List V→Hp→Prop}{y:V}{H6:Hp}{ys:List V}(hn:n≤1000000)(hi:i<n)(hl:ys.length≤i)(h:H6 D=some (.lst ys))(q:I (i+1) (ys++[y]) (upd H6 D (.lst (ys++[y])))):CompYes n i D I y H6 :=
 ⟨ys,h,by rw [sizeLine_eq];omega,n-(i+1),by omega,rfl,_,q⟩
theorem compNo {n i:Nat}{I:Nat→List V→Hp→Prop}{H5:Hp}{ys:List V}(hi:i<n)(q:I (i+1) ys H5):CompNo n i I H5:=⟨n-(i+1),by omega,rfl,_,q⟩
theorem compG {J:It}{m n:Nat}{caps:List Nat}{g:TG}{tt:TT}{te:TE}{σ:St}{H1:Hp}{Q:VK}(I:Addr→Nat→List V→Hp→Prop)
   (h0:∀ D,H1 D=none→I D 0 [] (upd H1 D (.lst []))) (hl:∀ D i ys H2,I D i ys H2→i≤n)
   (hstop:∀ D ys H2,H1 D=none→I D n ys H2→J.stop n H2) (hgo:∀ D i ys H2,H1 D=none→i<n→I D i ys H2→J.go i H2)
   (turn:∀ D i ys H2 x H3,H1 D=none→i<n→I D i ys H2→J.yld i H2 x H3→g x (capSt m caps σ) H3 fun σ4 H4=>tt σ4 H4 fun b H5=>if b=true then te σ4 H5 fun y H6=>CompYes n i D (I D) y H6 else CompNo n i (I D) H5)
   (hq:∀ D ys H2,H1 D=none→I D n ys H2→Q (.ref D) H2):CompJ J m caps g tt te σ H1 Q:=by
 intro D hD;refine ⟨fun i k H2=>k=n-i∧∃ ys,I D i ys H2,⟨n,rfl,[],h0 D hD⟩,?_⟩;rintro i k H2 ⟨rfl,ys,hI⟩;have h1:=hl D i ys H2 hI;by_cases hlt:i<n
 · exact .inr ⟨hgo D i ys H2 hD hlt hI,fun x H3 y=>turn D i ys H2 x H3 hD hlt hI y⟩
 · have e:i=n:=by omega
   subst e;exact .inl ⟨hstop D ys H2 hD hI,hq D ys H2 hD hI⟩
theorem Same.put {H H':Hp}{a:Addr}{o:HO}(s:Same H H')(h:H a=none):Same H (upd H' a o):=fun b u e=>by rw [Zah (Zak e h)];exact s b u e
theorem Same.new {H:Hp}{a:Addr}{o:HO}(h:H a=none):Same H (upd H a o):=(Same.refl H).put h
end L2
namespace L2
open PySem PySem.Spec PyProof.Rows
section
variable {prog:Program}{w:World}{A:Around}{E:Value→Shared→Prop}{s:Shared}
end
section
variable {X:Cx}{e:Expr}{te:TE}{p p' pos pos':Pos}
end
theorem Zdv {x:V}{vs:List V}{H:Hp}{Q:VK}:rExtend x vs H Q=∃ l b xs zs,x=.ref l∧vs=[.ref b]∧H l=some (.lst xs)∧H b=some (.lst zs)∧xs.length+zs.length≤sizeLine∧Q .non (upd H l (.lst (xs++zs))):=rfl
end L2
namespace L2
open PySem PySem.Spec PyProof.Rows
section
variable {prog:Program}{w:World}{A:Around}{E:Value→Shared→Prop}
end
structure TyIns (K:PySem.W.Frag)(C:Addr):Prop where
 a:PySem.W.findIn K (.ref C) "__class__"=some (some (.builtin "object.__class__"))
 b:PySem.W.specialIn K (.builtin "object.__class__") "__get__"=some (some (.builtin "getset_descriptor.__get__"))
 c:PySem.W.takesIn K (.builtin "object.__class__")=some true
 d:PySem.W.mroIn K C (.type "object")=some true
def IsiTo (K:PySem.W.Frag)(mg:Str→Option Value)(C:Addr)(x:Str)(b:Bool):Prop:=∀ S,mg x=some (.ref S)→PySem.W.kitOne K (.ref C) (.ref S)=some b
theorem isi_to {K:PySem.W.Frag}{h:Heap}{mg:Str→Option Value}{x:Str}{C S:Addr}{b:Bool}(X:K.In h)(G:h.Ns mainGlobals mg)(a:PySem.W.nsIn K mainGlobals x=some (some (.ref S)))(r:PySem.W.kitOne K (.ref C) (.ref S)=some b):IsiTo K mg C x b:=fun T e=>by
 rw [PySem.W.mg_of X G a] at e;cases e;exact r
theorem Zca {K:PySem.W.Frag}{H:Hp}{Q:VK}{mg:Str→Option Value}{a C S dx:Addr}{fs:List (Str × V)}{x:Str}{b:Bool}(ha:H a=some (.ins C dx fs))(c:Cls K C)(t:TyIns K C)(i:IsiTo K mg C x b)(hS:mg x=some (.ref S))(q:Q (.bl b) H):rIsi K [.ref a,.ref S] H Q :=
 ⟨_,_,_,_,b,rfl,rfl,.ins ha c t.a t.b t.c t.d,i S hS,q⟩
theorem all1 {α:Type}{p:List α→Prop}(h:∀ a,p [a]):∀ us:List α,us.length=1→p us
 | [a],_=>h a
theorem all2 {α:Type}{p:List α→Prop}(h:∀ a b,p [a,b]):∀ us:List α,us.length=2→p us
 | [a,b],_=>h a b
theorem all3 {α:Type}{p:List α→Prop}(h:∀ a b c,p [a,b,c]):∀ us:List α,us.length=3→p us
 | [a,b,c],_=>h a b c
theorem all4 {α:Type}{p:List α→Prop}(h:∀ a b c d,p [a,b,c,d]):∀ us:List α,us.length=4→p us
 | [a,b,c,d],_=>h a b c d
end L2
namespace BM
open PySem L2 PyProof.Rows
def fs (k:Nat):Nat→Nat→Nat
 | 0,_=>0
 | n+1,w=>w%2^k+fs k n (w/2^k)
end BM
namespace L2
open PySem PySem.Spec PyProof.Rows
section
variable {X:Cx}{pins:List (Addr × Obj)}{σ:St}{H:Hp}{s:Shared}{h':Heap}
theorem Inv.turnedNew {t':Nat} {ch:List Addr} {T:Addr} {o:HO} (I:Inv X pins σ H s) (hf:∀ b∈ch,FpOk X pins H b) (k:∀ b u,b∉ch→s.heap.get? b=some u→h'.get? b=some u) (hT:s.heap.objs.size≤T)
   (new:ObjOk X.prog X.w (upd H T o) h' T o):Inv X pins σ (upd H T o) { s with heap:=h',toks:=t' }:=by
 have nT:H T=none:=I.hok.fresh hT;have nch:∀ b u,H b=some u→b∉ch:=fun b u e z=>by
   rw [(hf b z).1] at e;cases e
 have neT:∀ b u,s.heap.get? b=some u→b≠T:=fun b u e z=>absurd (Nat.lt_of_lt_of_le (Heap.lt_size e) (by rw [z];exact hT)) (Nat.lt_irrefl _)
 have lch:X.env.locals∉ch:=fun z=>(hf _ z).2.1 rfl
 refine I.step (g':=s.gens) (d':=s.drawn) (ch:=ch) (fun b hb=>?_) (fun b u _ _ hc e _=>k b u hc e) (fun b u _ _ hc e _=>⟨u.slots,k b u hc e⟩) (fun b u _ e n=>?_) (fun b u hc e=>⟨u,k b u hc e⟩) (fun b xs e=>?_) (fun b u v e=>?_) (fun b ps e=>⟨#[],?_⟩) (fun m hm=>?_) (fun b u e=>?_) I.bare
 · obtain ⟨_,f1,_,f3,f4,f5⟩:=hf b hb;exact ⟨f3,f1,f4,f5⟩
 · rw [Zah (neT b u e)];exact n
 · rw [Zah (Zak e nT)];exact e
 · rw [Zah (Zak e nT)];exact e
 · rw [Zah (Zak e nT),e];simp
 · obtain ⟨u,es,ep,ho,r⟩:=hm;exact ⟨u,es,ep,k _ u lch ho,r⟩
 · by_cases hb:b=T
   · subst hb;rw [Zab] at e;cases e;exact new
   · rw [Zah hb] at e;refine (I.hok b u e).stay (fun c v hc q=>k c v ?_ q) (fun c q=>?_) fun c xs q=>?_
     · rcases hc with z | z
       · rw [z];exact nch b u e
       · exact nch c _ z
     · rw [Zah (Zak q nT)];exact q
     · rw [Zah (Zak q nT)];exact q
theorem Inv.turnedL {t':Nat}{ch:List Addr}(I:Inv X pins σ H s)(hf:∀ b∈ch,FpOk X pins H b)(k:∀ b u,b∉ch→s.heap.get? b=some u→h'.get? b=some u):Inv X pins σ H { s with heap:=h',toks:=t' }:=by
 have nch:∀ b u,H b=some u→b∉ch:=fun b u e z=>by
   rw [(hf b z).1] at e;cases e
 have lch:X.env.locals∉ch:=fun z=>(hf _ z).2.1 rfl
 refine I.step (g':=s.gens) (d':=s.drawn) (ch:=ch) (fun b hb=>?_) (fun b u _ _ hc e _=>k b u hc e) (fun b u _ _ hc e _=>⟨u.slots,k b u hc e⟩) (fun _ _ _ _ n=>n) (fun b u hc e=>⟨u,k b u hc e⟩) (fun _ _ e=>e) (fun _ _ _ e=>e) (fun b ps e=>⟨#[],by rw [e];simp⟩) (fun m hm=>?_) (fun b u e=>?_) I.bare
 · obtain ⟨_,f1,_,f3,f4,f5⟩:=hf b hb;exact ⟨f3,f1,f4,f5⟩
 · obtain ⟨u,es,ep,ho,r⟩:=hm;exact ⟨u,es,ep,k _ u lch ho,r⟩
 · refine (I.hok b u e).stay (fun c v hc q=>k c v ?_ q) (fun _ q=>q) fun _ _ q=>q
   rcases hc with z | z
   · rw [z];exact nch b u e
   · exact nch c _ z
end
def Itz (K:PySem.W.Frag)(a b:Addr):It :=
 ⟨fun i H=>∃ xs ys x y,SqL K H a xs∧SqL K H b ys∧xs[i]?=some x∧ys[i]?=some y,
  fun i H v H'=>∃ T x y,v=.ref T∧H T=none∧H'=upd H T (.tup [x,y])∧(∀ xs,SqL K H a xs→xs[i]?=some x)∧(∀ ys,SqL K H b ys→ys[i]?=some y),
  fun i H=>∃ xs ys,SqL K H a xs∧SqL K H b ys∧(xs.length≤i∨ys.length≤i)⟩
structure ZipTn (z TI TO i1 i2 a b:Addr)(i:Nat)(h:Heap):Prop where
 z:IsZip h z TI TO .none
 ti:IsPair h TI (.ref i1) (.ref i2)
 to:∃ x y,IsPair h TO x y
 i1:h.IsListIter i1 a i
 i2:h.IsListIter i2 b i
theorem turn_zip {P:Program} {w:World} {K:PySem.W.Frag} {es:List Expr} {x1} {pos:Pos} {z TI TO i1 i2 a b:Addr} (D:ZipApart z TI TO i1 i2 a b):Turn P w K (.Tuple es x1 pos) (Itz K a b) [z,TI,TO,i1,i2] z (ZipTn z TI TO i1 i2 a b) where
 mem:=by simp
 obj:=fun i h st c hc=>by
   simp only [List.mem_cons,List.not_mem_nil,or_false] at hc;obtain ⟨x,y,hto⟩:=st.to;obtain ⟨o1,e1,_,d1⟩:=st.i1;obtain ⟨o2,e2,_,d2⟩:=st.i2;rcases hc with rfl | rfl | rfl | rfl | rfl
   · exact ⟨_,st.z,fun v q=>by cases q⟩
   · exact ⟨_,st.ti,fun v q=>by cases q⟩
   · exact ⟨_,hto,fun v q=>by cases q⟩
   · exact ⟨o1,e1,fun v q=>by rw [d1] at q;cases q⟩
   · exact ⟨o2,e2,fun v q=>by rw [d2] at q;cases q⟩
 keep:=fun i h h' st k=>by
   obtain ⟨x,y,hto⟩:=st.to;exact ⟨k z (by simp) _ st.z,k TI (by simp) _ st.ti,⟨x,y,k TO (by simp) _ hto⟩,st.i1.at fun o e=>k i1 (by simp) o e,st.i2.at fun o e=>k i2 (by simp) o e⟩
 item:=by
   intro X hP hw hK hc i pins s σ H E I hf st hg;subst hP hw hK;obtain ⟨xs,ys,x,y,hq,hr,hx,hy⟩:=hg;obtain ⟨its,rv,p,_⟩:=I.list hq;obtain ⟨jts,rw_,p2,_⟩:=I.list hr;obtain ⟨u,hu,ru⟩:=rv.get hx;obtain ⟨v,hv,rv2⟩:=rw_.get hy;obtain ⟨x0,y0,hto⟩:=st.to;refine wpAny_pyNext_zip_item D st.z st.ti hto st.i1 st.i2 p.isList p2.isList (x:=u) (y:=v) (by simpa using hu) (by simpa using hv) fun g1 k1 k2 k3 k4 k5 k6 k7=>?_
   refine ⟨_,rfl,wpAny_letOwnedTupleGo_zip k1 fun g2 k8 k9=>?_⟩;have lt:∀ {c:Addr} {o:Obj},s.heap.get? c=some o→s.heap.objs.size≠c:=fun e=>Nat.ne_of_gt (Heap.lt_size e)
   have keep:∀ c o,c∉[z,TI,TO,i1,i2]→s.heap.get? c=some o→g2.get? c=some o:=fun c o hc e=>by
     simp only [List.mem_cons,List.not_mem_nil,or_false,not_or] at hc;exact k9.extBut _ _ hc.1 (k7 c o hc.1 hc.2.2.1 hc.2.2.2.1 hc.2.2.2.2 e)
   have hT:g2.get? s.heap.objs.size=some { cls:=.type "tuple",data:=.seq #[u,v] }:=k9.extBut _ _ (lt st.z) k5;have nT:H s.heap.objs.size=none:=I.hok.fresh (Nat.le_refl _);have I1:Inv X pins σ (upd H s.heap.objs.size (.tup [x,y])) { s with heap:=g2 }:=I.turnedNew (t':=s.toks) hf keep (Nat.le_refl _) ⟨by show 2≤sizeLine;decide,[u,v],.cons ru (.cons rv2 .nil),_,hT,rfl,_,rfl⟩;refine ⟨.ref s.heap.objs.size,_,I1,rfl,⟨_,x,y,rfl,nT,rfl,fun zs hz=>by rw [I.list_inj hz hq];exact hx,fun zs hz=>by rw [I.list_inj hz hr];exact hy⟩,?_,fun c hc=>?_⟩
   · have nz:∀ c,c≠z→∀ o,g1.get? c=some o→g2.get? c=some o:=fun c hc o e=>k9.extBut _ _ hc e
     exact ⟨k8,nz _ D.TIz _ (k7 _ _ D.TIz D.TITO D.TIi1 D.TIi2 st.ti),⟨u,v,nz _ D.TOz _ k2⟩,k3.at fun o e=>nz _ D.i1z o e,k4.at fun o e=>nz _ D.i2z o e⟩
   · rw [Zah ?_]
     · exact (hf c hc).1
     · rintro rfl;simp only [List.mem_cons,List.not_mem_nil,or_false] at hc;obtain ⟨o1,e1,_⟩:=st.i1;obtain ⟨o2,e2,_⟩:=st.i2;rcases hc with q | q | q | q | q
       · exact lt st.z q
       · exact lt st.ti q
       · exact lt hto q
       · exact lt e1 q
       · exact lt e2 q
 done:=by
   intro X hP hw hK hc i pins s σ H E I hf st hg;subst hP hw hK;obtain ⟨xs,ys,hq,hr,hx⟩:=hg;obtain ⟨its,rv,p,_⟩:=I.list hq;obtain ⟨jts,rw_,p2,_⟩:=I.list hr;obtain ⟨x0,y0,hto⟩:=st.to;have e1:=rv.length;have e2:=rw_.length;refine wpAny_pyNext_zip_end (I.ok.hd hc) D st.z st.ti hto st.i1 st.i2 p.isList p2.isList ?_ fun g1 k=>?_
   · rcases hx with q | q
     · exact .inl (by simp;omega)
     · exact .inr (by simp;omega)
   · refine ⟨rfl,I.turnedL (t':=s.toks) hf fun c o hc e=>?_⟩;simp only [List.mem_cons,List.not_mem_nil,or_false,not_or] at hc;exact k c o hc.1 hc.2.2.1 hc.2.2.2.1 hc.2.2.2.2 e
 self:=fun _ _ _ _ _ st h=>wpAny_pyIter_zip st.z h
theorem boot_zip:bootBuiltins "zip"=some (.type "zip"):=by decide +kernel
def iZip (K:PySem.W.Frag)(ta:TA):TI:=fun σ H R=>ta σ H fun vs H1=>∃ a b,vs=[.ref a,.ref b]∧(∃ xs,SqL K H1 a xs)∧(∃ ys,SqL K H1 b ys)∧R (Itz K a b) H1
theorem pi_zipK {X:Cx} (K:PySem.W.Frag) {es:List Expr} {x1} {p3:Pos} {a b:Expr} {ta:TA} {p pos:Pos} (hg:Gl X "zip") (hm:X.mg "zip"=none) (ha:PA X [a,b] ta) (hK:X.K=K:=by rfl) (hs:starEach [a,b] X.env=[(false,eval a X.env),(false,eval b X.env)]:=by rfl) (hs2:starEach [b] X.env=[(false,eval b X.env)]:=by rfl) :
   PI X (.Tuple es x1 p3) (.Call (.Name "zip" p) [a,b] [] pos) (iZip K ta):=by
 subst hK;intro pins s σ H R I h;refine Call_ (Zc2 I hg hm boot_zip (PyProof.Rows.callWith_type1 (thn (ha pos pins s σ H _ I h) fun us s1 ⟨vs,H1,I1,r1,q1⟩=>?_) (by rw [hs,hs2]) (by rw [hs2];rfl)));obtain ⟨l1,l2,rfl,⟨xs,hx⟩,⟨ys,hy⟩,q⟩:=q1;cases r1 with
 | cons r rr =>
   cases rr with
   | cons r' rr =>
     cases rr;cases r;cases r';obtain ⟨its,rv,pl1,_⟩:=I1.list hx;obtain ⟨jts,rw_,pl2,_⟩:=I1.list hy;refine call_zip_2 pl1.isList pl2.isList fun g k1 k2 k3 k4 k5 k6 k7=>?_
     refine wpAny_pyIter_zip k1 ?_;have lt1:l1<s1.heap.objs.size:=by obtain ⟨o,e,_⟩:=pl1.isList;exact Heap.lt_size e
     have lt2:l2<s1.heap.objs.size:=by obtain ⟨o,e,_⟩:=pl2.isList;exact Heap.lt_size e
     have D:ZipApart (s1.heap.objs.size+4) (s1.heap.objs.size+2) (s1.heap.objs.size+3) s1.heap.objs.size (s1.heap.objs.size+1) l1 l2:=by constructor<;>(intro q;simp only [Addr] at *;omega)
     refine ⟨_,_,_,_,H1,rfl,I1.kept (t':=s1.toks) k7,turn_zip D,⟨k1,k2,⟨_,_,k3⟩,k4,k5⟩,fun c hc=>?_,q⟩;have le:s1.heap.objs.size≤c:=by simp only [List.mem_cons,List.not_mem_nil,or_false] at hc;rcases hc with q | q | q | q | q<;>subst q<;>first | exact Nat.le_refl _ | exact Nat.le_add_right _ _
     exact I1.fpOk le (I1.hok.fresh le)
theorem Zgq {K:PySem.W.Frag}{ta:TA}{σ:St}{H:Hp}{R:It→Hp→Prop}:iZip K ta σ H R=ta σ H fun vs H1=>∃ a b,vs=[.ref a,.ref b]∧(∃ xs,SqL K H1 a xs)∧(∃ ys,SqL K H1 b ys)∧R (Itz K a b) H1:=rfl
end L2
namespace L2
open PySem PySem.Spec PyProof.Rows
section
variable {x:V}{vs:List V}{H:Hp}{Q:VK}
end
end L2
namespace ZT
open PySem PySem.Spec PyProof.Rows
section
variable {prog:Program}{w:World}{A:Around}{E:Value→Shared→Prop}{s:Shared}
end
section
variable {prog:Program}{w:World}{A:Around}{E:Value→Shared→Prop}{s:Shared}
end
section
variable {prog:Program}{w:World}{A:Around}{E:Value→Shared→Prop}{s:Shared}
end
end ZT
namespace L2
open PySem PySem.Spec PyProof.Rows
structure ZipTt (z TI TO i1 i2 a b:Addr)(i:Nat)(h:Heap):Prop where
 z:IsZip h z TI TO .none
 ti:IsPair h TI (.ref i1) (.ref i2)
 to:∃ x y,IsPair h TO x y
 i1:IsTupIter h i1 a i
 i2:IsTupIter h i2 b i
end L2
namespace Srt
open PySem PyProof.Rows
structure Cmp (M:Model)(A:Around)(E:Value→Shared→Prop)(s:Shared)(kd:SortKind)(S:Keyed→Prop)(L:Keyed→Keyed→Bool):Prop where
 lt:∀ (x y:Keyed) (st:SortSt) (Q:Option Bool→SortSt→Prop),S x→S y→kindOf st=kd→Q (some (L x y)) st→wpS M A E s (lt' x y) Q st
 asym:∀ x y,L x y=true→L y x=false
 neg:∀ x y z,S x→S y→S z→L x z=true→L x y=true∨L y z=true
section
variable {M:Model}{A:Around}{E:Value→Shared→Prop}{s:Shared}{kd:SortKind}{S:Keyed→Prop}{L:Keyed→Keyed→Bool}
def pb (L:Keyed→Keyed→Bool)(left:Bool)(key:Keyed)(arr:Array Keyed)(base i:Nat):Bool:=match arr[base+i]? with
 | some x=>if left then L x key else !L key x
 | none=>false
end
end Srt
namespace Srt
open PySem PyProof.Rows
structure Ord (S:Keyed→Prop)(L:Keyed→Keyed→Bool):Prop where
 asym:∀ x y,L x y=true→L y x=false
 neg:∀ x y z,S x→S y→S z→L x z=true→L x y=true∨L y z=true
abbrev Rise (L:Keyed→Keyed→Bool)(l:List Keyed):Prop:=l.Pairwise fun x y=>L y x=false
section
variable {S:Keyed→Prop}{L:Keyed→Keyed→Bool}
structure MI (L:Keyed→Keyed→Bool)(al bl ol:List Keyed)(ia ib:Nat):Prop where
 perm:ol.Perm (al.take ia++bl.take ib)
 rise:Rise L ol
 lea:∀ x∈ol,∀ y∈al.drop ia,L y x=false
 leb:∀ x∈ol,∀ y∈bl.drop ib,L y x=false
 ha:ia≤al.length
 hb:ib≤bl.length
end
structure Sm (st st':SortSt):Prop where
 kind:kindOf st'=kindOf st
 arr:arrOf st'=arrOf st
 pend:pendingOf st'=pendingOf st
 failed:failedOf st'=failedOf st
section
variable {M:Model}{A:Around}{E:Value→Shared→Prop}{s:Shared}{kd:SortKind}{S:Keyed→Prop}{L:Keyed→Keyed→Bool}
variable {a b out:Array Keyed}{ia ib k:Nat}
structure MS (L:Keyed→Keyed→Bool)(st:SortSt)(a b out:Array Keyed)(ia ib:Nat)(st':SortSt):Prop where
 sm:Sm st st'
 mi:MI L a.toList b.toList out.toList ia ib
 ha:ia+1<a.size
 hb:ib<b.size
end
end Srt
namespace Srt
open PySem PyProof.Rows
section
variable {S:Keyed→Prop}{L:Keyed→Keyed→Bool}
structure MH (L:Keyed→Keyed→Bool)(al bl ol:List Keyed)(na nb:Nat):Prop where
 perm:ol.Perm (al.drop na++bl.drop nb)
 rise:Rise L ol
 lea:∀ x∈ol,∀ y∈al.take na,L x y=false
 leb:∀ x∈ol,∀ y∈bl.take nb,L x y=false
 ha:na≤al.length
 hb:nb≤bl.length
variable {a b out:Array Keyed}{na nb k:Nat}
end
section
variable {M:Model}{A:Around}{E:Value→Shared→Prop}{s:Shared}{kd:SortKind}{S:Keyed→Prop}{L:Keyed→Keyed→Bool}
structure MHS (L:Keyed→Keyed→Bool)(st:SortSt)(a b out:Array Keyed)(na nb:Nat)(st':SortSt):Prop where
 sm:Sm st st'
 mi:MH L a.toList b.toList out.reverse.toList na nb
 ha:0<na
 hb:1<nb
variable {a b out:Array Keyed}{na nb k:Nat}
end
end Srt
namespace Srt
open PySem PyProof.Rows
section
variable {S:Keyed→Prop}{L:Keyed→Keyed→Bool}
end
structure Two (L:Keyed→Keyed→Bool)(st:SortSt)(i:Nat)(pre A B post:List Keyed):Prop where
 arr:(arrOf st).toList=pre++(A++(B++post))
 pa:∃ pw,(pendingOf st)[i]?=some (pre.length,A.length,pw)
 pb:∃ pw,(pendingOf st)[i+1]?=some (pre.length+A.length,B.length,pw)
 rA:Rise L A
 rB:Rise L B
 nA:0<A.length
 nB:0<B.length
section
variable {M:Model}{Ar:Around}{E:Value→Shared→Prop}{s:Shared}{kd:SortKind}{S:Keyed→Prop}{L:Keyed→Keyed→Bool}
end
end Srt
namespace Srt
open PySem PyProof.Rows
structure Sa (st st':SortSt):Prop where
 kind:kindOf st'=kindOf st
 pend:pendingOf st'=pendingOf st
 failed:failedOf st'=failedOf st
section
variable {M:Model}{Ar:Around}{E:Value→Shared→Prop}{s:Shared}{kd:SortKind}{S:Keyed→Prop}{L:Keyed→Keyed→Bool}
end
end Srt
namespace Srt
open PySem PyProof.Rows
abbrev Fall (L:Keyed→Keyed→Bool)(l:List Keyed):Prop:=l.Pairwise fun x y=>L x y=false
structure CR (st st':SortSt)(pre all D T:List Keyed):Prop where
 sa:Sa st st'
 arr:(arrOf st').toList=pre++(D++T)
 perm:(D++T).Perm all
section
variable {M:Model}{Ar:Around}{E:Value→Shared→Prop}{s:Shared}{kd:SortKind}{S:Keyed→Prop}{L:Keyed→Keyed→Bool}
structure Dn (L:Keyed→Keyed→Bool)(D:List Keyed)(neq:Nat):Prop where
 fall:Fall L D
 lt:neq<D.length
 same:∀ x∈D.drop (D.length-(neq+1)),∀ y∈D.drop (D.length-(neq+1)),L x y=false
end
end Srt
namespace Srt
open PySem PyProof.Rows
def Pd (L:Keyed→Keyed→Bool):Nat→List (Nat × Nat × Nat)→List (List Keyed)→Prop
 | _,[],[]=>True
 | off,p::ps,R::rs=>p.1=off∧p.2.1=R.length∧0<R.length∧Rise L R∧Pd L (off+R.length) ps rs
 | _,_,_=>False
section
variable {S:Keyed→Prop}{L:Keyed→Keyed→Bool}
structure SI (L:Keyed→Keyed→Bool)(kd:SortKind)(all:List Keyed)(st:SortSt)(runs:List (List Keyed))(T:List Keyed):Prop where
 arr:(arrOf st).toList=runs.flatten++T
 perm:(runs.flatten++T).Perm all
 pend:Pd L 0 (pendingOf st).toList runs
 kind:kindOf st=kd
 failed:failedOf st=none
end
section
variable {M:Model}{Ar:Around}{E:Value→Shared→Prop}{s:Shared}{kd:SortKind}{S:Keyed→Prop}{L:Keyed→Keyed→Bool}
end
end Srt
namespace L2
open PySem PySem.Spec PyProof.Rows
abbrev bmVal:List Value:=[.type "ValueError",.type "Exception",.type "BaseException",.type "object"]
def excO (e C:Addr):HO:=.ext fun h=>∃ t,h.get? e=some { cls:=.ref C,data:=.fields #[.ref t,.none,.none,.none,.bool false,.none] }
structure XCls (K:PySem.W.Frag)(C:Addr):Prop where
 q:PySem.W.excIn K C bmVal "ValueError.__new__"=true
 kp:PySem.W.keepIn K (.ref C)=true
section
variable {K:PySem.W.Frag}{h:Heap}{C:Addr}
end
section
variable {P:Program}{w:World}{H:Hp}{h h':Heap}{a:Addr}{o:HO}
end
section
variable {X:Cx}{C:Addr}
end
end L2
namespace Srt
open PySem PyProof.Rows
section
variable {prog:Program}{w:World}{Ar:Around}{E:Value→Shared→Prop}{s:Shared}
end
end Srt
namespace L2
open PySem PySem.Spec PyProof.Rows
section
variable {X:Cx}
end
end L2
namespace Srt
open PySem PyProof.Rows PySem.W
section
variable {prog:Program}{w:World}{Ar:Around}{E:Value→Shared→Prop}{s:Shared}
end
end Srt
namespace L2
open PySem PySem.Spec PyProof.Rows
section
variable {X:Cx}
end
end L2
namespace SG
open PySem PySem.Spec PyProof.Rows
def Ris (xs:Array Nat):Prop:=∀ i j (hj:j<xs.size) (h:i<j),xs[i]<xs[j]
theorem Ris.le {xs:Array Nat}(r:Ris xs){i j:Nat}(hj:j<xs.size)(h:i≤j):xs[i]≤xs[j]:=by
 rcases Nat.lt_or_ge i j with q | q
 · exact Nat.le_of_lt (r i j hj q)
 · have:i=j:=Nat.le_antisymm h q;subst this;exact Nat.le_refl _
theorem go_ok {xs:Array Nat} (r:Ris xs) (j:Nat):∀ (n lo hi:Nat),hi-lo≤n→lo≤hi→hi≤xs.size→(∀ i (h:i<xs.size),i<lo→xs[i]<j)→(∀ i (h:i<xs.size),hi≤i→j≤xs[i]) →
   (∀ i (h:i<xs.size),i<SetTable.below.go xs j n lo hi→xs[i]<j)∧(∀ i (h:i<xs.size),SetTable.below.go xs j n lo hi≤i→j≤xs[i])∧SetTable.below.go xs j n lo hi≤xs.size
 | 0,lo,hi,hn,h1,h2,a,b=>by
   have e:lo=hi:=by omega
   subst e;unfold SetTable.below.go;exact ⟨a,b,h2⟩
 | n + 1,lo,hi,hn,h1,h2,a,b=>by
   unfold SetTable.below.go;by_cases q:lo<hi
   · rw [if_pos q];have hm:(lo+hi)/2<xs.size:=by omega
     have eg:xs.getD ((lo+hi)/2) j=xs[(lo+hi)/2]:=by simp [Array.getD,hm]
     dsimp only;rw [eg];by_cases c:xs[(lo+hi)/2]<j
     · rw [if_pos c];refine go_ok r j n ((lo+hi)/2+1) hi (by omega) (by omega) h2 (fun i h hi'=>?_) b;exact Nat.lt_of_le_of_lt (r.le hm (by omega)) c
     · rw [if_neg c];refine go_ok r j n lo ((lo+hi)/2) (by omega) (by omega) (by omega) a (fun i h hi'=>?_);exact Nat.le_trans (Nat.le_of_not_lt c) (r.le h hi')
   · rw [if_neg q];have e:lo=hi:=by omega
     subst e;exact ⟨a,b,h2⟩
theorem below_ok {xs:Array Nat}(r:Ris xs)(j:Nat):(∀ i (h:i<xs.size),i<SetTable.below xs j→xs[i]<j)∧(∀ i (h:i<xs.size),SetTable.below xs j≤i→j≤xs[i])∧SetTable.below xs j≤xs.size:=by unfold SetTable.below;exact go_ok r j xs.size 0 xs.size (by omega) (by omega) (Nat.le_refl _) (fun i h z=>absurd z (Nat.not_lt_zero _)) (fun i h z=>absurd h (by omega))
theorem Zgv {xs:Array Nat}:Ris xs↔xs.toList.Pairwise (·<·):=by
 rw [List.pairwise_iff_getElem];constructor
 · intro r i j hi hj h;have:=r i j (by simpa using hj) h;simpa using this
 · intro r i j hj h;have:=r i j (by simp;omega) (by simpa using hj) h;simpa using this
theorem ris_put {xs:Array Nat}(r:Ris xs){j:Nat}(n:xs[SetTable.below xs j]?≠some j):Ris (SetTable.insertAt xs (SetTable.below xs j) j):=by
 obtain ⟨a,b,c⟩:=below_ok r j;have b':∀ i (h:i<xs.size),SetTable.below xs j≤i→j<xs[i]:=by
   intro i h q;have h1:=b i h q;rcases Nat.lt_or_ge j xs[i] with z | z
   · exact z
   · exfalso
     have e:xs[i]=j:=Nat.le_antisymm z h1;have hp:SetTable.below xs j<xs.size:=by omega
     have e2:xs[SetTable.below xs j]=j:=Nat.le_antisymm (by have:=r.le h q;omega) (b _ hp (Nat.le_refl _));apply n
     rw [Array.getElem?_eq_getElem hp,e2]
 generalize SetTable.below xs j=p at a b' c;rw [Zgv] at r ⊢;unfold SetTable.insertAt;have e:((xs.extract 0 p).push j++xs.extract p xs.size).toList=xs.toList.take p++j::xs.toList.drop p:=by simp [Array.toList_extract,List.extract];exact List.take_of_length_le (by rw [List.length_drop,Array.length_toList];exact Nat.le_refl _)
 rw [e,List.pairwise_append];refine ⟨r.sublist (List.take_sublist _ _),?_,?_⟩
 · rw [List.pairwise_cons];refine ⟨fun y hy=>?_,r.sublist (List.drop_sublist _ _)⟩;obtain ⟨i,hi,rfl⟩:=List.mem_iff_getElem.mp hy;rw [List.getElem_drop];have hl:p+i<xs.size:=by rw [List.length_drop,Array.length_toList] at hi;omega
   have:=b' (p+i) hl (by omega);simpa using this
 · intro y hy z hz;have hy1:y<j:=by
     obtain ⟨i,hi,rfl⟩:=List.mem_iff_getElem.mp hy;rw [List.getElem_take];have hl:i<p:=by rw [List.length_take] at hi;omega
     have:=a i (by rw [List.length_take,Array.length_toList] at hi;omega) hl;simpa using this
   rcases List.mem_cons.mp hz with rfl | hz
   · exact hy1
   · obtain ⟨i,hi,rfl⟩:=List.mem_iff_getElem.mp hz;rw [List.getElem_drop];have hl:p+i<xs.size:=by rw [List.length_drop,Array.length_toList] at hi;omega
     have:=b' (p+i) hl (by omega);have:j<xs.toList[p+i]'(by simpa using hl):=by simpa using this
     omega
theorem Zcy {t:SetTable} {f:Nat→Int} {h:Int}:∀ (n:Nat) (p:SetTable.Probe) (j:Nat) (d:Option Nat),(∀ x,p.dummy=some x→t.slot x=.dummy)→SetTable.probe.go t f h n p=some (.empty j d)→(t.slot j=.empty)∧∀ x,d=some x→t.slot x=.dummy
 | 0,p,j,d,hd,e=>by unfold SetTable.probe.go at e;cases e
 | n + 1,p,j,d,hd,e=>by
   unfold SetTable.probe.go at e;have adv:∀ q:SetTable.Probe,(t.advance q).dummy=q.dummy:=by intro q;unfold SetTable.advance;split<;>rfl
   split at e
   · rename_i hs
     cases e;exact ⟨hs,hd⟩
   · rename_i hs
     refine Zcy n _ j d (fun x hx=>?_) e;rw [adv] at hx;cases hx;exact hs
   · split at e
     · cases e
     · refine Zcy n _ j d (fun x hx=>?_) e;rw [adv] at hx;exact hd x hx
theorem Ze2 {t:SetTable}{j:Nat}(h:t.slot j=.empty∨t.slot j=.dummy):t.place[SetTable.below t.place j]?≠some j:=by intro e;unfold SetTable.slot at h;simp only [e,beq_self_eq_true,if_true] at h;rcases h with h | h<;>cases h
theorem free_not {t:SetTable}{h:Int}{j:Nat}{b:Bool}(e:t.freeSlot h=some (j,b)):t.place[SetTable.below t.place j]?≠some j:=by
 unfold SetTable.freeSlot at e;split at e
 · rename_i j0 d hp
   unfold SetTable.probe at hp;obtain ⟨h1,h2⟩:=Zcy _ _ _ _ (fun x hx=>by cases hx) hp;cases e;cases d with
   | none=>exact Ze2 (.inl h1)
   | some x=>exact Ze2 (.inr (h2 x rfl))
 · cases e
structure Good (bt:Bool)(t:SetTable):Prop where
 led:t.led=!bt
 ris:t.plain=true→Ris t.place
theorem Good.standIn {bt:Bool}{t:SetTable}(g:Good bt t)(n:Nat):Good bt (t.standIn n):=⟨g.led,fun h=>by cases h⟩
theorem Good.layNew {bt:Bool}{t:SetTable}(g:Good bt t)(es:Array (Int × Value))(h:Int)(x:Value):Good bt (layNew t es h x).2.1:=by
 unfold PySem.layNew;split
 · rename_i j b e
   show Good bt ((t.put j).1.orStandIn _);have gp:Good bt (t.put j).1:=⟨g.led,fun hp=>ris_put (g.ris hp) (free_not e)⟩
   unfold SetTable.orStandIn;split
   · exact gp
   · exact gp.standIn _
 · exact g.standIn _
theorem Good.relayAll {bt:Bool}{t:SetTable}(g:Good bt t)(es:Array (Int × Value))(n:Nat):Good bt (relayAll t es n).2.1:=by
 unfold PySem.relayAll;split
 · rename_i t' ord e
   have gt:Good bt t':=by unfold SetTable.relaid SetTable.laid at e;simp only [Option.bind_eq_bind,Option.bind_eq_some_iff,Option.pure_def] at e;obtain ⟨ow,_,e⟩:=e;cases e;refine ⟨g.led,fun _=>?_⟩;rw [Zgv];show (List.map _ _).Pairwise _;rw [List.pairwise_map];refine List.Pairwise.filterMap (R:=(·<·)) _ (fun a a' haa b hb c hc=>?_) List.pairwise_lt_range;simp only [Option.map_eq_some_iff] at hb hc;obtain ⟨_,_,rfl⟩:=hb;obtain ⟨_,_,rfl⟩:=hc;exact haa
   dsimp only;split
   · exact gt
   · exact g.standIn _
 · exact g.standIn _
end SG
namespace SG
open PySem PySem.Spec PyProof.Rows
def iv:Value→Int
 | .int k _=>k
 | _=>0
def bt (w:World):Bool:=w.params.followText "set-order"
def ST (prog:Program)(w:World)(h:Heap)(a:Addr)(ks:List Int):Prop :=
 ∃ o es ep t,h.get? a=some o∧o.ExactSet∧o.data=.set es ep t∧ElemsOf (intKind prog w) es.toList∧es.size<scanBound∧t.fits es.size=true∧Good (bt w) t∧(es.toList.map fun e=>iv e.2)=ks∧ks.Nodup
section
variable {prog:Program}{w:World}{A:Around}{E:Value→Shared→Prop}{s:Shared}
theorem Zfb {k:Int}{e:Int × Value}{es:List (Int × Value)}(el:ElemsOf (intKind prog w) es)(he:e∈es):(intKind prog w).is k e.2=true↔iv e.2=k:=by
 obtain ⟨⟨k',h1,_⟩,_⟩:=el e he;obtain ⟨t,e2⟩:=Value.isInt_shape h1;rw [e2];constructor
 · intro h;exact (intKind prog w).inj _ _ _ (intKind_is prog w k' t) h
 · intro h;have h:k'=k:=h;subst h;exact intKind_is prog w k' t
theorem put_at {h:Heap}{a:Addr}{o:Obj}{es:Array (Int × Value)}{ep:Nat}{t:SetTable}(ho:h.get? a=some o)(hd:o.data=.set es ep t)(es':Array (Int × Value))(t':SetTable) :
   (h.update a (Obj.putSet es' t')).get? a=some { o with data:=.set es' (ep+1) t' }:=by
 have q:=Heap.get?_update_self (Obj.putSet es' t') ho (by rw [putSet_of es' t' hd];rfl);rw [putSet_of es' t' hd] at q;exact q
theorem ZgL {es es':Array (Int × Value)}(p:es'.toList.Perm es.toList):es'.size=es.size:=by rw [← Array.length_toList,p.length_eq,Array.length_toList]
theorem ZeU {g:Bool→Sem Unit}(hg:∀ (b:Bool) (s1:Shared) (Q':Unit→Shared→Prop),Q' () s1→wpAny (model prog w) A (g b) Q' E s1){a:Addr}{o:Obj}{es:Array (Int × Value)}{ep:Nat}{t:SetTable}(ho:s.heap.get? a=some o)(hx:o.ExactSet)(hd:o.data=.set es ep t)
   {es1:Array (Int × Value)} {t2:SetTable} {wd:Bool} {R:Option Bool→Shared→Prop} (el:ElemsOf (intKind prog w) es1.toList) (hb:es1.size<scanBound) (hf:t2.fits es1.size=true) (gd:Good (bt w) t2) (nd:(es1.toList.map fun e=>iv e.2).Nodup)
   (q:∀ h' ks',Heap.SameBut a s.heap h'→ST prog w h' a ks'→ks'.Perm (es1.toList.map fun e=>iv e.2)→R (some true) { s with heap:=h' }) :
   wpAny (model prog w) A (do storeSet a es1 t2;if (!wd&&t2.tooFull)=true then (do g (relayAll t2 es1 (SetTable.grown es1.size)).2.2;storeSet a (relayAll t2 es1 (SetTable.grown es1.size)).1 (relayAll t2 es1 (SetTable.grown es1.size)).2.1;pure (some true)) else pure (some true)) R E s:=by
 refine wpAny_bind (wpAny_storeSet_of ho hd ?_ (fits_of_scanBound hb));have ho1:=put_at ho hd es1 t2;have sb:=Heap.SameBut.update s.heap a (Obj.putSet es1 t2);split
 · have pp:=relayAll_perm t2 es1 (SetTable.grown es1.size);have pf:=relayAll_fits t2 es1 (SetTable.grown es1.size);have pg:=gd.relayAll es1 (SetTable.grown es1.size);generalize relayAll t2 es1 (SetTable.grown es1.size)=Z at pp pf pg ⊢;obtain ⟨es2,t3,gv⟩:=Z;have pp:es2.toList.Perm es1.toList:=pp;have hb2:es2.size<scanBound:=by rw [ZgL pp];exact hb
   refine wpAny_bind (hg _ _ _ (wpAny_bind (wpAny_storeSet_of ho1 rfl ?_ (fits_of_scanBound hb2))));refine wpAny_pure (q _ _ (sb.trans (Heap.SameBut.update _ a _)) ⟨_,es2,_,t3,put_at ho1 rfl es2 t3,hx,rfl,el.perm pp,hb2,pf,pg,rfl,?_⟩ (pp.map _));exact (pp.map fun e=>iv e.2).nodup_iff.mpr nd
 · exact wpAny_pure (q _ _ sb ⟨_,es1,_,t2,ho1,hx,rfl,el,hb,hf,gd,rfl,nd⟩ (.refl _))
theorem add_int {a:Addr} {ks:List Int} {k:Int} {tk:Tok} {Q:Bool→Shared→Prop} (hS:ST prog w s.heap a ks) (room:ks.length+1<scanBound)
   (q:∀ b h' ks',Heap.SameBut a s.heap h'→ST prog w h' a ks'→(∀ y,y∈ks'↔y∈ks∨y=k)→ks'.length≤ks.length+1→Q b { s with heap:=h' }):wpAny (model prog w) A (setAddHashed a (.int k tk) ((intKind prog w).hash k)) Q E s:=by
 obtain ⟨o,es,ep,t,ho,hx,hd,el,hb,hf,gd,rfl,nd⟩:=hS;have hk:=intKind_is prog w k tk;have lz:(es.toList.map fun e=>iv e.2).length=es.size:=by rw [List.length_map,Array.length_toList]
 unfold setAddHashed;unfold setAddHashedIn;refine wpAny_holding (wpAny_bind (wpAny_setState_of ho hd hf ?_));dsimp only;rw [byScan_of (x:=Value.int k tk) rfl hb el,if_pos rfl];unfold setAddByScan;refine wpAny_bind (wpAny_bind (wpAny_rule (wpAny_bind (wpAny_setScan_of hk ho hd hf el ?_))));cases hr:List.findIdx? (fun e=>(intKind prog w).is k e.2) es.toList with
 | some j =>
   dsimp only;obtain ⟨hj,pj,_⟩:=List.findIdx?_eq_some_iff_getElem.mp hr;have hm:k∈es.toList.map fun e=>iv e.2:=List.mem_map.mpr ⟨_,List.getElem_mem hj,(Zfb el (List.getElem_mem hj)).mp pj⟩
   refine wpAny_pure (wpAny_pure ?_);have:=q false s.heap _ (Heap.SameBut.refl a s.heap) ⟨o,es,ep,t,ho,hx,hd,el,hb,hf,gd,rfl,nd⟩ (fun y=>⟨.inl,fun z=>z.elim id fun e=>e ▸ hm⟩) (Nat.le_succ _);exact this
 | none =>
   dsimp only;have hm:k∉es.toList.map fun e=>iv e.2:=by intro z;obtain ⟨e,he,e1⟩:=List.mem_map.mp z;have:=List.findIdx?_eq_none_iff.mp hr e he;rw [(Zfb el he).mpr e1] at this;cases this
   have gw:∀ (b:Bool) (s1:Shared) (Q':Unit→Shared→Prop),Q' () s1→wpAny (model prog w) A (match b with | true=>rule "set.scan.the-table-gave-way" | false=>pure ()) Q' E s1:=fun b s1 Q' z=>by
     cases b
     · exact wpAny_pure z
     · exact wpAny_rule z
   have lp:=layNew_perm t es ((intKind prog w).hash k) (.int k tk);have lf:=layNew_fits t es ((intKind prog w).hash k) (.int k tk);have lg:=gd.layNew es ((intKind prog w).hash k) (.int k tk);generalize layNew t es ((intKind prog w).hash k) (.int k tk)=Z at lp lf lg ⊢;obtain ⟨es1,t1,wd,gv⟩:=Z;have lf:t1.fits es1.size=true:=lf;have lg:Good (bt w) t1:=lg;have lp:es1.toList.Perm (es.toList++[((intKind prog w).hash k,.int k tk)]):=by
     have:=lp
     rwa [Array.toList_push] at this
   have el1:ElemsOf (intKind prog w) es1.toList:=(el.push hk rfl).perm lp;have l1:es1.size=es.size+1:=by have:=lp.length_eq;rw [List.length_append,Array.length_toList,Array.length_toList] at this;exact this
   have hb1:es1.size<scanBound:=by rw [l1];rw [lz] at room;exact room
   have pm:(es1.toList.map fun e=>iv e.2).Perm ((es.toList.map fun e=>iv e.2)++[k]):=by
     have:=lp.map fun e=>iv e.2
     rwa [List.map_append] at this
   have nd1:(es1.toList.map fun e=>iv e.2).Nodup:=by rw [pm.nodup_iff,List.nodup_append];exact ⟨nd,(by simp),fun x hx y hy e=>hm (by rw [List.mem_singleton.mp hy] at e;rw [← e];exact hx)⟩
   have fin:∀ h' ks',Heap.SameBut a s.heap h'→ST prog w h' a ks'→ks'.Perm (es1.toList.map fun e=>iv e.2)→Q true { s with heap:=h' }:=fun h' ks' sb st p=>by
     refine q true h' ks' sb st (fun y=>?_) ?_
     · rw [p.mem_iff,pm.mem_iff,List.mem_append,List.mem_singleton]
     · rw [p.length_eq,List.length_map,Array.length_toList,l1,lz];exact Nat.le_refl _
   dsimp only;refine wpAny_bind (gw _ _ _ ?_);split
   · refine wpAny_bind ?_;rw [hashByValue_scannable 8 (x:=Value.int k tk) rfl];refine wpAny_pure (ZeU (fun b s1 Q' z=>gw b s1 Q' z) ho hx hd el1 hb1 ?_ ?_ nd1 fun h' ks' sb st p=>wpAny_pure (fin h' ks' sb st p))
     · exact lf
     · exact lg
   · refine wpAny_bind (wpAny_pure (ZeU (fun b s1 Q' z=>gw b s1 Q' z) ho hx hd el1 hb1 ?_ ?_ nd1 fun h' ks' sb st p=>wpAny_pure (fin h' ks' sb st p)))
     · exact lf
     · exact lg
set_option maxHeartbeats 3200000 in
end
end SG
namespace SG
open PySem PySem.Spec PyProof.Rows
section
variable {prog:Program}{w:World}{A:Around}{E:Value→Shared→Prop}{s:Shared}{a:Addr}{o:Obj}{es:Array (Int × Value)}{ep:Nat}{t:SetTable}
end
end SG
namespace SG
open PySem PySem.Spec PyProof.Rows
section
variable {prog:Program}{w:World}{A:Around}{E:Value→Shared→Prop}{s:Shared}{a I:Addr}{o:Obj}{es:Array (Int × Value)}{ep:Nat}{t:SetTable}
end
end SG
namespace SG
open PySem PySem.Spec PyProof.Rows
structure Wk (prog:Program)(w:World)(h0 h2:Heap)(a:Addr)(ks:List Int)(I:Addr):Prop where
 ex:∃ (fp wr:List Addr) (vs:List Value) (ks':List Int) (St:Nat→Heap→Prop),(∀ A:Around,A.handled=none→Walks prog w A I fp wr vs.length (fun i v=>vs[i]?=some v) St)∧St 0 h2∧(∀ b∈fp,b<h2.objs.size)∧I∈fp∧(∀ b∈wr,h0.get? b=none)∧IntsAre vs ks'∧ks'.Perm ks∧(∀ b∈fp,b=a∨h0.get? b=none)
 old:∀ b o,h0.get? b=some o→h2.get? b=some o
section
variable {prog:Program}{w:World}{A:Around}{E:Value→Shared→Prop}{s:Shared}{a I:Addr}{o:Obj}{es:Array (Int × Value)}{ep:Nat}{t:SetTable}
end
end SG
namespace SG
open PySem PySem.Spec PyProof.Rows
section
variable {prog:Program}{w:World}{A:Around}{E:Value→Shared→Prop}{s:Shared}{a:Addr}
end
end SG
namespace SG
open PySem PySem.Spec PyProof.Rows Srt
section
variable {prog:Program}{w:World}{Ar:Around}{E:Value→Shared→Prop}{s:Shared}{a:Addr}
end
end SG
namespace L2
open PySem PySem.Spec PyProof.Rows
section
variable {X:Cx}{pins:List (Addr × Obj)}{σ:St}{H:Hp}{s:Shared}
end
section
variable {X:Cx}{e:Expr}{te:TE}{p p' pos pos':Pos}
end
end L2
namespace L2
open PySem PySem.Spec PyProof.Rows Srt SG
theorem hu1 {A:Around}{k:Nat}(hr:Room k A):A.units+1<cLine:=Nat.lt_of_le_of_lt (by omega) (hu64 hr)
section
variable {td ty tx tv:TE}{σ:St}{H:Hp}{Q:VK}{D:Ends}
theorem Zff:tDGet td ty σ H Q=td σ H fun x H1=>ty σ H1 fun y H2=>∃ a v,x=.ref a∧DGet H2 a y (some v)∧Q v H2:=rfl
theorem Ze1:sDPut td ty tv D σ H=tv σ H fun v H1=>td σ H1 fun x H2=>ty σ H2 fun y H3=>∃ a H4,x=.ref a∧DPut H3 a y v H4∧D.nx σ H4:=rfl
end
section
variable {X:Cx}{x:Str}{p pos:Pos}
theorem ZgS {C:Addr}{ps:List Str}{k:Nat}{sp:Sp}(F:MakeAt X.prog X.w X.K X.mg X.base x C ps k sp)(hr:Room (k+1) X.A)(hg:Gl X x)(hdb:(x==("__debug__":Str))=false:=by decide):PE X (.Call (.Name x p) [] [] pos) (tMake C sp [] E0 tNil):=by obtain ⟨hm,f,fd,M,F,b⟩:=F;exact pe_make0 M F hr hg hm b .nil pass0 hdb
end
section
variable {X:Cx}
end
end L2
namespace ZL
open PySem
abbrev ZipH (h:Heap)(z TI TO T:Addr)(b:Bool):Prop :=
 h.get? z=some { cls:=.type "zip",dict:=none,data:=.fields #[rawInt T,.bool b,.bool false,.ref TI,.ref TO],slots:=#[] }
section
variable {prog:Program}{w:World}{A:Around}{E:Value→Shared→Prop}{s:Shared}
theorem alive {M:Model}{a:Addr}{Q:Option Obj→Shared→Prop}(h:Q (s.heap.get? a) s):wpAny M A (loadIfAlive a) Q E s:=fun _ _ _=>h
structure ZI (z TI TO i1 i2 l1 l2:Addr)(xs ys:Array Value)(m i:Nat)(Ts:List Addr)(h:Heap):Prop where
 zz:(i=0∧IsZip h z TI TO .none∧∃ a b,IsPair h TO a b)∨(∃ T0 b,Ts[0]?=some T0∧ZipH h z TI TO T0 b)
 ti:IsPair h TI (.ref i1) (.ref i2)
 it1:h.IsListIter i1 l1 i
 it2:h.IsListIter i2 l2 i
 li1:h.IsList l1 xs
 li2:h.IsList l2 ys
 len:Ts.length=i
 nd:Ts.Nodup
 new:∀ T∈Ts,m≤T
 tup:∀ (j:Nat) (T:Addr),Ts[j]?=some T→∃ x y,xs[j]?=some x∧ys[j]?=some y∧IsPair h T x y
end
end ZL
namespace L2
open PySem PySem.Spec PyProof.Rows
section
variable {X:Cx}{pins:List (Addr × Obj)}{σ:St}{H:Hp}{s:Shared}{h':Heap}
end
def lay (L:List (Addr × HO))(H:Hp):Hp:=fun b=>match L.lookup b with
 | some o=>some o
 | none=>H b
section
variable {X:Cx}{a b:Expr}{ta:TA}{p p' pos pos':Pos}
end
end L2
namespace L2
open PySem PySem.Spec PyProof.Rows
section
variable {X:Cx}
theorem ZgR {K:PySem.W.Frag}{n:Nat}:gOwn 2 (gTup K n (gCons (gName 0) (gCons (gName 1) gNil))):=by intro v σ H Q h;simp only [ZcG,Zb8,ZaQ,ZcF] at h ⊢;obtain ⟨a,xs,e1,e2,e3,u,r,e4,u1,r1,e5,e6,q⟩:=h;exact ⟨a,xs,e1,e2,e3,u,r,e4,u1,r1,e5,e6,⟨by simp,by rcases σ with _ | ⟨_,_ | ⟨_,_⟩⟩<;>simp⟩,q⟩
end
end L2
namespace L2
open PySem PySem.Spec PyProof.Rows
section
variable {td ty tx:TE}{σ:St}{H:Hp}{Q:VK}
theorem Zdo:tDNotIn ty td σ H Q=ty σ H fun y H1=>td σ H1 fun x H2=>∃ a o,x=.ref a∧DGet H2 a y o∧Q (.bl (!o.isSome)) H2:=rfl
end
end L2
namespace L2
open PySem PySem.Spec PyProof.Rows
section
variable {X:Cx}{o e f:Expr}{apos cpos:Pos}{td ty tx:TE}
end
end L2
namespace L2
open PySem PySem.Spec PyProof.Rows
section
variable {X:Cx}
def rSlS:V→Option Int→Option Int→Hp→VK→Prop:=fun x lo hi H Q=>∃ z,x=.str z∧z.length≤sizeLine∧Q (.str (Txt.slice z lo hi)) H
theorem sl_str:SlR X rSlS:=by
 intro pins s σ H x v vl vu lo hi sl Q I rx hs pl pu h;obtain ⟨z,rfl,hz,q⟩:=h;obtain ⟨t,rfl⟩:=rx;have fin:∀ t' k,EP X pins σ Q (.str (Txt.slice z lo hi) t') { s with toks:=k }:=fun t' k=>⟨.str (Txt.slice z lo hi),H,I.tok _,⟨_,rfl⟩,q⟩
 have le:=Nat.le_trans (Txt.slice_le z lo hi) hz;refine ⟨"str",_,PySem.F.slot_str_getitem.lookup,typeIs_str _ _ _,?_⟩;cases pl with
 | none =>
   cases pu with
   | none=>exact wpAny_getItem_str_slice (l:=none) (u:=none) (st:=none) hs rfl (post_val_or_str ⟨le,fin⟩)
   | int j uj=>exact wpAny_getItem_str_slice (l:=none) (u:=some (j,uj)) (st:=none) hs rfl (post_val_or_str ⟨le,fin⟩)
 | int i ui =>
   cases pu with
   | none=>exact wpAny_getItem_str_slice (l:=some (i,ui)) (u:=none) (st:=none) hs rfl (post_val_or_str ⟨le,fin⟩)
   | int j uj=>exact wpAny_getItem_str_slice (l:=some (i,ui)) (u:=some (j,uj)) (st:=none) hs rfl (post_val_or_str ⟨le,fin⟩)
theorem Zgj {x:V}{lo hi:Option Int}{H:Hp}{Q:VK}:rSlS x lo hi H Q=∃ z,x=.str z∧z.length≤sizeLine∧Q (.str (Txt.slice z lo hi)) H:=rfl
theorem Zc0:bootBuiltins "all"=some (.builtin "all"):=by decide +kernel
def rAll (K:PySem.W.Frag):List V→Hp→VK→Prop:=fun xs H Q=>∃ (p:Addr) (bs:List Bool),xs=[.ref p]∧SqL K H p (bs.map V.bl)∧Q (.bl (bs.all id)) H
theorem ZcU (K:PySem.W.Frag) (hK:X.K=K:=by rfl) (hc:X.calm=true:=by rfl):CallR X (.builtin "all") (rAll K):=by
 subst hK;intro pins s σ H xs us Q I r h;obtain ⟨p,bs,rfl,hS,q⟩:=h;obtain ⟨u,rfl,ru⟩:=r.one;cases (show u=Value.ref p from ru);obtain ⟨its,vi,pl,hz⟩:=I.list hS;have ne:p≠s.heap.objs.size:=by obtain ⟨o,e,_⟩:=pl.isList;exact Nat.ne_of_lt (Heap.lt_size e)
 have hb:∀ (i:Nat) (v:Value),its.toArray[i]?=some v→v=.bool (bs.getD i false):=fun i v e=>by
   have e2:its[i]?=some v:=by simpa using e
   have hi:i<bs.length:=by have:=(List.getElem?_eq_some_iff.mp e2).1;have:=vi.length;rw [List.length_map] at this;omega
   obtain ⟨u,hu,ru⟩:=vi.get (i:=i) (x:=.bl (bs.getD i false)) (by rw [List.getElem?_map,List.getElem?_eq_getElem hi,List.getD_eq_getElem?_getD,List.getElem?_eq_getElem hi];rfl);rw [hu] at e2;cases e2;exact ru
 refine call_all_walk (wpAny_pyIter_list pl.isList ?_);refine ⟨s.heap.objs.size,_,_,_,_,_,fun i=>bs.getD i false,rfl,Walks.list (A:=X.A.in1) (show X.A.in1.handled=none from I.ok.hd hc) s.heap.objs.size p ne its.toArray,⟨⟨_,Heap.get?_push_size _ rfl,rfl,rfl⟩,pl.isList.push _⟩,fun i v s2 Q2 E2 hP hQ=>?_,fun h' tk hk=>?_⟩
 · rw [hb i v hP];exact wpAny_truthy_bool hQ
 · have e:(List.range its.toArray.size).all (fun i=>bs.getD i false)=bs.all id:=by
     have hl:its.toArray.size=bs.length:=by have:=vi.length;rw [List.length_map] at this;simpa using this.symm
     rw [hl,Bool.eq_iff_iff,List.all_eq_true,List.all_eq_true];constructor
     · intro w b hbm;obtain ⟨i,hi,rfl⟩:=List.mem_iff_getElem.mp hbm;have:=w i (List.mem_range.mpr hi);rw [List.getD_eq_getElem?_getD,List.getElem?_eq_getElem hi] at this;exact this
     · intro w i hi;have hi:=List.mem_range.mp hi;rw [List.getD_eq_getElem?_getD,List.getElem?_eq_getElem hi];exact w _ (List.getElem_mem hi)
   rw [e];refine ⟨.bl (bs.all id),H,?_,rfl,q⟩;exact I.kept (t':=tk) fun b o q2=>hk b o (by
     intro z;have:b=s.heap.objs.size:=by simpa using z
     exact absurd (Heap.lt_size q2) (by rw [this];exact Nat.lt_irrefl _)) (Heap.get?_push_of_some _ q2)
theorem Zf6 {K:PySem.W.Frag}{xs:List V}{H:Hp}{Q:VK}:rAll K xs H Q=∃ (p:Addr) (bs:List Bool),xs=[.ref p]∧SqL K H p (bs.map V.bl)∧Q (.bl (bs.all id)) H:=rfl
end
end L2
namespace L2
open PySem PySem.Spec PyProof.Rows
section
variable {X:Cx}
theorem Zbn:bootBuiltins "any"=some (.builtin "any"):=by decide +kernel
def rAny (K:PySem.W.Frag):List V→Hp→VK→Prop:=fun xs H Q=>∃ (p:Addr) (bs:List Bool),xs=[.ref p]∧SqL K H p (bs.map V.bl)∧Q (.bl (bs.any id)) H
theorem Zgp {K:PySem.W.Frag}{xs:List V}{H:Hp}{Q:VK}:rAny K xs H Q=∃ (p:Addr) (bs:List Bool),xs=[.ref p]∧SqL K H p (bs.map V.bl)∧Q (.bl (bs.any id)) H:=rfl
theorem ZfO (bs:List Bool):(List.range bs.length).map (fun i=>bs.getD i false)=bs:=by
 refine List.ext_getElem (by rw [List.length_map,List.length_range]) fun i h1 h2=>?_
 rw [List.getElem_map,List.getElem_range,List.getD_eq_getElem?_getD,List.getElem?_eq_getElem h2];rfl
theorem Zbp (K:PySem.W.Frag)(hK:X.K=K:=by rfl)(hc:X.calm=true:=by rfl):CallR X (.builtin "any") (rAny K):=by
 subst hK;intro pins s σ H xs us Q I r h;obtain ⟨p,bs,rfl,hS,q⟩:=h;obtain ⟨u,rfl,ru⟩:=r.one;cases (show u=Value.ref p from ru);obtain ⟨its,vi,pl,hz⟩:=I.list hS;have ll:its.length=bs.length:=by have:=vi.length;rw [List.length_map] at this;exact this.symm
 have lt:p<s.heap.objs.size:=by obtain ⟨o,e,_⟩:=pl.isList;exact Heap.lt_size e
 refine call_any_walk (wpAny_pyIter_list pl.isList ⟨s.heap.objs.size,_,_,_,_,_,fun i=>bs.getD i false,rfl,Walks.list (A:=X.A.in1) (I.ok.hd hc) s.heap.objs.size p (Nat.ne_of_lt lt) its.toArray,⟨⟨_,Heap.get?_push_size _ rfl,rfl,rfl⟩,pl.isList.push _⟩,fun i v s2 Q2 E2 hP hQ=>?_,fun h' tk hk=>⟨.bl (bs.any id),H,I.kept (t':=tk) fun b o q2=>hk b o (fun z=>?_) (Heap.get?_push_of_some _ q2),?_,q⟩⟩)
 · have hP:its[i]?=some v:=by simpa using hP
   have hi:i<bs.length:=by have:=(List.getElem?_eq_some_iff.mp hP).1;omega
   obtain ⟨y,hy,ry⟩:=vi.get (i:=i) (x:=.bl (bs.getD i false)) (by rw [List.getElem?_map,List.getElem?_eq_getElem hi,List.getD_eq_getElem?_getD,List.getElem?_eq_getElem hi];rfl);cases hP.symm.trans hy;cases ry;exact wpAny_truthy_bool hQ
 · have z:b=s.heap.objs.size:=by simpa using z
   exact Nat.lt_irrefl _ (z ▸ Heap.lt_size q2)
 · show Value.bool _=Value.bool _;rw [List.size_toArray,ll];congr 1
   have:=ZfO bs
   conv=>rhs;rw [← this,List.any_map]
   rfl
theorem Zf3:∀ {kvs:List (Key × V)} {k:Key} {v:V},(kvs.map (·.1)).Nodup→(k,v)∈kvs→valV kvs k=some v
 | [],_,_,_,h=>nomatch h
 | (k',v')::r,k,v,nd,h=>by
   obtain ⟨n1,n2⟩:=List.nodup_cons.mp nd;unfold valV;rw [List.find?_cons];rcases List.mem_cons.mp h with e | e
   · cases e;simp
   · have ne:k'≠k:=fun z=>n1 (z ▸ List.mem_map.mpr ⟨_,e,rfl⟩)
     simp only [ne,decide_false];exact Zf3 n2 e
theorem ZdY {A:Around}{s:Shared}{kvs:List (Key × V)}{vb:List (Key × Value)}(nd:(kvs.map (·.1)).Nodup)(hi:∀ kv∈kvs,∃ i,kv.2=.int i)(rb:KV kvs vb):∀ {ks:List (Key × V)} {va:List (Key × Value)},(∀ x∈ks,x∈kvs)→KV ks va→PySem.W.KeqHits A s vb va true
 | [],_,_,.nil=>.nil
 | (k,v)::r,(k',v')::q,hs,.cons h t=>by
   obtain ⟨ek,rv⟩:=h;have ek:k'=k:=by first | exact ek | exact ek.symm
   subst ek;obtain ⟨i,e⟩:=hi _ (hs _ (.head _));have e:v=.int i:=e;subst e;have y:=rb.val k';rw [Zf3 nd (hs _ (.head _))] at y;cases z:valueAt vb k' with
   | none=>rw [z] at y;exact absurd y (by intro q;cases q)
   | some u =>
     rw [z] at y;obtain ⟨t1,rfl⟩:=(show RelV (.int i) v' from rv)
     obtain ⟨t2,rfl⟩:=(show RelV (.int i) u from y)
     have eq:=PySem.W.keq_flat (A:=A) (s:=s) (v:=.int i t1) (y:=.int i t2) (d:=.int i) (e:=.int i) (fun _=>.int ..) (fun _=>.int ..)
     have h3:=PySem.W.KeqHits.hit (A:=A) (s:=s) z eq (ZdY nd hi rb (fun x hx=>hs x (.tail _ hx)) t);have e1:(PyData.eqv (.int i) (.int i)&&true)=true:=by simp [PyData.eqv]
     rw [e1] at h3;exact h3
end
end L2
namespace L2
open PySem PySem.Spec PyProof.Rows
section
variable {prog:Program}{w:World}{A:Around}{R:Result→Shared→Prop}{I S:Addr}{fp wr:List Addr}{n:Nat}{P:Nat→Value→Prop}{St:Nat→Heap→Prop}
end
section
variable {prog:Program}{w:World}{A:Around}{E:Value→Shared→Prop}{s:Shared}
end
section
variable {X:Cx}{x:Str}{p pos:Pos}{e:Expr}{es:List Expr}{kws:List Keyword}{ks:List Str}{t tk:TA}{id:String}{r:List V→List V→Hp→VK→Prop}
def tCBK (r:List V→List V→Hp→VK→Prop)(t tk:TA):TE:=fun σ H Q=>t σ H fun vs H1=>tk σ H1 fun zs H2=>r vs zs H2 Q
def rMaxD (K:PySem.W.Frag):List V→List V→Hp→VK→Prop:=fun xs zs H Q=>∃ (p:Addr) (ns:List Int) (d:Int),xs=[.ref p]∧zs=[.int d]∧SqL K H p (ns.map V.int)∧Q (.int (ns.max?.getD d)) H
end
end L2
namespace L2
open PySem PySem.Spec PyProof.Rows
def del (H:Hp)(p:Addr):Hp:=fun b=>if b=p then none else H b
theorem del_same {H:Hp}{p:Addr}:del H p p=none:=by unfold del;rw [if_pos rfl]
theorem ZaO {H:Hp}{p b:Addr}(h:b≠p):del H p b=H b:=by unfold del;rw [if_neg h]
theorem ZaH {H:Hp}{p b:Addr}{o:HO}(h:del H p b=some o):b≠p∧H b=some o:=by
 have n:b≠p:=fun z=>by rw [z,del_same] at h;cases h
 rw [ZaO n] at h;exact ⟨n,h⟩
section
variable {X:Cx}{pins:List (Addr × Obj)}{σ:St}{H H':Hp}{s:Shared}{p:Addr}{xs:List V}
end
section
variable {X:Cx}{P:Program}{w:World}{K:PySem.W.Frag}{mg:Str→Option Value}{base:Heap}{o e:Expr}{es:List Expr}{m:Str}{ta:TE}{t:TA}{apos pos:Pos}
end
end L2
namespace L2
open PySem PySem.Spec PyProof.Rows
structure MkN (K:PySem.W.Frag)(C:Addr):Prop where
 makes:PySem.W.makesIn K C=true
 init:PySem.W.findIn K (.ref C) "__init__"=some (some (.builtin "object.__init__"))
 kp:PySem.W.keepIn K (.ref C)=true
def tNew (C:Addr):TE:=fun _ H Q=>∀ x dx,H x=none→H dx=none→dx≠x→Q (.ref x) (upd (upd H dx (.own x)) x (.ins C dx []))
theorem Zf9 {C:Addr}{σ:St}{H:Hp}{Q:VK}:tNew C σ H Q=∀ x dx,H x=none→H dx=none→dx≠x→Q (.ref x) (upd (upd H dx (.own x)) x (.ins C dx [])):=rfl
section
variable {X:Cx}{C:Addr}{x:Str}{p pos:Pos}
theorem run_new {pins:List (Addr × Obj)}{σ:St}{H:Hp}{s:Shared}{Q:VK}(M:MkN X.K C)(I:Inv X pins σ H s)
   (h:∀ x dx,H x=none→H dx=none→dx≠x→Q (.ref x) (upd (upd H dx (.own x)) x (.ins C dx []))) :
   wpAny (model X.prog X.w) X.A (call (.ref C) []) (EP X pins σ Q) X.xe s:=by
 have hq:=h (s.heap.objs.size+1) s.heap.objs.size (I.hok.fresh (Nat.le_succ _)) (I.hok.fresh (Nat.le_refl _)) (Nat.ne_of_lt (Nat.lt_succ_self _));have I2:=Inv.made (C:=C) I;obtain ⟨hh,g,d,t,os⟩:=s;dsimp only at I2 hq;have Y:=PySem.W.makes_of (M:=model X.prog X.w) I.kIn M.makes;refine wpAny_call (PySem.W.make_core Y (PySem.W.looks_findIn I.kIn M.init) (fun self=>PySem.W.Looks.of_pure (PySem.W.oi_bind self)) (.inr ⟨rfl,rfl⟩) ?_);have g1:((hh.push PySem.W.emptyDict).push (PySem.W.instObj C hh.objs.size)).get? (hh.objs.size+1)=some (PySem.W.instObj C hh.objs.size):=by have:=Heap.get?_push_size (hh.push PySem.W.emptyDict) (o:=PySem.W.instObj C hh.objs.size) rfl;rw [Heap.size_push] at this;exact this
 have t1:PySem.W.Looks (model X.prog X.w) ((hh.push PySem.W.emptyDict).push (PySem.W.instObj C hh.objs.size)) (typeOf (.ref (hh.objs.size+1))) (.ref C):=PySem.W.Looks.andThen (PySem.W.Looks.ld g1) PySem.W.Looks.now;have t2:PySem.W.Looks (model X.prog X.w) ((hh.push PySem.W.emptyDict).push (PySem.W.instObj C hh.objs.size)) (isInstance (.ref (hh.objs.size+1)) (.type "object")) true:=PySem.W.Looks.andThen t1 (PySem.W.Looks.keeps (h:=hh) Y.top fun b o e=>Heap.get?_push_of_some (PySem.W.instObj C hh.objs.size) (Heap.get?_push_of_some PySem.W.emptyDict e));refine codeAny_call_builtin PySem.W.oi_plain PySem.W.entry_oi ?_;have z:=@PySem.W.check_slot (model X.prog X.w) (X.A.under (.builtin "type.__call__" ⟨[.ref C],[]⟩)).in1;have z:=@z (fun e s'=>PySem.W.InitBack (hh.objs.size+1) (fun r s₁=>match r with | .ok (.ret v)=>EP X pins σ Q v s₁ | .ok _=>False | .error e=>X.xe e s₁) (.error e) s') { heap:=(hh.push PySem.W.emptyDict).push (PySem.W.instObj C hh.objs.size),gens:=g,drawn:=d,toks:=t,os:=os } "object.__init__" "object" "__init__" (.ref (hh.objs.size+1)) [] [];have z:=fun Q=>@z Q PySem.W.oi_kind PySem.W.oi_split t2 (PySem.W.oi_args _)
 refine z _ ?_;rw [PySem.W.oi_run];exact wpAny_pure ⟨rfl,V.ref (hh.objs.size+1),_,I2,rfl,hq⟩
theorem pe_new (M:MkN X.K C)(hg:Gl X x)(hm:X.mg x=some (.ref C))(hdb:(x==("__debug__":Str))=false:=by decide):PE X (.Call (.Name x p) [] [] pos) (tNew C):=by intro pins s σ H Q I h;refine wpAny_Call_Name_kw (Zcc I hg hm ?_ hdb);exact PySem.W.callWith_K0 I.kIn M.kp (run_new M I h)
end
def New (H H':Hp):Hp:=fun a=>match H a with | none=>H' a | some _=>none
theorem New.of {H H':Hp}{a:Addr}{o:HO}(h:H a=none)(e:H' a=some o):New H H' a=some o:=by unfold New;rw [h];exact e
theorem New.some {H H':Hp}{a:Addr}{o:HO}(h:New H H' a=some o):H a=none∧H' a=some o:=by
 unfold New at h;split at h
 · rename_i e
   exact ⟨e,h⟩
 · cases h
theorem New.same {H H' H'':Hp}(s:Same H' H''):Same (New H H') (New H H''):=fun a o h=>by
 obtain ⟨h1,h2⟩:=New.some h;exact New.of h1 (s _ _ h2)
theorem New.sub {H H':Hp}:Same (New H H') H':=fun a o h=>(New.some h).2
section
variable {K:PySem.W.Frag}{a:Addr}{xs:List V}{m:Nat}{caps:List Nat}{tt:TT}{te:TE}{σ:St}{H1:Hp}{Q:VK}
theorem compT (p:Nat→Bool)(hS:SqL K H1 a xs)(hn:xs.length≤1000000)
   (ht:∀ i x H2 (R:Bool→Hp→Prop),xs[i]?=some x→Same H1 H2→(∀ H3,Same H2 H3→R (p i) H3)→tt ((capSt m caps σ).set 0 (some x)) H2 R)
   (he:∀ x H2 (R:VK),R x H2→te ((capSt m caps σ).set 0 (some x)) H2 R)
   (hq:∀ D H2,Same H1 H2→H2 D=some (.lst (((List.range xs.length).filter p).map fun i=>xs.getD i .non))→Q (.ref D) H2):CompJ (Itl K a) m caps (gName 0) tt te σ H1 Q:=by
 refine compG (n:=xs.length) (fun D i ys H2=>i≤xs.length∧Same H1 H2∧H2 D=some (.lst ys)∧ys=((List.range i).filter p).map fun i=>xs.getD i .non) (fun D hD=>⟨Nat.zero_le _,Same.new hD,Zab,rfl⟩) (fun D i ys H2 h=>h.1)
   (fun D ys H2 hD h=>⟨xs,h.2.1.seq hS,Nat.le_refl _⟩) (fun D i ys H2 hD hi h=>⟨xs,_,h.2.1.seq hS,List.getElem?_eq_getElem hi⟩) ?_ (fun D ys H2 hD h=>hq D H2 h.2.1 (h.2.2.2 ▸ h.2.2.1))
 rintro D i ys H2 x H3 hD hi ⟨_,s2,h2,rfl⟩ ⟨rfl,y⟩;have hx:=y xs (s2.seq hS);rw [ZaQ];refine ht i x H3 _ hx s2 fun H4 s4=>?_
 have ll:(((List.range i).filter p).map fun i=>xs.getD i .non).length≤i:=by rw [List.length_map];exact Nat.le_trans (List.length_filter_le _ _) (by rw [List.length_range];exact Nat.le_refl _)
 have gx:xs.getD i .non=x:=by rw [List.getD_eq_getElem?_getD,hx];rfl
 split
 · rename_i e
   refine he _ _ _ (compYes hn hi ll (s4 _ _ h2) ⟨hi,(s2.trans s4).put hD,Zab,?_⟩);rw [List.range_succ,List.filter_append,List.map_append];simp [e,hx]
 · rename_i e
   refine compNo (ys:=((List.range i).filter p).map fun i=>xs.getD i .non) hi ⟨hi,s2.trans s4,s4 _ _ h2,?_⟩;rw [List.range_succ,List.filter_append,List.map_append];simp [e]
theorem compA (Rl:Nat→V→Hp→Prop)(mono:∀ i y H H',Same H H'→Rl i y H→Rl i y H')(hS:SqL K H1 a xs)(hn:xs.length≤1000000)
   (he:∀ i x H2 (R:VK),xs[i]?=some x→Same H1 H2→(∀ y H3,Same H2 H3→Rl i y (New H2 H3)→R y H3)→te ((capSt m caps σ).set 0 (some x)) H2 R)
   (hq:∀ D ys H2,H1 D=none→Same H1 H2→H2 D=some (.lst ys)→ys.length=xs.length→(∀ j y,ys[j]?=some y→Rl j y (del (New H1 H2) D))→Q (.ref D) H2):CompJ (Itl K a) m caps (gName 0) tNoTest te σ H1 Q:=by
 refine compG (n:=xs.length) (fun D i ys H2=>i≤xs.length∧Same H1 H2∧H2 D=some (.lst ys)∧ys.length=i∧∀ j y,ys[j]?=some y→Rl j y (del (New H1 H2) D)) (fun D hD=>⟨Nat.zero_le _,Same.new hD,Zab,rfl,fun j y h=>by cases h⟩) (fun D i ys H2 h=>h.1)
   (fun D ys H2 hD h=>⟨xs,h.2.1.seq hS,Nat.le_refl _⟩) (fun D i ys H2 hD hi h=>⟨xs,_,h.2.1.seq hS,List.getElem?_eq_getElem hi⟩) ?_ (fun D ys H2 hD h=>hq D ys H2 hD h.2.1 h.2.2.1 h.2.2.2.1 h.2.2.2.2)
 rintro D i ys H2 x H3 hD hi ⟨_,s2,h2,rfl,h3⟩ ⟨rfl,y⟩;have hx:=y xs (s2.seq hS);rw [ZaQ,Zbz];rw [if_pos rfl];refine he _ x H3 _ hx s2 fun z H4 s4 rz=>compYes hn hi (Nat.le_refl _) (s4 _ _ h2) ⟨hi,(s2.trans s4).put hD,Zab,by rw [List.length_append];rfl,fun j y hj=>?_⟩
 by_cases hl:j<ys.length
 · rw [List.getElem?_append_left hl] at hj;refine mono _ _ _ _ (fun b o hb=>?_) (h3 j y hj);obtain ⟨n1,e1⟩:=ZaH hb;obtain ⟨e1,e2⟩:=New.some e1;rw [ZaO n1];refine New.of e1 ?_;rw [Zah n1];exact s4 _ _ e2
 · rw [List.getElem?_append_right (by omega)] at hj;have e0:j-ys.length=0:=by
     have:=(List.getElem?_eq_some_iff.mp hj).1;simp at this;omega
   rw [e0] at hj;cases hj;have e1:j=ys.length:=by omega
   subst e1;refine mono _ _ _ _ (fun b o hb=>?_) rz;obtain ⟨e1,e2⟩:=New.some hb;have n1:b≠D:=fun z=>by rw [z,h2] at e1;cases e1
   rw [ZaO n1];refine New.of ?_ ?_
   · cases e:H1 b with
     | none=>rfl
     | some o=>rw [s2 _ _ e] at e1;cases e1
   · rw [Zah n1];exact e2
theorem compAR {lo:Int}{n:Nat}(Rl:Nat→V→Hp→Prop)(mono:∀ i y H H',Same H H'→Rl i y H→Rl i y H')(hn:n≤1000000)
   (he:∀ i H2 (R:VK),i<n→Same H1 H2→(∀ y H3,Same H2 H3→Rl i y (New H2 H3)→R y H3)→te ((capSt m caps σ).set 0 (some (.int (lo+i)))) H2 R)
   (hq:∀ D ys H2,H1 D=none→Same H1 H2→H2 D=some (.lst ys)→ys.length=n→(∀ j y,ys[j]?=some y→Rl j y (del (New H1 H2) D))→Q (.ref D) H2):CompJ (Itr lo n) m caps (gName 0) tNoTest te σ H1 Q:=by
 refine compG (n:=n) (fun D i ys H2=>i≤n∧Same H1 H2∧H2 D=some (.lst ys)∧ys.length=i∧∀ j y,ys[j]?=some y→Rl j y (del (New H1 H2) D)) (fun D hD=>⟨Nat.zero_le _,Same.new hD,Zab,rfl,fun j y h=>by cases h⟩) (fun D i ys H2 h=>h.1)
   (fun D ys H2 hD h=>Nat.le_refl _) (fun D i ys H2 hD hi h=>hi) ?_ (fun D ys H2 hD h=>hq D ys H2 hD h.2.1 h.2.2.1 h.2.2.2.1 h.2.2.2.2)
 rintro D i ys H2 x H3 hD hi ⟨_,s2,h2,rfl,h3⟩ ⟨rfl,rfl⟩;rw [ZaQ,Zbz];rw [if_pos rfl];refine he _ H3 _ hi s2 fun z H4 s4 rz=>compYes hn hi (Nat.le_refl _) (s4 _ _ h2) ⟨hi,(s2.trans s4).put hD,Zab,by rw [List.length_append];rfl,fun j y hj=>?_⟩
 by_cases hl:j<ys.length
 · rw [List.getElem?_append_left hl] at hj;refine mono _ _ _ _ (fun b o hb=>?_) (h3 j y hj);obtain ⟨n1,e1⟩:=ZaH hb;obtain ⟨e1,e2⟩:=New.some e1;rw [ZaO n1];refine New.of e1 ?_;rw [Zah n1];exact s4 _ _ e2
 · rw [List.getElem?_append_right (by omega)] at hj;have e0:j-ys.length=0:=by
     have:=(List.getElem?_eq_some_iff.mp hj).1;simp at this;omega
   rw [e0] at hj;cases hj;have e1:j=ys.length:=by omega
   subst e1;refine mono _ _ _ _ (fun b o hb=>?_) rz;obtain ⟨e1,e2⟩:=New.some hb;have n1:b≠D:=fun z=>by rw [z,h2] at e1;cases e1
   rw [ZaO n1];refine New.of ?_ ?_
   · cases e:H1 b with
     | none=>rfl
     | some o=>rw [s2 _ _ e] at e1;cases e1
   · rw [Zah n1];exact e2
end
end L2
namespace L2
open PySem PySem.Spec PyProof.Rows
section
variable {X:Cx}{pins:List (Addr × Obj)}{σ:St}{H:Hp}{s:Shared}{p:Addr}{kvs:List (Key × V)}{o:Obj}
theorem Inv.swap {u u':HO}(I:Inv X pins σ H s)(hp:H p=some u)(ok:ObjOk X.prog X.w H s.heap p u')(n1:∀ xs,u≠.tup xs)(n2:∀ x,u≠.own x)(n3:∀ ps,u≠.tbl ps)(nf:∀ o v,X.H₀ p≠some (.frz o v)):Inv X pins σ (upd H p u') s:=by
 have np:∀ b o,H b=some o→o≠u→upd H p u' b=some o:=fun b o e n=>by
   rw [Zah fun z=>by rw [z,hp] at e;cases e;exact n rfl];exact e
 have nn:∀ b,H b=none→upd H p u' b=none:=fun b e=>by
   rw [Zah fun z=>by rw [z,hp] at e;cases e];exact e
 refine ⟨I.ok,I.os,I.bare,⟨I.base.keep,I.base.slot,fun b o e n x=>nn b (I.base.free b o e n x),I.base.there,fun b ys e=>np b _ (I.base.tups b ys e) (n1 _).symm,fun b o v e=>?_,fun b ps e=>?_⟩,I.loc,I.cell,nn _ I.free,fun x c h=>nn _ (I.freeC x c h),fun q hq=>?_,fun a o e=>?_,I.len⟩
 · have z:=I.base.frzs b o v e;rw [Zah fun z=>by rw [z] at e;exact nf _ _ e];exact z
 · obtain ⟨more,e⟩:=I.base.tbls b ps e;exact ⟨more,np b _ e (n3 _).symm⟩
 · obtain ⟨e1,e2,r⟩:=I.pin q hq;exact ⟨e1,nn _ e2,r⟩
 · by_cases z:a=p
   · subst z;rw [Zab] at e;cases e;exact ok.stay (fun _ _ _ q=>q) (fun b q=>np b _ q (n2 _).symm) fun b ys q=>np b _ q (n1 _).symm
   · rw [Zah z] at e;exact (I.hok a o e).stay (fun _ _ _ q=>q) (fun b q=>np b _ q (n2 _).symm) fun b ys q=>np b _ q (n1 _).symm
theorem Inv.nofrz (I:Inv X pins σ H s)(hp:H p=some (.dK kvs)):∀ o v,X.H₀ p≠some (.frz o v):=fun o v e=>by
 have:=I.base.frzs p o v e;rw [hp] at this;cases this
theorem Inv.freeze (I:Inv X pins σ H s)(hp:H p=some (.dK kvs))(ho:s.heap.get? p=some o):Inv X pins σ (upd H p (.frz o (.dK kvs))) s :=
 I.swap hp ⟨ho,I.hok _ _ hp⟩ (fun _ z=>by cases z) (fun _ z=>by cases z) (fun _ z=>by cases z) (I.nofrz hp)
theorem Inv.thaw (I:Inv X pins σ H s)(hp:H p=some (.frz o (.dK kvs)))(nf:∀ o v,X.H₀ p≠some (.frz o v)):Inv X pins σ (upd H p (.dK kvs)) s :=
 I.swap hp (I.hok _ _ hp).2 (fun _ z=>by cases z) (fun _ z=>by cases z) (fun _ z=>by cases z) nf
end
def sThaw (t:TS):TS:=fun D σ H=>∃ p kvs,H p=some (.dK kvs)∧t { nx:=fun σ' H'=>∃ o,H' p=some (.frz o (.dK kvs))∧D.nx σ' (upd H' p (.dK kvs)),rt:=fun v H'=>∃ o,H' p=some (.frz o (.dK kvs))∧D.rt v (upd H' p (.dK kvs)),bk:=fun σ' H'=>∃ o,H' p=some (.frz o (.dK kvs))∧D.bk σ' (upd H' p (.dK kvs)),ct:=fun σ' H'=>∃ o,H' p=some (.frz o (.dK kvs))∧D.ct σ' (upd H' p (.dK kvs)) } σ H
theorem Zes {X:Cx}{st:Stmt}{t:TS}(h:PS X st t):PS X st (sThaw t):=by
 intro pins s σ H D I q;obtain ⟨p,kvs,hp,q⟩:=q;have nf:=I.nofrz hp;refine thn (h pins s σ H _ I q) fun f s1 hq=>?_
 cases f with
 | next =>
   obtain ⟨σ',H1,I1,o,h1,q1⟩:=hq;exact ⟨σ',_,I1.thaw h1 nf,q1⟩
 | brk =>
   obtain ⟨σ',H1,I1,o,h1,q1⟩:=hq;exact ⟨σ',_,I1.thaw h1 nf,q1⟩
 | cont =>
   obtain ⟨σ',H1,I1,o,h1,q1⟩:=hq;exact ⟨σ',_,I1.thaw h1 nf,q1⟩
 | ret u =>
   obtain ⟨v,σ',H1,I1,r1,o,h1,q1⟩:=hq;exact ⟨v,σ',_,I1.thaw h1 nf,r1,q1⟩
def Itd (a:Addr)(o:Obj)(kvs:List (Key × V)):It :=
 ⟨fun i H=>H a=some (.frz o (.dK kvs))∧i<kvs.length,fun i H x H'=>H'=H∧∃ kv,kvs[i]?=some kv∧x=kV kv.1,fun i H=>H a=some (.frz o (.dK kvs))∧kvs.length≤i⟩
theorem key_rel {k:Key}{u:Value}(h:keyIs k u=true):RelV (kV k) u:=by
 rcases ZaM h with ⟨i,t,rfl,rfl⟩ | ⟨x,t,rfl,rfl⟩
 · exact ⟨t,rfl⟩
 · exact ⟨t,rfl⟩
theorem Zd1 {κ:Type}:∀ {kvs:List (κ × V)} {vs:List (κ × Value)} {i:Nat} {k:κ} {v:V},KV kvs vs→kvs[i]?=some (k,v)→∃ v',vs[i]?=some (k,v')
 | _,_,0,_,_,.cons q _,h=>by
   cases h;obtain ⟨q1,_⟩:=q;exact ⟨_,congrArg some (Prod.ext q1.symm rfl)⟩
 | _,_,i+1,_,_,.cons _ r,h=>Zd1 (i:=i) r h
theorem ZgH {P:Program}{w:World}{K:PySem.W.Frag}{tg:Expr}{o:Obj}{es:Array DictEntry}{ep:Nat}{kvs:List (Key × V)}(a it:Addr)(ho:o.data=.dict es ep):Turn P w K tg (Itd a o kvs) [it] it (fun i h=>h.IsKeyIter it a i kvs.length ep) where
 mem:=by simp
 obj:=fun i h st b hb=>by
   have e:b=it:=by simpa using hb
   subst e;obtain ⟨o,e,c,d⟩:=st;exact ⟨o,e,fun v z=>by rw [d] at z;cases z⟩
 keep:=fun i h h' st k=>st.at fun o e=>k it (by simp) o e
 item:=by
   intro X hP hw hK hc i pins s σ H E I hf st hg;subst hP hw hK;obtain ⟨hq,hi⟩:=hg;obtain ⟨e1,_,_,vs,rel,o',es',ep',e2,ex,dt,ko,pr,nd⟩:=(show ObjOk X.prog X.w H s.heap a (.frz o (.dK kvs)) from I.hok _ _ hq)
   cases e1.symm.trans e2;cases ho.symm.trans dt;have gk:kvs[i]?=some (kvs[i].1,kvs[i].2):=List.getElem?_eq_getElem hi;obtain ⟨v',gv⟩:=Zd1 rel gk;have ll:kvs.length=vs.length:=Paired.length rel;rw [ll] at st;obtain ⟨f0,f1,f2,f3,f4,f5⟩:=hf it (by simp);refine wpAny_pyNext_dict_item (knd:=mixKind X.prog X.w) st ⟨o,es,e1,ex,dt,ko,pr,nd⟩ gv fun key h' kis st' sb=>?_
   have I1:Inv X pins σ H { s with heap:=h' }:=I.turned (t':=s.toks) (fun b o hb e=>(sb.2 b hb).trans e) f0 f1 f3 f4 f5;rw [← ll] at st';obtain ⟨oi,ei,ci,di⟩:=id st';exact ⟨key,rfl,go_of (s:={ s with heap:=h' }) ei ci di (by decide) ⟨kV kvs[i].1,H,I1,key_rel kis,⟨rfl,_,gk,rfl⟩,st',fun b hb=>(hf b hb).1⟩⟩
 done:=by
   intro X hP hw hK hc i pins s σ H E I hf st hg;subst hP hw hK;obtain ⟨hq,hi⟩:=hg;obtain ⟨e1,_,_,vs,rel,o',es',ep',e2,ex,dt,ko,pr,nd⟩:=(show ObjOk X.prog X.w H s.heap a (.frz o (.dK kvs)) from I.hok _ _ hq)
   cases e1.symm.trans e2;cases ho.symm.trans dt;have ll:kvs.length=vs.length:=Paired.length rel;rw [ll] at st;obtain ⟨f0,f1,f2,f3,f4,f5⟩:=hf it (by simp);exact wpAny_pyNext_dict_end (knd:=mixKind X.prog X.w) (I.ok.hd hc) st ⟨o,es,e1,ex,dt,ko,pr,nd⟩ (List.getElem?_eq_none (by omega)) fun h' eb=>⟨rfl,I.turned (t':=s.toks) (fun b o hb e=>eb b o hb e) f0 f1 f3 f4 f5⟩
 self:=fun _ _ _ _ _ st h=>wpAny_pyIter_keyiter st h
def iDict (tl:TE):TI:=fun σ H R=>tl σ H fun x H1=>∃ a kvs,x=.ref a∧H1 a=some (.dK kvs)∧∀ o,R (Itd a o kvs) (upd H1 a (.frz o (.dK kvs)))
theorem ZeP {tl:TE}{σ:St}{H:Hp}{R:It→Hp→Prop}:iDict tl σ H R=tl σ H fun x H1=>∃ a kvs,x=.ref a∧H1 a=some (.dK kvs)∧∀ o,R (Itd a o kvs) (upd H1 a (.frz o (.dK kvs))):=rfl
theorem ZeB {X:Cx}{tg l:Expr}{tl:TE}(hl:PE X l tl):PI X tg l (iDict tl):=by
 intro pins s σ H R I h;refine thn (hl pins s σ H _ I h) fun v s1 ⟨x,H1,I1,r1,q1⟩=>?_
 obtain ⟨a,kvs,e,hq,q⟩:=q1;subst e;cases r1;obtain ⟨_,hs,vs,rel,o,es,ep,e2,ex,dt,ko,pr,nd⟩:=(show ObjOk X.prog X.w H1 s1.heap a (.dK kvs) from I1.hok _ _ hq)
 have ll:kvs.length=vs.length:=Paired.length rel;refine wpAny_pyIter_dict (knd:=mixKind X.prog X.w) hs ⟨o,es,e2,ex,dt,ko,pr,nd⟩ ?_;have I2:=I1.freeze hq e2;have hn:upd H1 a (.frz o (.dK kvs)) s1.heap.objs.size=none:=I2.hok.fresh (Nat.le_refl _);refine ⟨s1.heap.objs.size,[s1.heap.objs.size],_,_,_,rfl,I2.kept (t':=s1.toks) fun b o e=>Heap.get?_push_of_some _ e,ZgH a _ dt,⟨_,Heap.get?_push_size _ rfl,rfl,?_⟩,fun b hb=>?_,q o⟩
 · rw [ll];rfl
 have e:b=s1.heap.objs.size:=by simpa using hb
 subst e;exact I2.fpOk (Nat.le_refl _) hn
end L2
namespace L2
open PySem PySem.Spec PyProof.Rows
end L2
namespace L2
open PySem PySem.Spec PyProof.Rows
section
variable {P:Program}{w:World}{l b p:Addr}{us vs:Array Value}{n m:Nat}{d1 d2:Option Addr}{z1 z2:Array (Option Value)}{s:Shared}{A:Around}{R:Result→Shared→Prop}
open MeetsSeq MeetsSeq2 MeetsSeq3 in
def EqW (P:Program)(w:World)(A:Around)(s:Shared)(u v:Value):Prop:=∀ (E:Value→Shared→Prop) (Q:Bool→Shared→Prop),Q true s→wpAny (model P w) A (eqBool u v) Q E s
abbrev FinW (P:Program)(w:World)(A:Around)(R:Result→Shared→Prop):Fin→Shared→Prop:=fun x s'=>match x with | .done f=>R (.ok f) s' | .again q=>q.quiet=true∧codeAny (model P w) A q R s'
abbrev LsAt (s:Shared)(l:Addr)(us:Array Value)(n:Nat)(d1:Option Addr)(z1:Array (Option Value)):Prop:=s.heap.get? l=some { cls:=.type "list",dict:=d1,data:=.seq us n,slots:=z1 }
abbrev TpAt (s:Shared)(l:Addr)(us:Array Value)(n:Nat)(d1:Option Addr)(z1:Array (Option Value)):Prop:=s.heap.get? l=some { cls:=.type "tuple",dict:=d1,data:=.seq us n,slots:=z1 }
open MeetsSeq MeetsSeq2 MeetsSeq3 AutoSeq1 in
theorem loopW (hs:us.size=vs.size){c:Int}{t:Bool}(hc:(c=2∧t=true)∨(c=3∧t=false)):∀ (k i:Nat),us.size-i=k→∀ {s:Shared},LsAt s l us n d1 z1→LsAt s b vs m d2 z2→(∀ (j:Nat) (h1:j<us.size) (h2:j<vs.size),EqW P w A.in1 s us[j] vs[j])→R (.ok (.ret (.bool t))) s →
   wpAny (model P w) A.in1 (Builtin.«list.__eq__.loop» ⟨[.ref l,.ref b,rawInt i,rawInt c],[]⟩) (FinW P w A R) (fun e s'=>R (.error e) s') s:=by
 intro k;induction k with
 | zero =>
   rintro i hk ⟨hp,g,d,tk,oz⟩ hL hB he h;have q1:us[((i:Nat):Int).toNat]?=none:=by simp;omega
   have q2:vs[((i:Nat):Int).toNat]?=none:=by simp;omega
   rcases hc with ⟨rfl,rfl⟩ | ⟨rfl,rfl⟩
   · wp_walk using wpAny_loadPart' hL,wpAny_loadPart' hB
     rw [q1,q2]
     wp_walk using wpAny_loadPart' hL,wpAny_loadPart' hB
     show R (.ok (.ret (.bool (us.size==vs.size)))) _;rw [hs];simpa using h
   · wp_walk using wpAny_loadPart' hL,wpAny_loadPart' hB
     rw [q1,q2]
     wp_walk using wpAny_loadPart' hL,wpAny_loadPart' hB
     show R (.ok (.ret (.bool (us.size != vs.size)))) _;rw [hs];simpa using h
 | succ k ih =>
   rintro i hk ⟨hp,g,d,tk,oz⟩ hL hB he h;have l1:i<us.size:=by omega
   have l2:i<vs.size:=by omega
   have q1:us[((i:Nat):Int).toNat]?=some us[i]:=by simp [l1]
   have q2:vs[((i:Nat):Int).toNat]?=some vs[i]:=by simp [l2]
   have nx:((i:Int)+1)=((i+1:Nat):Int):=by push_cast;rfl
   have hc':=hc;rcases hc with ⟨rfl,rfl⟩ | ⟨rfl,rfl⟩ <;>
   · wp_walk using wpAny_loadPart' hL,wpAny_loadPart' hB
     rw [q1,q2];refine wpAny_bind (he i l1 l2 _ _ ?_)
     wp_walk
     rw [nx];refine ⟨plainId_quiet plain_eq_loop _,codeAny_builtin entry_eq_loop ?_⟩;rw [Around.under_plainId plain_eq_loop];exact ih (i+1) (by omega) hL hB he h
open MeetsSeq MeetsSeq2 MeetsSeq3 AutoSeq1 in
theorem ZgN (hs:us.size=vs.size)(hL:LsAt s l us n d1 z1)(hB:LsAt s b vs m d2 z2)(he:∀ (j:Nat) (h1:j<us.size) (h2:j<vs.size),EqW P w A.in1 s us[j] vs[j])(h:R (.ok (.ret (.bool true))) s) :
   wpAny (model P w) A.in1 (Builtin.«list.__eq__» ⟨[.ref l,.ref b],[]⟩) (FinW P w A R) (fun e s'=>R (.error e) s') s:=by
 obtain ⟨hp,g,d,tk,oz⟩:=s;have fL:=AutoSeq1.sub_list_list;have hne:¬ (us.size != vs.size)=true:=by simp [hs]
 wp_walk using wpAny_loadPart' hL,wpAny_loadPart' hB
 refine ⟨plainId_quiet plain_eq_loop _,codeAny_builtin entry_eq_loop ?_⟩;rw [Around.under_plainId plain_eq_loop];exact loopW hs (.inl ⟨rfl,rfl⟩) _ 0 rfl hL hB he h
open MeetsSeq MeetsSeq2 MeetsSeq3 AutoSeq1 in
open MeetsSeq MeetsSeq2 MeetsSeq3 AutoSeq1 in
theorem tups_eqW (hs:us.size=vs.size) (hL:TpAt s l us n d1 z1) (hB:TpAt s b vs m d2 z2) (he:∀ (j:Nat) (h1:j<us.size) (h2:j<vs.size),EqW P w A.in1 s us[j] vs[j]) (h:R (.ok (.ret (.bool true))) s) :
   wpAny (model P w) A.in1 (Builtin.«tuple.__eq__» ⟨[.ref l,.ref b],[]⟩) (FinW P w A R) (fun e s'=>R (.error e) s') s:=by
 refine wpAny_mono (Q:=fun fin s'=>∃ v,fin=.done (.ret v)∧R (.ok (.ret v)) s') ?_ (fun fin s' h'=>by obtain ⟨v,rfl,hv⟩:=h';exact hv) fun _ _ x=>x
 obtain ⟨hp,g,d,tk,oz⟩:=s;have fT:=AutoSeq1.sub_tuple_tuple;have zl:(us.toList.zip vs.toList).length=us.size:=by simp [hs]
 wp_walk using wpAny_loadPart' hL,wpAny_loadPart' hB,wpAny_forIn_list _ (fun rest b s'=>b.1=none∧s'=⟨hp,g,d,tk,oz⟩∧∃ i,rest=(us.toList.zip vs.toList).drop i) _
 case turn =>
   rintro ⟨y,x⟩ rest b s' ⟨hB',rfl,i,hz⟩;have lt:i<(us.toList.zip vs.toList).length:=by
     rcases Nat.lt_or_ge i (us.toList.zip vs.toList).length with z | z
     · exact z
     · rw [List.drop_of_length_le z] at hz;cases hz
   rw [List.drop_eq_getElem_cons lt] at hz;injection hz with e1 e2
   have l1:i<us.size:=by omega
   have l2:i<vs.size:=by omega
   have a1:y=us[i]:=by have:=congrArg Prod.fst e1;simpa using this
   have a2:x=vs[i]:=by have:=congrArg Prod.snd e1;simpa using this
   subst a1 a2;refine wpAny_bind (he i l1 l2 _ _ ?_)
   wp_walk
   exact ⟨rfl,rfl,i+1,e2⟩
 case fin =>
   rintro ⟨b1,b2⟩ s' ⟨hB',rfl,i,hz⟩;simp only at hB';subst hB'
   wp_walk
   exact ⟨_,rfl,by simpa [Builtin.Tuple.tupleCompareSizes,hs] using h⟩
 case h=>exact ⟨rfl,rfl,0,rfl⟩
theorem EqW.refs {u v:Addr}(hne:u≠v)(h:∀ (E:Value→Shared→Prop) (Q:Value→Shared→Prop),Q (.bool true) s→wpAny (model P w) A (richCompare .Eq (.ref u) (.ref v)) Q E s):EqW P w A s (.ref u) (.ref v):=fun E Q hq=>by
 unfold eqBool;refine wpAny_holding ?_;refine wpAny_ite_split (fun z=>absurd (by have e:=eq_of_beq z;injection e) hne) fun _=>?_
 exact wpAny_bind (h E _ (wpAny_truthy_bool hq))
theorem EqW.of {u v:Value}(h:SeqAt.EqAt A s u v true):EqW P w A s u v:=fun E Q hq=>h P w E Q hq
theorem EqW.lists {u v:Addr}(hne:u≠v)(hl:s.heap.IsList u us)(hb:s.heap.IsList v vs)(hs:us.size=vs.size)(hu:A.units<cLine)(he:∀ (j:Nat) (h1:j<us.size) (h2:j<vs.size),EqW P w A.in1 s us[j] vs[j]):EqW P w A s (.ref u) (.ref v):=by
 refine .refs hne fun E Q q=>?_
 obtain ⟨⟨c1,d1,e1,z1⟩,ho,hc,n,hd⟩:=id hl;obtain ⟨⟨c2,d2,e2,z2⟩,ho2,hc2,m,hd2⟩:=id hb;simp only at hc hd hc2 hd2;subst hc hd hc2 hd2;have hT:s.TypeIs (.ref u) "list":=⟨_,ho,rfl⟩
 exact wpAny_richCompare_same_room (op:=.Eq) hT ⟨_,ho2,rfl⟩ F.slot_list_eq (wpAny_call (codeAny_call_builtin F.slot_list_eq.plain F.entry_list_eq (F.slot_list_eq.check _ _ _ _ _ _ _ _ hT (F.args_list_eq_2 _ _) (ZgN (R:=wants (fun v s1=>v≠.notImplemented∧Q v s1) E) hs ho ho2 he ⟨(fun x=>nomatch x),q⟩)))) hu
theorem EqW.tups {u v:Addr}(hne:u≠v)(hl:s.heap.IsTuple u us)(hb:s.heap.IsTuple v vs)(hs:us.size=vs.size)(hu:A.units<cLine)(he:∀ (j:Nat) (h1:j<us.size) (h2:j<vs.size),EqW P w A.in1 s us[j] vs[j]):EqW P w A s (.ref u) (.ref v):=by
 refine .refs hne fun E Q q=>?_
 obtain ⟨⟨c1,d1,e1,z1⟩,ho,hc,n,hd⟩:=id hl;obtain ⟨⟨c2,d2,e2,z2⟩,ho2,hc2,m,hd2⟩:=id hb;simp only at hc hd hc2 hd2;subst hc hd hc2 hd2;have hT:s.TypeIs (.ref u) "tuple":=⟨_,ho,rfl⟩
 exact wpAny_richCompare_same_room (op:=.Eq) hT ⟨_,ho2,rfl⟩ F.slot_tuple_eq (wpAny_call (codeAny_call_builtin F.slot_tuple_eq.plain F.entry_tuple_eq (F.slot_tuple_eq.check _ _ _ _ _ _ _ _ hT (F.args_tuple_eq_2 _ _) (tups_eqW (R:=wants (fun v s1=>v≠.notImplemented∧Q v s1) E) hs ho ho2 he ⟨(fun x=>nomatch x),q⟩)))) hu
end
mutual
inductive Twn (K:PySem.W.Frag) (H:Hp):Nat→V→V→Prop
 | int {n:Nat} (i:Int):Twn K H n (.int i) (.int i)
 | str {n:Nat} (x:Str):Twn K H n (.str x) (.str x)
 | lst {n:Nat} {a b:Addr} {xs ys:List V} (ha:SqL K H a xs) (hb:SqL K H b ys) (r:Twns K H n xs ys):Twn K H (n+1) (.ref a) (.ref b)
 | tup {n:Nat} {a b:Addr} {xs ys:List V} (ha:SqT K H a xs) (hb:SqT K H b ys) (r:Twns K H n xs ys):Twn K H (n+1) (.ref a) (.ref b)
 | dic {n:Nat} {a b:Addr} {kvs:List (Key × V)} (ha:H a=some (.dK kvs)) (hb:H b=some (.dK kvs)) (nd:(kvs.map (·.1)).Nodup) (hi:∀ kv∈kvs,∃ i,kv.2=.int i):Twn K H (n+1) (.ref a) (.ref b)
inductive Twns (K:PySem.W.Frag) (H:Hp):Nat→List V→List V→Prop
 | nil {n:Nat}:Twns K H n [] []
 | cons {n:Nat} {x y:V} {xs ys:List V} (h:Twn K H n x y) (r:Twns K H n xs ys):Twns K H n (x::xs) (y::ys)
end
section
variable {X:Cx}{pins:List (Addr × Obj)}{σ:St}{H:Hp}{s:Shared}
mutual
theorem Inv.twn (I:Inv X pins σ H s):∀ {n:Nat} {x y:V},Twn X.K H n x y→∀ {u v:Value} {A:Around},RelV x u→RelV y v→A.units+n≤cLine→EqW X.prog X.w A s u v
 | _,_,_,.int i,u,v,A,ru,rv,_=>by
   obtain ⟨t,rfl⟩:=ru;obtain ⟨t',rfl⟩:=rv;have:=PySem.W.keq_flat (A:=A) (s:=s) (v:=.int i t) (y:=.int i t') (d:=.int i) (e:=.int i) (fun _=>.int ..) (fun _=>.int ..)
   rw [show PyData.eqv (.int i) (.int i)=true by simp [PyData.eqv]] at this;exact .of this
 | _,_,_,.str x,u,v,A,ru,rv,_=>by
   obtain ⟨t,rfl⟩:=ru;obtain ⟨t',rfl⟩:=rv;have:=PySem.W.keq_flat (A:=A) (s:=s) (v:=.str x t) (y:=.str x t') (d:=.str x) (e:=.str x) (fun _=>.str ..) (fun _=>.str ..)
   rw [show PyData.eqv (.str x) (.str x)=true by simp [PyData.eqv]] at this;exact .of this
 | _,_,_,.lst (n:=n) (a:=a) (b:=b) ha hb r,u,v,A,ru,rv,hu=>by
   cases ru;cases rv;by_cases hab:a=b
   · subst hab;exact .of (SeqAt.EqAt.same _)
   obtain ⟨is1,r1,p1,_⟩:=I.list ha;obtain ⟨is2,r2,p2,_⟩:=I.list hb;obtain ⟨hl,he⟩:=Inv.twns I r r1 r2 (A:=A.in1) (by rw [Around.in1_units];omega);exact .lists hab p1.isList p2.isList (by simpa using hl) (by omega) fun j h1 h2=>by simpa using he j (by simpa using h1) (by simpa using h2)
 | _,_,_,.tup (n:=n) (a:=a) (b:=b) ha hb r,u,v,A,ru,rv,hu=>by
   cases ru;cases rv;by_cases hab:a=b
   · subst hab;exact .of (SeqAt.EqAt.same _)
   obtain ⟨is1,r1,p1,_⟩:=I.tuple ha;obtain ⟨is2,r2,p2,_⟩:=I.tuple hb;obtain ⟨hl,he⟩:=Inv.twns I r r1 r2 (A:=A.in1) (by rw [Around.in1_units];omega);exact .tups hab p1 p2 (by simpa using hl) (by omega) fun j h1 h2=>by simpa using he j (by simpa using h1) (by simpa using h2)
 | _,_,_,.dic (n:=n) (a:=a) (b:=b) ha hb nd hi,u,v,A,ru,rv,hu=>by
   cases ru;cases rv;by_cases hab:a=b
   · subst hab;exact .of (SeqAt.EqAt.same _)
   obtain ⟨z1,d1,va,r1,e1⟩:=dk_of I.hok ha;obtain ⟨z2,d2,vb,r2,e2⟩:=dk_of I.hok hb;refine .refs hab fun E Q h=>PySem.W.keq_eq (r:=true) d1 d2 e1 e2 (by omega) (fun _=>ZdY nd hi r2 (fun _ h=>h) r1) ?_
   rw [← r1.length,← r2.length];simpa using h
theorem Inv.twns (I:Inv X pins σ H s):∀ {n:Nat} {xs ys:List V},Twns X.K H n xs ys→∀ {us vs:List Value} {A:Around},Vals xs us→Vals ys vs→A.units+n≤cLine→us.length=vs.length∧∀ (j:Nat) (h1:j<us.length) (h2:j<vs.length),EqW X.prog X.w A s us[j] vs[j]
 | _,_,_,.nil,us,vs,A,ru,rv,_=>by
   cases ru;cases rv;exact ⟨rfl,fun j h1=>absurd h1 (by simp)⟩
 | _,_,_,.cons h r,us,vs,A,ru,rv,hu=>by
   cases ru with
   | cons a1 a2 =>
     cases rv with
     | cons b1 b2 =>
       obtain ⟨l,q⟩:=Inv.twns I r a2 b2 hu;refine ⟨by simp [l],fun j h1 h2=>?_⟩;cases j with
       | zero=>exact Inv.twn I h a1 b1 hu
       | succ j=>exact q j (by simpa using h1) (by simpa using h2)
end
end
section
variable {a:Addr}{o:Obj}{kvs:List (Key × V)}{m:Nat}{caps:List Nat}{tt:TT}{te:TE}{σ:St}{H1:Hp}{Q:VK}
end
end L2
namespace L2
open PySem
theorem Zfi {t:TS}{D:Ends}{σ:St}{H:Hp}:sThaw t D σ H=∃ p kvs,H p=some (.dK kvs)∧t { nx:=fun σ' H'=>∃ o,H' p=some (.frz o (.dK kvs))∧D.nx σ' (upd H' p (.dK kvs)),rt:=fun v H'=>∃ o,H' p=some (.frz o (.dK kvs))∧D.rt v (upd H' p (.dK kvs)),bk:=fun σ' H'=>∃ o,H' p=some (.frz o (.dK kvs))∧D.bk σ' (upd H' p (.dK kvs)),ct:=fun σ' H'=>∃ o,H' p=some (.frz o (.dK kvs))∧D.ct σ' (upd H' p (.dK kvs)) } σ H:=rfl
end L2
namespace L2
open PySem PySem.Spec PyProof.Rows
end L2
namespace L2
open PySem PySem.Spec PyProof.Rows
structure Cov (l:List Env)(h:Heap)(H:Hp)(B:Heap):Prop where
 old:∀ b o,h.get? b=some o→b∉frs l→∃ u,B.get? b=some u
 trk:∀ b u,H b=some u→∃ o,B.get? b=some o
section
variable {X:Cx}{pins:List (Addr × Obj)}{σ:St}{H:Hp}{s:Shared}
end
section
variable {P:Program}{w:World}{K:PySem.W.Frag}{mg:Str→Option Value}{base:Heap}{N:List Str}{qual:Str}{scope:Scope}{f:Addr}{cd:Value}{A:Around}{outer:List Env}{s0:Shared}{H0:Hp}{E:XK}
end
end L2
namespace L2
open PySem PySem.Spec PyProof.Rows
section
variable {P:Program}{w:World}{K:PySem.W.Frag}{mg:Str→Option Value}{base:Heap}{N:List Str}{qual:Str}{scope:Scope}{f:Addr}{cd:Value}{A:Around}{outer:List Env}{s0:Shared}{H0:Hp}{E:XK}
end
def XP (X:Cx)(pins:List (Addr × Obj))(σ:St)(W:Addr→Hp→Prop)(e:Value)(s':Shared):Prop:=∃ (ea C:Addr) (a0:Value) (B:Heap) (H':Hp),
 e=.ref ea∧Inv X pins σ H' s'∧Heap.FlyingW B X.stack ea (.ref C) a0 s'.heap∧Cov X.stack X.s₀.heap H' B∧(∀ p∈X.pn++pins,∃ o,B.get? p.1=some o)∧W C H'
section
variable {X:Cx}{pins:List (Addr × Obj)}{σ:St}{H:Hp}{s:Shared}
end
abbrev TX:=(Addr→St→Hp→Prop)→TS
section
variable {X:Cx}{st:Stmt}{sts rest:List Stmt}{t u:TX}{pos:Pos}
end
end L2
namespace L2
open PySem PySem.Spec PyProof.Rows
section
variable {X:Cx}{pins:List (Addr × Obj)}{σ:St}{H:Hp}{s:Shared}{ea:Addr}{oe:Obj}
end
section
variable {X:Cx}
end
end L2
namespace EX
open PySem PySem.Spec PyProof.Rows PySem.W PySem.Calls Builtin Builtin.ObjectAttr Builtin.Getset_descriptor
structure XIsi (K:Frag)(C:Addr):Prop where
 cls:(clsIn K C).isSome=true
 ga:findIn K (.ref C) "__getattribute__"=some (some (.builtin "BaseException.__getattribute__"))
 no:findIn K (.ref C) "__getattr__"=some none
 ca:findIn K (.ref C) "__class__"=some (some (.builtin "object.__class__"))
 ob:mroIn K C (.type "object")=some true
 be:mroIn K C (.type "BaseException")=some true
section
variable {prog:Program}{w:World}{A:Around}{E:Value→Shared→Prop}{s:Shared}{K:Frag}{x C:Addr}{ox:Obj}
end
end EX
namespace L2
open PySem PySem.Spec PyProof.Rows
section
variable {P:Program}{w:World}{K:PySem.W.Frag}{mg:Str→Option Value}{base:Heap}
variable {N:List Str}{qual:Str}{scope:Scope}{f:Addr}{cd:Value}{A:Around}{outer:List Env}{s0:Shared}{H0:Hp}{E:XK}
end
end L2
namespace L2
open PySem PySem.Spec PyProof.Rows
section
variable {P:Program}{w:World}{K:PySem.W.Frag}{mg:Str→Option Value}{base:Heap}{N:List Str}{qual:Str}{scope:Scope}{f:Addr}{cd:Value}{A:Around}{outer:List Env}{s0:Shared}{H0:Hp}{E:XK}
end
end L2
namespace L2
open PySem PySem.Spec PyProof.Rows
section
variable {prog:Program}{w:World}{A:Around}{E:Value→Shared→Prop}{h:Heap}{g:Array GenState}{d:Drawn}{t:Nat}{os:OsState}
variable {nm q:Str}{C N:Addr}{bs bm bmB:List Value}{hdc:Bool}{sn:List Str}{sub:List Value}{ab:Bool}{col:Option Bool}{dd:Option Addr}{k0 k1 k2 k3 k5:Option Value}{B Bn newId nid initId inN:String}{bmN:List Value}
abbrev excB (C t:Addr):Obj:={ cls:=.ref C,data:=.fields #[.ref t,.none,.none,.none,.bool false,.none] }
end
section
variable {X:Cx}{x:Str}{e:Expr}{te:TE}{j:Nat}{p1 p3 pos:Pos}
end
end L2
namespace L2
open PySem PySem.Spec PyProof.Rows Builtin Builtin.ObjectAttr
structure XFld (K:PySem.W.Frag)(C M:Addr):Prop where
 cls:∃ cd,PySem.W.clsIn K C=some cd∧cd.mro=.ref C::.ref M::bmVal∧cd.hasDict=true
 sa:PySem.W.findIn K (.ref C) "__setattr__"=some (some (.builtin "object.__setattr__"))
 ob:PySem.W.mroIn K C (.type "object")=some true
section
variable {prog:Program}{w:World}{A:Around}{E:Value→Shared→Prop}{s:Shared}{K:PySem.W.Frag}{C M e ta:Addr}{name:Str}{v:Value}
end
end L2
namespace L2
open PySem PySem.Spec PyProof.Rows Builtin Builtin.ObjectAttr PySem.W
abbrev excD (C t dx:Addr):Obj:={ excB C t with dict:=some dx }
section
variable {prog:Program}{w:World}{A:Around}{E:Value→Shared→Prop}{s:Shared}{K:Frag}{C e ta dx:Addr}{name:Str}{v:Value}
end
end L2
namespace L2
open PySem PySem.Spec PyProof.Rows
structure XMk (K:PySem.W.Frag)(C M f:Addr):Prop where
 lk:∃ (nm q:Str) (N:Addr) (bs:List Value) (hd:Bool) (sn:List Str) (sub:List Value) (ab:Bool) (col:Option Bool) (dd:Option Addr) (k0 k1 k2 k3 k5:Option Value),K.lookup C=some (excClassObj nm q C N bs (.ref M::bmVal) hd sn sub ab col dd k0 k1 k2 k3 k5 "ValueError.__new__")
 lkM:∃ (nm q:Str) (N:Addr) (bs:List Value) (hd:Bool) (sn:List Str) (sub:List Value) (ab:Bool) (col:Option Bool) (dd:Option Addr) (k0 k1 k2 k3 k5:Option Value),K.lookup M=some (excClassObj nm q M N bs bmVal hd sn sub ab col dd k0 k1 k2 k3 k5 "ValueError.__new__")
 m:XCls K M
 init:PySem.W.findIn K (.ref C) "__init__"=some (some (.ref f))
 fn:PySem.W.typeIn K (.ref f)=some (.type "function")
 kp:PySem.W.keepIn K (.ref C)=true
section
variable {X:Cx}{C M f:Addr}{fd:FuncData}{k:Nat}{ps:List Str}{sp:Sp}{E:XK}{CX:CXT}{x:Str}{p pos:Pos}{e:Expr}{es:List Expr}{t:TA}
structure XIni (K:PySem.W.Frag)(M:Addr):Prop where
 sp:PySem.W.specialIn K (.ref M) "__getattribute__"=some (some (.builtin "type.__getattribute__"))
 rd:PySem.W.readsIn K M (.type "type")=true
 fc:PySem.W.findCls K (.ref M) (.type "type") "__init__"=some (.val (.builtin "ValueError.__init__"))
end
end L2
namespace L2
open PySem PySem.Spec PyProof.Rows
def excH (e C dx:Addr):HO:=.ext fun h=>∃ t,h.get? e=some (excD C t dx)
section
variable {X:Cx}{o value:Expr}{f:Str}{ta tv:TE}{pos pos':Pos}
end
end L2
namespace L2
open PySem PySem.Spec PyProof.Rows
section
variable {X:Cx}{C:Addr}{x:Str}{p pos:Pos}{e:Expr}{es:List Expr}{t:TA}
end
section
variable {P:Program}{w:World}{K:PySem.W.Frag}{mg:Str→Option Value}{base:Heap}
end
end L2
namespace L2
open PySem PySem.Spec PyProof.Rows
inductive KD {α:Type}:Sem α→Prop
 | pure (a:α):KD (.pure a)
 | uns (w:String):KD (.unsupported w)
 | at (p:Pos) {k:Unit→Sem α} (h:∀ u,KD (k u)):KD (.at p k)
 | load (a:Addr) (q:Option Value) {k:Obj→Sem α} (h:∀ o,KD (k o)):KD (.load a q k)
 | upd (a:Addr) (q:Option Value) {f:Obj→Obj} {k:Unit→Sem α} (hf:∀ o,(f o).dict=o.dict∧(o.data≠.freed→(f o).data≠.freed)) (h:∀ u,KD (k u)):KD (.update a q f k)
 | alive (a:Addr) {k:Option Obj→Sem α} (h:∀ o,KD (k o)):KD (.loadIfAlive a k)
 | alloc (o:Obj) {k:Addr→Sem α} (h:∀ a,KD (k a)):KD (.alloc o k)
 | ask {k:Setting→Sem α} (h:∀ a,KD (k a)):KD (.ask k)
 | stack {k:List (Code × Pos)→Sem α} (h:∀ a,KD (k a)):KD (.stack k)
 | thread {k:Nat→Sem α} (h:∀ a,KD (k a)):KD (.thread k)
section
variable {α β:Type}
def DictAt (h:Heap)(e:Addr)(d:Option Addr):Prop:=∃ o,h.get? e=some o∧o.dict=d
end
end L2
namespace L2
open PySem PySem.Spec PyProof.Rows
section
variable {X:Cx}{pins:List (Addr × Obj)}{σ:St}{H H':Hp}{s:Shared}{p:Addr}{φ:Heap→Prop}
end
section
variable {P:Program}{w:World}{K:PySem.W.Frag}{mg:Str→Option Value}{base:Heap}{N:List Str}{qual:Str}{scope:Scope}{f:Addr}{cd:Value}{A:Around}{outer:List Env}{s0:Shared}{H0:Hp}{E:XK}
end
end L2
namespace L2
open PySem PySem.Spec PyProof.Rows
section
variable {X:Cx}{C M f:Addr}{fd:FuncData}{k:Nat}{ps:List Str}{sp:Sp}{E:XK}{CX:CXT}
end
section
variable {P:Program}{w:World}{A:Around}{E:Value→Shared→Prop}{s:Shared}{env:Env}
variable {nm q:Str}{C N:Addr}{bs bm:List Value}{hdc:Bool}{sn:List Str}{sub:List Value}{ab:Bool}{col:Option Bool}{dd:Option Addr}{k0 k1 k2 k3 k5:Option Value}{newId:String}
end
end L2
namespace L2
open PySem PySem.Spec PyProof.Rows
section
variable {P:Program}{w:World}{K:PySem.W.Frag}{mg:Str→Option Value}{base:Heap}{N:List Str}{qual:Str}{scope:Scope}{f:Addr}{cd:Value}{A:Around}{outer:List Env}{s0:Shared}{H0:Hp}{E:XK}
def tRaiseX (C:Addr)(sp:Sp)(E:XK)(t:TA):TS:=fun _ σ H=>t σ H fun vs H1=>vs.length≤1000∧∀ ea,H1 ea=none→sp (.ref ea::vs) (upd H1 ea (excO ea C)) (fun v H2=>v=.non∧∃ dx,H2 ea=some (excH ea C dx)∧E (.ref C) (some dx) (del H2 ea)) E0
end
section
variable {P:Program}{w:World}{K:PySem.W.Frag}{mg:Str→Option Value}{base:Heap}
variable {N:List Str}{qual:Str}{scope:Scope}{f:Addr}{cd:Value}{A:Around}{outer:List Env}{s0:Shared}{H0:Hp}{E:XK}
end
end L2
namespace L2
open PySem PySem.Spec PyProof.Rows
abbrev WX:=Addr→Option Addr→Hp→Prop
abbrev TXD:=(Addr→Option Addr→St→Hp→Prop)→TS
section
variable {X:Cx}{pins:List (Addr × Obj)}{σ:St}{H:Hp}{s:Shared}{k:Nat}{f:Addr}{fd:FuncData}{ps:List Str}{sp:Sp}
def eW (W:WX):XK:=fun cls dx H3=>∃ C',cls=.ref C'∧W C' dx H3
end
section
variable {X:Cx}{st:Stmt}{sts rest:List Stmt}{t u:TXD}{pos:Pos}
end
end L2
namespace L2
open PySem PySem.Spec PyProof.Rows
structure Caught (X:Cx)(pins:List (Addr × Obj))(σ:St)(H:Hp)(s:Shared)(ea C:Addr)(a0:Value)(B:Heap)(dx:Option Addr):Prop where
 inv:Inv X pins σ H s
 fl:Heap.FlyingW B X.stack ea (.ref C) a0 s.heap
 cov:Cov X.stack X.s₀.heap H B
 pn:∀ p∈X.pn++pins,∃ o,B.get? p.1=some o
 dd:DictAt s.heap ea dx
section
variable {X:Cx}{pins:List (Addr × Obj)}{σ:St}{H:Hp}{s:Shared}{ea C:Addr}{a0:Value}{B:Heap}{dx:Option Addr}
end
end L2
namespace L2
open PySem PySem.Spec PyProof.Rows Builtin Builtin.ObjectAttr PySem.W
section
variable {prog:Program}{w:World}{A:Around}{E:Value→Shared→Prop}{s:Shared}{K:Frag}{C e dx:Addr}{oe:Obj}{vs:Array Value}{name:Str}{v:Value}
end
section
variable {X:Cx}{o:Expr}{f:Str}{ta:TE}{pos:Pos}{ea C:Addr}{oe:Obj}{vs:Array Value}{dx:Option Addr}
end
end L2
namespace L2
open PySem PySem.Spec PyProof.Rows
section
variable {P:Program}{w:World}{K:PySem.W.Frag}{mg:Str→Option Value}{base:Heap}{N:List Str}{qual:Str}{scope:Scope}{f:Addr}{cd:Value}{A:Around}{outer:List Env}{s0:Shared}{H0:Hp}{E:XK}
end
end L2
namespace L2
open PySem PySem.Spec PyProof.Rows
section
variable {M:Model}{Γ:PySem.Ctx}{p:Pos}{s:Shared}{E:Value→Pos→Shared→Prop}
end
section
variable {M:Model}{Γ:PySem.Ctx}{p:Pos}{s:Shared}{E:Value→Pos→Shared→Prop}
end
section
variable {M:Model}{A:Around}{env:Env}{f:Addr}{Q:Value→Shared→Prop}
end
section
variable {P:Program}{w:World}{K:PySem.W.Frag}{mg:Str→Option Value}{base:Heap}{N:List Str}{qual:Str}{scope:Scope}{f:Addr}{cd:Value}{A:Around}{outer:List Env}{s0:Shared}{H0:Hp}{E:XK}
end
end L2
namespace L2
open PySem PySem.Spec PyProof.Rows
section
variable {X:Cx}
end
end L2
namespace L2
open PySem PySem.Spec PyProof.Rows
section
variable {X:Cx}
end
end L2
namespace L2
open PySem PySem.Spec PyProof.Rows
section
variable {X:Cx}
def rIsiT (K:PySem.W.Frag):List V→Hp→VK→Prop:=fun xs H Q=>∃ (a C dx:Addr) (fs:List (Str × V)) (tp c1 c2:Addr) (b1 b2:Bool),xs=[.ref a,.ref tp]∧H a=some (.ins C dx fs)∧Cls K C∧TyIns K C∧H tp=some (.tup [.ref c1,.ref c2])∧PySem.W.kitOne K (.ref C) (.ref c1)=some b1∧PySem.W.kitOne K (.ref C) (.ref c2)=some b2∧Q (.bl (b1||b2)) H
theorem kitAny2 {K:PySem.W.Frag}{t c1 c2:Value}{b1 b2:Bool}(h1:PySem.W.kitOne K t c1=some b1)(h2:PySem.W.kitOne K t c2=some b2):PySem.W.kitAny K t [c1,c2]=some (b1||b2):=by
 rw [PySem.W.kitAny.eq_def];simp only [h1];cases b1 with
 | true=>rfl
 | false =>
   simp only;rw [PySem.W.kitAny.eq_def];simp only [h2];cases b2 with
   | true=>rfl
   | false =>
     simp only;rw [PySem.W.kitAny.eq_def];rfl
theorem ZcV (K:PySem.W.Frag)(hK:X.K=K:=by rfl):CallR X (.builtin "isinstance") (rIsiT K):=by
 subst hK;intro pins s σ H xs us Q I r h;obtain ⟨a,C,dx,fs,tp,c1,c2,b1,b2,rfl,ha,cl,ty,ht,k1,k2,q⟩:=h;obtain ⟨u,v,rfl,ru,rv⟩:=r.two;cases (show u=Value.ref a from ru);cases (show v=Value.ref tp from rv);obtain ⟨mA,O,_⟩:=ZcN I.hok ha;obtain ⟨od,J,_⟩:=O.look;obtain ⟨_,its,vs,p⟩:=(show ObjOk X.prog X.w H s.heap tp (.tup [.ref c1,.ref c2]) from I.hok tp _ ht)
 obtain ⟨o,g,oc,n,od'⟩:=p;obtain ⟨x1,x2,rfl,r1,r2⟩:=Vals.two vs;cases (show x1=Value.ref c1 from r1);cases (show x2=Value.ref c2 from r2);obtain ⟨c0,d0,da,sl⟩:=o;subst oc;subst od';exact PySem.W.kia_tup (PySem.W.kitx_own (cl.get _) cl.hd ty.a ty.b ty.c ty.d) I.kIn J g (kitAny2 k1 k2) (fun z=>nomatch z) fun tk=>⟨.bl (b1||b2),H,I.tok _,rfl,q⟩
end
end L2
namespace L2
open PySem PySem.Spec PyProof.Rows
section
variable {X:Cx}
end
end L2
namespace L2
open PySem PySem.Spec PyProof.Rows
section
variable {X:Cx}{pos p1 p2:Pos}{j1 j2:Nat}{k:Str}{i:Int}
end
end L2
namespace L2
open PySem PySem.Spec PyProof.Rows
structure ByCls (K:PySem.W.Frag)(mg:Str→Option Value)(x m:Str)(M f:Addr):Prop where
 g:mg x=some (.ref M)
 sp:PySem.W.specialIn K (.ref M) "__getattribute__"=some (some (.builtin "type.__getattribute__"))
 rd:PySem.W.readsIn K M (.type "type")=true
 fc:PySem.W.findCls K (.ref M) (.type "type") m=some (.val (.ref f))
 kp:PySem.W.keepIn K (.ref f)=true
def BaseAt (P:Program)(w:World)(K:PySem.W.Frag)(mg:Str→Option Value)(base:Heap)(x m:Str)(ps:List Str)(k:Nat)(sp:Sp):Prop :=
 ∃ M f fd,ByCls K mg x m M f∧FnOk P w K mg base CX0 k f fd ps sp∧Binds K fd ps []
section
variable {X:Cx}{k:Nat}{ps:List Str}{sp:Sp}{x m:Str}{p pos apos:Pos}{e:Expr}{es:List Expr}{t:TA}{pl:Sem Bool}
theorem Zgu (F:BaseAt X.prog X.w X.K X.mg X.base x m ps k sp)(hr:Room k X.A)(hg:Gl X x)(ha:PA X (e::es) t)
   (hdb:(x==("__debug__":Str))=false:=by decide) (he:starEach (e::es) X.env=(false,eval e X.env)::starEach es X.env:=by rfl) (hpl:(backTo pos (starEach es X.env)).any (·.1)=false:=by rfl)
   (ht:eval (.Call (.Attribute (.Name x p) m apos) (e::es) [] pos) X.env=(do
     let ov ← eval (.Name x p) X.env
     standAt apos.atName
     let (f,first) ← holding [ov] (getMethod ov m pl)
     callWith pos f first (backTo pos (starEach (e::es) X.env)) (backToKw pos (keywordEach [] X.env))):=by rfl) :
   PE X (.Call (.Attribute (.Name x p) m apos) (e::es) [] pos) (tCall sp [] E0 t):=by
 obtain ⟨M,f,fd,c,F,b⟩:=F;intro pins s σ H Q I h;refine PySem.W.methodCall_KW (pl:=pl) (Zcc I hg c.g ?_ hdb) ht;refine PySem.W.method_cls I.kIn c.sp (PySem.W.cls_value I.kIn c.rd c.fc rfl ?_);refine PySem.W.callWith_K (first:=[]) (h₀:=X.base) I.ok.mod.kin c.kp (thn (ha pos pins _ σ H _ (I.tok _) h) fun us s1 ⟨vs,H1,I1,r,q⟩=>⟨I1.kIn,?_⟩) he hpl;exact Zea (us:=us) (vs:=vs) (dvs:=[]) F hr b .nil pass0 I1 r q
end
section
variable {P:Program}{w:World}{K:PySem.W.Frag}{mg:Str→Option Value}{base:Heap}{N:List Str}{qual:Str}{scope:Scope}{f:Addr}{cd:Value}{A:Around}{outer:List Env}{s0:Shared}{H0:Hp}{E:XK}
end
section
variable {X:Cx}{pins:List (Addr × Obj)}{σ:St}{H:Hp}{s:Shared}{k:Nat}{f C:Addr}{fd:FuncData}{ps:List Str}{sp:Sp}
end
end L2
namespace L2
open PySem PySem.Spec PyProof.Rows
section
variable {X:Cx}
def rListD:List V→Hp→VK→Prop:=fun xs H Q=>∃ (a:Addr) (kvs:List (Key × V)),xs=[.ref a]∧H a=some (.dK kvs)∧∀ l,H l=none→Q (.ref l) (upd H l (.lst (kvs.map fun p=>kV p.1)))
theorem ZdQ {xs:List V}{H:Hp}{Q:VK}:rListD xs H Q=∃ (a:Addr) (kvs:List (Key × V)),xs=[.ref a]∧H a=some (.dK kvs)∧∀ l,H l=none→Q (.ref l) (upd H l (.lst (kvs.map fun p=>kV p.1))):=rfl
theorem Zfg:∀ {vs:List V} {us:List Value},vs.length=us.length→(∀ (j:Nat) v u,vs[j]?=some v→us[j]?=some u→RelV v u)→Vals vs us
 | [],[],_,_=>.nil
 | v::vs,u::us,h,k=>.cons (k 0 v u rfl rfl) (Zfg (Nat.succ.inj h) fun j=>k (j+1))
 | [],_::_,h,_=>by cases h
 | _::_,[],h,_=>by cases h
theorem Zdx (hc:X.calm=true:=by rfl):CallR X (.type "list") rListD:=by
 intro pins s σ H xs us Q I r h;obtain ⟨a,kvs,rfl,ha,q⟩:=h;obtain ⟨u,rfl,ru⟩:=r.one;cases (show u=Value.ref a from ru);obtain ⟨hz,lo,vs,kv,o,es,ep,g1,g2,g3,g4,g5,g6⟩:=dk_of I.hok ha;have lk:kvs.length=vs.length:=kv.length;refine PySem.W.kdl_call (A:=X.A) (PySem.W.kdl_dict (knd:=mixKind X.prog X.w) (kvs:=vs) (ep:=ep) lo) (I.ok.hd hc) ⟨o,es,g1,g2,g3,g4,g5,g6⟩ (by omega) fun h1 tk acc c old e hacc=>?_
 have lz:(kvs.map fun p=>kV p.1).length≤sizeLine:=by rw [List.length_map];exact hz
 have rv:Vals (kvs.map fun p=>kV p.1) acc.toList:=by
   refine Zfg (by rw [List.length_map];exact lk.trans (hacc.1.symm.trans Array.length_toList.symm)) fun j v u ev eu=>?_
   obtain ⟨k,y,e1,e2⟩:=hacc.2 j u (by rw [← Array.getElem?_toList];exact eu);have ek:(vs.map (·.1))[j]?=some k:=by rw [List.getElem?_map,e1];rfl
   rw [← kv.keys,List.getElem?_map] at ek;rw [List.getElem?_map] at ev;cases en:kvs[j]? with
   | none=>rw [en] at ek;cases ek
   | some p =>
     rw [en] at ek ev;cases (show p.1=k from Option.some.inj ek);cases (show kV p.1=v from Option.some.inj ev);rw [ZfE] at e2;rcases ZaM e2 with ⟨i',t,z1,z2⟩ | ⟨x,t,z1,z2⟩
     · rw [z1];exact ⟨t,z2⟩
     · rw [z1];exact ⟨t,z2⟩
 refine ⟨.ref s.heap.objs.size,_,I.laid (t':=tk) (o:=.lst (kvs.map fun p=>kV p.1)) old (Nat.le_refl _) ⟨lz,acc.toList,c,rv,by rw [Array.toArray_toList];exact e⟩,rfl,q _ (I.hok.fresh (Nat.le_refl _))⟩
end
end L2
namespace L2
open PySem PySem.Spec PyProof.Rows
section
variable {X:Cx}
def rRepS:R2:=fun x y H Q=>∃ (z:Str) (n:Int),x=.str z∧y=.int n∧(n=0∨n=1)∧Q (.str (if n=1 then z else Str.empty)) H
theorem ZeY {x y:V}{H:Hp}{Q:VK}:rRepS x y H Q=∃ (z:Str) (n:Int),x=.str z∧y=.int n∧(n=0∨n=1)∧Q (.str (if n=1 then z else Str.empty)) H:=rfl
theorem op_repS:OpR X (binaryOp .Mult) rRepS:=by
 intro pins s σ H x y v u Q I rx ry h;obtain ⟨z,n,rfl,rfl,hn,q⟩:=h;obtain ⟨t,rfl⟩:=(show ∃ t,v=Value.str z t from rx)
 obtain ⟨t',rfl⟩:=(show ∃ t,u=Value.int n t from ry)
 rcases hn with rfl | rfl
 · refine PySem.P.mul_str_none (by decide) (by decide) ⟨.str Str.empty,H,I.tok _,⟨_,rfl⟩,?_⟩;rw [if_neg (by decide)] at q;exact q
 · refine PySem.P.mul_str (by decide) (fun _ h=>absurd h (by simp)) (fun _ h=>absurd h (by simp)) ?_;rw [if_neg (by decide),if_pos (by rfl)];rw [if_pos rfl] at q;exact ⟨.str z,H,I,⟨_,rfl⟩,q⟩
end
end L2
namespace L2
open PySem PySem.Spec PyProof.Rows
structure EnmTn (e it:Addr)(St:Nat→Heap→Prop)(i:Nat)(h:Heap):Prop where
 e:∃ old,IsEnum h e it i old
 s:St i h
theorem Zdl:bootBuiltins "enumerate"=some (.type "enumerate"):=by decide +kernel
end L2
namespace L2
open PySem PySem.Spec PyProof.Rows
section
variable {X:Cx}
def rInD (K:PySem.W.Frag)(neg:Bool):R2:=fun x y H Q=>∃ p d xs ds,y=.ref p∧RdD K H x d∧SqL K H p xs∧RdDs K H xs ds∧PyData.canLayAll0 ds=true∧d.canLay0=true∧d.depth≤63∧Q (.bl (if neg then !ds.any (fun e=>PyData.eqv e d) else ds.any fun e=>PyData.eqv e d)) H
theorem Zfs (K:PySem.W.Frag)(hu:X.A.units+64<cLine)(h:X.K=K:=by rfl):OpR X (compareOp .In) (rInD K false):=by subst h;intro pins s σ H x y v u Q I rx ry h;obtain ⟨p,d,xs,ds,rfl,h1,h2,h3,c1,c2,dp,q⟩:=h;obtain ⟨as,r1⟩:=I.rd h1 rx;obtain ⟨bs,r2⟩:=I.rd (.lst h2 h3) ry;exact SeqAt.in_list_reads r2 r1 c1 c2 (by have:=Nat.min_le_right (PyData.depthAll ds) d.depth;omega) ⟨.bl _,H,I,rfl,q⟩
theorem Zf2 {K:PySem.W.Frag}{neg:Bool}{x y:V}{H:Hp}{Q:VK}:rInD K neg x y H Q=∃ p d xs ds,y=.ref p∧RdD K H x d∧SqL K H p xs∧RdDs K H xs ds∧PyData.canLayAll0 ds=true∧d.canLay0=true∧d.depth≤63∧Q (.bl (if neg then !ds.any (fun e=>PyData.eqv e d) else ds.any fun e=>PyData.eqv e d)) H:=rfl
theorem ZfS {K:PySem.W.Frag}{x y:V}{H:Hp}{Q:VK}:rEqD K x y H Q=∃ d e,RdD K H x d∧RdD K H y e∧SeqAt.shaped d=true∧SeqAt.shaped e=true∧SeqAt.noMix d e=true∧Q (.bl (PySem.Spec.same d e)) H:=rfl
end
end L2
namespace L2
open PySem PySem.Spec PyProof.Rows
theorem compZF {K:PySem.W.Frag}{a b:Addr}{xs zs:List V}{m:Nat}{caps:List Nat}{te:TE}{σ:St}{H1:Hp}{Q:VK}(f:Nat→V)(hS:SqL K H1 a xs)(hT:SqL K H1 b zs)(hl:xs.length=zs.length)(hn:xs.length≤1000000)
   (he:∀ i x y H2 (R:VK),xs[i]?=some x→zs[i]?=some y→Same H1 H2→(∀ H3,Same H2 H3→R (f i) H3)→te (((capSt m caps σ).set 0 (some x)).set 1 (some y)) H2 R)
   (hq:∀ D H2,H1 D=none→Same H1 H2→H2 D=some (.lst ((List.range xs.length).map f))→Q (.ref D) H2):CompJ (Itz K a b) m caps (gTup K 2 (gCons (gName 0) (gCons (gName 1) gNil))) tNoTest te σ H1 Q:=by
 refine compG (n:=xs.length) (fun D i ys H2=>i≤xs.length∧Same H1 H2∧H2 D=some (.lst ys)∧ys=(List.range i).map f) (fun D hD=>⟨Nat.zero_le _,Same.new hD,Zab,rfl⟩) (fun D i ys H2 h=>h.1)
   (fun D ys H2 hD h=>⟨xs,zs,h.2.1.seq hS,h.2.1.seq hT,.inl (Nat.le_refl _)⟩) (fun D i ys H2 hD hi h=>⟨xs,zs,_,_,h.2.1.seq hS,h.2.1.seq hT,List.getElem?_eq_getElem hi,List.getElem?_eq_getElem (hl ▸ hi)⟩) ?_ (fun D ys H2 hD h=>hq D H2 hD h.2.1 (h.2.2.2 ▸ h.2.2.1))
 rintro D i ys H2 v H3 hD hi ⟨_,s2,h2,rfl⟩ ⟨T,x,y,rfl,nT,rfl,hx,hy⟩;have hx:=hx xs (s2.seq hS);have hy:=hy zs (s2.seq hT);simp only [ZcG,Zb8,ZaQ,ZcF,Zbz];have s3:=Same.new (o:=.tup [x,y]) nT;refine ⟨T,[x,y],rfl,.inl (.inl Zab),rfl,_,_,rfl,_,_,rfl,rfl,?_⟩;rw [if_pos trivial];refine he i x y _ _ hx hy (s2.trans s3) fun H4 s4=>compYes hn hi (by rw [List.length_map,List.length_range];exact Nat.le_refl _) (s4 _ _ (s3 _ _ h2)) ⟨hi,((s2.trans s3).trans s4).put hD,Zab,?_⟩
 rw [List.range_succ,List.map_append];rfl
end L2
namespace L2
open PySem PySem.Spec PyProof.Rows
def Ien (K:PySem.W.Frag)(a:Addr):It :=
 ⟨fun i H=>∃ xs x,SqL K H a xs∧xs[i]?=some x,fun i H v H'=>∃ T x,v=.ref T∧H T=none∧H'=upd H T (.tup [.int i,x])∧∀ xs,SqL K H a xs→xs[i]?=some x,fun i H=>∃ xs,SqL K H a xs∧xs.length=i⟩
structure EnlTn (e it a:Addr)(i:Nat)(h:Heap):Prop where
 e:∃ old,IsEnum h e it i old
 s:h.IsListIter it a i
theorem turn_enl {P:Program} {w:World} {K:PySem.W.Frag} {es:List Expr} {x1} {pos:Pos} {e it a:Addr} (ne:e≠it):Turn P w K (.Tuple es x1 pos) (Ien K a) [e,it] e (EnlTn e it a) where
 mem:=by simp
 obj := fun i h st c hc=>by
   simp only [List.mem_cons,List.not_mem_nil,or_false] at hc;obtain ⟨old,he⟩:=st.e;rcases hc with rfl | rfl
   · exact ⟨_,he,fun v q=>by cases q⟩
   · obtain ⟨o,e1,e2,e3⟩:=st.s;exact ⟨o,e1,fun v q=>by rw [e3] at q;cases q⟩
 keep:=fun i h h' st k=>by
   obtain ⟨old,he⟩:=st.e;exact ⟨⟨old,k e (by simp) _ he⟩,st.s.at fun o q=>k it (by simp) o q⟩
 item:=by
   intro X hP hw hK hc i pins s σ H E I hf st hg;subst hP hw hK;obtain ⟨xs,x,hq,hx⟩:=hg;obtain ⟨its,rv,p,hz⟩:=I.list hq;obtain ⟨u,hu,ru⟩:=rv.get hx;obtain ⟨old,he⟩:=st.e;have lt:∀ {c:Addr} {o:Obj},s.heap.get? c=some o→s.heap.objs.size≠c:=fun e=>Nat.ne_of_gt (Heap.lt_size e)
   have nl:a≠it:=fun z=>by
     obtain ⟨o,e1,e2,_⟩:=st.s;obtain ⟨o',e1',e2',_⟩:=p.isList;rw [z,e1] at e1';cases e1';rw [e2] at e2';exact absurd e2' (by decide)
   have nae:e≠a:=fun z=>by
     obtain ⟨o',e1',e2',_⟩:=p.isList;have he:s.heap.get? e=some _:=he;rw [← z,he] at e1';cases e1';exact absurd e2' (show ¬Value.type "enumerate"=Value.type "list" by decide)
   refine wpAny_pyNext_enum_itemD (Draws.list (A:=X.A.in1) (I.ok.hd hc) it a nl its.toArray) he ⟨st.s,p.isList⟩ (by have:=(List.getElem?_eq_some_iff.mp hu).1;simpa using this) ne (by simp [ne,nae]) fun x' h1 tk hp ho hs1 hT hz kk=>?_
   refine ⟨_,rfl,wpAny_letOwnedTupleGo_enum ho fun h2 he2 hs2=>?_⟩;have ex:x'=u:=by have hp:its.toArray[i]?=some x':=hp;rw [List.getElem?_toArray,hu] at hp;exact (Option.some.inj hp).symm
   subst ex;have keep:∀ b o,b∉[e,it]→s.heap.get? b=some o→h2.get? b=some o:=fun b o hb q=>by
     simp only [List.mem_cons,List.not_mem_nil,or_false,not_or] at hb;exact (hs2.2 b hb.1).trans (kk b o hb.1 hb.2 q)
   have hT2:h2.get? s.heap.objs.size=some { cls:=.type "tuple",data:=.seq #[.int i tk,x'] }:=(hs2.2 _ (lt he)).trans hT;have I1:Inv X pins σ (upd H s.heap.objs.size (.tup [.int i,x])) { s with heap:=h2,toks:=tk+1 }:=I.turnedNew (t':=tk+1) hf keep (Nat.le_refl _) ⟨by show 2≤sizeLine;decide,[.int i tk,x'],.cons ⟨_,rfl⟩ (.cons ru .nil),_,hT2,rfl,_,rfl⟩;refine ⟨.ref s.heap.objs.size,_,I1,rfl,⟨_,x,rfl,I.hok.fresh (Nat.le_refl _),rfl,fun ys hy=>by rw [I.list_inj hy hq];exact hx⟩,⟨⟨_,he2⟩,?_⟩,fun b hb=>?_⟩
   · exact hs1.1.at fun o q=>(hs2.2 it (Ne.symm ne)).trans q
   · rw [Zah ?_]
     · exact (hf b hb).1
     · rintro rfl;simp only [List.mem_cons,List.not_mem_nil,or_false] at hb;obtain ⟨o,q,_⟩:=st.s;rcases hb with y | y
       · exact lt he y
       · exact lt q y
 done:=by
   intro X hP hw hK hc i pins s σ H E I hf st hg;subst hP hw hK;obtain ⟨xs,hq,hx⟩:=hg;obtain ⟨its,rv,p,hz⟩:=I.list hq;have hl:=rv.length;have ei:i=its.toArray.size:=by simp;omega
   have nl:a≠it:=fun z=>by
     obtain ⟨o,e1,e2,_⟩:=st.s;obtain ⟨o',e1',e2',_⟩:=p.isList;rw [z,e1] at e1';cases e1';rw [e2] at e2';exact absurd e2' (by decide)
   obtain ⟨old,he⟩:=st.e;have ss:s.heap.IsListIter it a its.toArray.size:=ei ▸ st.s;refine wpAny_pyNext_enum_endD (Draws.list (A:=X.A.in1) (I.ok.hd hc) it a nl its.toArray) he ⟨ss,p.isList⟩ fun h1 k=>⟨rfl,I.turnedL (t':=s.toks) hf fun b o hb q=>?_⟩
   simp only [List.mem_cons,List.not_mem_nil,or_false,not_or] at hb;exact k b o hb.2 q
 self:=fun _ _ _ _ _ st h=>let ⟨old,he⟩:=st.e;wpAny_pyIter_enum he h
def iEnl (K:PySem.W.Frag)(ta:TA):TI:=fun σ H R=>ta σ H fun vs H1=>∃ a,vs=[.ref a]∧(∃ xs,SqL K H1 a xs)∧R (Ien K a) H1
theorem Zf1 {K:PySem.W.Frag}{ta:TA}{σ:St}{H:Hp}{R:It→Hp→Prop}:iEnl K ta σ H R=ta σ H fun vs H1=>∃ a,vs=[.ref a]∧(∃ xs,SqL K H1 a xs)∧R (Ien K a) H1:=rfl
theorem pi_enl {X:Cx}(K:PySem.W.Frag){es:List Expr}{x1}{p3:Pos}{a:Expr}{ta:TA}{p pos:Pos}(hg:Gl X "enumerate")(hm:X.mg "enumerate"=none)(ha:PA X [a] ta)(hs:starEach [a] X.env=[(false,eval a X.env)]:=by rfl)(hK:X.K=K:=by rfl) :
   PI X (.Tuple es x1 p3) (.Call (.Name "enumerate" p) [a] [] pos) (iEnl K ta):=by
 subst hK;intro pins s σ H R I h;refine Call_ (Zc2 I hg hm Zdl (PyProof.Rows.callWith_type1 (thn (ha pos pins s σ H _ I h) fun us s1 ⟨vs,H1,I1,r1,q1⟩=>?_) (by rw [hs];rfl) rfl));obtain ⟨a,rfl,⟨xs,hq⟩,q⟩:=q1;obtain ⟨u,rfl,t⟩:=r1.one;cases t;obtain ⟨its,rv,p,hz⟩:=I1.list hq;refine call_enumerate_list p.isList fun g k1 k2 k3 k4=>?_
 refine wpAny_pyIter_enum k1 ?_;have ne:s1.heap.objs.size+1≠s1.heap.objs.size:=Nat.succ_ne_self _;refine ⟨_,_,_,_,H1,rfl,I1.kept (t':=s1.toks) k4,turn_enl ne,⟨⟨_,k1⟩,k2⟩,fun c hc=>?_,q⟩;have le:s1.heap.objs.size≤c:=by simp only [List.mem_cons,List.not_mem_nil,or_false] at hc;rcases hc with q | q<;>subst q<;>first | exact Nat.le_refl _ | exact Nat.le_add_right _ _
 exact I1.fpOk le (I1.hok.fresh le)
theorem loopEL {K:PySem.W.Frag}{a:Addr}{xs:List V}{g:TG}{tb:TS}{D:Ends}{σ:St}{H:Hp}(Pv:Nat→St→Hp→Prop)(h0:Pv 0 σ H)(hl:∀ i σ H,Pv i σ H→SqL K H a xs)
   (hs:∀ i x T σ H,xs[i]?=some x→H T=none→Pv i σ H→g (.ref T) σ (upd H T (.tup [.int i,x])) fun σ2 H2=>tb { D with nx:=Pv (i+1),ct:=Pv (i+1),bk:=D.nx } σ2 H2)
   (hd:∀ σ H,Pv xs.length σ H→D.nx σ H):LoopJ (Ien K a) g tb D σ H:=by
 refine ⟨fun i m σ H=>m=xs.length-i∧i≤xs.length∧Pv i σ H,⟨_,rfl,Nat.zero_le _,h0⟩,?_⟩;rintro i m σ H ⟨rfl,hi,hp⟩;have h1:=hl i σ H hp;by_cases hlt:i<xs.length
 · refine .inr ⟨⟨xs,_,h1,List.getElem?_eq_getElem hlt⟩,Pv (i+1),fun σ' H' q=>⟨_,by omega,rfl,by omega,q⟩,?_⟩;rintro v H' ⟨T,x,rfl,nT,rfl,hx⟩;exact hs i x T σ H (hx xs h1) nT hp
 · have e:i=xs.length:=by omega
   subst e;exact .inl ⟨⟨xs,h1,rfl⟩,hd σ H hp⟩
end L2
namespace L2
open PySem PySem.Spec PyProof.Rows
section
variable {X:Cx}{a b c d:Expr}{ta tb tc td:TE}{pos:Pos}
def tChain3 (r r' r3:R2)(ta tb tc td:TE):TE:=fun σ H Q=>ta σ H fun x H1=>tb σ H1 fun y H2=>r x y H2 fun z H3=>∃ k,z=.bl k ∧
 (if k=true then tc σ H3 fun w' H4=>r' y w' H4 fun z' H5=>∃ k',z'=.bl k'∧(if k'=true then td σ H5 fun u' H6=>r3 w' u' H6 Q else Q (.bl false) H5) else Q (.bl false) H3)
theorem Zdw {r r' r3:R2}{σ:St}{H:Hp}{Q:VK}:tChain3 r r' r3 ta tb tc td σ H Q=ta σ H fun x H1=>tb σ H1 fun y H2=>r x y H2 fun z H3=>∃ k,z=.bl k ∧
 (if k=true then tc σ H3 fun w' H4=>r' y w' H4 fun z' H5=>∃ k',z'=.bl k'∧(if k'=true then td σ H5 fun u' H6=>r3 w' u' H6 Q else Q (.bl false) H5) else Q (.bl false) H3):=rfl
theorem ZdS {op op' op3:CmpOp}{r r' r3:R2}(ho:OpR X (compareOp op) r)(ho':OpR X (compareOp op') r')(ho3:OpR X (compareOp op3) r3)(ha:PE X a ta)(hb:PE X b tb)(hc:PE X c tc)(hd:PE X d td)
   (hm:lastMarks [op,op',op3] [b,c,d]=false:=by with_unfolding_all rfl):PE X (.Compare a [op,op',op3] [b,c,d] pos) (tChain3 r r' r3 ta tb tc td):=by
 intro pins s σ H Q I h;refine Compare_chain (thn (ha pins s σ H _ I h) fun v s1 ⟨x,H1,I1,r1,q1⟩=>chain_link (thn (hb pins s1 σ H1 _ I1 q1) fun u s2 ⟨y,H2,I2,r2,q2⟩ =>
   thn (ho pins s2 σ H2 x y v u _ I2 r1 r2 q2) fun d s3 ⟨z,H3,I3,r3,k,e,q3⟩=>?_)) hm
 subst e;cases r3;refine wpAny_truthy_bool ?_;cases k with
 | false=>exact ite_ff ⟨.bl false,H3,I3,rfl,q3⟩
 | true =>
   refine ite_tt (chain_link (thn (hc pins s3 σ H3 _ I3 q3) fun w' s4 ⟨z',H4,I4,r4,q4⟩=>thn (ho' pins s4 σ H4 y z' u w' _ I4 r2 r4 q4) fun d' s5 ⟨z2,H5,I5,r5,k2,e2,q5⟩=>?_));subst e2;cases r5;refine wpAny_truthy_bool ?_;cases k2 with
   | false=>exact ite_ff ⟨.bl false,H5,I5,rfl,q5⟩
   | true=>exact ite_tt (chain_last (thn (hd pins s5 σ H5 _ I5 q5) fun w2 s6 ⟨z3,H6,I6,r6,q6⟩=>ho3 pins s6 σ H6 z' z3 w' w2 Q I6 r4 r6 q6))
end
end L2
namespace L2
open PySem PySem.Spec PyProof.Rows
section
variable {X:Cx}{o:Expr}{td:TE}{p apos cpos pos:Pos}
end
end L2
namespace L2
open PySem PySem.Spec PyProof.Rows
end L2
namespace Hk
open PySem PySem.W
def lk (x:Option Obj):Option Obj:=match x with
 | some ⟨_,_,.freed,_⟩=>none
 | o=>o
noncomputable def pick (l:List Obj):Nat→List Nat→List (Option Obj):=List.rec (motive:=fun _=>Nat→List Nat→List (Option Obj)) (fun _ as=>as.map fun _=>none) (fun o _ ih i as=>match as with
 | []=>[]
 | a::r=>bif Nat.beq a i then lk (some o)::ih (i+1) r else ih (i+1) (a::r)) l
theorem Zep:∀ (l:List Obj) (i:Nat) (as:List Nat),(∀ a∈as,i≤a)→as.Pairwise (·<·)→pick l i as=as.map fun a=>lk l[a-i]?
 | [],i,as,_,_=>by
   show as.map _=_;refine List.map_congr_left fun a _=>?_
   simp [lk]
 | o::l,i,[],_,_=>rfl
 | o :: l,i,a::r,h,p=>by
   have p1:∀ {b},b∈r→a<b:=fun hb=>List.rel_of_pairwise_cons p hb
   have p2:=List.Pairwise.of_cons p;have ha:i≤a:=h a (by simp);show (bif Nat.beq a i then lk (some o)::pick l (i+1) r else pick l (i+1) (a::r))=_;have go:∀ b,i+1≤b→(o::l)[b-i]?=l[b-(i+1)]?:=fun b hb=>by
     rw [show b-i=(b-(i+1))+1 by omega];rfl
   cases e:Nat.beq a i with
   | true =>
     have ea:a=i:=Nat.eq_of_beq_eq_true e;subst ea;have hr:∀ b∈r,a+1≤b:=fun b hb=>p1 hb
     show lk (some o)::pick l (a+1) r=_;rw [Zep l _ r hr p2,List.map_cons,Nat.sub_self];refine congrArg _ (List.map_congr_left fun b hb=>?_);rw [go b (hr b hb)]
   | false =>
     have ea:a≠i:=fun z=>by subst z;simp at e
     have hr:∀ b∈a::r,i+1≤b:=fun b hb=>by
       rcases List.mem_cons.mp hb with rfl | hb
       · omega
       · have:=p1 hb;omega
     show pick l (i+1) (a::r)=_;rw [Zep l _ (a::r) hr p];exact List.map_congr_left fun b hb=>by rw [go b (hr b hb)]
def upB:List Nat→Bool
 | a::b::r=>Nat.ble (a+1) b&&upB (b::r)
 | _=>true
theorem up_of:∀ {as:List Nat},upB as=true→as.Pairwise (·<·)
 | [],_=>.nil
 | [a],_=>List.pairwise_singleton _ _
 | a::b::r,h=>by
   obtain ⟨h1,h2⟩:=Bool.and_eq_true_iff.mp h;have q:=up_of h2;have l:a<b:=Nat.le_of_ble_eq_true h1;refine .cons (fun c hc=>?_) q;rcases List.mem_cons.mp hc with rfl | hc
   · exact l
   · exact Nat.lt_trans l (List.rel_of_pairwise_cons q hc)
theorem ZeH {as:List Nat}(u:upB as=true)(h:Heap):pick h.objs.toList 0 as=as.map h.get?:=by
 rw [Zep _ 0 as (fun _ _=>Nat.zero_le _) (up_of u)];refine List.map_congr_left fun a _=>?_
 rw [Nat.sub_zero,Array.getElem?_toList];rfl
noncomputable def fHook (K:Params→Frag) (as:List Addr) (e:∀ P,as=(K P).map (·.1)) (u:upB as=true):Hook :=
 ⟨List (Option Obj),fun s=>pick s.heap.objs.toList 0 as,fun w=>(K w.params).map fun p=>some p.2,InK K,fun w s x=>InK.of e w s ((ZeH u s.heap).symm.trans x),InK.keeps⟩
theorem f_in {K:Params→Frag}{as:List Addr}{e:∀ P,as=(K P).map (·.1)}{u:upB as=true}{w:World}{h:Heap}(Y:(fHook K as e u).says w h):(K w.params).In h:=Y
noncomputable def gHook (K:Params→Frag) (as:List Addr) (e:∀ P,as=(K P).map (·.1)) (u:upB as=true) (ts:List Addr):Hook where
 α:=List (Option Obj) × List (Option Obj)
 obs:=fun s=>(pick s.heap.objs.toList 0 as,ts.map s.heap.get?)
 val:=fun w=>((K w.params).map fun p=>some p.2,ts.map fun _=>some (tabObj #[]))
 says:=fun w h=>InK K w h∧∀ P∈ts,h.get? P=some (tabObj #[])
 of:=fun w s x=>⟨InK.of e w s ((ZeH u s.heap).symm.trans (Prod.mk.inj x).1),List.map_inj_left.mp (Prod.mk.inj x).2⟩
 keeps:=fun w h h' x k=>⟨InK.keeps w h h' x.1 k,fun P hP=>k _ _ (x.2 P hP)⟩
end Hk
namespace My
open PySem L2 BM PyProof.Rows
def top (i:Nat):Stmt:=PySem.Challenge.pw_runmarks_k76_what_is_neat.main.body.getD i (.Pass ⟨0,0,0,0⟩)
abbrev Zfq:Stmt:=top 21
abbrev s_bit_at:Stmt:=top 22
abbrev ZeJ:Stmt:=top 23
abbrev Zde:Stmt:=top 24
abbrev ZgA:Stmt:=top 25
abbrev ZeR:Stmt:=top 26
abbrev Zfx:Stmt:=top 27
abbrev Ze4:Stmt:=top 28
abbrev ZgF:Stmt:=top 29
abbrev Ze7:Stmt:=top 30
abbrev ZgY:Stmt:=top 31
abbrev Zdr:Stmt:=top 32
abbrev s_sizes:Stmt:=top 39
abbrev s_kept:Stmt:=top 40
abbrev s_added:Stmt:=top 41
abbrev ZgP:Stmt:=top 42
abbrev s_halved:Stmt:=top 44
abbrev ZdO:Stmt:=top 45
abbrev ZdF:Stmt:=top 48
abbrev ZcK:Stmt:=top 55
theorem sc_alike:FnScope ["one","other","same_class"] ["one","other"] (defScope ZcK):=by walk_at "s"
abbrev Zbt:Stmt:=top 56
theorem Zew:FnScope ["some","others"] ["some","others"] (defScope Zbt):=by walk_at "s"
abbrev Zbi:Stmt:=top 57
theorem Zdd:FnScope ["question","others"] ["question","others"] (defScope Zbi):=by walk_at "s"
abbrev ZbX:Stmt:=top 58
theorem Ze8:FnScope ["question"] ["question"] (defScope ZbX):=by walk_at "s"
abbrev Za2:Stmt:=top 59
theorem Zcq:FnScope ["one","other"] ["one","other"] (defScope Za2):=by walk_at "s"
abbrev Za0:Stmt:=top 60
theorem Zcj:FnScope ["one","other"] ["one","other"] (defScope Za0):=by walk_at "s"
abbrev Zbc:Stmt:=top 61
theorem ZcW:FnScope ["one","other"] ["one","other"] (defScope Zbc):=by walk_at "s"
abbrev Zcb:Stmt:=top 62
theorem Zfy:FnScope ["question","columns"] ["question","columns"] (defScope Zcb):=by walk_at "s"
abbrev ZaX:Stmt:=top 63
theorem sc_is_neat_inside:FnScope ["question","columns","top","parts"] ["question","columns"] (defScope ZaX):=by walk_at "s"
abbrev Zbr:Stmt:=top 64
theorem ZdH:FnScope ["question","earlier","part","columns"] ["question","earlier","part","columns"] (defScope Zbr):=by walk_at "s"
abbrev Zby:Stmt:=top 66
theorem ZdK:FnScope ["name","columns"] ["name","columns"] (defScope Zby):=by walk_at "s"
abbrev Zbq:Stmt:=top 67
theorem sc_check_names:FnScope ["question","columns","name"] ["question","columns"] (defScope Zbq):=by walk_at "s"
abbrev s_neat:Stmt:=top 69
theorem sc_neat:FnScope ["question","columns"] ["question","columns"] (defScope s_neat):=by walk_at "s"
abbrev ZbI:Stmt:=top 73
theorem Zei:FnScope ["_law_script","_law_k"] ["_law_script","_law_k"] (defScope ZbI):=by walk_at "s"
abbrev Zcf:Stmt:=top 75
theorem sc_l_mixed:FnScope ["_law_cell","_law_k","_law_number"] ["_law_cell","_law_k"] (defScope Zcf):=by walk_at "s"
abbrev Zce:Stmt:=top 76
theorem sc_l_names:FnScope ["_law_cell","_law_letters","_law_many","_law_at","_law_names_here","_law_k","_law_signs","_law_base","_law_some"] ["_law_cell"] (defScope Zce):=by walk_at "s"
abbrev ZbH:Stmt:=top 77
theorem sc_l_columns:FnScope ["_law_cell","_law_names_here","_law_columns_here","_law_k","_law_number","_law_size"] ["_law_cell"] (defScope ZbH):=by walk_at "s"
abbrev Zdj:Stmt:=top 78
theorem sc_l_top:FnScope ["_law_column"] ["_law_column"] (defScope Zdj):=by walk_at "s"
abbrev Zdi:Stmt:=top 81
theorem sc_l_end:FnScope ["_law_column","_law_some","_law_number","_law_top_here","_law_more"] ["_law_column","_law_some","_law_number"] (defScope Zdi):=by walk_at "s"
abbrev ZcO:Stmt:=top 82
theorem sc_l_leaf:FnScope ["_law_columns_here","_law_table_here","_law_cell","_law_number","_law_name","_law_some","_law_low","_law_high","_law_way"] ["_law_columns_here","_law_table_here","_law_cell"] (defScope ZcO):=by walk_at "s"
abbrev Zbx:Stmt:=top 83
theorem sc_l_question:FnScope ["_law_columns_here","_law_table_here","_law_cells","_law_stack","_law_cell","_law_number","_law_way","_law_many","_law_same","_law_parts"] ["_law_columns_here","_law_table_here","_law_cells"] (defScope Zbx):=by walk_at "s"
abbrev Zb0:Stmt:=top 84
theorem Zc9:FnScope ["_law_tree"] ["_law_tree"] (defScope Zb0):=by walk_at "s"
abbrev ZcL:Stmt:=top 85
theorem sc_l_made:FnScope ["_law_columns_here","_law_table_here","_law_made_here","_law_name","_law_kind","_law_size","_law_column","_law_row"] ["_law_columns_here","_law_table_here"] (defScope ZcL):=by walk_at "s"
abbrev Zbd:Stmt:=top 86
theorem ZcZ:FnScope ["_law_one","_law_other","_law_columns_here","_law_word"] ["_law_one","_law_other","_law_columns_here","_law_word"] (defScope Zbd):=by walk_at "s"
abbrev Zba:Stmt:=top 87
theorem sc_l_neat_part:FnScope ["_law_tree","_law_columns_here","_law_top_here","_law_k","_law_part","_law_ahead"] ["_law_tree","_law_columns_here"] (defScope Zba):=by walk_at "s"
abbrev ZcI:Stmt:=top 88
theorem ZgI:FnScope ["_law_tree","_law_columns_here"] ["_law_tree","_law_columns_here"] (defScope ZcI):=by walk_at "s"
abbrev Zch:Stmt:=top 89
theorem sc_l_range:FnScope ["_law_columns_here","_law_cell","_law_k","_law_number","_law_name","_law_top_here","_law_low","_law_high"] ["_law_columns_here","_law_cell","_law_k"] (defScope Zch):=by walk_at "s"
abbrev ZcD:Stmt:=top 90
theorem sc_l_near:FnScope ["_law_columns_here","_law_cell","_law_word","_law_parts","_law_k","_law_way","_law_part"] ["_law_columns_here","_law_cell"] (defScope ZcD):=by walk_at "s"
abbrev Zdb:Stmt:=top 91
theorem sc_law:FnScope ["_law_script","_law_cell","_law_columns_here","_law_made_here","_law_trees","_law_k","_law_tree","_law_found"] ["_law_script"] (defScope Zdb):=by walk_at "s"
abbrev Zaz:Stmt:=inClass (top 7) 0
theorem sc_Question_mentions:FnScope ["self","names","question"] ["self"] (defScope Zaz):=by walk_at "s"
abbrev Za3:Stmt:=inClass (top 8) 0
theorem Zdc:FnScope ["self"] ["self"] (defScope Za3):=by walk_at "s"
abbrev ZbK:Stmt:=inClass (top 11) 0
theorem Zcu:FnScope ["self","name","low","high"] ["self","name","low","high"] (defScope ZbK):=by walk_at "s"
abbrev ZbF:Stmt:=inClass (top 11) 1
theorem Zcs:FnScope ["self"] ["self"] (defScope ZbF):=by walk_at "s"
abbrev Zbw:Stmt:=inClass (top 12) 0
theorem Zb7:FnScope ["self","one"] ["self","one"] (defScope Zbw):=by walk_at "s"
abbrev ZbC:Stmt:=inClass (top 12) 1
theorem Zck:FnScope ["self"] ["self"] (defScope ZbC):=by walk_at "s"
abbrev ZbQ:Stmt:=inClass (top 13) 0
theorem ZcS:FnScope ["self","parts"] ["self","parts"] (defScope ZbQ):=by walk_at "s"
abbrev Zb3:Stmt:=inClass (top 13) 1
theorem ZcT:FnScope ["self"] ["self"] (defScope Zb3):=by walk_at "s"
abbrev ZbT:Stmt:=inClass (top 14) 0
theorem ZcB:FnScope ["self","parts"] ["self","parts"] (defScope ZbT):=by walk_at "s"
abbrev Zb4:Stmt:=inClass (top 14) 1
theorem Zc6:FnScope ["self"] ["self"] (defScope Zb4):=by walk_at "s"
abbrev ZbW:Stmt:=inClass (top 49) 0
theorem ZcM:FnScope ["self"] ["self"] (defScope ZbW):=by walk_at "s"
abbrev Zau:Stmt:=inClass (top 51) 0
theorem Zcx:FnScope ["self"] ["self"] (defScope Zau):=by walk_at "s"
abbrev ZbG:Stmt:=inClass (top 53) 0
theorem Zcr:FnScope ["self","width"] ["self","width"] (defScope ZbG):=by walk_at "s"
abbrev ZcE:Stmt:=inClass (top 53) 1
theorem ZdJ:FnScope ["self"] ["self"] (defScope ZcE):=by walk_at "s"
abbrev ZbB:Stmt:=inClass (top 71) 0
theorem Zci:FnScope ["self","top"] ["self","top"] (defScope ZbB):=by walk_at "s"
abbrev Zcm:Stmt:=inClass (top 71) 1
theorem Zdy:FnScope ["self"] ["self"] (defScope Zcm):=by walk_at "s"
structure Blt (mg:Str→Option Value):Prop where
 len:mg "len"=none
 range:mg "range"=none
 isi:mg "isinstance"=none
 int:mg "int"=none
 bool:mg "bool"=none
 lst:mg "list"=none
 min:mg "min"=none
 max:mg "max"=none
 sorted:mg "sorted"=none
 sum:mg "sum"=none
 dct:mg "dict"=none
 any:mg "any"=none
 all:mg "all"=none
 enumerate:mg "enumerate"=none
 zip:mg "zip"=none
 ValueError:mg "ValueError"=none
structure CD_Every (K:PySem.W.Frag)(mg:Str→Option Value)(C:Addr):Prop where
 at_:mg "Every"=some (.ref C)
 c:Cls K C
 m_beneath:MDefAt K C "beneath" "Leaf.beneath" Za3 ["self"]
 m_mentions:MDefAt K C "mentions" "Question.mentions" Zaz ["self"]
 ty:TyIns K C
 i_Every:IsiTo K mg C "Every" true
 i_Nobody:IsiTo K mg C "Nobody" false
 i_Within:IsiTo K mg C "Within" false
 i_Opposite:IsiTo K mg C "Opposite" false
 i_AllOf:IsiTo K mg C "AllOf" false
 i_OneOf:IsiTo K mg C "OneOf" false
 i_Question:IsiTo K mg C "Question" true
 new:MkN K C
structure CD_Nobody (K:PySem.W.Frag)(mg:Str→Option Value)(C:Addr):Prop where
 at_:mg "Nobody"=some (.ref C)
 c:Cls K C
 m_beneath:MDefAt K C "beneath" "Leaf.beneath" Za3 ["self"]
 m_mentions:MDefAt K C "mentions" "Question.mentions" Zaz ["self"]
 ty:TyIns K C
 i_Every:IsiTo K mg C "Every" false
 i_Nobody:IsiTo K mg C "Nobody" true
 i_Within:IsiTo K mg C "Within" false
 i_Opposite:IsiTo K mg C "Opposite" false
 i_AllOf:IsiTo K mg C "AllOf" false
 i_OneOf:IsiTo K mg C "OneOf" false
 i_Question:IsiTo K mg C "Question" true
 new:MkN K C
structure CD_Within (K:PySem.W.Frag)(mg:Str→Option Value)(C:Addr):Prop where
 at_:mg "Within"=some (.ref C)
 c:Cls K C
 init:MakerAt K C "Within.__init__" ZbK ["self","name","low","high"]
 m_mentions:MDefAt K C "mentions" "Within.mentions" ZbF ["self"]
 m_beneath:MDefAt K C "beneath" "Leaf.beneath" Za3 ["self"]
 ty:TyIns K C
 i_Every:IsiTo K mg C "Every" false
 i_Nobody:IsiTo K mg C "Nobody" false
 i_Within:IsiTo K mg C "Within" true
 i_Opposite:IsiTo K mg C "Opposite" false
 i_AllOf:IsiTo K mg C "AllOf" false
 i_OneOf:IsiTo K mg C "OneOf" false
 i_Question:IsiTo K mg C "Question" true
 n_name:NoAttr K C "name"
 n_low:NoAttr K C "low"
 n_high:NoAttr K C "high"
structure CD_Opposite (K:PySem.W.Frag)(mg:Str→Option Value)(C:Addr):Prop where
 at_:mg "Opposite"=some (.ref C)
 c:Cls K C
 init:MakerAt K C "Opposite.__init__" Zbw ["self","one"]
 m_beneath:MDefAt K C "beneath" "Opposite.beneath" ZbC ["self"]
 m_mentions:MDefAt K C "mentions" "Question.mentions" Zaz ["self"]
 ty:TyIns K C
 i_Every:IsiTo K mg C "Every" false
 i_Nobody:IsiTo K mg C "Nobody" false
 i_Within:IsiTo K mg C "Within" false
 i_Opposite:IsiTo K mg C "Opposite" true
 i_AllOf:IsiTo K mg C "AllOf" false
 i_OneOf:IsiTo K mg C "OneOf" false
 i_Question:IsiTo K mg C "Question" true
 n_one:NoAttr K C "one"
structure CD_AllOf (K:PySem.W.Frag)(mg:Str→Option Value)(C:Addr):Prop where
 at_:mg "AllOf"=some (.ref C)
 c:Cls K C
 init:MakerAt K C "AllOf.__init__" ZbQ ["self","parts"]
 m_beneath:MDefAt K C "beneath" "AllOf.beneath" Zb3 ["self"]
 m_mentions:MDefAt K C "mentions" "Question.mentions" Zaz ["self"]
 ty:TyIns K C
 i_Every:IsiTo K mg C "Every" false
 i_Nobody:IsiTo K mg C "Nobody" false
 i_Within:IsiTo K mg C "Within" false
 i_Opposite:IsiTo K mg C "Opposite" false
 i_AllOf:IsiTo K mg C "AllOf" true
 i_OneOf:IsiTo K mg C "OneOf" false
 i_Question:IsiTo K mg C "Question" true
 n_parts:NoAttr K C "parts"
structure CD_OneOf (K:PySem.W.Frag)(mg:Str→Option Value)(C:Addr):Prop where
 at_:mg "OneOf"=some (.ref C)
 c:Cls K C
 init:MakerAt K C "OneOf.__init__" ZbT ["self","parts"]
 m_beneath:MDefAt K C "beneath" "OneOf.beneath" Zb4 ["self"]
 m_mentions:MDefAt K C "mentions" "Question.mentions" Zaz ["self"]
 ty:TyIns K C
 i_Every:IsiTo K mg C "Every" false
 i_Nobody:IsiTo K mg C "Nobody" false
 i_Within:IsiTo K mg C "Within" false
 i_Opposite:IsiTo K mg C "Opposite" false
 i_AllOf:IsiTo K mg C "AllOf" false
 i_OneOf:IsiTo K mg C "OneOf" true
 i_Question:IsiTo K mg C "Question" true
 n_parts:NoAttr K C "parts"
structure CD_Marks (K:PySem.W.Frag)(mg:Str→Option Value)(C:Addr):Prop where
 at_:mg "Marks"=some (.ref C)
 c:Cls K C
 init:MakerAt K C "Marks.__init__" ZbW ["self"]
 n_keyed:NoAttr K C "keyed"
 n_aheads:NoAttr K C "aheads"
 n_stretches:NoAttr K C "stretches"
 n_held:NoAttr K C "held"
structure CD_ByBits (K:PySem.W.Frag)(mg:Str→Option Value)(C:Addr):Prop where
 at_:mg "ByBits"=some (.ref C)
 c:Cls K C
 init:MakerAt K C "ByBits.__init__" ZbG ["self","width"]
 m_top:MDefAt K C "top" "ByBits.top" ZcE ["self"]
 ty:TyIns K C
 i_ByBits:IsiTo K mg C "ByBits" true
 n_valued:NoAttr K C "valued"
 n_by_number:NoAttr K C "by_number"
 n_by_key:NoAttr K C "by_key"
 n_width:NoAttr K C "width"
structure CD_ByValue (K:PySem.W.Frag)(mg:Str→Option Value)(C:Addr):Prop where
 at_:mg "ByValue"=some (.ref C)
 c:Cls K C
 init:MakerAt K C "ByValue.__init__" ZbB ["self","top"]
 m_top:MDefAt K C "top" "ByValue.top" Zcm ["self"]
 ty:TyIns K C
 i_ByBits:IsiTo K mg C "ByBits" false
 n_valued:NoAttr K C "valued"
 n_by_number:NoAttr K C "by_number"
 n_by_key:NoAttr K C "by_key"
 n_greatest:NoAttr K C "greatest"
def rzX (C:Addr)(sp:Sp)(E:XK)(vs:List V)(H1:Hp):Prop:=vs.length≤1000∧∀ ea,H1 ea=none→sp (.ref ea::vs) (upd H1 ea (excO ea C)) (fun v H2=>v=.non∧∃ dx,H2 ea=some (excH ea C dx)∧E (.ref C) (some dx) (del H2 ea)) E0
theorem ZfN {C:Addr}{sp:Sp}{E:XK}{t:TA}{D:Ends}{σ:L2.St}{H:Hp}:tRaiseX C sp E t D σ H=t σ H fun vs H1=>rzX C sp E vs H1:=rfl
theorem ZfW {i j:Nat}{ta:TA}{D:Ends}{σ:L2.St}{H:Hp}:tPar i j ta D σ H=ta σ H fun vs H1=>∃ v w,vs=[v,w]∧D.nx ((σ.set i (some v)).set j (some w)) H1:=rfl
local macro_rules | `(tactic| walk_at "vc")=>`(tactic| ((try dsimp only [ZfW,Zf1,Zdw,Zf2,ZfS,ZdQ,ZeY,Zdo,ZfT,Zbb,Zez,ZaQ,Zdk,tC_ap,tOp_ap,rI_ap,rI0_ap,rEq_ap,rNe_ap,Za9,ZeV,Zbj,ZeQ,ZdD,Zey,Zel,Zej,Zdp,Zef,ZdG,tIf_ap,Zfa,Zek,Zdq,ZfY,Zgo,ZfL,tBM_ap,Zgy,Zgk,ZfZ,Zf4,Zdu,Zgf,ZeN,ZeM,Zgq,Zff,Ze1,Zbz,ZfX,ZeW,Zgx,Zdt,rIn_ap,Zd0,Zgl,Zdv,Zgj,Zf6,Zgp,Zf9,Zfi,ZeP,Ze0,Zgg,Zf8,ZcG,Zb8,ZcF,tSl_ap,Zdm,ZeS,Zf0,Zfj,L2.start,capSt]); (try simp only [ZfW,Zf1,Zdw,Zf2,ZfS,ZdQ,ZeY,Zdo,ZfT,ZfN,Zbb,Zez,ZaQ,Zdk,tC_ap,tOp_ap,rI_ap,rI0_ap,rEq_ap,rNe_ap,scal_ii,scal_bb,scal_ss,Za9,ZeV,Zbj,ZeQ,ZdD,Zey,Zel,Zej,Zdp,Zef,ZdG,tIf_ap,Zfa,Zek,Zdq,ZfY,Zgo,ZfL,tBM_ap,Zgy,tyV_int,tyV_list,Zgk,ZfZ,Zf4,Zdu,Zgf,ZeN,ZeM,Zgq,Zff,Ze1,Zbz,rIsi_blb,ZfX,ZeW,Zgx,Zdt,rIn_ap,Zd0,Zgl,Zdv,Zgj,Zf6,Zgp,Zf9,Zfi,ZeP,tCBK,rMaxD,Ze0,Zgg,Zf8,ZcG,Zb8,ZcF,tSl_ap,Zdm,ZeS,Zf0,Zfj,tyV_str,CDiv,CMul,CPow,CShl,L2.start,capSt,List.map_cons,List.map_nil,List.length_cons,List.length_nil,List.append_nil,List.nil_append,List.cons_append,List.getElem?_cons_zero,List.getElem?_cons_succ,List.set_cons_zero,List.set_cons_succ,List.getD_cons_zero,List.getD_cons_succ,rep0,rep1,rep2,rep3,rep4,rep5,rep6,rep7,rep8,rep9,rep10,rep11,Nat.reduceAdd,Nat.reduceSub,Int.reduceLT,Int.reduceLE,Int.reducePow,Int.reduceNeg,Int.reduceMul,Int.reduceAdd,Int.reduceSub,Int.reduceToNat,Int.reduceEq,reduceIte,Option.some.injEq,V.int.injEq,V.bl.injEq,V.ref.injEq,V.str.injEq,V.ty.injEq,List.cons.injEq,exists_and_left,exists_eq_left,exists_eq_left',exists_eq_right,exists_eq',exists_eq,and_true,true_and,Int.zero_add,decide_eq_true_eq,Bool.not_eq_true',decide_eq_false_iff_not,if_true,if_false,Bool.false_eq_true,Bool.true_eq_false,ite_not,not_true_eq_false,not_false_eq_true,Bool.not_true,Bool.not_false,decide_true,decide_false,or_true,true_or,reduceCtorEq,false_and,and_false,exists_false,false_or,or_false])))
def mixI (c k:Int):Int:=((c*48271+k*7919+104729)%2147483647)*((c*48271+k*7919+104729)%2147483647)%2147483629
def spMixed:Sp:=fun vs H Q _=>∃ c k:Int,vs=[.int c,.int k]∧Q (.int (mixI c k)) H
section
variable {P:Program}{w:World}{K:PySem.W.Frag}{mg:Str→Option Value}{base:Heap}
theorem ok_mixed (d:DefAt K mg "_law_mixed" Zcf ["_law_cell","_law_k"]):FnAt P w K mg base "_law_mixed" ["_law_cell","_law_k"] 1 spMixed:=by
 refine FnAt.of d sc_l_mixed (fun vs H Q E h=>?_) (fun f cdv A outer s H vs Q E hr h=>?_)
 · obtain ⟨c,k,rfl,_⟩:=h;rfl
 obtain ⟨c,k,rfl,q⟩:=h;refine ⟨_,(Zae (Zaq (i:=2) sc_l_mixed.nd rfl (by walk_at "l") (Zal ZaA (Zal ZaJ (Zal ZaJ (Zal Zb9 (pv 0) Zad) (Zal Zb9 (pv 1) Zad)) Zad) Zad))
     (Zaf (Zam (Zal ZaA (Zal Zb9 (pv 2) (pv 2)) Zad)))),?_⟩
 walk_at "vc";have h1:=Int.emod_nonneg (c*48271+k*7919+104729) (b:=2147483647) (by decide);have h2:=Int.emod_lt_of_pos (c*48271+k*7919+104729) (b:=2147483647) (by decide);exact ⟨.inl ⟨by omega,by omega⟩,q⟩
end
def spCell (K:PySem.W.Frag):Sp:=fun vs H Q _=>∃ (a:Addr) (ns:List Int) (k:Nat),vs=[.ref a,.int k]∧SqL K H a (ns.map V.int)∧Q (.int (ns.getD k 0)) H
section
variable {P:Program}{w:World}{K:PySem.W.Frag}{mg:Str→Option Value}{base:Heap}
theorem ZfD (B:Blt mg)(d:DefAt K mg "_law_cell_at" ZbI ["_law_script","_law_k"]):FnAt P w K mg base "_law_cell_at" ["_law_script","_law_k"] 1 (spCell K):=by
 refine FnAt.of d Zei (fun vs H Q E h=>?_) (fun f cdv A outer s H vs Q E hr h=>?_)
 · obtain ⟨a,ns,k,rfl,_⟩:=h;rfl
 obtain ⟨a,ns,k,rfl,hS,q⟩:=h;refine ⟨_,(Zae (ZaD (Zar Zcl (pv 1) (Zaj (ZaN K) rfl B.len PySem.boot_len (Zaa (pv 0) Zac)) (nomark _)) (Zaf (Zam (Zap (ZaC K) (pv 0) (pv 1) (fun _ _=>rfl)))) Zas)
     (Zaf (Zam Zad))),?_⟩
 walk_at "vc";refine ⟨_,.inl hS,?_⟩;rw [List.length_map];by_cases hk:k<ns.length
 · rw [if_pos (by omega)];refine ⟨_,hS,.int (ns.getD k 0),ZaV ?_,q⟩;rw [List.getElem?_map,List.getElem?_eq_getElem hk,List.getD_eq_getElem?_getD,List.getElem?_eq_getElem hk];rfl
 · rw [if_neg (by omega)];have e:ns.getD k 0=0:=by rw [List.getD_eq_getElem?_getD,List.getElem?_eq_none (by omega)];rfl
   rw [e] at q;exact q
end
mutual
inductive T where
 | ev | no | inn (x:Str) (lo hi:Int) | opp (t:T) | al (ts:Ts) | on (ts:Ts)
inductive Ts where
 | nil | cons (t:T) (r:Ts)
end
mutual
def T.dep:T→Nat
 | .opp t=>t.dep+1
 | .al ts=>ts.dep+1
 | .on ts=>ts.dep+1
 | _=>0
def Ts.dep:Ts→Nat
 | .nil=>0
 | .cons t r=>Nat.max t.dep r.dep
end
def Ts.toL:Ts→List T
 | .nil=>[]
 | .cons t r=>t::r.toL
def Ts.ofL:List T→Ts
 | []=>.nil
 | t::r=>.cons t (Ts.ofL r)
theorem Ts.toL_ofL:∀ l:List T,(Ts.ofL l).toL=l
 | []=>rfl
 | t::r=>congrArg (t::·) (Ts.toL_ofL r)
mutual
def T.ok (N:List Str):T→Prop
 | .inn x _ _=>x∈N
 | .opp t=>t.ok N
 | .al ts=>ts.toL.length≤1000∧ts.ok N
 | .on ts=>ts.toL.length≤1000∧ts.ok N
 | _=>True
def Ts.ok (N:List Str):Ts→Prop
 | .nil=>True
 | .cons t r=>t.ok N∧r.ok N
end
theorem Zbl {N:List Str}:∀ (ts:Ts) {i:Nat} {t:T},ts.toL[i]?=some t→ts.ok N→t.ok N
 | .nil,i,t,h,_=>by cases h
 | .cons u r,0,t,h,o=>by cases h;exact o.1
 | .cons u r,i+1,t,h,o=>Zbl r h o.2
theorem Zc1:∀ (ts:Ts) {i:Nat} {t:T},ts.toL[i]?=some t→t.dep≤ts.dep
 | .nil,i,t,h=>by cases h
 | .cons u r,0,t,h=>by cases h;exact Nat.le_max_left _ _
 | .cons u r,i+1,t,h=>Nat.le_trans (Zc1 r h) (Nat.le_max_right _ _)
mutual
def T.dat:T→PyData
 | .ev=>.tuple [.str (Str.ofString "every")]
 | .no=>.tuple [.str (Str.ofString "nobody")]
 | .inn x lo hi=>.tuple [.str (Str.ofString "in"),.str x,.int lo,.int hi]
 | .opp t=>.tuple [.str (Str.ofString "not"),t.dat]
 | .al ts=>.tuple [.str (Str.ofString "all"),.list ts.dat]
 | .on ts=>.tuple [.str (Str.ofString "one"),.list ts.dat]
def Ts.dat:Ts→List PyData
 | .nil=>[]
 | .cons t r=>t.dat::r.dat
end
theorem Ts.dat_map:∀ ts:Ts,ts.dat=ts.toL.map T.dat
 | .nil=>rfl
 | .cons t r=>congrArg (t.dat::·) (Ts.dat_map r)
mutual
def T.eq:T→T→Bool
 | .ev,.ev=>true
 | .no,.no=>true
 | .inn x lo hi,.inn y l h=>x==y&&(lo==l&&hi==h)
 | .opp t,.opp u=>t.eq u
 | .al ts,.al us=>ts.eq us
 | .on ts,.on us=>ts.eq us
 | _,_=>false
def Ts.eq:Ts→Ts→Bool
 | .nil,.nil=>true
 | .cons t r,.cons u s=>t.eq u&&r.eq s
 | _,_=>false
end
mutual
theorem T.eqv_dat:∀ t u:T,PyData.eqv t.dat u.dat=t.eq u
 | .ev,u=>by cases u<;>(simp only [T.dat,T.eq,PyData.eqv,PyData.eqvAll];first | done | decide +kernel | (simp;done) | (rw [show (Str.ofString "every"==_)=false by decide +kernel];rfl))
 | .no,u=>by cases u<;>(simp only [T.dat,T.eq,PyData.eqv,PyData.eqvAll];first | done | decide +kernel | (simp;done) | (rw [show (Str.ofString "nobody"==_)=false by decide +kernel];rfl))
 | .inn x lo hi,u=>by cases u<;>(simp only [T.dat,T.eq,PyData.eqv,PyData.eqvAll];first | done | (rw [show (Str.ofString "in"==Str.ofString "in")=true by decide +kernel];simp;done) | (rw [show (Str.ofString "in"==_)=false by decide +kernel];rfl))
 | .opp t,u=>by
   cases u with
   | opp u=>simp only [T.dat,T.eq,PyData.eqv,PyData.eqvAll];rw [show (Str.ofString "not"==Str.ofString "not")=true by decide +kernel,T.eqv_dat t u];simp
   | _=>simp only [T.dat,T.eq,PyData.eqv,PyData.eqvAll];rw [show (Str.ofString "not"==_)=false by decide +kernel];rfl
 | .al ts,u=>by
   cases u with
   | al u=>simp only [T.dat,T.eq,PyData.eqv,PyData.eqvAll];rw [show (Str.ofString "all"==Str.ofString "all")=true by decide +kernel,Ts.eqv_dat ts u];simp
   | _=>simp only [T.dat,T.eq,PyData.eqv,PyData.eqvAll];rw [show (Str.ofString "all"==_)=false by decide +kernel];rfl
 | .on ts,u=>by
   cases u with
   | on u=>simp only [T.dat,T.eq,PyData.eqv,PyData.eqvAll];rw [show (Str.ofString "one"==Str.ofString "one")=true by decide +kernel,Ts.eqv_dat ts u];simp
   | _=>simp only [T.dat,T.eq,PyData.eqv,PyData.eqvAll];rw [show (Str.ofString "one"==_)=false by decide +kernel];rfl
theorem Ts.eqv_dat:∀ ts us:Ts,PyData.eqvAll ts.dat us.dat=ts.eq us
 | .nil,u=>by cases u<;>simp only [Ts.dat,Ts.eq,PyData.eqvAll]
 | .cons t r,u=>by
   cases u with
   | nil=>simp only [Ts.dat,Ts.eq,PyData.eqvAll]
   | cons u s=>simp only [Ts.dat,Ts.eq,PyData.eqvAll];rw [T.eqv_dat t u,Ts.eqv_dat r s]
end
mutual
theorem T.eq_iff:∀ t u:T,t.eq u=true↔t=u
 | .ev,u=>by cases u<;>simp [T.eq]
 | .no,u=>by cases u<;>simp [T.eq]
 | .inn x lo hi,u=>by cases u<;>simp [T.eq]
 | .opp t,u=>by
   cases u with
   | opp u=>simp only [T.eq,T.opp.injEq];exact T.eq_iff t u
   | _=>simp [T.eq]
 | .al ts,u=>by
   cases u with
   | al u=>simp only [T.eq,T.al.injEq];exact Ts.eq_iff ts u
   | _=>simp [T.eq]
 | .on ts,u=>by
   cases u with
   | on u=>simp only [T.eq,T.on.injEq];exact Ts.eq_iff ts u
   | _=>simp [T.eq]
theorem Ts.eq_iff:∀ ts us:Ts,ts.eq us=true↔ts=us
 | .nil,u=>by cases u<;>simp [Ts.eq]
 | .cons t r,u=>by
   cases u with
   | nil=>simp [Ts.eq]
   | cons u s=>simp only [Ts.eq,Ts.cons.injEq,Bool.and_eq_true];rw [T.eq_iff t u,Ts.eq_iff r s]
end
theorem T.eq_comm (t u:T):t.eq u=u.eq t:=by rw [Bool.eq_iff_iff,T.eq_iff,T.eq_iff];exact ⟨Eq.symm,Eq.symm⟩
def OkN (N:List Str):Prop:=∀ x∈N,PyData.strOk x=true
mutual
theorem T.lay {N:List Str}(hN:OkN N):∀ t:T,t.ok N→t.dat.canLay0=true
 | .ev,_=>by unfold T.dat;decide +kernel
 | .no,_=>by unfold T.dat;decide +kernel
 | .inn x lo hi,o=>by
   unfold T.dat
   show (PyData.strOk (Str.ofString "in")&&(PyData.strOk x&&true))=true;rw [hN x o];decide +kernel
 | .opp t,o=>by
   unfold T.dat
   show (PyData.strOk (Str.ofString "not")&&(t.dat.canLay0&&true))=true;rw [T.lay hN t o];decide +kernel
 | .al ts,o=>by
   unfold T.dat
   show (PyData.strOk (Str.ofString "all")&&(PyData.canLayAll0 ts.dat&&true))=true;rw [Ts.lay hN ts o.2];decide +kernel
 | .on ts,o=>by
   unfold T.dat
   show (PyData.strOk (Str.ofString "one")&&(PyData.canLayAll0 ts.dat&&true))=true;rw [Ts.lay hN ts o.2];decide +kernel
theorem Ts.lay {N:List Str}(hN:OkN N):∀ ts:Ts,ts.ok N→PyData.canLayAll0 ts.dat=true
 | .nil,_=>rfl
 | .cons t r,o=>by
   show (t.dat.canLay0&&PyData.canLayAll0 r.dat)=true;rw [T.lay hN t o.1,Ts.lay hN r o.2];rfl
end
mutual
theorem T.depth:∀ t:T,t.dat.depth≤2*t.dep+1
 | .ev=>by unfold T.dat;decide +kernel
 | .no=>by unfold T.dat;decide +kernel
 | .inn x lo hi=>by unfold T.dat;exact Nat.le_refl 1
 | .opp t=>by
   have:=T.depth t;unfold T.dat T.dep;show Nat.max 0 (Nat.max t.dat.depth 0)+1≤_;simp only [Nat.max_def];split<;>split<;>omega
 | .al ts=>by
   have:=Ts.depth ts;unfold T.dat T.dep;show Nat.max 0 (Nat.max (PyData.depthAll ts.dat+1) 0)+1≤_;simp only [Nat.max_def];split<;>split<;>omega
 | .on ts=>by
   have:=Ts.depth ts;unfold T.dat T.dep;show Nat.max 0 (Nat.max (PyData.depthAll ts.dat+1) 0)+1≤_;simp only [Nat.max_def];split<;>split<;>omega
theorem Ts.depth:∀ ts:Ts,PyData.depthAll ts.dat≤2*ts.dep+1
 | .nil=>Nat.zero_le _
 | .cons t r=>by
   have h1:=T.depth t;have h2:=Ts.depth r;show Nat.max t.dat.depth (PyData.depthAll r.dat)≤2*Nat.max t.dep r.dep+1;simp only [Nat.max_def];split<;>split<;>omega
end
def TrAt (K:PySem.W.Frag)(H:Hp)(t:T)(v:V):Prop:=RdD K H v t.dat
def TrsAt (K:PySem.W.Frag)(H:Hp)(ts:Ts)(us:List V):Prop:=RdDs K H us ts.dat
theorem ZaB {K:PySem.W.Frag}{H H':Hp}{a:Addr}{xs:List V}(e:Same H H')(h:SqT K H a xs):SqT K H' a xs:=by
 rcases h with (h | ⟨o,h⟩) | h
 · exact .inl (.inl (e _ _ h))
 · exact .inl (.inr ⟨o,e _ _ h⟩)
 · exact .inr h
mutual
theorem Za5 {K:PySem.W.Frag}{H H':Hp}(e:Same H H'):∀ {v:V} {d:PyData},RdD K H v d→RdD K H' v d
 | _,_,.non=>.non
 | _,_,.bl b=>.bl b
 | _,_,.int i=>.int i
 | _,_,.str x=>.str x
 | _,_,.lst h r=>.lst (e.seq h) (rdDs_same e r)
 | _,_,.tup h r=>.tup (ZaB e h) (rdDs_same e r)
theorem rdDs_same {K:PySem.W.Frag}{H H':Hp}(e:Same H H'):∀ {v:List V} {d:List PyData},RdDs K H v d→RdDs K H' v d
 | _,_,.nil=>.nil
 | _,_,.cons h r=>.cons (Za5 e h) (rdDs_same e r)
end
theorem TrAt.same {K:PySem.W.Frag}{H H':Hp}(e:Same H H'){t:T}{v:V}(h:TrAt K H t v):TrAt K H' t v:=Za5 e h
theorem Zag {t u:TS}{D:Ends}{σ:L2.St}{H:Hp}(h:∀ k:L2.St→Hp→Prop,(∀ σ' H',u D σ' H'→k σ' H')→t { D with nx:=k } σ H):tSeq t u D σ H:=h (u D) fun _ _ x=>x
theorem Za7 {K:PySem.W.Frag}{H:Hp}:∀ {us:List V} {ds:List PyData},RdDs K H us ds→us.length=ds.length
 | _,_,.nil=>rfl
 | _,_,.cons _ r=>congrArg (·+1) (Za7 r)
theorem Zgi {K:PySem.W.Frag}{H:Hp}:∀ {us:List V} {ds:List PyData},RdDs K H us ds→∀ (i:Nat) (u:V),us[i]?=some u→∃ d,ds[i]?=some d∧RdD K H u d
 | _,_,.nil,_,_,e=>by cases e
 | _,_,.cons h r,i,u,e=>by
   cases i with
   | zero=>cases e;exact ⟨_,rfl,h⟩
   | succ i=>exact Zgi r i u e
theorem Zc7 {K:PySem.W.Frag}{H:Hp}{us:List V}{ds:List PyData}{i:Nat}{u:V}(h:RdDs K H us ds)(e:us[i]?=some u):∃ d,ds[i]?=some d∧RdD K H u d:=Zgi h i u e
theorem TrsAt.len {K:PySem.W.Frag}{H:Hp}{ts:Ts}{us:List V}(h:TrsAt K H ts us):us.length=ts.toL.length:=by rw [Za7 h,Ts.dat_map,List.length_map]
theorem TrsAt.at {K:PySem.W.Frag}{H:Hp}{ts:Ts}{us:List V}{i:Nat}{u:V}(h:TrsAt K H ts us)(e:us[i]?=some u):∃ t,ts.toL[i]?=some t∧TrAt K H t u:=by
 obtain ⟨d,e2,r⟩:=Zc7 h e;rw [Ts.dat_map,List.getElem?_map] at e2;cases q:ts.toL[i]? with
 | none=>rw [q] at e2;cases e2
 | some t=>rw [q] at e2;cases e2;exact ⟨t,rfl,r⟩
inductive Kd where | ev | no | wi | op | al | on
def T.kd:T→Kd
 | .ev=>.ev
 | .no=>.no
 | .inn _ _ _=>.wi
 | .opp _=>.op
 | .al _=>.al
 | .on _=>.on
mutual
def QAt (C:Kd→Addr)(H:Hp):T→V→Prop
 | .ev,v=>∃ p dx,v=.ref p∧H p=some (.ins (C .ev) dx [])
 | .no,v=>∃ p dx,v=.ref p∧H p=some (.ins (C .no) dx [])
 | .inn x lo hi,v=>∃ p dx,v=.ref p∧H p=some (.ins (C .wi) dx [("name",.str x),("low",.int lo),("high",.int hi)])
 | .opp t,v=>∃ p dx u,v=.ref p∧H p=some (.ins (C .op) dx [("one",u)])∧QAt C H t u
 | .al ts,v=>∃ p dx l us,v=.ref p∧H p=some (.ins (C .al) dx [("parts",.ref l)])∧H l=some (.lst us)∧QsAt C H ts us
 | .on ts,v=>∃ p dx l us,v=.ref p∧H p=some (.ins (C .on) dx [("parts",.ref l)])∧H l=some (.lst us)∧QsAt C H ts us
def QsAt (C:Kd→Addr)(H:Hp):Ts→List V→Prop
 | .nil,us=>us=[]
 | .cons t r,us=>∃ u vs,us=u::vs∧QAt C H t u∧QsAt C H r vs
end
mutual
theorem QAt.same {C:Kd→Addr}{H H':Hp}(e:Same H H'):∀ (t:T) {v:V},QAt C H t v→QAt C H' t v
 | .ev,_,h=>by
   unfold QAt at h ⊢;obtain ⟨p,dx,q,r⟩:=h;exact ⟨p,dx,q,e _ _ r⟩
 | .no,_,h=>by
   unfold QAt at h ⊢;obtain ⟨p,dx,q,r⟩:=h;exact ⟨p,dx,q,e _ _ r⟩
 | .inn _ _ _,_,h=>by
   unfold QAt at h ⊢;obtain ⟨p,dx,q,r⟩:=h;exact ⟨p,dx,q,e _ _ r⟩
 | .opp t,_,h=>by
   unfold QAt at h ⊢;obtain ⟨p,dx,u,q,r,z⟩:=h;exact ⟨p,dx,u,q,e _ _ r,QAt.same e t z⟩
 | .al ts,_,h=>by
   unfold QAt at h ⊢;obtain ⟨p,dx,l,us,q,r,s,z⟩:=h;exact ⟨p,dx,l,us,q,e _ _ r,e _ _ s,QsAt.same e ts z⟩
 | .on ts,_,h=>by
   unfold QAt at h ⊢;obtain ⟨p,dx,l,us,q,r,s,z⟩:=h;exact ⟨p,dx,l,us,q,e _ _ r,e _ _ s,QsAt.same e ts z⟩
theorem QsAt.same {C:Kd→Addr}{H H':Hp}(e:Same H H'):∀ (ts:Ts) {us:List V},QsAt C H ts us→QsAt C H' ts us
 | .nil,_,h=>by
   unfold QsAt at h ⊢;exact h
 | .cons t r,_,h=>by
   unfold QsAt at h ⊢;obtain ⟨u,vs,q,a,b⟩:=h;exact ⟨u,vs,q,QAt.same e t a,QsAt.same e r b⟩
end
theorem QsAt.len {C:Kd→Addr}{H:Hp}:∀ (ts:Ts) {us:List V},QsAt C H ts us→us.length=ts.toL.length
 | .nil,us,h=>by
   unfold QsAt at h;rw [h];rfl
 | .cons t r,us,h=>by
   unfold QsAt at h;obtain ⟨u,vs,rfl,a,b⟩:=h;show vs.length+1=r.toL.length+1;rw [QsAt.len r b]
theorem QsAt.at {C:Kd→Addr}{H:Hp}:∀ (ts:Ts) {us:List V} {i:Nat} {u:V},QsAt C H ts us→us[i]?=some u→∃ t,ts.toL[i]?=some t∧QAt C H t u
 | .nil,us,i,u,h,e=>by
   unfold QsAt at h;rw [h] at e;cases e
 | .cons t r,us,i,u,h,e=>by
   unfold QsAt at h;obtain ⟨u',vs,rfl,a,b⟩:=h;cases i with
   | zero =>
     cases e;exact ⟨t,rfl,a⟩
   | succ i=>exact QsAt.at r b e
theorem QsAt.mk {C:Kd→Addr}{H:Hp}:∀ (ts:Ts) {us:List V},us.length=ts.toL.length→(∀ (i:Nat) u t,us[i]?=some u→ts.toL[i]?=some t→QAt C H t u)→QsAt C H ts us
 | .nil,us,h,_=>by
   unfold QsAt;exact List.length_eq_zero_iff.mp h
 | .cons t r,us,h,e=>by
   cases us with
   | nil=>cases h
   | cons u vs =>
     unfold QsAt;exact ⟨u,vs,rfl,e 0 u t rfl rfl,QsAt.mk r (Nat.succ.inj h) fun i=>e (i+1)⟩
def Off (x:Addr)(H H':Hp):Prop:=∀ b,b≠x→H' b=H b
def spIWi (C:Kd→Addr):Sp:=fun vs H Q _=>∃ (x dx:Addr) (nm:Str) (lo hi:Int),vs=[.ref x,.str nm,.int lo,.int hi]∧H x=some (.ins (C .wi) dx [])∧∀ H',Off x H H'→H' x=some (.ins (C .wi) dx [("name",.str nm),("low",.int lo),("high",.int hi)])→Q .non H'
def spIOp (C:Kd→Addr):Sp:=fun vs H Q _=>∃ (x dx:Addr) (u:V),vs=[.ref x,u]∧H x=some (.ins (C .op) dx [])∧∀ H',Off x H H'→H' x=some (.ins (C .op) dx [("one",u)])→Q .non H'
def spIPa (C:Kd→Addr)(k:Kd):Sp:=fun vs H Q _=>∃ (x dx p:Addr) (us:List V),vs=[.ref x,.ref p]∧H x=some (.ins (C k) dx [])∧H p=some (.lst us)∧∀ l H',H l=none→Off x (upd H l (.lst us)) H'→H' x=some (.ins (C k) dx [("parts",.ref l)])→Q .non H'
section
variable {P:Program}{w:World}{K:PySem.W.Frag}{mg:Str→Option Value}{base:Heap}{C:Kd→Addr}{N:List Str}{n:Nat}
theorem ok_iWi (cd:CD_Within K mg (C .wi)):MakeAt P w K mg base "Within" (C .wi) ["self","name","low","high"] 1 (spIWi C):=by
 refine MakeAt.of cd.at_ cd.init Zcu (fun vs H Q E h=>?_) (fun f cdv A outer s H vs Q E hr h=>?_)
 · obtain ⟨x,dx,nm,lo,hi,rfl,_⟩:=h;rfl
 obtain ⟨x,dx,nm,lo,hi,rfl,hx,q⟩:=h;refine ⟨_,(Zae (ZaY K (pv 0) (pv 1))
     (Zae (ZaY K (pv 0) (pv 2))
     (Zaf (ZaY K (pv 0) (pv 3))))),?_⟩
 walk_at "vc";refine ⟨_,_,_,hx,cd.c,cd.n_name,by decide,_,_,_,Zab,cd.c,cd.n_low,by show 1<1000;decide,_,_,_,Zab,cd.c,cd.n_high,by show 2<1000;decide,q _ (fun b nb=>?_) Zab⟩;rw [Zah nb,Zah nb,Zah nb]
theorem ok_iOp (cd:CD_Opposite K mg (C .op)):MakeAt P w K mg base "Opposite" (C .op) ["self","one"] 1 (spIOp C):=by
 refine MakeAt.of cd.at_ cd.init Zb7 (fun vs H Q E h=>?_) (fun f cdv A outer s H vs Q E hr h=>?_)
 · obtain ⟨x,dx,u,rfl,_⟩:=h;rfl
 obtain ⟨x,dx,u,rfl,hx,q⟩:=h;refine ⟨_,(Zaf (ZaY K (pv 0) (pv 1))),?_⟩;walk_at "vc";exact ⟨_,_,_,hx,cd.c,cd.n_one,by decide,q _ (fun b nb=>Zah nb) Zab⟩
theorem ok_iAl (B:Blt mg)(cd:CD_AllOf K mg (C .al)):MakeAt P w K mg base "AllOf" (C .al) ["self","parts"] 1 (spIPa C .al):=by
 refine MakeAt.of cd.at_ cd.init ZcS (fun vs H Q E h=>?_) (fun f cdv A outer s H vs Q E hr h=>?_)
 · obtain ⟨x,dx,p,us,rfl,_⟩:=h;rfl
 obtain ⟨x,dx,p,us,rfl,hx,hp,q⟩:=h;refine ⟨_,(Zaf (ZaY K (pv 0) (Za1 (ZbA K) rfl B.lst boot_list (Zaa (pv 1) Zac)))),?_⟩;walk_at "vc";refine ⟨_,.inl (SqL.of hp),fun l hl=>?_⟩;have hx2:upd H l (.lst us) x=some (.ins (C .al) dx []):=by rw [Zah (Zak hx hl)];exact hx
 exact ⟨_,_,_,hx2,cd.c,cd.n_parts,by decide,q l _ hl (fun b nb=>Zah nb) Zab⟩
theorem ok_iOn (B:Blt mg)(cd:CD_OneOf K mg (C .on)):MakeAt P w K mg base "OneOf" (C .on) ["self","parts"] 1 (spIPa C .on):=by
 refine MakeAt.of cd.at_ cd.init ZcB (fun vs H Q E h=>?_) (fun f cdv A outer s H vs Q E hr h=>?_)
 · obtain ⟨x,dx,p,us,rfl,_⟩:=h;rfl
 obtain ⟨x,dx,p,us,rfl,hx,hp,q⟩:=h;refine ⟨_,(Zaf (ZaY K (pv 0) (Za1 (ZbA K) rfl B.lst boot_list (Zaa (pv 1) Zac)))),?_⟩;walk_at "vc";refine ⟨_,.inl (SqL.of hp),fun l hl=>?_⟩;have hx2:upd H l (.lst us) x=some (.ins (C .on) dx []):=by rw [Zah (Zak hx hl)];exact hx
 exact ⟨_,_,_,hx2,cd.c,cd.n_parts,by decide,q l _ hl (fun b nb=>Zah nb) Zab⟩
def NewAt (K:PySem.W.Frag)(mg:Str→Option Value)(x:Str)(C:Addr):Prop:=mg x=some (.ref C)∧MkN K C
theorem same2 {H:Hp}{x dx:Addr}{o o':HO}(h1:H x=none)(h2:H dx=none)(h:dx≠x):Same H (upd (upd H dx o) x o'):=(Same.new h2).trans (Same.new (by rw [Zah (Ne.symm h)];exact h1))
theorem Ze6 {H H':Hp}{x dx:Addr}{o o':HO}(h1:H x=none)(h2:H dx=none)(off:Off x (upd (upd H dx o) x o') H'):Same H H':=fun b ob e=>by
 have nb:b≠x:=Zak e h1;rw [off b nb,Zah nb,Zah (Zak e h2)];exact e
theorem pa_off {H H':Hp}{x dx l:Addr}{us:List V}{o o':HO}(h1:H x=none)(h2:H dx=none)(hl:upd (upd H dx o) x o' l=none)(off:Off x (upd (upd (upd H dx o) x o') l (.lst us)) H'):Same H H'∧H' l=some (.lst us)∧H l=none:=by
 have nx:l≠x:=fun z=>by rw [z,Zab] at hl;cases hl
 have nd:l≠dx:=fun z=>by rw [Zah nx,z,Zab] at hl;cases hl
 rw [Zah nx,Zah nd] at hl;refine ⟨fun b ob e=>?_,?_,hl⟩
 · have nb:b≠x:=Zak e h1;rw [off b nb,Zah (Zak e hl),Zah nb,Zah (Zak e h2)];exact e
 · rw [off l nx,Zab]
end
def T.ben:T→Ts
 | .opp t=>.cons t .nil
 | .al ts=>ts
 | .on ts=>ts
 | _=>.nil
mutual
def T.men:T→List Str
 | .inn x _ _=>[x]
 | .opp t=>t.men
 | .al ts=>ts.men
 | .on ts=>ts.men
 | _=>[]
def Ts.men:Ts→List Str
 | .nil=>[]
 | .cons t r=>t.men++r.men
end
def menL (l:List T):List Str:=l.flatMap T.men
theorem Zfd:∀ ts:Ts,ts.men=menL ts.toL
 | .nil=>rfl
 | .cons t r=>by
   show t.men++r.men=t.men++menL r.toL;rw [Zfd r]
theorem Zga:∀ t:T,t.kd≠.wi→t.men=menL t.ben.toL
 | .ev,_=>rfl
 | .no,_=>rfl
 | .inn _ _ _,h=>absurd rfl h
 | .opp t,_=>(List.append_nil _).symm
 | .al ts,_=>Zfd ts
 | .on ts,_=>Zfd ts
theorem Zgn:∀ (t u:T) {i:Nat},t.ben.toL[i]?=some u→u.dep<t.dep
 | .ev,u,i,h=>by cases h
 | .no,u,i,h=>by cases h
 | .inn _ _ _,u,i,h=>by cases h
 | .opp t,u,0,h=>by cases h;exact Nat.lt_succ_self _
 | .opp t,u,i+1,h=>by cases h
 | .al ts,u,i,h=>Nat.lt_succ_of_le (Zc1 ts h)
 | .on ts,u,i,h=>Nat.lt_succ_of_le (Zc1 ts h)
theorem ZdX {l:List T}{i:Nat}{u:T}(h:l[i]?=some u):menL (l.take i)++u.men=menL (l.take (i+1)):=by rw [List.take_add_one,h];unfold menL;rw [List.flatMap_append];simp
theorem Zgm (l:List T)(i:Nat):(menL (l.take i)).length≤(menL l).length:=by
 have h:menL l=menL (l.take i)++menL (l.drop i):=by unfold menL;rw [← List.flatMap_append,List.take_append_drop]
 rw [h,List.length_append];omega
theorem Zgc {C:Kd→Addr}{N:List Str}:∀ t:T,t.ok N→t.ben.toL.length≤1000
 | .ev,_=>Nat.zero_le _
 | .no,_=>Nat.zero_le _
 | .inn _ _ _,_=>Nat.zero_le _
 | .opp t,_=>by show 1≤1000;decide
 | .al ts,o=>o.1
 | .on ts,o=>o.1
theorem Zft {N:List Str}:∀ t:T,t.ok N→t.ben.ok N
 | .ev,_=>trivial
 | .no,_=>trivial
 | .inn _ _ _,_=>trivial
 | .opp t,o=>⟨o,trivial⟩
 | .al ts,o=>o.2
 | .on ts,o=>o.2
theorem QAt.objM {C:Kd→Addr}{H:Hp}:∀ (t:T) {v:V},QAt C H t v→∃ p dx fs,v=.ref p∧H p=some (.ins (C t.kd) dx fs)∧fs.lookup ("beneath":Str)=none∧fs.lookup ("mentions":Str)=none
 | .ev,_,h=>by
   unfold QAt at h;obtain ⟨p,dx,q,r⟩:=h;exact ⟨p,dx,_,q,r,rfl,rfl⟩
 | .no,_,h=>by
   unfold QAt at h;obtain ⟨p,dx,q,r⟩:=h;exact ⟨p,dx,_,q,r,rfl,rfl⟩
 | .inn _ _ _,_,h=>by
   unfold QAt at h;obtain ⟨p,dx,q,r⟩:=h;exact ⟨p,dx,_,q,r,rfl,rfl⟩
 | .opp t,_,h=>by
   unfold QAt at h;obtain ⟨p,dx,u,q,r,_⟩:=h;exact ⟨p,dx,_,q,r,rfl,rfl⟩
 | .al ts,_,h=>by
   unfold QAt at h;obtain ⟨p,dx,l,us,q,r,_⟩:=h;exact ⟨p,dx,_,q,r,rfl,rfl⟩
 | .on ts,_,h=>by
   unfold QAt at h;obtain ⟨p,dx,l,us,q,r,_⟩:=h;exact ⟨p,dx,_,q,r,rfl,rfl⟩
def spBen (C:Kd→Addr)(k:Kd):Sp:=fun vs H Q _=>∃ (t:T) (v:V) (H0:Hp),vs=[v]∧t.kd=k∧Same H0 H∧QAt C H0 t v∧∀ p us H',Same H H'→H p=none→H' p=some (.lst us)→QsAt C H0 t.ben us→Q (.ref p) H'
section
variable {P:Program}{w:World}{K:PySem.W.Frag}{mg:Str→Option Value}{base:Heap}{C:Kd→Addr}{N:List Str}{n:Nat}
theorem Zeq {k:Kd}(hk:k=.ev∨k=.no∨k=.wi)(c:Cls K (C k))(d:MDefAt K (C k) "beneath" "Leaf.beneath" Za3 ["self"]):MethAt P w K mg base (C k) "beneath" ["self"] 1 (spBen C k):=by
 refine MethAt.of c d Zdc (fun vs H Q E h=>?_) (fun f cdv A outer s H vs Q E hr h=>?_)
 · obtain ⟨t,v,H0,rfl,_⟩:=h;rfl
 obtain ⟨t,v,H0,rfl,e,s0,hq,q⟩:=h;refine ⟨_,(Zaf (Zam (ZaG Zac))),?_⟩;walk_at "vc";refine ⟨by decide,fun p np=>q p [] _ (Same.new np) np Zab ?_⟩;have:t.ben=.nil:=by cases t<;>first | rfl | (rcases hk with rfl | rfl | rfl<;>cases e)
 rw [this];unfold QsAt;rfl
theorem ok_benO (cd:CD_Opposite K mg (C .op)):MethAt P w K mg base (C .op) "beneath" ["self"] 1 (spBen C .op):=by
 refine MethAt.of cd.c cd.m_beneath Zck (fun vs H Q E h=>?_) (fun f cdv A outer s H vs Q E hr h=>?_)
 · obtain ⟨t,v,H0,rfl,_⟩:=h;rfl
 obtain ⟨t,v,H0,rfl,e,s0,hq,q⟩:=h;refine ⟨_,(Zaf (Zam (ZaG (Zaa (Zax K (pv 0)) Zac)))),?_⟩;cases t with
 | opp t =>
   unfold QAt at hq;obtain ⟨p,dx,u,rfl,hp,hu⟩:=hq;walk_at "vc";refine ⟨_,_,_,s0 _ _ hp,cd.c,cd.n_one,_,rfl,by decide,fun l nl=>q l [u] _ (Same.new nl) nl Zab ?_⟩;unfold T.ben QsAt;exact ⟨u,[],rfl,hu,by unfold QsAt;rfl⟩
 | _=>cases e
theorem ok_benA (B:Blt mg)(cd:CD_AllOf K mg (C .al)):MethAt P w K mg base (C .al) "beneath" ["self"] 1 (spBen C .al):=by
 refine MethAt.of cd.c cd.m_beneath ZcT (fun vs H Q E h=>?_) (fun f cdv A outer s H vs Q E hr h=>?_)
 · obtain ⟨t,v,H0,rfl,_⟩:=h;rfl
 obtain ⟨t,v,H0,rfl,e,s0,hq,q⟩:=h;refine ⟨_,(Zaf (Zam (Za1 (ZbA K) rfl B.lst boot_list (Zaa (Zax K (pv 0)) Zac)))),?_⟩;cases t with
 | al ts =>
   unfold QAt at hq;obtain ⟨p,dx,l,us,rfl,hp,hl,hu⟩:=hq;walk_at "vc";exact ⟨_,_,_,s0 _ _ hp,cd.c,cd.n_parts,_,rfl,_,rfl,_,.inl (SqL.of (s0 _ _ hl)),fun l nl=>q l us _ (Same.new nl) nl Zab hu⟩
 | _=>cases e
theorem ok_benN (B:Blt mg)(cd:CD_OneOf K mg (C .on)):MethAt P w K mg base (C .on) "beneath" ["self"] 1 (spBen C .on):=by
 refine MethAt.of cd.c cd.m_beneath Zc6 (fun vs H Q E h=>?_) (fun f cdv A outer s H vs Q E hr h=>?_)
 · obtain ⟨t,v,H0,rfl,_⟩:=h;rfl
 obtain ⟨t,v,H0,rfl,e,s0,hq,q⟩:=h;refine ⟨_,(Zaf (Zam (Za1 (ZbA K) rfl B.lst boot_list (Zaa (Zax K (pv 0)) Zac)))),?_⟩;cases t with
 | on ts =>
   unfold QAt at hq;obtain ⟨p,dx,l,us,rfl,hp,hl,hu⟩:=hq;walk_at "vc";exact ⟨_,_,_,s0 _ _ hp,cd.c,cd.n_parts,_,rfl,_,rfl,_,.inl (SqL.of (s0 _ _ hl)),fun l nl=>q l us _ (Same.new nl) nl Zab hu⟩
 | _=>cases e
structure QC (P:Program)(w:World)(K:PySem.W.Frag)(mg:Str→Option Value)(base:Heap)(C:Kd→Addr):Prop where
 c:∀ k,Cls K (C k)
 ben:∀ k,MethAt P w K mg base (C k) "beneath" ["self"] 1 (spBen C k)
def spMen (C:Kd→Addr)(N:List Str)(n:Nat)(k:Kd):Sp:=fun vs H Q _=>∃ (t:T) (v:V),vs=[v]∧t.kd=k∧QAt C H t v∧t.ok N∧t.dep<n∧t.men.length≤1000∧∀ p H',Same H H'→H p=none→H' p=some (.lst (t.men.map V.str))→Q (.ref p) H'
theorem Zf5 (cd:CD_Within K mg (C .wi))(n:Nat):MethAt P w K mg base (C .wi) "mentions" ["self"] (n+1) (spMen C N n .wi):=by
 refine MethAt.of cd.c cd.m_mentions Zcs (fun vs H Q E h=>?_) (fun f cdv A outer s H vs Q E hr h=>?_)
 · obtain ⟨t,v,rfl,_⟩:=h;rfl
 obtain ⟨t,v,rfl,e,hq,ok,hd,hm,q⟩:=h;refine ⟨_,(Zaf (Zam (ZaG (Zaa (Zax K (pv 0)) Zac)))),?_⟩;cases t with
 | inn x lo hi =>
   unfold QAt at hq;obtain ⟨p,dx,rfl,hp⟩:=hq;walk_at "vc";exact ⟨_,_,_,hp,cd.c,cd.n_name,_,rfl,by decide,fun l nl=>q l _ (Same.new nl) nl Zab⟩
 | _=>cases e
structure MeI (t:T)(v:V)(pb p:Addr)(us:List V)(H:Hp)(i:Nat)(σ:L2.St)(H':Hp):Prop where
 ex:∃ v2,σ=[some v,some (.ref p),v2]
 hp:H' p=some (.lst ((menL (t.ben.toL.take i)).map V.str))
 sm:Same H H'
 hb:H' pb=some (.lst us)
theorem Zcz {k:Kd}(B:Blt mg)(hk:k≠.wi)(Z:QC P w K mg base C)(ih:∀ k,MethAt P w K mg base (C k) "mentions" ["self"] (n+1) (spMen C N n k))(d:MDefAt K (C k) "mentions" "Question.mentions" Zaz ["self"]):MethAt P w K mg base (C k) "mentions" ["self"] (n+2) (spMen C N (n+1) k):=by
 refine MethAt.of (Z.c k) d sc_Question_mentions (fun vs H Q E h=>?_) (fun f cdv A outer s H vs Q E hr h=>?_)
 · obtain ⟨t,v,rfl,_⟩:=h;rfl
 obtain ⟨t,v,rfl,rfl,hq,ok,hd,hm,q⟩:=h;refine ⟨_,(Zae (Zaq (i:=1) sc_Question_mentions.nd rfl (by walk_at "l") (ZaG Zac))
     (Zae (ZbE PassesOwn.never rfl (ZaP K (Zcg (P:=P) (w:=w) (K:=K) (mg:=mg) (base:=base) 1 (hr.mono (by omega)) (pv 0))) (Zav (i:=2) sc_Question_mentions.nd rfl (by walk_at "l")) (Zaf (Za8 (ZbM K PySem.F.plainAttrs_list PySem.F.slot_list_extend PySem.F.type_list_extend Zd2 (pv 1) (Zaa (Zcg (P:=P) (w:=w) (K:=K) (mg:=mg) (base:=base) (n+1) (hr.mono (by omega)) (pv 2)) Zac)))))
     (Zaf (Zam (pv 1))))),?_⟩
 obtain ⟨p0,dx0,fs,rfl,h0,lb,lm⟩:=QAt.objM t hq;refine Zag fun k hk2=>?_
 walk_at "vc";refine ⟨by decide,fun p np=>hk2 _ _ (Zag fun k hk3=>?_)⟩;have s1:=Same.new (o:=.lst []) np;walk_at "vc";refine ⟨_,_,_,s1 _ _ h0,lb,_,_,Z.ben t.kd,t,_,H,rfl,rfl,s1,hq,fun pb us H2 s2 nb hb hu=>⟨pb,rfl,⟨_,SqL.of hb⟩,?_⟩⟩;have ne:pb≠p:=fun z=>by rw [z,Zab] at nb;cases nb
 have ln:=QsAt.len _ hu;refine loopL (K:=K) (xs:=us) (MeI t (.ref p0) pb p us H) ⟨⟨_,rfl⟩,s2 _ _ Zab,s1.trans s2,hb⟩ (fun i σ H3 _ h=>SqL.of h.hb) ?_ ?_
 · rintro i x σ H3 hx ⟨⟨v2,rfl⟩,hp,sm,hb⟩;obtain ⟨u,eu,hq2⟩:=QsAt.at _ hu hx;obtain ⟨p1,dx1,fs1,rfl,h1,lb1,lm1⟩:=QAt.objM u hq2;have du:=Zgn t u eu;have mt:=ZdX eu;have ml:=Zgm t.ben.toL (i+1);rw [← mt,List.length_append,← Zga t hk] at ml;walk_at "vc";refine ⟨⟨_,SqL.of hp⟩,_,_,_,sm _ _ h1,lm1,_,_,ih u.kd,u,_,rfl,rfl,QAt.same sm u hq2,Zbl _ eu (Zft t ok),by omega,by omega,fun p3 H4 s4 n3 h3=>?_⟩;walk_at "vc";refine ⟨_,s4 _ _ hp,_,h3,by rw [List.length_map,List.length_map,sizeLine_eq];omega,⟨_,rfl⟩,?_,(sm.trans s4).put np,?_⟩
   · rw [Zab,← List.map_append,mt]
   · rw [Zah ne];exact s4 _ _ hb
 · rintro σ H3 ⟨⟨v2,rfl⟩,hp,sm,hb⟩;refine hk3 _ _ ?_;walk_at "vc";refine q p H3 sm np ?_;rw [hp,ln,List.take_length,Zga t hk]
theorem ZeO (B:Blt mg)(Z:QC P w K mg base C)(c1:CD_Every K mg (C .ev))(c2:CD_Nobody K mg (C .no))(c3:CD_Within K mg (C .wi))(c4:CD_Opposite K mg (C .op))(c5:CD_AllOf K mg (C .al))(c6:CD_OneOf K mg (C .on)):∀ n k,MethAt P w K mg base (C k) "mentions" ["self"] (n+1) (spMen C N n k):=by
 have z:∀ {k:Kd},k≠.wi→MDefAt K (C k) "mentions" "Question.mentions" Zaz ["self"]→MethAt P w K mg base (C k) "mentions" ["self"] (0+1) (spMen C N 0 k):=fun {k} hk d=>MethAt.of (Z.c k) d sc_Question_mentions (fun vs H Q E h=>by obtain ⟨t,v,rfl,_⟩:=h;rfl) (fun f cdv A outer s H vs Q E hr h=>by obtain ⟨t,v,rfl,_,_,_,hd,_⟩:=h;omega)
 intro n;induction n with
 | zero =>
   intro k;cases k with
   | ev=>exact z (fun h=>nomatch h) c1.m_mentions
   | no=>exact z (fun h=>nomatch h) c2.m_mentions
   | wi=>exact Zf5 c3 0
   | op=>exact z (fun h=>nomatch h) c4.m_mentions
   | al=>exact z (fun h=>nomatch h) c5.m_mentions
   | on=>exact z (fun h=>nomatch h) c6.m_mentions
 | succ n ih =>
   intro k;cases k with
   | ev=>exact Zcz B (fun h=>nomatch h) Z ih c1.m_mentions
   | no=>exact Zcz B (fun h=>nomatch h) Z ih c2.m_mentions
   | wi=>exact Zf5 c3 _
   | op=>exact Zcz B (fun h=>nomatch h) Z ih c4.m_mentions
   | al=>exact Zcz B (fun h=>nomatch h) Z ih c5.m_mentions
   | on=>exact Zcz B (fun h=>nomatch h) Z ih c6.m_mentions
end
def Kd.isE:Kd→Bool
 | .ev=>true
 | _=>false
def Kd.isN:Kd→Bool
 | .no=>true
 | _=>false
def Kd.isW:Kd→Bool
 | .wi=>true
 | _=>false
def Kd.isP:Kd→Bool
 | .op=>true
 | _=>false
def Kd.isA:Kd→Bool
 | .al=>true
 | _=>false
def Kd.isO:Kd→Bool
 | .on=>true
 | _=>false
structure SQ (K:PySem.W.Frag)(mg:Str→Option Value)(C:Kd→Addr):Prop where
 c:∀ k,Cls K (C k)
 t:∀ k,TyIns K (C k)
 gE:mg "Every"=some (.ref (C .ev))
 gN:mg "Nobody"=some (.ref (C .no))
 gW:mg "Within"=some (.ref (C .wi))
 gP:mg "Opposite"=some (.ref (C .op))
 gA:mg "AllOf"=some (.ref (C .al))
 gO:mg "OneOf"=some (.ref (C .on))
 iE:∀ k,IsiTo K mg (C k) "Every" k.isE
 iN:∀ k,IsiTo K mg (C k) "Nobody" k.isN
 iW:∀ k,IsiTo K mg (C k) "Within" k.isW
 iP:∀ k,IsiTo K mg (C k) "Opposite" k.isP
 iA:∀ k,IsiTo K mg (C k) "AllOf" k.isA
 iO:∀ k,IsiTo K mg (C k) "OneOf" k.isO
 w1:NoAttr K (C .wi) "name"
 w2:NoAttr K (C .wi) "low"
 w3:NoAttr K (C .wi) "high"
 o1:NoAttr K (C .op) "one"
 a1:NoAttr K (C .al) "parts"
 n1:NoAttr K (C .on) "parts"
def sameK (k l:Kd):Bool:=k.isE&&l.isE||(k.isN&&l.isN||(k.isP&&l.isP||(k.isA&&l.isA||k.isO&&l.isO)))
theorem eq_kd:∀ t u:T,t.kd≠.wi→t.eq u=(sameK t.kd u.kd&&t.ben.eq u.ben)
 | .inn _ _ _,_,h=>absurd rfl h
 | .ev,u,_=>by cases u<;>rfl
 | .no,u,_=>by cases u<;>rfl
 | .opp t,u,_=>by
   cases u with
   | opp u=>exact (Bool.and_true _).symm
   | _=>rfl
 | .al t,u,_=>by cases u<;>rfl
 | .on t,u,_=>by cases u<;>rfl
def spAlk (C:Kd→Addr)(N:List Str)(n:Nat):Sp:=fun vs H Q _=>∃ (t u:T) (x y:V),vs=[x,y]∧QAt C H t x∧QAt C H u y∧t.ok N∧u.ok N∧t.dep<n∧∀ H',Same H H'→Q (.bl (t.eq u)) H'
def spAlks (C:Kd→Addr)(N:List Str)(n:Nat):Sp:=fun vs H Q _=>∃ (ts us:Ts) (p q:Addr) (xs ys:List V),vs=[.ref p,.ref q]∧H p=some (.lst xs)∧H q=some (.lst ys)∧QsAt C H ts xs∧QsAt C H us ys∧ts.toL.length≤1000∧us.toL.length≤1000∧ts.ok N∧us.ok N∧(∀ (i:Nat) t,ts.toL[i]?=some t→t.dep<n)∧∀ H',Same H H'→Q (.bl (ts.eq us)) H'
theorem Ts.eq_all:∀ ts us:Ts,ts.toL.length=us.toL.length→((List.range ts.toL.length).map fun i=>(ts.toL[i]?.getD .ev).eq (us.toL[i]?.getD .ev)).all id=ts.eq us
 | .nil,.nil,_=>rfl
 | .nil,.cons u s,h=>by cases h
 | .cons t r,.nil,h=>by cases h
 | .cons t r,.cons u s,h=>by
   have ih:=Ts.eq_all r s (Nat.succ.inj h);show ((List.range (r.toL.length+1)).map fun i=>((t::r.toL)[i]?.getD .ev).eq ((u::s.toL)[i]?.getD .ev)).all id=(t.eq u&&r.eq s)
   rw [List.range_succ_eq_map,List.map_cons,List.map_map,List.all_cons,← ih];rfl
theorem Ts.eq_len:∀ ts us:Ts,ts.toL.length≠us.toL.length→ts.eq us=false
 | .nil,.nil,h=>absurd rfl h
 | .nil,.cons u s,h=>rfl
 | .cons t r,.nil,h=>rfl
 | .cons t r,.cons u s,h=>by
   show (t.eq u&&r.eq s)=false;rw [Ts.eq_len r s fun e=>h (congrArg (·+1) e),Bool.and_false]
def Vl (te:TE)(σ:L2.St)(H:Hp)(v:V):Prop:=∀ H1,Same H H1→∀ Q:VK,(∀ H2,Same H1 H2→Q v H2)→te σ H1 Q
section
variable {ta tb:TE}{σ:L2.St}{H:Hp}{a b:Bool}
theorem Vl.and (ha:Vl ta σ H (.bl a))(hb:a=true→Vl tb σ H (.bl b)):Vl (tAndV ta tb) σ H (.bl (a&&b)):=fun H1 s1 Q q=>by
 rw [Zdp];refine ha H1 s1 _ fun H2 s2=>⟨_,rfl,?_⟩
 cases a with
 | true=>exact hb rfl H2 (s1.trans s2) Q fun H3 s3=>q H3 (s2.trans s3)
 | false=>exact q H2 s2
theorem Vl.or (ha:Vl ta σ H (.bl a))(hb:a=false→Vl tb σ H (.bl b)):Vl (tOrV ta tb) σ H (.bl (a||b)):=fun H1 s1 Q q=>by
 rw [Zef];refine ha H1 s1 _ fun H2 s2=>⟨_,rfl,?_⟩
 cases a with
 | true=>exact q H2 s2
 | false=>exact hb rfl H2 (s1.trans s2) Q fun H3 s3=>q H3 (s2.trans s3)
theorem Vl.not (ha:Vl ta σ H (.bl a)):Vl (tNotV ta) σ H (.bl !a):=fun H1 s1 Q q=>by
 rw [ZdG];exact ha H1 s1 _ fun H2 s2=>⟨_,rfl,q H2 s2⟩
theorem Vl.var {i:Nat}{v:V}(e:σ[i]?=some (some v):=by rfl):Vl (tVar i) σ H v:=fun H1 s1 Q q=>by
 rw [Zdk];exact ⟨_,e,q H1 (Same.refl _)⟩
theorem Vl.isi {K:PySem.W.Frag}{mg:Str→Option Value}{p C S dx:Addr}{fs:List (Str × V)}{x:Str}{i:Nat}(ha:H p=some (.ins C dx fs))(c:Cls K C)(t:TyIns K C)(h:IsiTo K mg C x b)(hS:mg x=some (.ref S))(e:σ[i]?=some (some (.ref p)):=by rfl):Vl (tCB (rIsi K) (tCons (tVar i) (tCons (tC (.ref S)) tNil))) σ H (.bl b):=fun H1 s1 Q q=>by
 simp only [ZfL,Zdq,Zdk,tC_ap,Zek];exact ⟨_,e,Zca (s1 _ _ ha) c t h hS (q H1 (Same.refl _))⟩
end
section
variable {P:Program}{w:World}{K:PySem.W.Frag}{mg:Str→Option Value}{base:Heap}{C:Kd→Addr}{N:List Str}{n:Nat}
theorem Zet (B:Blt mg) (h_alike:FnAt P w K mg base "alike" ["one","other"] (2*n+1) (spAlk C N n)) (d:DefAt K mg "all_alike" Zbt ["some","others"]):FnAt P w K mg base "all_alike" ["some","others"] (2*n+2) (spAlks C N n):=by
 refine FnAt.of d Zew (fun vs H Q E h=>?_) (fun f cdv A outer s H vs Q E hr h=>?_)
 · obtain ⟨ts,us,p,q,xs,ys,rfl,_⟩:=h;rfl
 obtain ⟨ts,us,p1,p2,xs,ys,rfl,hp,hq,h1,h2,l1,l2,o1,o2,hd,q⟩:=h;refine ⟨_,(Zaf (Zam (ZaR (ZaS ZaT (Zaj (ZaN K) rfl B.len PySem.boot_len (Zaa (pv 0) Zac)) (Zaj (ZaN K) rfl B.len PySem.boot_len (Zaa (pv 1) Zac)) (nomark _)) (ZaI (Zaj (ZcU K) rfl B.all Zc0 (Zaa (ZaZ ["one","other"] [] rfl (pi_zipK K rfl B.zip (Zaa (pv 0) (Zaa (pv 1) Zac))) (fun _ _ _ _ _=>ZeD (n:=2) K rfl (ZbS (Zav (i:=0) (by show List.Nodup (["one","other"]:List Str);decide +kernel) rfl (Or.inl rfl)) (ZbS (Zav (i:=1) (by show List.Nodup (["one","other"]:List Str);decide +kernel) rfl (Or.inl rfl)) ZeF))) (fun _ _ _ _ _=>ZaW) (fun _ _ _ _ _=>(Zai h_alike (hr.mono (by omega)) rfl (Zaa (pv 0) (Zaa (pv 1) Zac)))) trivial ZgR) Zac)))))),?_⟩;walk_at "vc";have n1:=QsAt.len ts h1;have n2:=QsAt.len us h2;refine ⟨_,.inl (SqL.of hp),_,.inl (SqL.of hq),?_⟩;by_cases e:xs.length=ys.length
 · rw [if_pos (by rw [e])]
   refine ⟨_,_,⟨rfl,rfl⟩,⟨_,SqL.of hp⟩,⟨_,SqL.of hq⟩,compZF (fun i=>.bl ((ts.toL[i]?.getD .ev).eq (us.toL[i]?.getD .ev))) (SqL.of hp) (SqL.of hq) e (by omega) (fun i x y H2 R ex ey s2 h=>?_) (fun D H2 nD s2 hD=>?_)⟩
   · obtain ⟨t,et,qt⟩:=QsAt.at ts h1 ex;obtain ⟨u,eu,qu⟩:=QsAt.at us h2 ey;have dt:=hd i t et;walk_at "vc";refine ⟨t,u,x,y,rfl,QAt.same s2 t qt,QAt.same s2 u qu,Zbl ts et o1,Zbl us eu o2,dt,fun H3 s3=>?_⟩;have h:=h H3 s3;rw [et,eu] at h;exact h
   · refine ⟨D,rfl,(List.range xs.length).map fun i=>(ts.toL[i]?.getD .ev).eq (us.toL[i]?.getD .ev),?_,?_⟩
     · rw [List.map_map];exact SqL.of hD
     · rw [n1,Ts.eq_all ts us (by omega)];exact q H2 s2
 · rw [if_neg (by omega)];have:=q H (Same.refl _);rw [Ts.eq_len ts us (by omega)] at this;exact this
theorem ok_alike (B:Blt mg) (hN:OkN N) (S:SQ K mg C) (Z:QC P w K mg base C) (h_all_alike:FnAt P w K mg base "all_alike" ["some","others"] (2*n+2) (spAlks C N n)) (d:DefAt K mg "alike" ZcK ["one","other"]):FnAt P w K mg base "alike" ["one","other"] (2*(n+1)+1) (spAlk C N (n+1)):=by
 refine FnAt.of d sc_alike (fun vs H Q E h=>?_) (fun f cdv A outer s H vs Q E hr h=>?_)
 · obtain ⟨t,u,x,y,rfl,_⟩:=h;rfl
 obtain ⟨t,u,x,y,rfl,h1,h2,o1,o2,hd,q⟩:=h;have g_Every:=S.gE;have g_Nobody:=S.gN;have g_Within:=S.gW;have g_Opposite:=S.gP;have g_AllOf:=S.gA;have g_OneOf:=S.gO;refine ⟨_,(Zae (ZaD (Zbk (Zaj (Zat K) rfl B.isi Zaw (Zaa (pv 0) (Zaa (Zay (v:=.ref _) rfl g_Within rfl) Zac)))) (Zaf (Zam (ZaR (Zaj (Zat K) rfl B.isi Zaw (Zaa (pv 1) (Zaa (Zay (v:=.ref _) rfl g_Within rfl) Zac))) (ZaI (ZaS (Zer K (hu64 hr)) (ZaL (Zaa (Zax K (pv 0)) (Zaa (Zax K (pv 0)) (Zaa (Zax K (pv 0)) Zac)))) (ZaL (Zaa (Zax K (pv 1)) (Zaa (Zax K (pv 1)) (Zaa (Zax K (pv 1)) Zac)))) (nomark _)))))) Zas)
     (Zae (Zaq (i:=2) sc_alike.nd rfl (by walk_at "l") (Zco (ZaR (Zaj (Zat K) rfl B.isi Zaw (Zaa (pv 0) (Zaa (Zay (v:=.ref _) rfl g_Every rfl) Zac))) (ZaI (Zaj (Zat K) rfl B.isi Zaw (Zaa (pv 1) (Zaa (Zay (v:=.ref _) rfl g_Every rfl) Zac))))) (Zco (ZaR (Zaj (Zat K) rfl B.isi Zaw (Zaa (pv 0) (Zaa (Zay (v:=.ref _) rfl g_Nobody rfl) Zac))) (ZaI (Zaj (Zat K) rfl B.isi Zaw (Zaa (pv 1) (Zaa (Zay (v:=.ref _) rfl g_Nobody rfl) Zac))))) (Zco (ZaR (Zaj (Zat K) rfl B.isi Zaw (Zaa (pv 0) (Zaa (Zay (v:=.ref _) rfl g_Opposite rfl) Zac))) (ZaI (Zaj (Zat K) rfl B.isi Zaw (Zaa (pv 1) (Zaa (Zay (v:=.ref _) rfl g_Opposite rfl) Zac))))) (Zco (ZaR (Zaj (Zat K) rfl B.isi Zaw (Zaa (pv 0) (Zaa (Zay (v:=.ref _) rfl g_AllOf rfl) Zac))) (ZaI (Zaj (Zat K) rfl B.isi Zaw (Zaa (pv 1) (Zaa (Zay (v:=.ref _) rfl g_AllOf rfl) Zac))))) (ZaI (ZaR (Zaj (Zat K) rfl B.isi Zaw (Zaa (pv 0) (Zaa (Zay (v:=.ref _) rfl g_OneOf rfl) Zac))) (ZaI (Zaj (Zat K) rfl B.isi Zaw (Zaa (pv 1) (Zaa (Zay (v:=.ref _) rfl g_OneOf rfl) Zac)))))))))))
     (Zaf (Zam (ZaR (pv 2) (ZaI (Zai h_all_alike (hr.mono (by omega)) rfl (Zaa (Zcg (P:=P) (w:=w) (K:=K) (mg:=mg) (base:=base) 1 (hr.mono (by omega)) (pv 0)) (Zaa (Zcg (P:=P) (w:=w) (K:=K) (mg:=mg) (base:=base) 1 (hr.mono (by omega)) (pv 1)) Zac))))))))),?_⟩
 refine Zag fun k hk=>?_
 obtain ⟨p1,dx1,fs1,rfl,e1,lb1,_⟩:=QAt.objM t h1;obtain ⟨p2,dx2,fs2,rfl,e2,lb2,_⟩:=QAt.objM u h2;walk_at "vc";refine Zca e1 (S.c _) (S.t _) (S.iW _) S.gW ⟨_,rfl,?_⟩;by_cases hw:t.kd=.wi
 · rw [if_pos (by rw [hw];rfl)]
   refine Zca e2 (S.c _) (S.t _) (S.iW _) S.gW ⟨_,rfl,?_⟩;cases t with
   | inn x lo hi =>
     cases u with
     | inn y l h =>
       unfold QAt at h1 h2;obtain ⟨_,_,z,h1⟩:=h1;cases z;obtain ⟨_,_,z,h2⟩:=h2;cases z;rw [if_pos (show (T.inn y l h).kd.isW=true from rfl)];refine ⟨_,_,_,h1,S.c _,S.w1,_,rfl,_,_,_,h1,S.c _,S.w2,_,rfl,_,_,_,h1,S.c _,S.w3,_,rfl,by decide,fun q1 n1=>?_⟩;have s1:=Same.new (o:=.tup [V.str x,V.int lo,V.int hi]) n1;have h2':=s1 _ _ h2;refine ⟨_,_,_,h2',S.c _,S.w1,_,rfl,_,_,_,h2',S.c _,S.w2,_,rfl,_,_,_,h2',S.c _,S.w3,_,rfl,by decide,fun q2 n2=>?_⟩;have s2:=Same.new (o:=.tup [V.str y,V.int l,V.int h]) n2;refine ⟨.tuple [.str x,.int lo,.int hi],.tup (.inl (.inl (s2 _ _ Zab))) (.cons (.str _) (.cons (.int _) (.cons (.int _) .nil))),.tuple [.str y,.int l,.int h],.tup (.inl (.inl Zab)) (.cons (.str _) (.cons (.int _) (.cons (.int _) .nil))),?_,?_,rfl,?_⟩
       · show ((PyData.strOk x&&true)&&true)=true;rw [hN x o1];rfl
       · show ((PyData.strOk y&&true)&&true)=true;rw [hN y o2];rfl
       · have:=q _ (s1.trans s2);rw [show PySem.Spec.same (.tuple [.str x,.int lo,.int hi]) (.tuple [.str y,.int l,.int h])=(T.inn x lo hi).eq (T.inn y l h) by simp [PySem.Spec.same,PySem.Spec.sameAll,T.eq]];exact this
     | _ =>
       change (if false=true then _ else _)
       rw [if_neg Bool.false_ne_true];exact q H (Same.refl _)
   | _=>cases hw
 · rw [if_neg (by cases t<;>first | exact absurd rfl hw | exact Bool.false_ne_true)];refine hk _ _ (Zag fun k hk2=>?_);rw [Zez];refine Vl.or (Vl.and (Vl.isi e1 (S.c _) (S.t _) (S.iE _) S.gE) fun _=>Vl.isi e2 (S.c _) (S.t _) (S.iE _) S.gE) (fun _=>Vl.or (Vl.and (Vl.isi e1 (S.c _) (S.t _) (S.iN _) S.gN) fun _=>Vl.isi e2 (S.c _) (S.t _) (S.iN _) S.gN) (fun _=>Vl.or (Vl.and (Vl.isi e1 (S.c _) (S.t _) (S.iP _) S.gP) fun _=>Vl.isi e2 (S.c _) (S.t _) (S.iP _) S.gP) (fun _=>Vl.or (Vl.and (Vl.isi e1 (S.c _) (S.t _) (S.iA _) S.gA) fun _=>Vl.isi e2 (S.c _) (S.t _) (S.iA _) S.gA) (fun _=>Vl.and (Vl.isi e1 (S.c _) (S.t _) (S.iO _) S.gO) fun _=>Vl.isi e2 (S.c _) (S.t _) (S.iO _) S.gO)))) H (Same.refl _) _ fun H2 s2=>?_
   rw [ZaQ];refine hk2 _ _ ?_;rw [Za9];refine Vl.and (H:=H) (b:=t.ben.eq u.ben) Vl.var (fun hs=>?_) H2 s2 _ fun H3 s3=>?_
   · intro H3 s3 R r;walk_at "vc";refine ⟨_,_,_,s3 _ _ e1,lb1,_,_,Z.ben t.kd,t,_,H,rfl,rfl,s3,h1,fun p4 us4 H4 s4 n4 h4 q4=>?_⟩;refine ⟨_,_,_,(s3.trans s4) _ _ e2,lb2,_,_,Z.ben u.kd,u,_,H,rfl,rfl,s3.trans s4,h2,fun p5 us5 H5 s5 n5 h5 q5=>?_⟩;have s6:=(s3.trans s4).trans s5;refine ⟨t.ben,u.ben,p4,p5,us4,us5,rfl,s5 _ _ h4,h5,QsAt.same s6 _ q4,QsAt.same s6 _ q5,Zgc (C:=C) t o1,Zgc (C:=C) u o2,Zft t o1,Zft u o2,fun i t' e=>?_,fun H6 s7=>r H6 ((s4.trans s5).trans s7)⟩;have:=Zgn t t' e;omega
   · have:=q H3 (s2.trans s3);rw [eq_kd t u hw] at this;exact this
theorem Zgz (B:Blt mg)(hN:OkN N)(S:SQ K mg C)(Z:QC P w K mg base C)(d:DefAt K mg "alike" ZcK ["one","other"])(d2:DefAt K mg "all_alike" Zbt ["some","others"]):∀ n,FnAt P w K mg base "alike" ["one","other"] (2*n+1) (spAlk C N n):=by
 intro n;induction n with
 | zero=>exact FnAt.of d sc_alike (fun vs H Q E h=>by obtain ⟨t,u,x,y,rfl,_⟩:=h;rfl) (fun f cdv A outer s H vs Q E hr h=>by obtain ⟨t,u,x,y,rfl,_,_,_,_,h,_⟩:=h;omega)
 | succ n ih=>exact ok_alike B hN S Z (Zet B ih d2) d
end
def oneName:T→T→Bool
 | .inn x _ _,.inn y _ _=>x==y
 | _,_=>false
def sideBy:T→T→Bool
 | .inn x l h,.inn y a b=>x==y&&(decide (l≤b+1)&&decide (a≤h+1))
 | _,_=>false
def oppB:T→T→Bool
 | .opp s,u=>s.eq u
 | _,_=>false
def T.parts:T→Ts
 | .al ts=>ts
 | .on ts=>ts
 | _=>.nil
def spAmong (C:Kd→Addr)(N:List Str)(n:Nat):Sp:=fun vs H Q _=>∃ (t:T) (us:Ts) (x:V) (p:Addr) (xs:List V),vs=[x,.ref p]∧QAt C H t x∧H p=some (.lst xs)∧QsAt C H us xs∧us.toL.length≤1000∧us.ok N∧t.ok N∧t.dep<n∧∀ H',Same H H'→Q (.bl (us.toL.any (t.eq ·))) H'
def spParts (C:Kd→Addr):Sp:=fun vs H Q _=>∃ (t:T) (x:V) (H0:Hp),vs=[x]∧Same H0 H∧QAt C H0 t x∧∀ p us H',Same H H'→H p=none→H' p=some (.lst us)→QsAt C H0 t.parts us→Q (.ref p) H'
def spTwo (C:Kd→Addr)(N:List Str)(n:Nat)(f:T→T→Bool):Sp:=fun vs H Q _=>∃ (t u:T) (x y:V),vs=[x,y]∧QAt C H t x∧QAt C H u y∧t.ok N∧u.ok N∧t.dep<n∧u.dep<n∧∀ H',Same H H'→Q (.bl (f t u)) H'
theorem none_of {H H':Hp}{p:Addr}(s:Same H H')(h:H' p=none):H p=none:=by
 cases e:H p with
 | none=>rfl
 | some o=>rw [s _ _ e] at h;cases h
theorem compQ {K:PySem.W.Frag}{C:Kd→Addr}{H0 H1:Hp}{p:Addr}{xs:List V}{m:Nat}{caps:List Nat}{te:TE}{σ:L2.St}{Q:VK}(us:Ts)(f:T→Bool)(hp:SqL K H1 p xs)(hu:QsAt C H0 us xs)(lu:us.toL.length≤1000)
   (he:∀ (i:Nat) u x H2 (R:VK),us.toL[i]?=some u→QAt C H0 u x→Same H1 H2→(∀ H3,Same H2 H3→R (.bl (f u)) H3)→te ((capSt m caps σ).set 0 (some x)) H2 R)
   (hq:∀ D H2,H1 D=none→Same H1 H2→SqL K H2 D ((us.toL.map f).map V.bl)→Q (.ref D) H2):CompJ (Itl K p) m caps (gName 0) tNoTest te σ H1 Q:=by
 have ln:=QsAt.len us hu;refine compA (xs:=xs) (fun i y _=>∀ u,us.toL[i]?=some u→y=.bl (f u)) (fun _ _ _ _ _ h=>h) hp (by omega) (fun i x H2 R hx s2 q2=>?_) (fun D ys H2 hD s2 h2 l2 h3=>?_)
 · obtain ⟨u,eu,qu⟩:=QsAt.at us hu hx;refine he i u x H2 R eu qu s2 fun H3 s3=>q2 _ H3 s3 fun u' eu'=>?_
   cases eu.symm.trans eu';rfl
 · have e:ys=(us.toL.map f).map V.bl:=by
     refine List.ext_getElem (by rw [List.length_map,List.length_map,l2,ln]) fun i a1 a2=>?_
     rw [List.length_map,List.length_map] at a2;rw [h3 i _ (List.getElem?_eq_getElem a1) _ (List.getElem?_eq_getElem a2),List.getElem_map,List.getElem_map]
   exact hq D H2 hD s2 (SqL.of (e ▸ h2))
theorem ZcY {l:List T}{f:T→Bool}:(l.map f).any id=l.any f:=by rw [List.any_map];rfl
theorem all_id {l:List T}{f:T→Bool}:(l.map f).all id=l.all f:=by rw [List.all_map];rfl
section
variable {P:Program}{w:World}{K:PySem.W.Frag}{mg:Str→Option Value}{base:Heap}{C:Kd→Addr}{N:List Str}{n:Nat}
theorem ok_among (B:Blt mg)(h_alike:FnAt P w K mg base "alike" ["one","other"] (2*n+1) (spAlk C N n))(d:DefAt K mg "stands_among" Zbi ["question","others"]):FnAt P w K mg base "stands_among" ["question","others"] (2*n+2) (spAmong C N n):=by
 refine FnAt.of d Zdd (fun vs H Q E h=>?_) (fun f cdv A outer s H vs Q E hr h=>?_)
 · obtain ⟨t,us,x,p,xs,rfl,_⟩:=h;rfl
 obtain ⟨t,us,x,p,xs,rfl,ht,hp,hu,lu,o2,o1,hd,q⟩:=h;refine ⟨_,(Zaf (Zam (Zaj (Zbp K) rfl B.any Zbn (Zaa (ZaZ ["other"] [0] rfl (ZaP K (pv 1)) (fun _ _ _ _ _=>Zav (i:=0) (by show List.Nodup (["other","question"]:List Str);decide +kernel) rfl (Or.inl rfl)) (fun _ _ _ _ _=>ZaW) (fun _ _ _ _ _=>(Zai h_alike (hr.mono (by omega)) rfl (Zaa (pv 1) (Zaa (pv 0) Zac)))) ⟨⟨_,rfl,rfl,.inl rfl⟩,trivial⟩ ZaE) Zac)))),?_⟩;walk_at "vc";refine ⟨⟨_,SqL.of hp⟩,compQ us (t.eq ·) (SqL.of hp) hu lu (fun i u y H2 R eu qu s2 r=>?_) (fun D H2 nD s2 hD=>⟨D,rfl,_,hD,?_⟩)⟩
 · walk_at "vc";exact ⟨t,u,x,y,rfl,QAt.same s2 t ht,QAt.same s2 u qu,o1,Zbl us eu o2,hd,r⟩
 · rw [ZcY];exact q H2 s2
theorem ok_parts (B:Blt mg)(S:SQ K mg C)(d:DefAt K mg "parts_of" ZbX ["question"]):FnAt P w K mg base "parts_of" ["question"] 1 (spParts C):=by
 have g_AllOf:=S.gA;have g_OneOf:=S.gO;refine FnAt.of d Ze8 (fun vs H Q E h=>?_) (fun f cdv A outer s H vs Q E hr h=>?_)
 · obtain ⟨t,x,H0,rfl,_⟩:=h;rfl
 obtain ⟨t,x,H0,rfl,s0,ht,q⟩:=h;refine ⟨_,(Zaf (Zam (pe_ifExp (Zbk (Zaj (ZcV K) rfl B.isi Zaw (Zaa (pv 0) (Zaa (ZaL (Zaa (Zay (v:=.ref _) rfl g_AllOf rfl) (Zaa (Zay (v:=.ref _) rfl g_OneOf rfl) Zac))) Zac)))) (Za1 (ZbA K) rfl B.lst boot_list (Zaa (Zax K (pv 0)) Zac)) (ZaG Zac)))),?_⟩;walk_at "vc";obtain ⟨p1,dx1,fs1,rfl,e1,lb1,_⟩:=QAt.objM t ht;refine ⟨by decide,fun p2 n2=>?_⟩;have s2:=Same.new (o:=.tup [V.ref (C Kd.al),V.ref (C Kd.on)]) n2;refine ⟨_,_,_,_,_,_,_,_,_,rfl,(s0.trans s2) _ _ e1,S.c _,S.t _,Zab,S.iA _ _ S.gA,S.iO _ _ S.gO,_,rfl,?_⟩;have no:t.parts=.nil→(0≤sizeLine∧∀ p,upd H p2 (HO.tup [V.ref (C Kd.al),V.ref (C Kd.on)]) p=none→Q (V.ref p) (upd (upd H p2 (HO.tup [V.ref (C Kd.al),V.ref (C Kd.on)])) p (HO.lst []))):=fun e=>⟨by decide,fun p n3=>q p [] _ (s2.trans (Same.new n3)) (none_of s2 n3) Zab (by rw [e];unfold QsAt;rfl)⟩
 cases t with
 | al ts =>
   unfold QAt at ht;obtain ⟨_,dx,l,us,z,hp,hl,hu⟩:=ht;cases z
   change (if true=true then _ else _)
   rw [if_pos rfl];exact ⟨_,rfl,_,_,_,(s0.trans s2) _ _ hp,S.c _,S.a1,_,rfl,_,rfl,_,.inl (SqL.of ((s0.trans s2) _ _ hl)),fun l2 n3=>q l2 us _ (s2.trans (Same.new n3)) (none_of s2 n3) Zab hu⟩
 | on ts =>
   unfold QAt at ht;obtain ⟨_,dx,l,us,z,hp,hl,hu⟩:=ht;cases z
   change (if true=true then _ else _)
   rw [if_pos rfl];exact ⟨_,rfl,_,_,_,(s0.trans s2) _ _ hp,S.c _,S.n1,_,rfl,_,rfl,_,.inl (SqL.of ((s0.trans s2) _ _ hl)),fun l2 n3=>q l2 us _ (s2.trans (Same.new n3)) (none_of s2 n3) Zab hu⟩
 | _ =>
   change (if false=true then _ else _)
   rw [if_neg Bool.false_ne_true];exact no rfl
theorem ZfQ (B:Blt mg) (S:SQ K mg C) (d:DefAt K mg "are_of_one_name" Za2 ["one","other"]):FnAt P w K mg base "are_of_one_name" ["one","other"] 1 (spTwo C N n oneName):=by
 have g_Within:=S.gW;refine FnAt.of d Zcq (fun vs H Q E h=>?_) (fun f cdv A outer s H vs Q E hr h=>?_)
 · obtain ⟨t,u,x,y,rfl,_⟩:=h;rfl
 obtain ⟨t,u,x,y,rfl,h1,h2,o1,o2,d1,d2,q⟩:=h;obtain ⟨p1,dx1,fs1,rfl,e1,lb1,_⟩:=QAt.objM t h1;obtain ⟨p2,dx2,fs2,rfl,e2,lb2,_⟩:=QAt.objM u h2;refine ⟨_,(Zaf (Zam (ZaR (Zaj (Zat K) rfl B.isi Zaw (Zaa (pv 0) (Zaa (Zay (v:=.ref _) rfl g_Within rfl) Zac))) (ZaR (Zaj (Zat K) rfl B.isi Zaw (Zaa (pv 1) (Zaa (Zay (v:=.ref _) rfl g_Within rfl) Zac))) (ZaI (ZaS ZaT (Zax K (pv 0)) (Zax K (pv 1)) (nomark _))))))),?_⟩;rw [Za9];have e:oneName t u=(t.kd.isW&&(u.kd.isW&&oneName t u)):=by cases t<;>cases u<;>rfl
 refine Vl.and (H:=H) (b:=u.kd.isW&&oneName t u) (Vl.isi e1 (S.c _) (S.t _) (S.iW _) S.gW) (fun w1=>Vl.and (b:=oneName t u) (Vl.isi e2 (S.c _) (S.t _) (S.iW _) S.gW) fun w2=>?_) H (Same.refl _) _ fun H3 s3=>?_
 · cases t with
   | inn x lo hi =>
     cases u with
     | inn y l h =>
       unfold QAt at h1 h2;obtain ⟨_,_,z,h1⟩:=h1;cases z;obtain ⟨_,_,z,h2⟩:=h2;cases z;intro H3 s3 R r;walk_at "vc";refine ⟨_,_,_,s3 _ _ h1,S.c _,S.w1,_,rfl,_,_,_,s3 _ _ h2,S.c _,S.w1,_,rfl,rfl,?_⟩;have z:oneName (.inn x lo hi) (.inn y l h)=decide (V.str x=V.str y):=by show (x==y)=_;rw [Bool.eq_iff_iff,beq_iff_eq,decide_eq_true_eq,V.str.injEq]
       rw [← z];exact r H3 (Same.refl _)
     | _=>cases w2
   | _=>cases w1
 · rw [← e];exact q H3 s3
theorem ok_side (S:SQ K mg C) (h_are_of_one_name:FnAt P w K mg base "are_of_one_name" ["one","other"] 1 (spTwo C N n oneName)) (d:DefAt K mg "are_side_by_side" Za0 ["one","other"]):FnAt P w K mg base "are_side_by_side" ["one","other"] 2 (spTwo C N n sideBy):=by
 refine FnAt.of d Zcj (fun vs H Q E h=>?_) (fun f cdv A outer s H vs Q E hr h=>?_)
 · obtain ⟨t,u,x,y,rfl,_⟩:=h;rfl
 obtain ⟨t,u,x,y,rfl,h1,h2,o1,o2,d1,d2,q⟩:=h;obtain ⟨p1,dx1,fs1,rfl,e1,lb1,_⟩:=QAt.objM t h1;obtain ⟨p2,dx2,fs2,rfl,e2,lb2,_⟩:=QAt.objM u h2;refine ⟨_,(Zaf (Zam (ZaR (Zai h_are_of_one_name (hr.mono (by decide)) rfl (Zaa (pv 0) (Zaa (pv 1) Zac))) (ZaR (ZaS Zcn (Zax K (pv 0)) (Zal ZaJ (Zax K (pv 1)) Zad) (nomark _)) (ZaI (ZaS Zcn (Zax K (pv 1)) (Zal ZaJ (Zax K (pv 0)) Zad) (nomark _))))))),?_⟩;rw [Za9];have e:sideBy t u=(oneName t u&&sideBy t u):=by
   cases t with
   | inn x lo hi =>
     cases u with
     | inn y l h =>
       show ((x==y)&&(decide (lo≤h+1)&&decide (l≤hi+1)))=((x==y)&&((x==y)&&(decide (lo≤h+1)&&decide (l≤hi+1))))
       cases (x==y)<;>rfl
     | _=>rfl
   | _=>rfl
 refine Vl.and (H:=H) (a:=oneName t u) (b:=sideBy t u) (fun H3 s3 R r=>?_) (fun w1 H3 s3 R r=>?_) H (Same.refl _) _ fun H3 s3=>?_
 · walk_at "vc";exact ⟨t,u,_,_,rfl,QAt.same s3 t h1,QAt.same s3 u h2,o1,o2,d1,d2,r⟩
 · cases t with
   | inn x lo hi =>
     cases u with
     | inn y l h =>
       unfold QAt at h1 h2;obtain ⟨_,_,z,h1⟩:=h1;cases z;obtain ⟨_,_,z,h2⟩:=h2;cases z;have w1:(x==y)=true:=w1;have z:sideBy (.inn x lo hi) (.inn y l h)=(decide (lo≤h+1)&&decide (l≤hi+1)):=by show ((x==y)&&_)=_;rw [w1,Bool.true_and]
       rw [z] at r;refine Vl.and (H:=H3) (a:=decide (lo≤h+1)) (b:=decide (l≤hi+1)) (fun H4 s4 R r=>?_) (fun _ H4 s4 R r=>?_) H3 (Same.refl _) R r
       · walk_at "vc";exact ⟨_,_,_,(s3.trans s4) _ _ h1,S.c _,S.w2,_,rfl,_,_,_,(s3.trans s4) _ _ h2,S.c _,S.w3,_,rfl,_,rfl,_,rfl,r H4 (Same.refl _)⟩
       · walk_at "vc";exact ⟨_,_,_,(s3.trans s4) _ _ h2,S.c _,S.w2,_,rfl,_,_,_,(s3.trans s4) _ _ h1,S.c _,S.w3,_,rfl,_,rfl,_,rfl,r H4 (Same.refl _)⟩
     | _=>cases w1
   | _=>cases w1
 · rw [← e];exact q H3 s3
theorem ok_oppos (B:Blt mg)(S:SQ K mg C)(h_alike:FnAt P w K mg base "alike" ["one","other"] (2*n+1) (spAlk C N n))(d:DefAt K mg "are_opposites" Zbc ["one","other"]):FnAt P w K mg base "are_opposites" ["one","other"] (2*n+2) (spTwo C N n fun t u=>oppB t u||oppB u t):=by
 have g_Opposite:=S.gP;refine FnAt.of d ZcW (fun vs H Q E h=>?_) (fun f cdv A outer s H vs Q E hr h=>?_)
 · obtain ⟨t,u,x,y,rfl,_⟩:=h;rfl
 obtain ⟨t,u,x,y,rfl,h1,h2,o1,o2,d1,d2,q⟩:=h;obtain ⟨p1,dx1,fs1,rfl,e1,lb1,_⟩:=QAt.objM t h1;obtain ⟨p2,dx2,fs2,rfl,e2,lb2,_⟩:=QAt.objM u h2;refine ⟨_,(Zaf (Zam (Zco (ZaR (Zaj (Zat K) rfl B.isi Zaw (Zaa (pv 0) (Zaa (Zay (v:=.ref _) rfl g_Opposite rfl) Zac))) (ZaI (Zai h_alike (hr.mono (by omega)) rfl (Zaa (Zax K (pv 0)) (Zaa (pv 1) Zac))))) (ZaI (ZaR (Zaj (Zat K) rfl B.isi Zaw (Zaa (pv 1) (Zaa (Zay (v:=.ref _) rfl g_Opposite rfl) Zac))) (ZaI (Zai h_alike (hr.mono (by omega)) rfl (Zaa (Zax K (pv 1)) (Zaa (pv 0) Zac))))))))),?_⟩;rw [Za9];have e:(oppB t u||oppB u t)=(t.kd.isP&&oppB t u||u.kd.isP&&oppB u t):=by cases t<;>cases u<;>rfl
 refine Vl.or (H:=H) (b:=u.kd.isP&&oppB u t) (Vl.and (b:=oppB t u) (Vl.isi e1 (S.c _) (S.t _) (S.iP _) S.gP) fun w1=>?_) (fun _=>Vl.and (b:=oppB u t) (Vl.isi e2 (S.c _) (S.t _) (S.iP _) S.gP) fun w2=>?_) H (Same.refl _) _ fun H3 s3=>?_
 · cases t with
   | opp t =>
     unfold QAt at h1;obtain ⟨_,_,v,z,h1,hv⟩:=h1;cases z;have d1:t.dep+1<n:=d1;intro H3 s3 R r;walk_at "vc";exact ⟨_,_,_,s3 _ _ h1,S.c _,S.o1,_,rfl,t,u,_,_,rfl,QAt.same s3 t hv,QAt.same s3 u h2,o1,o2,by omega,r⟩
   | _=>cases w1
 · cases u with
   | opp u =>
     unfold QAt at h2;obtain ⟨_,_,v,z,h2,hv⟩:=h2;cases z;have d2:u.dep+1<n:=d2;intro H3 s3 R r;walk_at "vc";exact ⟨_,_,_,s3 _ _ h2,S.c _,S.o1,_,rfl,u,t,_,_,rfl,QAt.same s3 u hv,QAt.same s3 t h1,o2,o1,by omega,r⟩
   | _=>cases w2
 · rw [← e];exact q H3 s3
end
structure CoC (P:Program)(w:World)(K:PySem.W.Frag)(mg:Str→Option Value)(base:Heap)(CK:Bool→Addr)(IC:Bool→Int→Hp→Addr→Prop):Prop where
 same:∀ {b n H H' c},Same H H'→IC b n H c→IC b n H' c
 obj:∀ {b n H c},IC b n H c→∃ dx fs,H c=some (.ins (CK b) dx fs)∧fs.lookup ("top":Str)=none
 c:∀ b,Cls K (CK b)
 t:∀ b,TyIns K (CK b)
 gB:mg "ByBits"=some (.ref (CK true))
 iB:∀ b,IsiTo K mg (CK b) "ByBits" b
 top:∀ b,MethAt P w K mg base (CK b) "top" ["self"] 1 (fun vs H Q _=>∃ (x:Addr) (n:Int),vs=[.ref x]∧IC b n H x∧Q (.int n) H)
def CoAt (IC:Bool→Int→Hp→Addr→Prop)(N:List Str)(tp:Str→Int)(bt:Str→Bool)(H:Hp)(d:Addr):Prop:=∃ kvs,H d=some (.dK kvs)∧∀ x∈N,∃ c,valV kvs (.inr x)=some (.ref c)∧IC (bt x) (tp x) H c
def T.nm:T→Str
 | .inn x _ _=>x
 | _=>Str.empty
def goB (bt:Str→Bool)(A:Bool)(l:List T)(t:T):Bool :=
 !(l.any fun o=>t.eq o||(oppB t o||oppB o t))&&(!(t.parts.toL.any fun i=>l.any (i.eq ·))&&(if A=true then !t.kd.isA&&!l.any (oneName t) else if (t.kd.isW&&!bt t.nm)=true then true else !t.kd.isO&&!l.any (sideBy t)))
def spGo (C:Kd→Addr)(IC:Bool→Int→Hp→Addr→Prop)(N:List Str)(tp:Str→Int)(bt:Str→Bool)(n:Nat):Sp:=fun vs H Q _=>∃ (g t:T) (us:Ts) (x y:V) (p d:Addr) (xs:List V),vs=[x,.ref p,y,.ref d]∧QAt C H g x∧(g.kd=.al∨g.kd=.on)∧H p=some (.lst xs)∧QsAt C H us xs∧us.toL.length≤1000∧us.ok N∧(∀ (i:Nat) u,us.toL[i]?=some u→u.dep<n)∧QAt C H t y∧t.ok N∧t.dep<n∧CoAt IC N tp bt H d∧∀ H',Same H H'→Q (.bl (goB bt g.kd.isA us.toL t)) H'
theorem Zcd {N:List Str}:∀ t:T,t.ok N→t.parts.toL.length≤1000
 | .ev,_=>Nat.zero_le _
 | .no,_=>Nat.zero_le _
 | .inn _ _ _,_=>Nat.zero_le _
 | .opp t,_=>Nat.zero_le _
 | .al ts,o=>o.1
 | .on ts,o=>o.1
theorem ZaU {N:List Str}:∀ t:T,t.ok N→t.parts.ok N
 | .ev,_=>trivial
 | .no,_=>trivial
 | .inn _ _ _,_=>trivial
 | .opp t,o=>trivial
 | .al ts,o=>o.2
 | .on ts,o=>o.2
theorem Zbh:∀ (t u:T) {i:Nat},t.parts.toL[i]?=some u→u.dep<t.dep
 | .ev,u,i,h=>by cases h
 | .no,u,i,h=>by cases h
 | .inn _ _ _,u,i,h=>by cases h
 | .opp t,u,i,h=>by cases h
 | .al ts,u,i,h=>Nat.lt_succ_of_le (Zc1 ts h)
 | .on ts,u,i,h=>Nat.lt_succ_of_le (Zc1 ts h)
section
variable {P:Program}{w:World}{K:PySem.W.Frag}{mg:Str→Option Value}{base:Heap}{C:Kd→Addr}{N:List Str}{n:Nat}{CK:Bool→Addr}{IC:Bool→Int→Hp→Addr→Prop}{tp:Str→Int}{bt:Str→Bool}
theorem CoAt.same {H H':Hp}{d:Addr}(Y:CoC P w K mg base CK IC)(s:Same H H')(h:CoAt IC N tp bt H d):CoAt IC N tp bt H' d:=by
 obtain ⟨kvs,h1,h2⟩:=h;exact ⟨kvs,s _ _ h1,fun x hx=>by
   obtain ⟨c,e,ic⟩:=h2 x hx;exact ⟨c,e,Y.same s ic⟩⟩
theorem ok_go (B:Blt mg)(S:SQ K mg C)(Y:CoC P w K mg base CK IC)(h_alike:FnAt P w K mg base "alike" ["one","other"] (2*n+1) (spAlk C N n))(h_are_opposites:FnAt P w K mg base "are_opposites" ["one","other"] (2*n+2) (spTwo C N n fun t u=>oppB t u||oppB u t))(h_stands_among:FnAt P w K mg base "stands_among" ["question","others"] (2*n+2) (spAmong C N n))(h_parts_of:FnAt P w K mg base "parts_of" ["question"] 1 (spParts C))(h_are_of_one_name:FnAt P w K mg base "are_of_one_name" ["one","other"] 1 (spTwo C N n oneName))(h_are_side_by_side:FnAt P w K mg base "are_side_by_side" ["one","other"] 2 (spTwo C N n sideBy))(d:DefAt K mg "go_together" Zbr ["question","earlier","part","columns"]):FnAt P w K mg base "go_together" ["question","earlier","part","columns"] (2*n+3) (spGo C IC N tp bt n):=by
 have g_Within:=S.gW;have g_AllOf:=S.gA;have g_OneOf:=S.gO;have g_ByBits:=Y.gB;refine FnAt.of d ZdH (fun vs H Q E h=>?_) (fun f cdv A outer s H vs Q E hr h=>?_)
 · obtain ⟨g,t,us,x,y,p,d,xs,rfl,_⟩:=h;rfl
 obtain ⟨g,t,us,x,y,p,d,xs,rfl,hg,gk,hp,hu,lu,ou,du,ht,ot,dt,hc,q⟩:=h;obtain ⟨p1,dx1,fs1,rfl,e1,_,_⟩:=QAt.objM g hg;obtain ⟨p2,dx2,fs2,rfl,e2,_,_⟩:=QAt.objM t ht;refine ⟨_,(Zae (ZaD (Zbk (Zaj (Zbp K) rfl B.any Zbn (Zaa (ZaZ ["one"] [2] rfl (ZaP K (pv 1)) (fun _ _ _ _ _=>Zav (i:=0) (by show List.Nodup (["one","part"]:List Str);decide +kernel) rfl (Or.inl rfl)) (fun _ _ _ _ _=>ZaW) (fun _ _ _ _ _=>(Zco (Zai h_alike (hr.mono (by omega)) rfl (Zaa (pv 1) (Zaa (pv 0) Zac))) (ZaI (Zai h_are_opposites (hr.mono (by omega)) rfl (Zaa (pv 1) (Zaa (pv 0) Zac)))))) ⟨⟨_,rfl,rfl,.inl rfl⟩,trivial⟩ ZaE) Zac))) (Zaf (Zam ZbO)) Zas)
     (Zae (ZaD (Zbk (Zaj (Zbp K) rfl B.any Zbn (Zaa (ZaZ ["inner"] [1] rfl (ZaP K (Zai h_parts_of (hr.mono (by omega)) rfl (Zaa (pv 2) Zac))) (fun _ _ _ _ _=>Zav (i:=0) (by show List.Nodup (["inner","earlier"]:List Str);decide +kernel) rfl (Or.inl rfl)) (fun _ _ _ _ _=>ZaW) (fun _ _ _ _ _=>(Zai h_stands_among (hr.mono (by omega)) rfl (Zaa (pv 0) (Zaa (pv 1) Zac)))) ⟨⟨_,rfl,rfl,.inl rfl⟩,trivial⟩ ZaE) Zac))) (Zaf (Zam ZbO)) Zas)
     (Zae (ZaD (Zbk (Zaj (Zat K) rfl B.isi Zaw (Zaa (pv 0) (Zaa (Zay (v:=.ref _) rfl g_AllOf rfl) Zac)))) (Zaf (Zam (ZaR (Zex (Zaj (Zat K) rfl B.isi Zaw (Zaa (pv 2) (Zaa (Zay (v:=.ref _) rfl g_AllOf rfl) Zac)))) (ZaI (Zex (Zaj (Zbp K) rfl B.any Zbn (Zaa (ZaZ ["one"] [2] rfl (ZaP K (pv 1)) (fun _ _ _ _ _=>Zav (i:=0) (by show List.Nodup (["one","part"]:List Str);decide +kernel) rfl (Or.inl rfl)) (fun _ _ _ _ _=>ZaW) (fun _ _ _ _ _=>(Zai h_are_of_one_name (hr.mono (by omega)) rfl (Zaa (pv 1) (Zaa (pv 0) Zac)))) ⟨⟨_,rfl,rfl,.inl rfl⟩,trivial⟩ ZaE) Zac))))))) Zas)
     (Zae (ZaD (PW.pt (pw_and (Zbk (Zaj (Zat K) rfl B.isi Zaw (Zaa (pv 2) (Zaa (Zay (v:=.ref _) rfl g_Within rfl) Zac)))) (ZfU (ZfA (Zbk (Zaj (Zat K) rfl B.isi Zaw (Zaa (Zbe (hu1 hr) (pv 3) (Zax K (pv 2)) (fun _ _=>rfl)) (Zaa (Zay (v:=.ref _) rfl g_ByBits rfl) Zac)))))))) (Zaf (Zam ZbO)) Zas)
     (Zaf (Zam (ZaR (Zex (Zaj (Zat K) rfl B.isi Zaw (Zaa (pv 2) (Zaa (Zay (v:=.ref _) rfl g_OneOf rfl) Zac)))) (ZaI (Zex (Zaj (Zbp K) rfl B.any Zbn (Zaa (ZaZ ["one"] [2] rfl (ZaP K (pv 1)) (fun _ _ _ _ _=>Zav (i:=0) (by show List.Nodup (["one","part"]:List Str);decide +kernel) rfl (Or.inl rfl)) (fun _ _ _ _ _=>ZaW) (fun _ _ _ _ _=>(Zai h_are_side_by_side (hr.mono (by omega)) rfl (Zaa (pv 1) (Zaa (pv 0) Zac)))) ⟨⟨_,rfl,rfl,.inl rfl⟩,trivial⟩ ZaE) Zac))))))))))),?_⟩
 unfold goB at q;refine Zag fun k hk=>?_
 walk_at "vc";refine ⟨⟨_,SqL.of hp⟩,compQ us (fun o=>t.eq o||(oppB t o||oppB o t)) (SqL.of hp) hu lu (fun i u y H2 R eu qu s2 r=>?_) (fun D H2 nD s2 hD=>⟨D,rfl,_,hD,?_⟩)⟩
 · refine Vl.or (H:=H) (a:=t.eq u) (b:=oppB t u||oppB u t) (fun H3 s3 R r=>?_) (fun _ H3 s3 R r=>?_) H2 s2 R r
   · walk_at "vc";exact ⟨t,u,_,_,rfl,QAt.same s3 t ht,QAt.same s3 u qu,ot,Zbl us eu ou,dt,r⟩
   · walk_at "vc";exact ⟨t,u,_,_,rfl,QAt.same s3 t ht,QAt.same s3 u qu,ot,Zbl us eu ou,dt,du i u eu,r⟩
 rw [ZcY];cases a1:us.toL.any fun o=>t.eq o||(oppB t o||oppB o t) with
 | true =>
   rw [if_pos rfl];have:=q H2 s2;rw [a1] at this;exact this
 | false =>
 rw [if_neg Bool.false_ne_true];rw [a1] at q;have q:∀ H',Same H H'→Q (.bl (!(t.parts.toL.any fun i=>us.toL.any (i.eq ·))&&(if g.kd.isA=true then !t.kd.isA&&!us.toL.any (oneName t) else if (t.kd.isW&&!bt t.nm)=true then true else !t.kd.isO&&!us.toL.any (sideBy t)))) H':=q;refine hk _ _ (Zag fun k hk2=>?_);walk_at "vc";refine ⟨t,_,H,rfl,s2,ht,fun p3 vs3 H3 s3 n3 h3 q3=>⟨p3,rfl,⟨_,SqL.of h3⟩,compQ t.parts (fun i=>us.toL.any (i.eq ·)) (SqL.of h3) q3 (Zcd t ot) (fun i u y H4 R eu qu s4 r=>?_) (fun D H4 nD s4 hD=>⟨D,rfl,_,hD,?_⟩)⟩⟩
 · have sm:=(s2.trans s3).trans s4;walk_at "vc";have:=Zbh t u eu;exact ⟨u,us,_,p,xs,rfl,QAt.same sm u qu,sm _ _ hp,QsAt.same sm us hu,lu,ou,Zbl _ eu (ZaU t ot),by omega,r⟩
 rw [ZcY];have s5:=(s2.trans s3).trans s4;cases a2:t.parts.toL.any fun i=>us.toL.any (i.eq ·) with
 | true =>
   rw [if_pos rfl];have:=q H4 s5;rw [a2] at this;exact this
 | false =>
 rw [if_neg Bool.false_ne_true];rw [a2] at q;have q:∀ H',Same H H'→Q (.bl (if g.kd.isA=true then !t.kd.isA&&!us.toL.any (oneName t) else if (t.kd.isW&&!bt t.nm)=true then true else !t.kd.isO&&!us.toL.any (sideBy t))) H':=q;have anyV:∀ (f:T→T→Bool) (te:TE),(∀ (i:Nat) u y H2 (R:VK),us.toL[i]?=some u→QAt C H u y→Same H H2→(∀ H3,Same H2 H3→R (.bl (f t u)) H3)→te [some y,some (.ref p2)] H2 R)→Vl (tCB (rAny K) (tCons (tComp [Str.ofString "one"].length [2] (iList K (tVar 1)) (gName 0) tNoTest te) tNil)) [some (.ref p1),some (.ref p),some (.ref p2),some (.ref d)] H (.bl (us.toL.any (f t))):=fun f te he H5 s5 R r=>by
   walk_at "vc";refine ⟨⟨_,SqL.of (s5 _ _ hp)⟩,compQ us (f t) (SqL.of (s5 _ _ hp)) hu lu (fun i u y H6 R eu qu s6 r=>he i u y H6 R eu qu (s5.trans s6) r) (fun D H6 nD s6 hD=>⟨D,rfl,_,hD,?_⟩)⟩;rw [ZcY];exact r H6 s6
 refine hk2 _ _ (Zag fun k hk3=>?_);rw [Zbj,ZdD];refine Vl.isi (H:=H) e1 (S.c _) (S.t _) (S.iA _) S.gA rfl H4 s5 _ fun H5 s6=>⟨_,rfl,?_⟩
 have s7:=s5.trans s6;cases ga:g.kd.isA with
 | true =>
   rw [if_pos rfl,Za9];refine Vl.and (H:=H) (Vl.not (Vl.isi e2 (S.c _) (S.t _) (S.iA _) S.gA rfl)) (fun _=>Vl.not (anyV oneName _ fun i u y H2 R eu qu s2 r=>?_)) H5 s7 _ fun H7 s8=>?_
   · walk_at "vc";exact ⟨t,u,_,_,rfl,QAt.same s2 t ht,QAt.same s2 u qu,ot,Zbl us eu ou,dt,du i u eu,r⟩
   · have:=q H7 (s7.trans s8);rw [ga,if_pos rfl] at this;exact this
 | false =>
 rw [if_neg Bool.false_ne_true,Zbb];rw [ga] at q;have q:∀ H',Same H H'→Q (.bl (if (t.kd.isW&&!bt t.nm)=true then true else !t.kd.isO&&!us.toL.any (sideBy t))) H':=fun H' s=>by
   have:=q H' s;rw [if_neg Bool.false_ne_true] at this;exact this
 refine hk3 _ _ (Zag fun k hk4=>?_);have fin:(t.kd.isW&&!bt t.nm)=false→∀ H5,Same H H5→k [some (.ref p1),some (.ref p),some (.ref p2),some (.ref d)] H5:=fun nb H5 s7=>by
   refine hk4 _ _ ?_;rw [Za9];refine Vl.and (H:=H) (Vl.not (Vl.isi e2 (S.c _) (S.t _) (S.iO _) S.gO rfl)) (fun _=>Vl.not (anyV sideBy _ fun i u y H2 R eu qu s2 r=>?_)) H5 s7 _ fun H7 s8=>?_
   · walk_at "vc";exact ⟨t,u,_,_,rfl,QAt.same s2 t ht,QAt.same s2 u qu,ot,Zbl us eu ou,dt,du i u eu,r⟩
   · have:=q H7 (s7.trans s8);rw [nb,if_neg Bool.false_ne_true] at this;exact this
 rw [Zbj,Zey,ZdD];refine Vl.isi (H:=H) e2 (S.c _) (S.t _) (S.iW _) S.gW rfl H5 s7 _ fun H6 s8=>⟨_,rfl,?_⟩
 have s9:=s7.trans s8;cases t with
 | inn x lo hi =>
   change (if true=true then _ else _)
   rw [if_pos rfl];unfold QAt at ht;obtain ⟨_,dx,z,ht⟩:=ht;cases z;obtain ⟨kvs,hd,hc⟩:=CoAt.same Y s9 hc;obtain ⟨c,hv,ic⟩:=hc x ot;obtain ⟨dx2,fs3,e3,_⟩:=Y.obj ic;walk_at "vc";refine ⟨_,_,_,s9 _ _ ht,S.c _,S.w1,_,rfl,_,hv ▸ DGet.k (k:=.inr x) hd,Zca e3 (Y.c _) (Y.t _) (Y.iB _) Y.gB ⟨_,rfl,?_⟩⟩;cases b:bt x with
   | false =>
     rw [if_pos rfl];have:Q (.bl (if (true&&!bt x)=true then true else !(T.inn x lo hi).kd.isO&&!us.toL.any (sideBy (T.inn x lo hi)))) H6:=q H6 s9;rw [b] at this;exact this
   | true =>
     rw [if_neg (by decide)];exact fin (by show (true&&!bt x)=false;rw [b];rfl) H6 s9
 | _ =>
   change (if false=true then _ else _)
   rw [if_neg Bool.false_ne_true,if_neg Bool.false_ne_true,Zbb];exact fin rfl H6 s9
end
def inB (tp:Str→Int)(x:Str)(lo hi:Int):Bool:=(decide (0≤lo)&&(decide (lo≤hi)&&decide (hi≤tp x)))&&(decide (0<lo)||decide (hi<tp x))
def goAll (bt:Str→Bool)(A:Bool)(l:List T):Bool:=((List.range l.length).map fun i=>goB bt A (l.take i) (l[i]?.getD .ev)).all id
mutual
def T.neat (tp:Str→Int)(bt:Str→Bool):T→Bool
 | .inn x lo hi=>inB tp x lo hi
 | .opp t=>t.kd.isW&&t.neat tp bt
 | .al ts=>decide (2≤ts.toL.length)&&(ts.neat tp bt&&goAll bt true ts.toL)
 | .on ts=>decide (2≤ts.toL.length)&&(ts.neat tp bt&&goAll bt false ts.toL)
 | _=>false
def Ts.neat (tp:Str→Int)(bt:Str→Bool):Ts→Bool
 | .nil=>true
 | .cons t r=>t.neat tp bt&&r.neat tp bt
end
theorem Ts.neat_all {tp:Str→Int}{bt:Str→Bool}:∀ ts:Ts,ts.neat tp bt=ts.toL.all (T.neat tp bt)
 | .nil=>rfl
 | .cons t r=>by
   show (t.neat tp bt&&r.neat tp bt)=(t.neat tp bt&&r.toL.all (T.neat tp bt))
   rw [Ts.neat_all r]
def spNeat (C:Kd→Addr)(IC:Bool→Int→Hp→Addr→Prop)(N:List Str)(tp:Str→Int)(bt:Str→Bool)(n:Nat):Sp:=fun vs H Q _=>∃ (t:T) (x:V) (d:Addr),vs=[x,.ref d]∧QAt C H t x∧t.ok N∧t.dep<n∧CoAt IC N tp bt H d∧∀ H',Same H H'→Q (.bl (t.neat tp bt)) H'
section
variable {P:Program}{w:World}{K:PySem.W.Frag}{mg:Str→Option Value}{base:Heap}{C:Kd→Addr}{N:List Str}{n:Nat}{CK:Bool→Addr}{IC:Bool→Int→Hp→Addr→Prop}{tp:Str→Int}{bt:Str→Bool}
theorem QAt.ao (S:SQ K mg C)(tp:Str→Int)(bt:Str→Bool){H:Hp}:∀ (t:T) {v:V},QAt C H t v→(t.kd.isA||t.kd.isO)=true→∃ p dx l us,v=.ref p∧H p=some (.ins (C t.kd) dx [("parts",.ref l)])∧H l=some (.lst us)∧QsAt C H t.parts us∧t.neat tp bt=(decide (2≤t.parts.toL.length)&&(t.parts.neat tp bt&&goAll bt t.kd.isA t.parts.toL))∧(t.kd=.al∨t.kd=.on)∧NoAttr K (C t.kd) "parts"
 | .al ts,v,h,_=>by
   unfold QAt at h;obtain ⟨p,dx,l,us,a,b,c,d⟩:=h;exact ⟨p,dx,l,us,a,b,c,d,rfl,.inl rfl,S.a1⟩
 | .on ts,v,h,_=>by
   unfold QAt at h;obtain ⟨p,dx,l,us,a,b,c,d⟩:=h;exact ⟨p,dx,l,us,a,b,c,d,rfl,.inr rfl,S.n1⟩
 | .ev,_,_,h=>by cases h
 | .no,_,_,h=>by cases h
 | .inn _ _ _,_,_,h=>by cases h
 | .opp _,_,_,h=>by cases h
theorem ZeE {l:List T}{i j:Nat}{v:T}(h:(l.take i)[j]?=some v):l[j]?=some v:=by
 rw [List.getElem?_take] at h;split at h
 · exact h
 · cases h
theorem ZfH {N:List Str}:∀ {l:List T},(∀ (j:Nat) v,l[j]?=some v→v.ok N)→(Ts.ofL l).ok N
 | [],_=>trivial
 | t::r,h=>⟨h 0 t rfl,ZfH fun j v e=>h (j+1) v e⟩
theorem QsAt.take {H:Hp}{ts:Ts}{us:List V}{i:Nat}(h:QsAt C H ts us):QsAt C H (Ts.ofL (ts.toL.take i)) (us.take i):=by
 refine QsAt.mk _ ?_ fun j u t e1 e2=>?_
 · rw [Ts.toL_ofL,List.length_take,List.length_take,QsAt.len _ h]
 · rw [Ts.toL_ofL] at e2;rw [List.getElem?_take] at e1;split at e1
   · obtain ⟨t',e3,q⟩:=QsAt.at ts h e1;cases e3.symm.trans (ZeE e2);exact q
   · cases e1
theorem Zdg (us:List V){n:Nat}(h:n≤us.length):cutV us none (some (n:Int))=us.take n:=by unfold cutV;have e:HT.sIx us.length us.length (some ((n:Nat):Int))=min n us.length:=HT.sIx_nat _ _ n;have e1:HT.sIx us.length 0 none=0:=rfl;rw [e,e1,List.drop_zero,Nat.sub_zero,Nat.min_eq_left h]
theorem ZgM (B:Blt mg) (S:SQ K mg C) (Y:CoC P w K mg base CK IC) (h_go_together:FnAt P w K mg base "go_together" ["question","earlier","part","columns"] (2*n+3) (spGo C IC N tp bt n)) (h_is_neat_inside:FnAt P w K mg base "is_neat_inside" ["question","columns"] (2*n+4) (spNeat C IC N tp bt n)) (d:DefAt K mg "is_neat_inside" ZaX ["question","columns"]):FnAt P w K mg base "is_neat_inside" ["question","columns"] (2*(n+1)+4) (spNeat C IC N tp bt (n+1)):=by
 have g_Within:=S.gW;have g_Opposite:=S.gP;have g_AllOf:=S.gA;have g_OneOf:=S.gO;refine FnAt.of d sc_is_neat_inside (fun vs H Q E h=>?_) (fun f cdv A outer s H vs Q E hr h=>?_)
 · obtain ⟨t,x,d,rfl,_⟩:=h;rfl
 obtain ⟨t,x,d,rfl,ht,ot,dt,hc,q⟩:=h;obtain ⟨p2,dx2,fs2,rfl,e2,_,_⟩:=QAt.objM t ht;refine ⟨_,(Zae (ZaD (Zbk (Zaj (Zat K) rfl B.isi Zaw (Zaa (pv 0) (Zaa (Zay (v:=.ref _) rfl g_Within rfl) Zac)))) (Zae (Zaq (i:=2) sc_is_neat_inside.nd rfl (by walk_at "l") (Zcg (P:=P) (w:=w) (K:=K) (mg:=mg) (base:=base) 1 (hr.mono (by omega)) (Zbe (hu1 hr) (pv 1) (Zax K (pv 0)) (fun _ _=>rfl))))
     (Zaf (Zam (ZaR (ZdS Zcn Zcn Zcn Zad (Zax K (pv 0)) (Zax K (pv 0)) (pv 2)) (ZaI (Zco (ZaS op_gt (Zax K (pv 0)) Zad (nomark _)) (ZaI (ZaS Zcl (Zax K (pv 0)) (pv 2) (nomark _))))))))) Zas)
     (Zae (ZaD (Zbk (Zaj (Zat K) rfl B.isi Zaw (Zaa (pv 0) (Zaa (Zay (v:=.ref _) rfl g_Opposite rfl) Zac)))) (Zaf (Zam (ZaR (Zaj (Zat K) rfl B.isi Zaw (Zaa (Zax K (pv 0)) (Zaa (Zay (v:=.ref _) rfl g_Within rfl) Zac))) (ZaI (Zai h_is_neat_inside (hr.mono (by omega)) rfl (Zaa (Zax K (pv 0)) (Zaa (pv 1) Zac))))))) Zas)
     (Zae (ZaD (Zbk (Zaj (ZcV K) rfl B.isi Zaw (Zaa (pv 0) (Zaa (ZaL (Zaa (Zay (v:=.ref _) rfl g_AllOf rfl) (Zaa (Zay (v:=.ref _) rfl g_OneOf rfl) Zac))) Zac)))) (Zae (Zaq (i:=3) sc_is_neat_inside.nd rfl (by walk_at "l") (Zax K (pv 0)))
     (Zaf (Zam (ZaR (ZaS op_ge (Zaj (ZaN K) rfl B.len PySem.boot_len (Zaa (pv 3) Zac)) Zad (nomark _)) (ZaR (Zaj (ZcU K) rfl B.all Zc0 (Zaa (ZaZ ["part"] [1] rfl (ZaP K (pv 3)) (fun _ _ _ _ _=>Zav (i:=0) (by show List.Nodup (["part","columns"]:List Str);decide +kernel) rfl (Or.inl rfl)) (fun _ _ _ _ _=>ZaW) (fun _ _ _ _ _=>(Zai h_is_neat_inside (hr.mono (by omega)) rfl (Zaa (pv 0) (Zaa (pv 1) Zac)))) ⟨⟨_,rfl,rfl,.inl rfl⟩,trivial⟩ ZaE) Zac)) (ZaI (Zaj (ZcU K) rfl B.all Zc0 (Zaa (ZaZ ["at"] [0,1,3] rfl (Zbg rfl B.range (Zaa (Zaj (ZaN K) rfl B.len PySem.boot_len (Zaa (pv 3) Zac)) Zac)) (fun _ _ _ _ _=>Zav (i:=0) (by show List.Nodup (["at","question","columns","parts"]:List Str);decide +kernel) rfl (Or.inl rfl)) (fun _ _ _ _ _=>ZaW) (fun _ _ _ _ _=>(Zai h_go_together (hr.mono (by omega)) rfl (Zaa (pv 1) (Zaa (ZbD (ZbR K) (pv 3) Zb1 (ZbZ (pv 0))) (Zaa (Zap (ZaC K) (pv 3) (pv 0) (fun _ _=>rfl)) (Zaa (pv 2) Zac)))))) ⟨⟨_,rfl,rfl,.inl rfl⟩,⟨⟨_,rfl,rfl,.inl rfl⟩,⟨⟨_,rfl,rfl,.inl rfl⟩,trivial⟩⟩⟩ ZaE) Zac)))))))) Zas)
     (Zaf (Zam ZbO))))),?_⟩
 refine Zag fun k hk=>?_
 rw [Zbj,ZdD];refine Vl.isi (H:=H) e2 (S.c _) (S.t _) (S.iW _) S.gW rfl H (Same.refl _) _ fun H5 s6=>⟨_,rfl,?_⟩
 cases hw:t.kd.isW with
 | true =>
   cases t with
   | inn x lo hi =>
     rw [if_pos rfl];refine Zag fun k2 hk2=>?_
     unfold QAt at ht;obtain ⟨_,dx,z,ht⟩:=ht;cases z;obtain ⟨kvs,hd,hc⟩:=CoAt.same Y s6 hc;obtain ⟨c,hv,ic⟩:=hc x ot;obtain ⟨dx2,fs3,e3,lt⟩:=Y.obj ic;walk_at "vc";refine ⟨_,_,_,s6 _ _ ht,S.c _,S.w1,_,rfl,_,hv ▸ DGet.k (k:=.inr x) hd,_,rfl,_,_,_,e3,lt,_,_,Y.top (bt x),_,_,rfl,ic,hk2 _ _ ?_⟩;rw [Za9];refine Vl.and (H:=H) (a:=decide (0≤lo)&&(decide (lo≤hi)&&decide (hi≤tp x))) (b:=decide (0<lo)||decide (hi<tp x)) (fun H3 s3 R r=>?_) (fun _=>Vl.or (a:=decide (0<lo)) (b:=decide (hi<tp x)) (fun H3 s3 R r=>?_) (fun _ H3 s3 R r=>?_)) H5 s6 _ fun H7 s7=>q H7 (s6.trans s7)
     · walk_at "vc";have r:=r H3 (Same.refl _);refine ⟨_,_,_,s3 _ _ ht,S.c _,S.w2,_,rfl,_,rfl,?_⟩;by_cases c1:0≤lo
       · rw [if_pos c1];refine ⟨_,_,_,s3 _ _ ht,S.c _,S.w3,_,rfl,_,rfl,_,rfl,?_⟩;by_cases c2:lo≤hi
         · rw [if_pos c2];rw [decide_eq_true c1,decide_eq_true c2] at r;exact ⟨_,rfl,r⟩
         · rw [if_neg c2];rw [decide_eq_true c1,decide_eq_false c2] at r;exact r
       · rw [if_neg c1];rw [decide_eq_false c1] at r;exact r
     · walk_at "vc";exact ⟨_,_,_,s3 _ _ ht,S.c _,S.w2,_,rfl,_,rfl,r H3 (Same.refl _)⟩
     · walk_at "vc";exact ⟨_,_,_,s3 _ _ ht,S.c _,S.w3,_,rfl,_,rfl,r H3 (Same.refl _)⟩
   | _=>cases hw
 | false =>
 rw [if_neg Bool.false_ne_true,Zbb];refine hk _ _ (Zag fun k hk2=>?_);rw [Zbj,ZdD];refine Vl.isi (H:=H) e2 (S.c _) (S.t _) (S.iP _) S.gP rfl H5 s6 _ fun H6 s7=>⟨_,rfl,?_⟩
 have s8:=s6.trans s7;cases hp:t.kd.isP with
 | true =>
   cases t with
   | opp t =>
     rw [if_pos rfl,Za9];unfold QAt at ht;obtain ⟨_,dx,u,z,ht,hu⟩:=ht;cases z;obtain ⟨p3,dx3,fs3,rfl,e3,_,_⟩:=QAt.objM t hu;have dt:t.dep+1<n+1:=dt;refine Vl.and (H:=H) (a:=t.kd.isW) (b:=t.neat tp bt) (fun H3 s3 R r=>?_) (fun _ H3 s3 R r=>?_) H6 s8 _ fun H7 s9=>q H7 (s8.trans s9)
     · walk_at "vc";exact ⟨_,_,_,s3 _ _ ht,S.c _,S.o1,_,rfl,Zca (s3 _ _ e3) (S.c _) (S.t _) (S.iW _) S.gW (r H3 (Same.refl _))⟩
     · walk_at "vc";exact ⟨_,_,_,s3 _ _ ht,S.c _,S.o1,_,rfl,t,_,_,rfl,QAt.same s3 t hu,ot,by omega,CoAt.same Y s3 hc,r⟩
   | _=>cases hp
 | false =>
 rw [if_neg Bool.false_ne_true,Zbb];refine hk2 _ _ (Zag fun k hk3=>?_);walk_at "vc";refine ⟨by decide,fun p5 n5=>?_⟩;have s9:=s8.trans (Same.new (o:=.tup [V.ref (C Kd.al),V.ref (C Kd.on)]) n5);refine ⟨_,_,_,_,_,_,_,_,_,rfl,s9 _ _ e2,S.c _,S.t _,Zab,S.iA _ _ S.gA,S.iO _ _ S.gO,_,rfl,?_⟩;cases ha:t.kd.isA||t.kd.isO with
 | false =>
   rw [if_neg Bool.false_ne_true];refine hk3 _ _ ?_;walk_at "vc";have:=q _ s9;rw [show t.neat tp bt=false by cases t<;>first | rfl | (cases hp;done) | (cases ha;done) | (cases hw;done)] at this;exact this
 | true =>
 rw [if_pos rfl];obtain ⟨_,dx,l,us,z,h1,hl,hu,en,gk,nA⟩:=QAt.ao S tp bt t ht ha;cases z;generalize upd H6 p5 (HO.tup [V.ref (C Kd.al),V.ref (C Kd.on)])=H7 at s9 ⊢;have ln:=QsAt.len _ hu;have pl:=Zcd t ot;refine ⟨_,_,_,s9 _ _ h1,S.c _,nA,_,rfl,_,rfl,_,.inl (SqL.of (s9 _ _ hl)),?_⟩;by_cases c2:2≤(us.length:Int)
 · rw [if_pos c2]
   refine ⟨_,rfl,⟨_,SqL.of (s9 _ _ hl)⟩,compQ t.parts (T.neat tp bt) (SqL.of (s9 _ _ hl)) hu pl (fun i u y H2 R eu qu s2 r=>?_) (fun D H2 nD s2 hD=>⟨D,rfl,_,hD,?_⟩)⟩
   · walk_at "vc";have:=Zbh t u eu;exact ⟨u,_,_,rfl,QAt.same (s9.trans s2) u qu,Zbl _ eu (ZaU t ot),by omega,CoAt.same Y (s9.trans s2) hc,r⟩
   rw [all_id,← Ts.neat_all];have q:∀ H',Same H H'→Q (.bl (t.parts.neat tp bt&&goAll bt t.kd.isA t.parts.toL)) H':=fun H' s=>by
     have:=q H' s;rw [en,decide_eq_true (by omega)] at this;exact this
   cases an:t.parts.neat tp bt with
   | false =>
     rw [if_neg Bool.false_ne_true];have:=q _ (s9.trans s2);rw [an] at this;exact this
   | true =>
     rw [if_pos rfl];have s10:=s9.trans s2;refine ⟨_,rfl,_,.inl (SqL.of (s10 _ _ hl)),by omega,by omega,?_⟩;rw [Int.toNat_natCast];refine compAR (fun i y _=>y=.bl (goB bt t.kd.isA (t.parts.toL.take i) (t.parts.toL[i]?.getD .ev))) (fun _ _ _ _ _ h=>h) (by omega) (fun i H3 R hi s3 r=>?_) (fun D ys H3 nD s3 h3 l3 e3=>?_)
     · walk_at "vc";have s11:=s10.trans s3;refine ⟨_,SqL.of (s11 _ _ hl),fun p7 n7=>?_⟩;have hi':i<t.parts.toL.length:=by omega
       rw [Zdg us (by omega)];have s12:=s11.trans (Same.new (o:=.lst (us.take i)) n7);obtain ⟨u,eu,qu⟩:=QsAt.at t.parts hu (List.getElem?_eq_getElem hi);have du:=Zbh t u eu;have ht':=QsAt.take (i:=i) hu;refine ⟨_,SqL.of (s12 _ _ hl),_,ZaV (List.getElem?_eq_getElem hi),t,u,_,_,_,p7,d,us.take i,rfl,QAt.same s12 t ht,gk,Zab,QsAt.same s12 _ ht',?_,?_,?_,QAt.same s12 u qu,Zbl _ eu (ZaU t ot),by omega,CoAt.same Y s12 hc,fun H8 s13=>?_⟩
       · rw [Ts.toL_ofL,List.length_take];omega
       · exact ZfH fun j v ej=>Zbl _ (ZeE ej) (ZaU t ot)
       · intro j v ej;rw [Ts.toL_ofL] at ej;have:=Zbh t v (ZeE ej);omega
       · rw [Ts.toL_ofL];refine r _ H8 ((Same.new n7).trans s13) ?_;rw [eu];rfl
     · refine ⟨D,rfl,(List.range t.parts.toL.length).map fun i=>goB bt t.kd.isA (t.parts.toL.take i) (t.parts.toL[i]?.getD .ev),?_,?_⟩
       · have e:ys=((List.range t.parts.toL.length).map fun i=>goB bt t.kd.isA (t.parts.toL.take i) (t.parts.toL[i]?.getD .ev)).map V.bl:=by
           refine List.ext_getElem (by rw [List.length_map,List.length_map,List.length_range,l3,ln]) fun i a1 a2=>?_
           rw [e3 i _ (List.getElem?_eq_getElem a1),List.getElem_map,List.getElem_map,List.getElem_range]
         exact SqL.of (e ▸ h3)
       · have:=q _ (s10.trans s3);rw [an] at this;exact this
 · rw [if_neg c2];have:=q _ s9;rw [en,decide_eq_false (by omega)] at this;exact this
theorem Zfn (B:Blt mg)(S:SQ K mg C)(Y:CoC P w K mg base CK IC)(h_go_together:∀ n,FnAt P w K mg base "go_together" ["question","earlier","part","columns"] (2*n+3) (spGo C IC N tp bt n))(d:DefAt K mg "is_neat_inside" ZaX ["question","columns"]):∀ n,FnAt P w K mg base "is_neat_inside" ["question","columns"] (2*n+4) (spNeat C IC N tp bt n):=by
 intro n;induction n with
 | zero=>exact FnAt.of d sc_is_neat_inside (fun vs H Q E h=>by obtain ⟨t,x,d,rfl,_⟩:=h;rfl) (fun f cdv A outer s H vs Q E hr h=>by obtain ⟨t,x,d,rfl,_,_,h,_⟩:=h;omega)
 | succ n ih=>exact ZgM B S Y (h_go_together n) ih d
end
mutual
theorem T.men_ok {N:List Str}:∀ t:T,t.ok N→∀ x∈t.men,x∈N
 | .ev,_,x,h=>by cases h
 | .no,_,x,h=>by cases h
 | .inn y _ _,o,x,h=>by
   rcases List.mem_cons.mp h with rfl | h
   · exact o
   · cases h
 | .opp t,o,x,h=>T.men_ok t o x h
 | .al ts,o,x,h=>Ts.men_ok ts o.2 x h
 | .on ts,o,x,h=>Ts.men_ok ts o.2 x h
theorem Ts.men_ok {N:List Str}:∀ ts:Ts,ts.ok N→∀ x∈ts.men,x∈N
 | .nil,_,x,h=>by cases h
 | .cons t r,o,x,h=>by
   rcases List.mem_append.mp h with h | h
   · exact T.men_ok t o.1 x h
   · exact Ts.men_ok r o.2 x h
end
def T.neatQ (tp:Str→Int)(bt:Str→Bool)(t:T):Bool:=(t.kd.isE||t.kd.isN)||t.neat tp bt
def spChkN (IC:Bool→Int→Hp→Addr→Prop)(N:List Str)(tp:Str→Int)(bt:Str→Bool):Sp:=fun vs H Q _=>∃ (x:Str) (d:Addr),vs=[.str x,.ref d]∧x∈N∧CoAt IC N tp bt H d∧Q .non H
def spChkNs (C:Kd→Addr)(IC:Bool→Int→Hp→Addr→Prop)(N:List Str)(tp:Str→Int)(bt:Str→Bool)(n:Nat):Sp:=fun vs H Q _=>∃ (t:T) (x:V) (d:Addr),vs=[x,.ref d]∧QAt C H t x∧t.ok N∧t.dep<n∧t.men.length≤1000∧CoAt IC N tp bt H d∧∀ H',Same H H'→Q .non H'
def spNt (C:Kd→Addr)(IC:Bool→Int→Hp→Addr→Prop)(N:List Str)(tp:Str→Int)(bt:Str→Bool)(n:Nat):Sp:=fun vs H Q _=>∃ (t:T) (x:V) (d:Addr),vs=[x,.ref d]∧QAt C H t x∧t.ok N∧t.dep<n∧t.men.length≤1000∧CoAt IC N tp bt H d∧∀ H',Same H H'→Q (.bl (t.neatQ tp bt)) H'
section
variable {P:Program}{w:World}{K:PySem.W.Frag}{mg:Str→Option Value}{base:Heap}{C:Kd→Addr}{N:List Str}{n:Nat}{CK:Bool→Addr}{IC:Bool→Int→Hp→Addr→Prop}{tp:Str→Int}{bt:Str→Bool}
theorem ZdN (d:DefAt K mg "check_name" Zby ["name","columns"]):FnAt P w K mg base "check_name" ["name","columns"] 1 (spChkN IC N tp bt):=by
 refine FnAt.of d ZdK (fun vs H Q E h=>?_) (fun f cdv A outer s H vs Q E hr h=>?_)
 · obtain ⟨x,d,rfl,_⟩:=h;rfl
 obtain ⟨x,d,rfl,hx,⟨kvs,hd,hc⟩,q⟩:=h;obtain ⟨c,hv,_⟩:=hc x hx;refine ⟨_,(Zaf (ZaD (pt_cmp (Zg2 (hu1 hr) (pv 0) (pv 1)) (by with_unfolding_all rfl)) (Zaf (ps_never)) Zas)),?_⟩;walk_at "vc";refine ⟨_,hv ▸ DGet.k (k:=.inr x) hd,?_⟩;rw [if_neg (fun h=>by cases h)];exact q
theorem Zdz (B:Blt mg)(Y:CoC P w K mg base CK IC)(h_men:∀ k,MethAt P w K mg base (C k) "mentions" ["self"] (n+1) (spMen C N n k))(h_check_name:FnAt P w K mg base "check_name" ["name","columns"] 1 (spChkN IC N tp bt))(d:DefAt K mg "check_names" Zbq ["question","columns"]):FnAt P w K mg base "check_names" ["question","columns"] (n+2) (spChkNs C IC N tp bt n):=by
 refine FnAt.of d sc_check_names (fun vs H Q E h=>?_) (fun f cdv A outer s H vs Q E hr h=>?_)
 · obtain ⟨t,x,d,rfl,_⟩:=h;rfl
 obtain ⟨t,x,d,rfl,ht,ot,dt,mt,hc,q⟩:=h;obtain ⟨p1,dx1,fs1,rfl,e1,_,lm⟩:=QAt.objM t ht;refine ⟨_,(Zaf (ZbE PassesOwn.never rfl (ZaP K (Zcg (P:=P) (w:=w) (K:=K) (mg:=mg) (base:=base) (n+1) (hr.mono (by omega)) (pv 0))) (Zav (i:=2) sc_check_names.nd rfl (by walk_at "l")) (Zaf (Za8 (Zai h_check_name (hr.mono (by omega)) rfl (Zaa (pv 2) (Zaa (pv 1) Zac))))))),?_⟩;walk_at "vc";refine ⟨_,_,_,e1,lm,_,_,h_men t.kd,t,_,rfl,rfl,ht,ot,dt,mt,fun p H2 s2 np hp=>⟨p,rfl,⟨_,SqL.of hp⟩,?_⟩⟩;refine loopL (K:=K) (xs:=t.men.map V.str) (fun i σ H'=>(∃ v,σ=[some (.ref p1),some (.ref d),v])∧H'=H2) ⟨⟨_,rfl⟩,rfl⟩ (fun i σ H3 _ h=>h.2 ▸ SqL.of hp) ?_ ?_
 · rintro i x σ H3 hx ⟨⟨v,rfl⟩,rfl⟩;obtain ⟨y,hy,rfl⟩:=List.mem_map.mp (List.mem_of_getElem? hx);walk_at "vc";refine ⟨y,d,rfl,T.men_ok t ot y hy,CoAt.same Y s2 hc,?_⟩;rfl
 · rintro σ H3 ⟨⟨v,rfl⟩,rfl⟩;exact q _ s2
theorem ZfC (B:Blt mg)(S:SQ K mg C)(Y:CoC P w K mg base CK IC)(h_is_neat_inside:FnAt P w K mg base "is_neat_inside" ["question","columns"] (2*n+4) (spNeat C IC N tp bt n))(d:DefAt K mg "is_neat" Zcb ["question","columns"]):FnAt P w K mg base "is_neat" ["question","columns"] (2*n+5) (spNt C IC N tp bt n):=by
 have g_Every:=S.gE;have g_Nobody:=S.gN;refine FnAt.of d Zfy (fun vs H Q E h=>?_) (fun f cdv A outer s H vs Q E hr h=>?_)
 · obtain ⟨t,x,d,rfl,_⟩:=h;rfl
 obtain ⟨t,x,d,rfl,ht,ot,dt,mt,hc,q⟩:=h;obtain ⟨p1,dx1,fs1,rfl,e1,_,lm⟩:=QAt.objM t ht;refine ⟨_,(Zaf (Zam (Zco (Zaj (ZcV K) rfl B.isi Zaw (Zaa (pv 0) (Zaa (ZaL (Zaa (Zay (v:=.ref _) rfl g_Every rfl) (Zaa (Zay (v:=.ref _) rfl g_Nobody rfl) Zac))) Zac))) (ZaI (Zai h_is_neat_inside (hr.mono (by omega)) rfl (Zaa (pv 0) (Zaa (pv 1) Zac))))))),?_⟩;walk_at "vc";refine ⟨by decide,fun p2 n2=>?_⟩;have s2:=Same.new (o:=.tup [V.ref (C Kd.ev),V.ref (C Kd.no)]) n2;refine ⟨_,_,_,_,_,_,_,_,_,rfl,s2 _ _ e1,S.c _,S.t _,Zab,S.iE _ _ S.gE,S.iN _ _ S.gN,_,rfl,?_⟩;unfold T.neatQ at q;cases ha:t.kd.isE||t.kd.isN with
 | true =>
   rw [if_pos rfl];have:=q _ s2;rw [ha] at this;exact this
 | false =>
   rw [if_neg Bool.false_ne_true];rw [ha] at q;exact ⟨t,_,_,rfl,QAt.same s2 t ht,ot,dt,CoAt.same Y s2 hc,fun H3 s3=>q H3 (s2.trans s3)⟩
end
def kW (b:Bool):Str:=if b=true then Str.ofString "bits" else Str.ofString "values"
def LcAt (K:PySem.W.Frag)(N:List Str)(tp:Str→Int)(bt:Str→Bool)(H:Hp)(d:Addr):Prop:=∃ kvs,H d=some (.dK kvs)∧∀ x∈N,∃ (c:Addr) (z:Nat),valV kvs (.inr x)=some (.ref c)∧SqT K H c [.str (kW (bt x)),.int z]∧tp x=(if bt x=true then 2^z-1 else (z:Int))∧z≤999∧(bt x=true→z≤40)
theorem LcAt.same {K:PySem.W.Frag}{N:List Str}{tp:Str→Int}{bt:Str→Bool}{H H':Hp}{d:Addr}(s:Same H H')(h:LcAt K N tp bt H d):LcAt K N tp bt H' d:=by
 obtain ⟨kvs,h1,h2⟩:=h;exact ⟨kvs,s _ _ h1,fun x hx=>by
   obtain ⟨c,z,e,ic,r⟩:=h2 x hx;exact ⟨c,z,e,ZaB s ic,r⟩⟩
def spTop (K:PySem.W.Frag):Sp:=fun vs H Q _=>∃ (c:Addr) (b:Bool) (z:Nat),vs=[.ref c]∧SqT K H c [.str (kW b),.int z]∧z≤999∧(b=true→z≤40)∧Q (.int (if b=true then 2^z-1 else (z:Int))) H
section
variable {P:Program}{w:World}{K:PySem.W.Frag}{mg:Str→Option Value}{base:Heap}{C:Kd→Addr}{N:List Str}{n:Nat}{tp:Str→Int}{bt:Str→Bool}
theorem ok_ltop (d:DefAt K mg "_law_top" Zdj ["_law_column"]):FnAt P w K mg base "_law_top" ["_law_column"] 1 (spTop K):=by
 refine FnAt.of d sc_l_top (fun vs H Q E h=>?_) (fun f cdv A outer s H vs Q E hr h=>?_)
 · obtain ⟨c,b,z,rfl,_⟩:=h;rfl
 obtain ⟨c,b,z,rfl,hc,hz,hb,q⟩:=h;refine ⟨_,(Zae (ZaD (Zar ZaT (Zap (Zan K) (pv 0) Zad (fun _ _=>rfl)) Zao (nomark _)) (Zaf (Zam (Zal ZbL (Zal Zgw Zad (Zap (Zan K) (pv 0) Zad (fun _ _=>rfl))) Zad))) Zas)
     (Zaf (Zam (Zap (Zan K) (pv 0) Zad (fun _ _=>rfl))))),?_⟩
 walk_at "vc";refine ⟨_,hc,_,rfl,rfl,?_⟩;cases b with
 | true =>
   rw [if_pos (show V.str (kW true)=V.str (Str.ofString "bits") from rfl)];refine ⟨_,hc,_,rfl,_,rfl,⟨by omega,by omega,by decide⟩,?_⟩;rw [Int.toNat_natCast,Int.one_mul];exact q
 | false =>
   rw [if_neg (show ¬V.str (kW false)=V.str (Str.ofString "bits") by rw [V.str.injEq];decide +kernel)];exact ⟨_,hc,_,rfl,q⟩
theorem at0 {x:V}{r:List V}:atI (x::r) 0=some x:=ZaV (show (x::r)[0]?=some x from rfl)
def meetB (bt:Str→Bool)(A:Bool)(t u:T):Bool:=oneName t u&&(A||(bt t.nm&&sideBy t u))
def spMeet (K:PySem.W.Frag)(N:List Str)(tp:Str→Int)(bt:Str→Bool):Sp:=fun vs H Q _=>∃ (t u:T) (x y:V) (d:Addr) (A:Bool),vs=[x,y,.ref d,.str (if A=true then Str.ofString "all" else Str.ofString "one")]∧TrAt K H t x∧TrAt K H u y∧t.ok N∧u.ok N∧LcAt K N tp bt H d∧Q (.bl (meetB bt A t u)) H
theorem Zbu {H:Hp}{v:V}{ds:List PyData}(h:RdD K H v (.tuple ds)):∃ p us,v=.ref p∧SqT K H p us∧RdDs K H us ds:=by
 cases h with
 | tup a b=>exact ⟨_,_,rfl,a,b⟩
theorem ZaK {H:Hp}{vs:List V}{d:PyData}{ds:List PyData}(h:RdDs K H vs (d::ds)):∃ v us,vs=v::us∧RdD K H v d∧RdDs K H us ds:=by
 cases h with
 | cons a b=>exact ⟨_,_,rfl,a,b⟩
theorem Zb2 {H:Hp}{vs:List V}(h:RdDs K H vs []):vs=[]:=by cases h;rfl
theorem Zbo {H:Hp}{v:V}{x:Str}(h:RdD K H v (.str x)):v=.str x:=by cases h;rfl
theorem rd_int {H:Hp}{v:V}{x:Int}(h:RdD K H v (.int x)):v=.int x:=by cases h;rfl
def Kd.wd:Kd→Str
 | .ev=>Str.ofString "every"
 | .no=>Str.ofString "nobody"
 | .wi=>Str.ofString "in"
 | .op=>Str.ofString "not"
 | .al=>Str.ofString "all"
 | .on=>Str.ofString "one"
def T.wd (t:T):Str:=t.kd.wd
theorem wd_not:∀ k:Kd,k.isP=false→¬k.wd=Str.ofString "not":=fun k=>by
 cases k<;>first | (intro h;cases h;done) | (intro _ e;exact absurd e (by unfold Kd.wd;decide +kernel))
theorem wd_in:∀ k:Kd,k.isW=false→¬V.str k.wd=V.str (Str.ofString "in"):=fun k=>by
 cases k<;>first | (intro h;cases h;done) | (intro _ e;rw [V.str.injEq] at e;exact absurd e (by unfold Kd.wd;decide +kernel))
theorem TrAt.hd {H:Hp}:∀ (t:T) {v:V},TrAt K H t v→∃ p us,v=.ref p∧SqT K H p (.str t.wd::us)∧us.length≤3
 | .ev,v,h=>by
   obtain ⟨p,us,rfl,a,b⟩:=Zbu h;obtain ⟨x,us,rfl,b1,b2⟩:=ZaK b;cases Zbo b1;cases Zb2 b2;exact ⟨p,_,rfl,a,Nat.zero_le _⟩
 | .no,v,h=>by
   obtain ⟨p,us,rfl,a,b⟩:=Zbu h;obtain ⟨x,us,rfl,b1,b2⟩:=ZaK b;cases Zbo b1;cases Zb2 b2;exact ⟨p,_,rfl,a,Nat.zero_le _⟩
 | .inn x lo hi,v,h=>by
   obtain ⟨p,us,rfl,a,b⟩:=Zbu h;obtain ⟨x,us,rfl,b1,b2⟩:=ZaK b;cases Zbo b1;exact ⟨p,_,rfl,a,by rw [Za7 b2];show 3≤3;decide⟩
 | .opp t,v,h=>by
   obtain ⟨p,us,rfl,a,b⟩:=Zbu h;obtain ⟨x,us,rfl,b1,b2⟩:=ZaK b;cases Zbo b1;exact ⟨p,_,rfl,a,by rw [Za7 b2];show 1≤3;decide⟩
 | .al ts,v,h=>by
   obtain ⟨p,us,rfl,a,b⟩:=Zbu h;obtain ⟨x,us,rfl,b1,b2⟩:=ZaK b;cases Zbo b1;exact ⟨p,_,rfl,a,by rw [Za7 b2];show 1≤3;decide⟩
 | .on ts,v,h=>by
   obtain ⟨p,us,rfl,a,b⟩:=Zbu h;obtain ⟨x,us,rfl,b1,b2⟩:=ZaK b;cases Zbo b1;exact ⟨p,_,rfl,a,by rw [Za7 b2];show 1≤3;decide⟩
theorem TrAt.leaf {H:Hp}{t:T}{v:V}(h:TrAt K H t v)(ht:(t.kd.isE||t.kd.isN)=true):∃ p,v=.ref p∧SqT K H p [.str t.wd]:=by
 cases t with
 | ev =>
   obtain ⟨p,us,rfl,a,b⟩:=Zbu h;obtain ⟨x,us,rfl,b1,b2⟩:=ZaK b;cases Zbo b1;cases Zb2 b2;exact ⟨p,rfl,a⟩
 | no =>
   obtain ⟨p,us,rfl,a,b⟩:=Zbu h;obtain ⟨x,us,rfl,b1,b2⟩:=ZaK b;cases Zbo b1;cases Zb2 b2;exact ⟨p,rfl,a⟩
 | _=>cases ht
theorem TrAt.inn {H:Hp}{x:Str}{lo hi:Int}{v:V}(h:TrAt K H (.inn x lo hi) v):∃ p,v=.ref p∧SqT K H p [.str (Str.ofString "in"),.str x,.int lo,.int hi]:=by obtain ⟨p,us,rfl,a,b⟩:=Zbu h;obtain ⟨x1,us,rfl,b1,b⟩:=ZaK b;obtain ⟨x2,us,rfl,b2,b⟩:=ZaK b;obtain ⟨x3,us,rfl,b3,b⟩:=ZaK b;obtain ⟨x4,us,rfl,b4,b⟩:=ZaK b;cases Zb2 b;cases Zbo b1;cases Zbo b2;cases rd_int b3;cases rd_int b4;exact ⟨p,rfl,a⟩
theorem TrAt.opp {H:Hp}{t:T}{v:V}(h:TrAt K H (.opp t) v):∃ p u,v=.ref p∧SqT K H p [.str (Str.ofString "not"),u]∧TrAt K H t u:=by obtain ⟨p,us,rfl,a,b⟩:=Zbu h;obtain ⟨x1,us,rfl,b1,b⟩:=ZaK b;obtain ⟨x2,us,rfl,b2,b⟩:=ZaK b;cases Zb2 b;cases Zbo b1;exact ⟨p,_,rfl,a,b2⟩
theorem TrAt.al {H:Hp}{ts:Ts}{v:V}(h:TrAt K H (.al ts) v):∃ p l us,v=.ref p∧SqT K H p [.str (Str.ofString "all"),.ref l]∧SqL K H l us∧TrsAt K H ts us:=by
 obtain ⟨p,us,rfl,a,b⟩:=Zbu h;obtain ⟨x1,us,rfl,b1,b⟩:=ZaK b;obtain ⟨x2,us,rfl,b2,b⟩:=ZaK b;cases Zb2 b;cases Zbo b1;cases b2 with
 | lst c r=>exact ⟨p,_,_,rfl,a,c,r⟩
theorem TrAt.on {H:Hp}{ts:Ts}{v:V}(h:TrAt K H (.on ts) v):∃ p l us,v=.ref p∧SqT K H p [.str (Str.ofString "one"),.ref l]∧SqL K H l us∧TrsAt K H ts us:=by
 obtain ⟨p,us,rfl,a,b⟩:=Zbu h;obtain ⟨x1,us,rfl,b1,b⟩:=ZaK b;obtain ⟨x2,us,rfl,b2,b⟩:=ZaK b;cases Zb2 b;cases Zbo b1;cases b2 with
 | lst c r=>exact ⟨p,_,_,rfl,a,c,r⟩
theorem TrAt.ao {H:Hp}{t:T}{v:V}(h:TrAt K H t v)(ht:(t.kd.isA||t.kd.isO)=true):∃ p l us,v=.ref p∧SqT K H p [.str t.wd,.ref l]∧SqL K H l us∧TrsAt K H t.parts us:=by
 cases t with
 | al ts=>exact TrAt.al h
 | on ts=>exact TrAt.on h
 | _=>cases ht
theorem ok_meet (d:DefAt K mg "_law_ranges_meet" Zbd ["_law_one","_law_other","_law_columns_here","_law_word"]):FnAt P w K mg base "_law_ranges_meet" ["_law_one","_law_other","_law_columns_here","_law_word"] 1 (spMeet K N tp bt):=by
 refine FnAt.of d ZcZ (fun vs H Q E h=>?_) (fun f cdv A outer s H vs Q E hr h=>?_)
 · obtain ⟨t,u,x,y,d,A,rfl,_⟩:=h;rfl
 obtain ⟨t,u,x,y,d,B,rfl,h1,h2,o1,o2,hc,q⟩:=h;refine ⟨_,(Zae (ZaD (PW.pt (Zcp (Zar op_ne (Zap (Zan K) (pv 0) Zad (fun _ _=>rfl)) Zao (nomark _)) (Zcp (Zar op_ne (Zap (Zan K) (pv 1) Zad (fun _ _=>rfl)) Zao (nomark _)) (Zcv (Zar op_ne (Zap (Zan K) (pv 0) Zad (fun _ _=>rfl)) (Zap (Zan K) (pv 1) Zad (fun _ _=>rfl)) (nomark _)))))) (Zaf (Zam ZbO)) Zas)
     (Zae (ZaD (Zar ZaT (pv 3) Zao (nomark _)) (Zaf (Zam ZbO)) Zas)
     (Zaf (Zam (ZaR (ZaS ZaT (Zap (Zan K) (Zbe (hu1 hr) (pv 2) (Zap (Zan K) (pv 0) Zad (fun _ _=>rfl)) (fun _ _=>rfl)) Zad (fun _ _=>rfl)) Zao (nomark _)) (ZaR (ZaS Zcn (Zap (Zan K) (pv 0) Zad (fun _ _=>rfl)) (Zal ZaJ (Zap (Zan K) (pv 1) Zad (fun _ _=>rfl)) Zad) (nomark _)) (ZaI (ZaS Zcn (Zap (Zan K) (pv 1) Zad (fun _ _=>rfl)) (Zal ZaJ (Zap (Zan K) (pv 0) Zad (fun _ _=>rfl)) Zad) (nomark _))))))))),?_⟩
 obtain ⟨p1,r1,rfl,e1,l1⟩:=TrAt.hd t h1;obtain ⟨p2,r2,rfl,e2,l2⟩:=TrAt.hd u h2;refine Zag fun k hk=>?_
 walk_at "vc";have wdn:∀ t:T,t.kd.isW=false→¬V.str t.wd=V.str (Str.ofString "in"):=fun t=>wd_in t.kd
 refine ⟨_,e1,V.str t.wd,at0,rfl,?_⟩;cases t with
 | inn x lo hi =>
   rw [if_pos (show V.str (T.inn x lo hi).wd=V.str (Str.ofString "in") from rfl)];refine ⟨_,e2,V.str u.wd,at0,rfl,?_⟩;cases u with
   | inn y l h =>
     rw [if_pos (show V.str (T.inn y l h).wd=V.str (Str.ofString "in") from rfl)];obtain ⟨_,z,f1⟩:=TrAt.inn h1;cases z;obtain ⟨_,z,f2⟩:=TrAt.inn h2;cases z;refine ⟨_,f1,V.str x,rfl,_,f2,V.str y,rfl,rfl,?_⟩;by_cases exy:x=y
     · subst exy
       rw [if_pos rfl];have q:Q (.bl (B||(bt x&&sideBy (.inn x lo hi) (.inn x l h)))) H:=by
         have e:meetB bt B (.inn x lo hi) (.inn x l h)=(B||(bt x&&sideBy (.inn x lo hi) (.inn x l h))):=by show ((x==x)&&_)=_;rw [beq_self_eq_true,Bool.true_and];rfl
         exact e ▸ q
       refine hk _ _ (Zag fun k hk2=>?_);walk_at "vc";cases B with
       | true =>
         rw [if_pos rfl];exact q
       | false =>
         rw [if_neg Bool.false_ne_true,if_neg (by decide +kernel)];refine hk2 _ _ ?_;obtain ⟨kvs,hd,hc⟩:=hc;obtain ⟨c,z,hv,sc,_⟩:=hc x o1;walk_at "vc";refine ⟨_,f1,V.str x,rfl,_,hv ▸ DGet.k (k:=.inr x) hd,_,rfl,_,sc,V.str (kW (bt x)),rfl,rfl,?_⟩;cases b:bt x with
         | false =>
           rw [b] at q;rw [if_neg (by show ¬V.str (kW false)=_;rw [V.str.injEq];decide +kernel)];exact q
         | true =>
           rw [b] at q;rw [if_pos (show V.str (kW true)=V.str (Str.ofString "bits") from rfl)];have e:sideBy (.inn x lo hi) (.inn x l h)=(decide (lo≤h+1)&&decide (l≤hi+1)):=by show ((x==x)&&_)=_;rw [beq_self_eq_true,Bool.true_and]
           have q:Q (.bl (decide (lo≤h+1)&&decide (l≤hi+1))) H:=e ▸ q;refine ⟨_,f1,V.int lo,rfl,_,f2,V.int h,rfl,_,rfl,_,rfl,?_⟩;by_cases c1:lo≤h+1
           · rw [if_pos c1];rw [decide_eq_true c1,Bool.true_and] at q;exact ⟨_,f2,V.int l,rfl,_,f1,V.int hi,rfl,_,rfl,_,rfl,q⟩
           · rw [if_neg c1];rw [decide_eq_false c1,Bool.false_and] at q;exact q
     · rw [if_neg (fun e=>exy (V.str.inj e))];have e:meetB bt B (.inn x lo hi) (.inn y l h)=false:=by
         show ((x==y)&&_)=_;rw [beq_eq_false_iff_ne.mpr exy,Bool.false_and]
       exact e ▸ q
   | _ =>
     rw [if_neg (wdn _ rfl)];exact q
 | _ =>
   rw [if_neg (wdn _ rfl)];exact q
def goL (bt:Str→Bool)(A:Bool)(l ah:List T)(t:T):Bool :=
 !((if A=true then t.kd.isA else t.kd.isO)||((ah.any fun o=>o.eq t)||(l.any fun o=>o.eq (.opp t))))&&(!(t.parts.toL.any fun i=>ah.any fun o=>o.eq i)&&!(ah.any fun o=>meetB bt A o t))
mutual
def T.ln (tp:Str→Int)(bt:Str→Bool):T→Bool
 | .inn x lo hi=>inB tp x lo hi
 | .opp t=>t.kd.isW&&t.ln tp bt
 | .al ts=>decide (2≤ts.toL.length)&&(ts.ln tp bt&&((List.range ts.toL.length).all fun i=>goL bt true ts.toL (ts.toL.take i) (ts.toL[i]?.getD .ev)))
 | .on ts=>decide (2≤ts.toL.length)&&(ts.ln tp bt&&((List.range ts.toL.length).all fun i=>goL bt false ts.toL (ts.toL.take i) (ts.toL[i]?.getD .ev)))
 | _=>false
def Ts.ln (tp:Str→Int)(bt:Str→Bool):Ts→Bool
 | .nil=>true
 | .cons t r=>t.ln tp bt&&r.ln tp bt
end
theorem Ts.ln_all {tp:Str→Int}{bt:Str→Bool}:∀ ts:Ts,ts.ln tp bt=ts.toL.all (T.ln tp bt)
 | .nil=>rfl
 | .cons t r=>by
   show (t.ln tp bt&&r.ln tp bt)=(t.ln tp bt&&r.toL.all (T.ln tp bt))
   rw [Ts.ln_all r]
theorem ZdE {H:Hp}:∀ {us:List V} {ds:List PyData} (i:Nat),RdDs K H us ds→RdDs K H (us.take i) (ds.take i)
 | _,_,0,_=>by rw [List.take_zero,List.take_zero];exact .nil
 | _,_,i+1,.nil=>by rw [List.take_nil,List.take_nil];exact .nil
 | _,_,i+1,.cons h r=>.cons h (ZdE i r)
theorem Zem (l:List T)(u:T):((l.map T.dat).any fun e=>PyData.eqv e u.dat)=l.any fun o=>o.eq u:=by rw [List.any_map];exact congrArg l.any (funext fun o=>T.eqv_dat o u)
theorem Zdh {N:List Str}(hN:OkN N):∀ {l:List T},(∀ t∈l,t.ok N)→PyData.canLayAll0 (l.map T.dat)=true
 | [],_=>rfl
 | t::r,h=>by
   show (t.dat.canLay0&&PyData.canLayAll0 (r.map T.dat))=true;rw [T.lay hN t (h t (.head _)),Zdh hN fun u hu=>h u (.tail _ hu)];rfl
theorem wd_ao:∀ k l:Kd,(k.isA||k.isO)=true→decide (l.wd=k.wd)=(if k.isA=true then l.isA else l.isO):=fun k l=>by
 cases k<;>first | (intro h;cases h;done) | (intro _;cases l<;>(unfold Kd.wd;decide +kernel))
theorem wd_ao2:∀ l:Kd,(decide (l.wd=Str.ofString "all")||decide (l.wd=Str.ofString "one"))=(l.isA||l.isO):=fun l=>by
 cases l<;>(unfold Kd.wd;decide +kernel)
theorem compTr {H0 H1:Hp}{p:Addr}{xs:List V}{m:Nat}{caps:List Nat}{te:TE}{σ:L2.St}{Q:VK}(us:List T)(f:T→Bool)(hp:SqL K H1 p xs)(hu:RdDs K H0 xs (us.map T.dat))(lu:us.length≤1000)
   (he:∀ (i:Nat) u x H2 (R:VK),us[i]?=some u→TrAt K H0 u x→Same H1 H2→(∀ H3,Same H2 H3→R (.bl (f u)) H3)→te ((capSt m caps σ).set 0 (some x)) H2 R)
   (hq:∀ D H2,H1 D=none→Same H1 H2→SqL K H2 D ((us.map f).map V.bl)→Q (.ref D) H2):CompJ (Itl K p) m caps (gName 0) tNoTest te σ H1 Q:=by
 have ln:xs.length=us.length:=by rw [Za7 hu,List.length_map]
 refine compA (xs:=xs) (fun i y _=>∀ u,us[i]?=some u→y=.bl (f u)) (fun _ _ _ _ _ h=>h) hp (by omega) (fun i x H2 R hx s2 q2=>?_) (fun D ys H2 hD s2 h2 l2 h3=>?_)
 · have il:i<us.length:=by have:=(List.getElem?_eq_some_iff.mp hx).1;omega
   obtain ⟨d,e2,r⟩:=Zc7 hu hx;have eu:=List.getElem?_eq_getElem il;rw [List.getElem?_map,eu] at e2;cases e2;refine he i _ x H2 R eu r s2 fun H3 s3=>q2 _ H3 s3 fun u' eu'=>?_
   cases eu.symm.trans eu';rfl
 · have e:ys=(us.map f).map V.bl:=by
     refine List.ext_getElem (by rw [List.length_map,List.length_map,l2,ln]) fun i a1 a2=>?_
     rw [List.length_map,List.length_map] at a2;rw [h3 i _ (List.getElem?_eq_getElem a1) _ (List.getElem?_eq_getElem a2),List.getElem_map,List.getElem_map]
   exact hq D H2 hD s2 (SqL.of (e ▸ h2))
def spLn (K:PySem.W.Frag)(N:List Str)(tp:Str→Int)(bt:Str→Bool)(n:Nat):Sp:=fun vs H Q _=>∃ (t:T) (x:V) (d:Addr),vs=[x,.ref d]∧TrAt K H t x∧t.ok N∧t.dep<n∧LcAt K N tp bt H d∧∀ H',Same H H'→Q (.bl (t.ln tp bt)) H'
def Tv (tt:TT)(σ:L2.St)(H:Hp)(b:Bool):Prop:=∀ H1,Same H H1→∀ R:Bool→Hp→Prop,(∀ H2,Same H1 H2→R b H2)→tt σ H1 R
theorem Tv.B {te:TE}{σ:L2.St}{H:Hp}{b:Bool}(h:Vl te σ H (.bl b)):Tv (tB te) σ H b:=fun H1 s1 R r=>by
 rw [ZdD];exact h H1 s1 _ fun H2 s2=>⟨_,rfl,r H2 s2⟩
theorem Tv.T {te:TE}{σ:L2.St}{H:Hp}{b:Bool}(h:Vl te σ H (.bl b)):Tv (tTest te) σ H b:=fun H1 s1 R r=>by
 unfold tTest;exact h H1 s1 _ fun H2 s2=>⟨_,rfl,r H2 s2⟩
theorem Tv.or {ta tb:TT}{σ:L2.St}{H:Hp}{a b:Bool}(ha:Tv ta σ H a)(hb:a=false→Tv tb σ H b):Tv (tOr ta tb) σ H (a||b):=fun H1 s1 R r=>by
 rw [Zel];refine ha H1 s1 _ fun H2 s2=>?_
 cases a with
 | true=>exact r H2 s2
 | false=>exact hb rfl H2 (s1.trans s2) R fun H3 s3=>r H3 (s2.trans s3)
theorem Tv.not {ta:TT}{σ:L2.St}{H:Hp}{a:Bool}(ha:Tv ta σ H a):Tv (tNot ta) σ H (!a):=fun H1 s1 R r=>by
 rw [Zej];exact ha H1 s1 _ fun H2 s2=>r H2 s2
theorem ok_lnp (B:Blt mg) (hN:OkN N) (hn:n≤25) (h_l_top:FnAt P w K mg base "_law_top" ["_law_column"] 1 (spTop K)) (h_l_ranges_meet:FnAt P w K mg base "_law_ranges_meet" ["_law_one","_law_other","_law_columns_here","_law_word"] 1 (spMeet K N tp bt)) (h_l_neat_part:FnAt P w K mg base "_law_neat_part" ["_law_tree","_law_columns_here"] (n+2) (spLn K N tp bt n)) (d:DefAt K mg "_law_neat_part" Zba ["_law_tree","_law_columns_here"]):FnAt P w K mg base "_law_neat_part" ["_law_tree","_law_columns_here"] (n+3) (spLn K N tp bt (n+1)):=by
 refine FnAt.of d sc_l_neat_part (fun vs H Q E h=>?_) (fun f cdv A outer s H vs Q E hr h=>?_)
 · obtain ⟨t,x,d,rfl,_⟩:=h;rfl
 obtain ⟨t,x,d,rfl,ht,ot,dt,hc,q⟩:=h;refine ⟨_,(Zae (ZaD (Zar ZaT (Zap (Zan K) (pv 0) Zad (fun _ _=>rfl)) Zao (nomark _)) (Zae (Zaq (i:=2) sc_l_neat_part.nd rfl (by walk_at "l") (Zai h_l_top (hr.mono (by omega)) rfl (Zaa (Zbe (hu1 hr) (pv 1) (Zap (Zan K) (pv 0) Zad (fun _ _=>rfl)) (fun _ _=>rfl)) Zac)))
     (Zaf (Zam (ZaR (ZdS Zcn Zcn Zcn Zad (Zap (Zan K) (pv 0) Zad (fun _ _=>rfl)) (Zap (Zan K) (pv 0) Zad (fun _ _=>rfl)) (pv 2)) (ZaI (Zco (ZaS op_gt (Zap (Zan K) (pv 0) Zad (fun _ _=>rfl)) Zad (nomark _)) (ZaI (ZaS Zcl (Zap (Zan K) (pv 0) Zad (fun _ _=>rfl)) (pv 2) (nomark _))))))))) Zas)
     (Zae (ZaD (Zar ZaT (Zap (Zan K) (pv 0) Zad (fun _ _=>rfl)) Zao (nomark _)) (Zaf (Zam (ZaR (ZaS (Zer K (hu64 hr)) (Zap (Zan K) (Zap (Zan K) (pv 0) Zad (fun _ _=>rfl)) Zad (fun _ _=>rfl)) Zao (nomark _)) (ZaI (Zai h_l_neat_part (hr.mono (by omega)) rfl (Zaa (Zap (Zan K) (pv 0) Zad (fun _ _=>rfl)) (Zaa (pv 1) Zac))))))) Zas)
     (Zae (ZaD (PW.pt (Zcp (Zar ZaT (Zaj (ZaN K) rfl B.len PySem.boot_len (Zaa (pv 0) Zac)) Zad (nomark _)) (Zcv (Zar Zcl (Zaj (ZaN K) rfl B.len PySem.boot_len (Zaa (Zap (Zan K) (pv 0) Zad (fun _ _=>rfl)) Zac)) Zad (nomark _))))) (Zaf (Zam ZbO)) Zas)
     (Zae (ZbE PassesOwn.never rfl (pi_enl K rfl B.enumerate (Zaa (Zap (Zan K) (pv 0) Zad (fun _ _=>rfl)) Zac)) (ZeD K rfl (ZbS (Zav (i:=3) sc_l_neat_part.nd rfl (by walk_at "l")) (ZbS (Zav (i:=4) sc_l_neat_part.nd rfl (by walk_at "l")) ZeF))) (Zae (Zaq (i:=5) sc_l_neat_part.nd rfl (by walk_at "l") (ZbD (ZbR K) (Zap (Zan K) (pv 0) Zad (fun _ _=>rfl)) Zb1 (ZbZ (pv 3))))
     (Zae (ZaD (PW.pt (Zcp (Zar ZaT (Zap (Zan K) (pv 4) Zad (fun _ _=>rfl)) (Zap (Zan K) (pv 0) Zad (fun _ _=>rfl)) (nomark _)) (Zcp (ZfA (Zbk (Zai h_l_neat_part (hr.mono (by omega)) rfl (Zaa (pv 4) (Zaa (pv 1) Zac))))) (Zcp (Zar (Zfs K (hu64 hr)) (pv 4) (pv 5) (by with_unfolding_all rfl)) (Zcv (Zar (Zfs K (hu64 hr)) (ZaL (Zaa Zao (Zaa (pv 4) Zac))) (Zap (Zan K) (pv 0) Zad (fun _ _=>rfl)) (by with_unfolding_all rfl))))))) (Zaf (Zam ZbO)) Zas)
     (Zae (ZaD (PW.pt (Zcp (Zar ZaT (Zap (Zan K) (pv 4) Zad (fun _ _=>rfl)) Zao (nomark _)) (Zcv (Zar ZaT (Zap (Zan K) (pv 4) Zad (fun _ _=>rfl)) Zao (nomark _))))) (Zaf (ZaD (Zbk (Zaj (Zbp K) rfl B.any Zbn (Zaa (ZaZ ["_law_one"] [5] rfl (ZaP K (Zap (Zan K) (pv 4) Zad (fun _ _=>rfl))) (fun _ _ _ _ _=>Zav (i:=0) (by show List.Nodup (["_law_one","_law_ahead"]:List Str);decide +kernel) rfl (Or.inl rfl)) (fun _ _ _ _ _=>ZaW) (fun _ _ _ _ _=>(ZaS (Zfs K (hu64 hr)) (pv 0) (pv 1) (by with_unfolding_all rfl))) ⟨⟨_,rfl,rfl,.inl rfl⟩,trivial⟩ ZaE) Zac))) (Zaf (Zam ZbO)) Zas)) Zas)
     (Zaf (ZaD (Zbk (Zaj (Zbp K) rfl B.any Zbn (Zaa (ZaZ ["_law_one"] [4,1,0] rfl (ZaP K (pv 5)) (fun _ _ _ _ _=>Zav (i:=0) (by show List.Nodup (["_law_one","_law_part","_law_columns_here","_law_tree"]:List Str);decide +kernel) rfl (Or.inl rfl)) (fun _ _ _ _ _=>ZaW) (fun _ _ _ _ _=>(Zai h_l_ranges_meet (hr.mono (by omega)) rfl (Zaa (pv 0) (Zaa (pv 1) (Zaa (pv 2) (Zaa (Zap (Zan K) (pv 3) Zad (fun _ _=>rfl)) Zac)))))) ⟨⟨_,rfl,rfl,.inl rfl⟩,⟨⟨_,rfl,rfl,.inl rfl⟩,⟨⟨_,rfl,rfl,.inl rfl⟩,trivial⟩⟩⟩ ZaE) Zac))) (Zaf (Zam ZbO)) Zas))))))
     (Zaf (Zam ZbO)))))),?_⟩
 obtain ⟨p1,r1,rfl,e1,l1⟩:=TrAt.hd t ht;refine Zag fun k hk=>?_
 have w0:∀ (z:Str) (σ:L2.St) (H:Hp) (R:Bool→Hp→Prop),σ[0]?=some (some (.ref p1))→SqT K H p1 (.str t.wd::r1)→R (decide (t.wd=z)) H→tTest (tOp rEq (tOp (rIxT K) (tVar 0) (tC (V.int 0))) (tC (V.str z))) σ H R:=fun z σ H R e h r=>by
   unfold tTest;walk_at "vc";refine ⟨_,e,_,rfl,_,h,V.str t.wd,at0,rfl,?_⟩;rw [show decide (V.str t.wd=V.str z)=decide (t.wd=z) from decide_eq_decide.mpr (by rw [V.str.injEq])];exact r
 rw [Zbj];refine w0 _ _ _ _ rfl e1 ?_;by_cases hw:t.wd=Str.ofString "in"
 · rw [if_pos (decide_eq_true hw)]
   cases t with
   | inn x lo hi =>
     obtain ⟨_,z,f1⟩:=TrAt.inn ht;cases z;refine Zag fun k2 hk2=>?_
     obtain ⟨kvs,hd,hc⟩:=hc;obtain ⟨c,z,hv,sc,et,hz,hb⟩:=hc x ot;walk_at "vc";refine ⟨_,f1,V.str x,rfl,_,hv ▸ DGet.k (k:=.inr x) hd,c,bt x,z,rfl,sc,hz,hb,hk2 _ _ ?_⟩;rw [← et,Za9];refine Vl.and (H:=H) (a:=decide (0≤lo)&&(decide (lo≤hi)&&decide (hi≤tp x))) (b:=decide (0<lo)||decide (hi<tp x)) (fun H3 s3 R r=>?_) (fun _=>Vl.or (a:=decide (0<lo)) (b:=decide (hi<tp x)) (fun H3 s3 R r=>?_) (fun _ H3 s3 R r=>?_)) H (Same.refl _) _ q
     · walk_at "vc";have r:=r H3 (Same.refl _);have f1:=ZaB s3 f1;refine ⟨_,f1,V.int lo,rfl,_,rfl,?_⟩;by_cases c1:0≤lo
       · rw [if_pos c1];refine ⟨_,f1,V.int hi,rfl,_,rfl,_,rfl,?_⟩;by_cases c2:lo≤hi
         · rw [if_pos c2];rw [decide_eq_true c1,decide_eq_true c2] at r;exact ⟨_,rfl,r⟩
         · rw [if_neg c2];rw [decide_eq_true c1,decide_eq_false c2] at r;exact r
       · rw [if_neg c1];rw [decide_eq_false c1] at r;exact r
     · walk_at "vc";exact ⟨_,ZaB s3 f1,V.int lo,rfl,_,rfl,r H3 (Same.refl _)⟩
     · walk_at "vc";exact ⟨_,ZaB s3 f1,V.int hi,rfl,_,rfl,r H3 (Same.refl _)⟩
   | _=>exact absurd (congrArg V.str hw) (wd_in _ rfl)
 rw [if_neg (by rw [decide_eq_true_eq];exact hw),Zbb];refine hk _ _ (Zag fun k hk2=>?_);rw [Zbj];refine w0 _ _ _ _ rfl e1 ?_;by_cases hp:t.wd=Str.ofString "not"
 · rw [if_pos (decide_eq_true hp)]
   cases t with
   | opp t =>
     obtain ⟨_,u,z,f1,hu⟩:=TrAt.opp ht;cases z;obtain ⟨p2,r2,rfl,e2,_⟩:=TrAt.hd t hu;have dt:t.dep+1<n+1:=dt;rw [Za9];refine Vl.and (H:=H) (a:=t.kd.isW) (b:=t.ln tp bt) (fun H3 s3 R r=>?_) (fun _ H3 s3 R r=>?_) H (Same.refl _) _ q
     · walk_at "vc";refine ⟨_,ZaB s3 f1,V.ref p2,rfl,_,rfl,_,ZaB s3 e2,V.str t.wd,at0,.str t.wd,.str _,.str (Str.ofString "in"),.str _,?_,by decide +kernel,rfl,?_⟩
       · show (PyData.strOk t.wd&&true)=true;unfold T.wd;cases t.kd<;>decide +kernel
       · have e:PySem.Spec.same (.str t.wd) (.str (Str.ofString "in"))=t.kd.isW:=by
           unfold T.wd;cases t.kd<;>decide +kernel
         rw [e];exact r H3 (Same.refl _)
     · walk_at "vc";exact ⟨_,ZaB s3 f1,V.ref p2,rfl,t,_,_,rfl,TrAt.same s3 hu,ot,by omega,LcAt.same s3 hc,r⟩
   | _=>exact absurd hp (wd_not _ rfl)
 rw [if_neg (by rw [decide_eq_true_eq];exact hp),Zbb];refine hk2 _ _ (Zag fun k hk3=>?_);walk_at "vc";cases ha:t.kd.isA||t.kd.isO with
 | false =>
   have e0:t.ln tp bt=false∧(t.kd.isE||t.kd.isN)=true:=by
     cases t with
     | ev=>exact ⟨rfl,rfl⟩
     | no=>exact ⟨rfl,rfl⟩
     | inn x lo hi=>exact absurd rfl hw
     | opp t=>exact absurd rfl hp
     | al ts=>cases ha
     | on ts=>cases ha
   obtain ⟨_,z,f1⟩:=TrAt.leaf ht e0.2;cases z;refine ⟨_,.inr f1,?_⟩;rw [if_pos (by show ((1:Nat):Int)=1;rfl)];exact e0.1 ▸ q H (Same.refl _)
 | true =>
 obtain ⟨_,l,us,z,f1,hl,hu⟩:=TrAt.ao ht ha;cases z;have ln:=TrsAt.len hu;have en:t.ln tp bt=(decide (2≤t.parts.toL.length)&&(t.parts.ln tp bt&&((List.range t.parts.toL.length).all fun i=>goL bt t.kd.isA t.parts.toL (t.parts.toL.take i) (t.parts.toL[i]?.getD .ev)))):=by
   cases t with
   | al ts=>rfl
   | on ts=>rfl
   | _=>cases ha
 refine ⟨_,.inr f1,?_⟩;rw [if_neg (by show ¬((2:Nat):Int)=1;decide)];refine ⟨_,f1,V.ref l,rfl,_,rfl,_,.inl hl,?_⟩;by_cases c2:(us.length:Int)<2
 · rw [if_pos c2];rw [decide_eq_false (by omega),Bool.false_and] at en;exact en ▸ q H (Same.refl _)
 rw [if_neg c2];rw [decide_eq_true (by omega),Bool.true_and] at en;refine hk3 _ _ (Zag fun k hk4=>?_);walk_at "vc";refine ⟨_,f1,V.ref l,rfl,_,rfl,⟨_,hl⟩,?_⟩;have pl:=Zcd t ot;refine loopEL (K:=K) (xs:=us) (fun i σ H'=>(∃ v2 v3 v4 v5,σ=[some (.ref p1),some (.ref d),v2,v3,v4,v5])∧Same H H'∧∀ j<i,((t.parts.toL[j]?.getD .ev).ln tp bt&&goL bt t.kd.isA t.parts.toL (t.parts.toL.take j) (t.parts.toL[j]?.getD .ev))=true) ⟨⟨_,_,_,_,rfl⟩,Same.refl _,fun j h=>by omega⟩ (fun i σ H3 h=>h.2.1.seq hl) ?_ ?_
 · rintro i x T0 σ H3 hx nT ⟨⟨v2,v3,v4,v5,rfl⟩,sm,hi⟩;obtain ⟨u,eu,hu2⟩:=TrsAt.at hu hx;have s4:=sm.trans (Same.new (o:=.tup [V.int i,x]) nT);simp only [ZcG,Zb8,ZaQ,ZcF];refine ⟨T0,[V.int i,x],rfl,.inl (.inl Zab),rfl,_,_,rfl,_,_,rfl,rfl,?_⟩;generalize upd H3 T0 (HO.tup [V.int i,x])=H4 at s4;have il:i<us.length:=(List.getElem?_eq_some_iff.mp hx).1;have bad:((u.ln tp bt&&goL bt t.kd.isA t.parts.toL (t.parts.toL.take i) u)=false)→∀ H',Same H H'→Q (.bl false) H':=fun hb H' s=>by
     have e:t.ln tp bt=false:=by
       rw [en,Ts.ln_all];cases hl:u.ln tp bt with
       | false =>
         rw [show t.parts.toL.all (T.ln tp bt)=false from by
           rw [List.all_eq_false];exact ⟨u,List.mem_of_getElem? eu,by rw [hl];exact Bool.false_ne_true⟩,Bool.false_and]
       | true =>
         rw [hl,Bool.true_and] at hb;rw [show ((List.range t.parts.toL.length).all fun i=>goL bt t.kd.isA t.parts.toL (t.parts.toL.take i) (t.parts.toL[i]?.getD .ev))=false from by
           rw [List.all_eq_false];refine ⟨i,List.mem_range.mpr (by omega),?_⟩;rw [eu];show ¬goL bt t.kd.isA t.parts.toL (t.parts.toL.take i) u=true;rw [hb];exact Bool.false_ne_true,Bool.and_false]
     exact e ▸ q H' s
   refine Zag fun k5 hk5=>?_
   walk_at "vc";refine ⟨_,ZaB s4 f1,V.ref l,rfl,_,rfl,_,s4.seq hl,fun p5 n5=>hk5 _ _ ?_⟩;rw [Zdg us (by omega)];have s5:=s4.trans (Same.new (o:=.lst (us.take i)) n5);have h5:upd H4 p5 (.lst (us.take i)) p5=some (.lst (us.take i)):=Zab;generalize upd H4 p5 (.lst (us.take i))=H5 at s5 h5;have allok:∀ o∈t.parts.toL,o.ok N:=fun o ho=>by
     obtain ⟨j,hj⟩:=List.getElem?_of_mem ho;exact Zbl _ hj (ZaU t ot)
   have ou:=allok u (List.mem_of_getElem? eu);have du:=Zbh t u eu;have dd:=T.depth u;obtain ⟨p6,r6,rfl,e6,_⟩:=TrAt.hd u hu2;have hah:RdDs K H (us.take i) ((t.parts.toL.take i).map T.dat):=by have:=ZdE i hu;rw [Ts.dat_map,← List.map_take] at this;exact this
   refine Zag fun k6 hk6=>?_
   rw [Zbj];refine Tv.or (H:=H5) (a:=decide (u.wd=t.wd)) (Tv.T fun H6 s6 R r=>?_) (fun _=>Tv.or (a:=!u.ln tp bt) (Tv.not (Tv.B fun H6 s6 R r=>?_)) (fun _=>Tv.or (a:=(t.parts.toL.take i).any fun o=>o.eq u) (b:=t.parts.toL.any fun o=>o.eq (.opp u)) (Tv.T fun H6 s6 R r=>?_) (fun _=>Tv.T fun H6 s6 R r=>?_))) H5 (Same.refl _) _ fun H6 s6=>?_
   · walk_at "vc";refine ⟨_,ZaB (s5.trans s6) e6,V.str u.wd,at0,_,ZaB (s5.trans s6) e1,V.str t.wd,at0,rfl,?_⟩;rw [show decide (V.str u.wd=V.str t.wd)=decide (u.wd=t.wd) from decide_eq_decide.mpr (by rw [V.str.injEq])];exact r H6 (Same.refl _)
   · walk_at "vc";exact ⟨u,_,_,rfl,TrAt.same (s5.trans s6) hu2,ou,by omega,LcAt.same (s5.trans s6) hc,r⟩
   · walk_at "vc";refine ⟨u.dat,TrAt.same (s5.trans s6) hu2,_,SqL.of (s6 _ _ h5),_,rdDs_same (s5.trans s6) hah,Zdh hN fun o ho=>allok o (List.mem_of_mem_take ho),T.lay hN u ou,by omega,?_⟩;rw [Zem];exact r H6 (Same.refl _)
   · walk_at "vc";refine ⟨by decide,fun p7 n7=>?_⟩;have s7:=Same.new (o:=.tup [V.str (Str.ofString "not"),V.ref p6]) n7;have s8:=(s5.trans s6).trans s7;refine ⟨_,ZaB s8 f1,V.ref l,rfl,_,rfl,(T.opp u).dat,.tup (.inl (.inl Zab)) (.cons (.str _) (.cons (TrAt.same s8 hu2) .nil)),_,s8.seq hl,_,rdDs_same s8 hu,Ts.lay hN _ (ZaU t ot),T.lay hN (.opp u) ou,?_,?_⟩
     · have:=T.depth (.opp u);have e:(T.opp u).dep=u.dep+1:=rfl;omega
     · rw [Ts.dat_map,Zem];exact r _ s7
   have s7:=s5.trans s6;have e7:decide (u.wd=t.wd)=(if t.kd.isA=true then u.kd.isA else u.kd.isO):=wd_ao t.kd u.kd ha;rw [e7];cases a1:((if t.kd.isA=true then u.kd.isA else u.kd.isO)||(!u.ln tp bt||(((t.parts.toL.take i).any fun o=>o.eq u)||t.parts.toL.any fun o=>o.eq (.opp u)))) with
   | true =>
     rw [if_pos rfl];walk_at "vc";refine bad ?_ H6 s7;unfold goL;revert a1;generalize (if t.kd.isA=true then u.kd.isA else u.kd.isO)=x1;generalize u.ln tp bt=x2;generalize ((t.parts.toL.take i).any fun o=>o.eq u)=x3;generalize (t.parts.toL.any fun o=>o.eq (.opp u))=x4;cases x1<;>cases x2<;>cases x3<;>cases x4<;>first | (intro h;cases h;done) | (intro _;rfl)
   | false =>
   rw [if_neg Bool.false_ne_true,Zbb];have l2:u.ln tp bt=true∧goL bt t.kd.isA t.parts.toL (t.parts.toL.take i) u=(!(u.parts.toL.any fun i1=>(t.parts.toL.take i).any fun o=>o.eq i1)&&!((t.parts.toL.take i).any fun o=>meetB bt t.kd.isA o u)):=by unfold goL;revert a1;generalize (if t.kd.isA=true then u.kd.isA else u.kd.isO)=x1;generalize u.ln tp bt=x2;generalize ((t.parts.toL.take i).any fun o=>o.eq u)=x3;generalize (t.parts.toL.any fun o=>o.eq (.opp u))=x4;cases x1<;>cases x2<;>cases x3<;>cases x4<;>first | (intro h;cases h;done) | (intro _;exact ⟨rfl,rfl⟩)
   rw [l2.1,l2.2,Bool.true_and] at bad;refine hk6 _ _ (Zag fun k7 hk7=>?_);have last:(u.parts.toL.any fun i1=>(t.parts.toL.take i).any fun o=>o.eq i1)=false→∀ H7,Same H5 H7→k7 [some (.ref p1),some (.ref d),v2,some (V.int i),some (V.ref p6),some (V.ref p5)] H7:=fun z H7 sz=>by
     refine hk7 _ _ ?_;rw [z,Bool.not_false,Bool.true_and] at bad l2;have s8:=s5.trans sz;walk_at "vc";have h8:=sz _ _ h5;have wt:t.wd=(if t.kd.isA=true then Str.ofString "all" else Str.ofString "one"):=by
       cases t with
       | al ts=>rfl
       | on ts=>rfl
       | _=>cases ha
     refine ⟨⟨_,SqL.of h8⟩,compTr (t.parts.toL.take i) (fun o=>meetB bt t.kd.isA o u) (SqL.of h8) hah (by rw [List.length_take];omega) (fun j o y H9 R eo ho s9 r=>?_) (fun D H9 nD s9 hD=>⟨D,rfl,_,hD,?_⟩)⟩
     · have s10:=s8.trans s9;walk_at "vc";refine ⟨_,ZaB s10 e1,V.str t.wd,at0,o,u,_,_,d,t.kd.isA,?_,TrAt.same s10 ho,TrAt.same s10 hu2,allok o (List.mem_of_mem_take (List.mem_of_getElem? eo)),ou,LcAt.same s10 hc,r H9 (Same.refl _)⟩;rw [wt]
     · rw [ZcY]
       cases m1:(t.parts.toL.take i).any fun o=>meetB bt t.kd.isA o u with
       | true =>
         rw [if_pos rfl];rw [m1] at bad;exact bad rfl H9 (s8.trans s9)
       | false =>
         rw [if_neg Bool.false_ne_true];refine ⟨s8.trans s9,fun j hj=>?_⟩;by_cases c:j<i
         · exact hi j c
         · have:j=i:=by omega
           subst this;rw [eu];show (u.ln tp bt&&goL bt t.kd.isA t.parts.toL (t.parts.toL.take j) u)=true;rw [l2.1,l2.2,m1];rfl
   rw [Zbj];refine Tv.or (H:=H5) (a:=decide (u.wd=Str.ofString "all")) (b:=decide (u.wd=Str.ofString "one")) (Tv.T fun H6 s6 R r=>?_) (fun _=>Tv.T fun H6 s6 R r=>?_) H6 s6 _ fun H7 s8=>?_
   · walk_at "vc";refine ⟨_,ZaB (s5.trans s6) e6,V.str u.wd,at0,rfl,?_⟩;rw [show decide (V.str u.wd=V.str (Str.ofString "all"))=decide (u.wd=Str.ofString "all") from decide_eq_decide.mpr (by rw [V.str.injEq])];exact r H6 (Same.refl _)
   · walk_at "vc";refine ⟨_,ZaB (s5.trans s6) e6,V.str u.wd,at0,rfl,?_⟩;rw [show decide (V.str u.wd=V.str (Str.ofString "one"))=decide (u.wd=Str.ofString "one") from decide_eq_decide.mpr (by rw [V.str.injEq])];exact r H6 (Same.refl _)
   rw [show (decide (u.wd=Str.ofString "all")||decide (u.wd=Str.ofString "one"))=(u.kd.isA||u.kd.isO) from wd_ao2 u.kd];have s9:=s7.trans s8;cases hb:u.kd.isA||u.kd.isO with
   | false =>
     rw [if_neg Bool.false_ne_true,Zbb];refine last ?_ H7 (s6.trans s8);cases u with
     | al ts=>cases hb
     | on ts=>cases hb
     | _=>rfl
   | true =>
   rw [if_pos rfl];obtain ⟨_,l3,us3,z,g1,hl3,hu3⟩:=TrAt.ao hu2 hb;cases z;walk_at "vc";have hl3':=s9.seq hl3;refine ⟨_,ZaB s9 g1,V.ref l3,rfl,_,rfl,⟨_,hl3'⟩,compTr u.parts.toL (fun i1=>(t.parts.toL.take i).any fun o=>o.eq i1) hl3' (show RdDs K H us3 (u.parts.toL.map T.dat) from Ts.dat_map u.parts ▸ (show RdDs K H us3 u.parts.dat from hu3)) (Zcd u ou) (fun j o y H9 R eo ho s10 r=>?_) (fun D H9 nD s10 hD=>⟨D,rfl,_,hD,?_⟩)⟩
   · have s11:=s9.trans s10;have oo:=Zbl _ eo (ZaU u ou);have do1:=Zbh u o eo;have:=T.depth o;walk_at "vc";refine ⟨o.dat,TrAt.same s11 ho,_,SqL.of (((s6.trans s8).trans s10) _ _ h5),_,rdDs_same s11 hah,Zdh hN fun o ho=>allok o (List.mem_of_mem_take ho),T.lay hN o oo,by omega,?_⟩;rw [Zem];exact r H9 (Same.refl _)
   · rw [ZcY];cases m1:u.parts.toL.any fun i1=>(t.parts.toL.take i).any fun o=>o.eq i1 with
     | true =>
       rw [if_pos rfl];rw [m1] at bad;exact bad rfl H9 (s9.trans s10)
     | false =>
       rw [if_neg Bool.false_ne_true];exact last m1 H9 ((s6.trans s8).trans s10)
 · rintro σ H3 ⟨⟨v2,v3,v4,v5,rfl⟩,sm,hi⟩;refine hk4 _ _ ?_;walk_at "vc";have e:t.ln tp bt=true:=by
     rw [en,Bool.and_eq_true];refine ⟨?_,?_⟩
     · rw [Ts.ln_all,List.all_eq_true];intro u hu;obtain ⟨j,hj⟩:=List.getElem?_of_mem hu;have jl:j<t.parts.toL.length:=(List.getElem?_eq_some_iff.mp hj).1;have:=((Bool.and_eq_true _ _).mp (hi j (by omega))).1;rw [hj] at this;exact this
     · rw [List.all_eq_true];intro j hj;rw [List.mem_range] at hj;exact ((Bool.and_eq_true _ _).mp (hi j (by omega))).2
   exact e ▸ q H3 sm
theorem ok_lnps (B:Blt mg)(hN:OkN N)(h_l_top:FnAt P w K mg base "_law_top" ["_law_column"] 1 (spTop K))(h_l_ranges_meet:FnAt P w K mg base "_law_ranges_meet" ["_law_one","_law_other","_law_columns_here","_law_word"] 1 (spMeet K N tp bt))(d:DefAt K mg "_law_neat_part" Zba ["_law_tree","_law_columns_here"]):∀ n,n≤26→FnAt P w K mg base "_law_neat_part" ["_law_tree","_law_columns_here"] (n+2) (spLn K N tp bt n):=by
 intro n;induction n with
 | zero=>exact fun _=>FnAt.of d sc_l_neat_part (fun vs H Q E h=>by obtain ⟨t,x,d,rfl,_⟩:=h;rfl) (fun f cdv A outer s H vs Q E hr h=>by obtain ⟨t,x,d,rfl,_,_,h,_⟩:=h;omega)
 | succ n ih=>exact fun h=>ok_lnp B hN (by omega) h_l_top h_l_ranges_meet (ih (by omega)) d
def T.lnQ (tp:Str→Int)(bt:Str→Bool)(t:T):Bool:=(t.kd.isE||t.kd.isN)||t.ln tp bt
def spLnQ (K:PySem.W.Frag)(N:List Str)(tp:Str→Int)(bt:Str→Bool)(n:Nat):Sp:=fun vs H Q _=>∃ (t:T) (x:V) (d:Addr),vs=[x,.ref d]∧TrAt K H t x∧t.ok N∧t.dep<n∧LcAt K N tp bt H d∧∀ H',Same H H'→Q (.bl (t.lnQ tp bt)) H'
end
theorem ZeC (t u:T):oneName t u=oneName u t:=by cases t<;>cases u<;>first | rfl | exact Bool.beq_comm
theorem ZeI (t u:T):sideBy t u=sideBy u t:=by
 cases t with
 | inn x l h =>
   cases u with
   | inn y a b =>
     show ((x==y)&&(decide (l≤b+1)&&decide (a≤h+1)))=((y==x)&&(decide (a≤h+1)&&decide (l≤b+1)))
     rw [Bool.and_comm (decide (a≤h+1)),show (x==y)=(y==x) from Bool.beq_comm]
   | _=>rfl
 | _=>cases u<;>rfl
theorem meet_all (bt:Str→Bool)(o t:T):meetB bt true o t=oneName t o:=by unfold meetB;rw [Bool.true_or,Bool.and_true,ZeC]
theorem meet_one (bt:Str→Bool) (o t:T):meetB bt false o t=(bt t.nm&&sideBy t o):=by
 unfold meetB;rw [Bool.false_or];cases o with
 | inn x l h =>
   cases t with
   | inn y a b =>
     show ((x==y)&&(bt x&&sideBy (.inn x l h) (.inn y a b)))=(bt y&&sideBy (.inn y a b) (.inn x l h))
     rw [ZeI (.inn y a b)];by_cases e:x=y
     · subst e;rw [beq_self_eq_true,Bool.true_and]
     · show _=(bt y&&((x==y)&&_))
       rw [beq_eq_false_iff_ne.mpr e,Bool.false_and,Bool.false_and,Bool.and_false]
   | _=>exact (Bool.and_false _).symm
 | _=>cases t<;>exact (Bool.and_false _).symm
theorem ZcA (t u:T):oppB t u=true↔t=.opp u:=by
 cases t with
 | opp s =>
   show s.eq u=true↔_;rw [T.eq_iff,T.opp.injEq]
 | _=>exact ⟨fun h=>(by cases h),fun h=>(by cases h)⟩
def rest (bt:Str→Bool)(A:Bool)(ah:List T)(t:T):Bool:=!(ah.any (t.eq ·))&&(!(t.parts.toL.any fun i=>ah.any (i.eq ·))&&(if A=true then !t.kd.isA&&!ah.any (oneName t) else if (t.kd.isW&&!bt t.nm)=true then true else !t.kd.isO&&!ah.any (sideBy t)))
theorem Zgr (f g:T→Bool):∀ l:List T,(l.any fun o=>f o||g o)=(l.any f||l.any g)
 | []=>rfl
 | x::r=>by
   rw [List.any_cons,List.any_cons,List.any_cons,Zgr f g r];cases f x<;>cases g x<;>simp
theorem Zfu (bt:Str→Bool)(A:Bool)(ah:List T)(t:T):goB bt A ah t=(!(ah.any fun o=>oppB t o||oppB o t)&&rest bt A ah t):=by unfold goB rest;rw [Zgr (t.eq ·) (fun o=>oppB t o||oppB o t)];cases ah.any (t.eq ·)<;>cases ah.any fun o=>oppB t o||oppB o t<;>rfl
theorem eq_opp (o t:T):o.eq (.opp t)=oppB o t:=by rw [Bool.eq_iff_iff,T.eq_iff,ZcA]
theorem ZfF (bt:Str→Bool) (A:Bool) (l ah:List T) (t:T):goL bt A l ah t=(!(l.any fun o=>oppB o t)&&rest bt A ah t):=by
 unfold goL rest;have e1:(ah.any fun o=>o.eq t)=ah.any (t.eq ·):=congrArg ah.any (funext fun o=>T.eq_comm o t);have e2:(l.any fun o=>o.eq (.opp t))=l.any fun o=>oppB o t:=congrArg l.any (funext fun o=>eq_opp o t)
 have e3:(t.parts.toL.any fun i=>ah.any fun o=>o.eq i)=t.parts.toL.any fun i=>ah.any (i.eq ·):=congrArg t.parts.toL.any (funext fun i=>congrArg ah.any (funext fun o=>T.eq_comm o i))
 rw [e1,e2,e3]
 have e4 : (!(if A=true then t.kd.isA else t.kd.isO)&&!(ah.any fun o=>meetB bt A o t))=(if A=true then !t.kd.isA&&!ah.any (oneName t) else if (t.kd.isW&&!bt t.nm)=true then true else !t.kd.isO&&!ah.any (sideBy t)):=by
   cases A with
   | true =>
     rw [if_pos rfl,if_pos rfl,show (ah.any fun o=>meetB bt true o t)=ah.any (oneName t) from congrArg ah.any (funext fun o=>meet_all bt o t)]
   | false =>
     rw [if_neg Bool.false_ne_true,if_neg Bool.false_ne_true,show (ah.any fun o=>meetB bt false o t)=ah.any fun o=>bt t.nm&&sideBy t o from congrArg ah.any (funext fun o=>meet_one bt o t)];have nW:t.kd.isW=false→∀ o,sideBy t o=false:=fun h o=>by
       cases t with
       | inn x l h=>cases h
       | _=>rfl
     cases b:bt t.nm with
     | true =>
       rw [show (t.kd.isW&&!true)=false from Bool.and_false _,if_neg Bool.false_ne_true,show (ah.any fun o=>true&&sideBy t o)=ah.any (sideBy t) from congrArg ah.any (funext fun o=>Bool.true_and _)]
     | false =>
       have e5:(ah.any fun o=>false&&sideBy t o)=false:=by rw [List.any_eq_false];intro o _;exact Bool.false_ne_true
       rw [e5];cases hw:t.kd.isW with
       | true =>
         rw [if_pos (show (true&&!false)=true from rfl)];cases t with
         | inn x l h=>rfl
         | _=>cases hw
       | false =>
         rw [show (false&&!false)=false from rfl,if_neg Bool.false_ne_true,show ah.any (sideBy t)=false from by
           rw [List.any_eq_false];intro o _;rw [nW hw o];exact Bool.false_ne_true]
 rw [← e4];generalize (if A=true then t.kd.isA else t.kd.isO)=a;generalize ah.any (t.eq ·)=b;generalize (l.any fun o=>oppB o t)=c;generalize (t.parts.toL.any fun i=>ah.any (i.eq ·))=d;generalize (ah.any fun o=>meetB bt A o t)=e;cases a<;>cases b<;>cases c<;>cases d<;>cases e<;>rfl
theorem opp_ne (t:T):T.opp t≠t:=fun h=>by
 have:=congrArg T.dep h;have:t.dep+1=t.dep:=this;omega
theorem all_go (bt:Str→Bool)(A:Bool)(l:List T):goAll bt A l=((List.range l.length).all fun i=>goL bt A l (l.take i) (l[i]?.getD .ev)):=by
 unfold goAll;rw [List.all_map,Bool.eq_iff_iff,List.all_eq_true,List.all_eq_true];have tk:∀ {i j:Nat} {o:T},(l.take i)[j]?=some o→j<i∧l[j]?=some o:=fun {i j o} e=>by
   rw [List.getElem?_take] at e;split at e
   · rename_i c
     exact ⟨c,e⟩
   · cases e
 constructor
 · intro h i hi;have h1:goB bt A (l.take i) (l[i]?.getD .ev)=true:=h i hi;rw [Zfu,Bool.and_eq_true] at h1;rw [ZfF,Bool.and_eq_true];refine ⟨?_,h1.2⟩;rw [List.mem_range] at hi;rw [Bool.not_eq_true',List.any_eq_false];intro o ho e;rw [ZcA] at e;obtain ⟨j,hj⟩:=List.getElem?_of_mem ho;have li:l[i]?=some l[i]:=List.getElem?_eq_getElem hi;rw [li] at e h1;have e:o=.opp l[i]:=e;rcases Nat.lt_trichotomy j i with c | c | c
   · have:=h1.1;rw [Bool.not_eq_true',List.any_eq_false] at this;have mem:o∈l.take i:=List.mem_of_getElem? (show (l.take i)[j]?=some o by rw [List.getElem?_take,if_pos c];exact hj);exact this o mem (by rw [Bool.or_eq_true];exact .inr ((ZcA _ _).mpr e))
   · subst c;rw [li] at hj;cases hj;exact opp_ne _ e.symm
   · have hjl:j<l.length:=(List.getElem?_eq_some_iff.mp hj).1;have h2:goB bt A (l.take j) (l[j]?.getD .ev)=true:=h j (List.mem_range.mpr hjl);rw [Zfu,Bool.and_eq_true,hj] at h2;have:=h2.1;rw [Bool.not_eq_true',List.any_eq_false] at this;have mem:l[i]∈l.take j:=List.mem_of_getElem? (show (l.take j)[i]?=some l[i] by rw [List.getElem?_take,if_pos c];exact li);exact this l[i] mem (by rw [Bool.or_eq_true];exact .inl ((ZcA _ _).mpr e))
 · intro h i hi;have h1:goL bt A l (l.take i) (l[i]?.getD .ev)=true:=h i hi;rw [ZfF,Bool.and_eq_true] at h1;show goB bt A (l.take i) (l[i]?.getD .ev)=true;rw [Zfu,Bool.and_eq_true];refine ⟨?_,h1.2⟩;rw [List.mem_range] at hi;have li:l[i]?=some l[i]:=List.getElem?_eq_getElem hi;rw [li] at h1 ⊢;rw [Bool.not_eq_true',List.any_eq_false];intro o ho e;obtain ⟨j,hj⟩:=List.getElem?_of_mem ho;obtain ⟨c,hj⟩:=tk hj;rcases (Bool.or_eq_true _ _).mp e with e | e
   · have hjl:j<l.length:=(List.getElem?_eq_some_iff.mp hj).1;have h2:goL bt A l (l.take j) (l[j]?.getD .ev)=true:=h j (List.mem_range.mpr hjl);rw [ZfF,Bool.and_eq_true,hj] at h2;have:=h2.1;rw [Bool.not_eq_true',List.any_eq_false] at this;exact this l[i] (List.getElem_mem hi) e
   · have:=h1.1;rw [Bool.not_eq_true',List.any_eq_false] at this;exact this o (List.mem_of_getElem? hj) e
mutual
theorem T.ln_neat (tp:Str→Int)(bt:Str→Bool):∀ t:T,t.neat tp bt=t.ln tp bt
 | .ev=>rfl
 | .no=>rfl
 | .inn _ _ _=>rfl
 | .opp t=>by
   show (t.kd.isW&&t.neat tp bt)=(t.kd.isW&&t.ln tp bt)
   rw [T.ln_neat tp bt t]
 | .al ts=>by
   show (_&&(ts.neat tp bt&&goAll bt true ts.toL))=(_&&(ts.ln tp bt&&_))
   rw [Ts.ln_neat tp bt ts,all_go]
 | .on ts=>by
   show (_&&(ts.neat tp bt&&goAll bt false ts.toL))=(_&&(ts.ln tp bt&&_))
   rw [Ts.ln_neat tp bt ts,all_go]
theorem Ts.ln_neat (tp:Str→Int)(bt:Str→Bool):∀ ts:Ts,ts.neat tp bt=ts.ln tp bt
 | .nil=>rfl
 | .cons t r=>by
   show (t.neat tp bt&&r.neat tp bt)=(t.ln tp bt&&r.ln tp bt)
   rw [T.ln_neat tp bt t,Ts.ln_neat tp bt r]
end
abbrev letS:Str:=Str.ofString "abcdefghijklmnopqrstuvwxyz"
abbrev conS:Str:=Str.ofString "bcdfghjkmpqvwxz"
def ws8:List V:=[.str (Str.ofString "and"),.str (Str.ofString "or"),.str (Str.ofString "not"),.str (Str.ofString "all"),.str (Str.ofString "none"),.str (Str.ofString "is"),.str (Str.ofString "from"),.str (Str.ofString "to")]
theorem small5 {n:Nat}(h:n≤100000):n≤sizeLine:=Nat.le_trans h (by decide)
theorem flat8:ws8.all flatV=true:=by decide
def ltr (x:Int):Nat:=97+(x%26).toNat
theorem ltr_at (x:Int):atI letS.cps.toList (x%26)=some (ltr x)∧ltr x∈letS.cps.toList:=by
 have h0:=Int.emod_nonneg x (b:=26) (by decide);have h1:=Int.emod_lt_of_pos x (b:=26) (by decide);obtain ⟨n,e⟩:=Int.eq_ofNat_of_zero_le h0;have hn:n<26:=by omega
 have k:∀ m:Fin 26,letS.cps.toList[m.val]?=some (97+m.val):=by decide +kernel
 have hk:=k ⟨n,hn⟩;unfold ltr;rw [e,Int.toNat_natCast];exact ⟨ZaV hk,List.mem_of_getElem? hk⟩
def cds (c:Int)(m a k:Nat):List Nat:=(List.range m).map fun (j:Nat)=>ltr (mixI c (902+(j:Int))+(k:Int)*(if (j:Int)=(a:Int) then 1 else 0))
def wk (c:Int)(m a k:Nat):Str:=⟨(cds c m a k).toArray⟩
theorem wk_len (c:Int)(m a k:Nat):(wk c m a k).length=m:=by show (cds c m a k).toArray.size=m;rw [List.size_toArray];unfold cds;rw [List.length_map,List.length_range]
def OkS (w:Str):Prop:=∀ c∈w.cps.toList,c<1114112
theorem OkS.ok {w:Str}(h:OkS w):PyData.strOk w=true:=by unfold PyData.strOk;rw [Array.all_eq_true];intro i hi;exact decide_eq_true (h _ (by rw [Array.mem_toList_iff];exact Array.getElem_mem hi))
theorem wk_ok (c:Int)(m a k:Nat):OkS (wk c m a k):=fun x hx=>by
 have hx:x∈cds c m a k:=hx;unfold cds at hx;obtain ⟨j,_,rfl⟩:=List.mem_map.mp hx;have k:∀ x∈letS.cps.toList,x<1114112:=by decide +kernel
 exact k _ (ltr_at _).2
def nmX (w:Str):Str:=if inV (.str w) ws8=true then w++Str.ofString "x" else w
theorem nmX_ok {w:Str}(h:OkS w):OkS (nmX w):=by
 unfold nmX;split
 · intro c hc;have f:(w++Str.ofString "x").cps.toList=w.cps.toList++(Str.ofString "x").cps.toList:=by
     show (w.cps++(Str.ofString "x").cps).toList=_;exact Array.toList_append
   rw [f] at hc;rcases List.mem_append.mp hc with hc | hc
   · exact h c hc
   · have k:∀ x∈(Str.ofString "x").cps.toList,x<1114112:=by decide +kernel
     exact k c hc
 · exact h
theorem slice_ok {w:Str}(lo hi:Option Int)(h:OkS w):OkS (Txt.slice w lo hi):=by
 unfold Txt.slice;split
 · exact h
 · intro c hc;obtain ⟨i,_,e⟩:=List.mem_filterMap.mp hc;refine h c ?_;rw [Array.mem_toList_iff];exact Array.mem_of_getElem? e
def con (x:Int):Nat:=conS.cps.toList.getD (x%15).toNat 0
theorem con_at (x:Int):atI conS.cps.toList (x%15)=some (con x)∧con x<1114112:=by
 have h0:=Int.emod_nonneg x (b:=15) (by decide);have h1:=Int.emod_lt_of_pos x (b:=15) (by decide);obtain ⟨n,e⟩:=Int.eq_ofNat_of_zero_le h0;have hn:n<15:=by omega
 have k:∀ m:Fin 15,conS.cps.toList[m.val]?=some (conS.cps.toList.getD m.val 0)∧conS.cps.toList.getD m.val 0<1114112:=by decide +kernel
 have hk:=k ⟨n,hn⟩;unfold con;rw [e,Int.toNat_natCast];exact ⟨ZaV hk.1,hk.2⟩
theorem join1 (ls:List Nat):Txt.join (Str.ofString "") (ls.map fun k=>(⟨#[k]⟩:Str))=⟨ls.toArray⟩:=(eq_of_beq (join_closes rfl)).trans (join_ones ls)
theorem sum1:∀ ls:List Nat,((ls.map fun k=>(⟨#[k]⟩:Str)).map (·.length)).sum=ls.length
 | []=>rfl
 | k::r=>by
   have:=sum1 r;have h1:(⟨#[k]⟩:Str).length=1:=rfl;simp only [List.map_cons,List.sum_cons,List.length_cons] at this ⊢;omega
def fX (v:V):V:=match v with | .str w=>.str (nmX w) | v=>v
structure NmI (c:Int)(m a:Nat)(p:Addr)(H:Hp)(i:Nat)(σ:L2.St)(H':Hp):Prop where
 ex:∃ v5 v6 v7 v8,σ=[some (.int c),some (.str letS),some (.int (m:Int)),some (.int (a:Int)),some (.ref p),v5,v6,v7,v8]
 hp:H' p=some (.lst ((List.range i).map fun k=>V.str (wk c m a k)))
 sm:Same H H'
def spNm:Sp:=fun vs H Q _=>∃ c:Int,vs=[.int c]∧∀ (p:Addr) (N:List Str) (H':Hp),Same H H'→H' p=some (.lst (N.map V.str))→N.length=5→OkN N→Q (.ref p) H'
section
variable {P:Program}{w:World}{K:PySem.W.Frag}{mg:Str→Option Value}{base:Heap}
theorem ZfI (B:Blt mg) (h_l_mixed:FnAt P w K mg base "_law_mixed" ["_law_cell","_law_k"] 1 spMixed) (d:DefAt K mg "_law_names" Zce ["_law_cell"]):FnAt P w K mg base "_law_names" ["_law_cell"] 2 spNm:=by
 refine FnAt.of d sc_l_names (fun vs H Q E h=>?_) (fun f cdv A outer s H vs Q E hr h=>?_)
 · obtain ⟨c,rfl,_⟩:=h;rfl
 obtain ⟨c,rfl,q⟩:=h;refine ⟨_,(Zae (Zaq (i:=1) sc_l_names.nd rfl (by walk_at "l") Zao)
     (Zae (Zaq (i:=2) sc_l_names.nd rfl (by walk_at "l") (Zal ZaJ Zad (Zal ZaA (Zai h_l_mixed (hr.mono (by decide)) rfl (Zaa (pv 0) (Zaa Zad Zac))) Zad)))
     (Zae (Zaq (i:=3) sc_l_names.nd rfl (by walk_at "l") (Zal ZaA (Zai h_l_mixed (hr.mono (by decide)) rfl (Zaa (pv 0) (Zaa Zad Zac))) (pv 2)))
     (Zae (Zaq (i:=4) sc_l_names.nd rfl (by walk_at "l") (ZaG Zac))
     (Zae (ZbE PassesOwn.never rfl (Zbg rfl B.range (Zaa Zad Zac)) (Zav (i:=5) sc_l_names.nd rfl (by walk_at "l")) (Zae (Zct (i:=6) ["_law_j"] [1,0,5,3] sc_l_names.nd rfl (by walk_at "l") rfl (Zbg rfl B.range (Zaa (pv 2) Zac)) (fun _ _ _ _ _=>Zav (i:=0) (by show List.Nodup (["_law_j","_law_letters","_law_cell","_law_k","_law_at"]:List Str);decide +kernel) rfl (Or.inl rfl)) (fun _ _ _ _ _=>ZaW) (fun _ _ _ _ _=>(Zap ix_str (pv 1) (Zal ZaA (Zal ZaJ (Zai h_l_mixed (hr.mono (by decide)) rfl (Zaa (pv 2) (Zaa (Zal ZaJ Zad (pv 0)) Zac))) (Zal Zb9 (pv 3) (Za1 ZcX rfl B.int boot_int (Zaa (ZaS ZaT (pv 0) (pv 4) (nomark _)) Zac)))) Zad) (fun _ _=>rfl))) ⟨⟨_,rfl,rfl,.inl rfl⟩,⟨⟨_,rfl,rfl,.inl rfl⟩,⟨⟨_,rfl,rfl,.inl rfl⟩,⟨⟨_,rfl,rfl,.inl rfl⟩,trivial⟩⟩⟩⟩ ZaE)
     (Zaf (Za8 (ZbM K PySem.F.plainAttrs_list PySem.F.slot_list_append PySem.F.type_list_append Zbm (pv 4) (Zaa (ZbM K PySem.F.plainAttrs_str PySem.F.slot_str_join PySem.F.type_str_join (Zgs K) Zao (Zaa (pv 6) Zac)) Zac))))))
     (Zae (ZaD (Zar ZaT (Zal ZaA (Zai h_l_mixed (hr.mono (by decide)) rfl (Zaa (pv 0) (Zaa Zad Zac))) Zad) Zad (nomark _)) (Zae (Zaq (i:=7) sc_l_names.nd rfl (by walk_at "l") (ZbM K PySem.F.plainAttrs_str PySem.F.slot_str_join PySem.F.type_str_join (Zgs K) Zao (Zaa (ZaZ ["_law_j"] [0] rfl (Zbg rfl B.range (Zaa Zad Zac)) (fun _ _ _ _ _=>Zav (i:=0) (by show List.Nodup (["_law_j","_law_cell"]:List Str);decide +kernel) rfl (Or.inl rfl)) (fun _ _ _ _ _=>ZaW) (fun _ _ _ _ _=>(Zap ix_str Zao (Zal ZaA (Zai h_l_mixed (hr.mono (by decide)) rfl (Zaa (pv 1) (Zaa (Zal ZaJ Zad (pv 0)) Zac))) Zad) (fun _ _=>rfl))) ⟨⟨_,rfl,rfl,.inl rfl⟩,trivial⟩ ZaE) Zac)))
     (Zaf (Zam (ZaZ ["_law_k"] [7,0] rfl (Zbg rfl B.range (Zaa Zad Zac)) (fun _ _ _ _ _=>Zav (i:=0) (by show List.Nodup (["_law_k","_law_base","_law_cell"]:List Str);decide +kernel) rfl (Or.inl rfl)) (fun _ _ _ _ _=>ZaW) (fun _ _ _ _ _=>(ZbD sl_str (pv 1) Zb1 (ZbZ (Zal ZaJ Zad (Zal ZaA (Zal ZaJ (Zal Zb9 (pv 0) Zad) (Zai h_l_mixed (hr.mono (by decide)) rfl (Zaa (pv 2) (Zaa Zad Zac)))) Zad))))) ⟨⟨_,rfl,rfl,.inl rfl⟩,⟨⟨_,rfl,rfl,.inl rfl⟩,trivial⟩⟩ ZaE)))) Zas)
     (Zae (Zaq (i:=8) sc_l_names.nd rfl (by walk_at "l") (ZaG (Zaa Zao (Zaa Zao (Zaa Zao (Zaa Zao (Zaa Zao (Zaa Zao (Zaa Zao (Zaa Zao Zac))))))))))
     (Zaf (Zam (ZaZ ["_law_name"] [8] rfl (ZaP K (pv 4)) (fun _ _ _ _ _=>Zav (i:=0) (by show List.Nodup (["_law_name","_law_some"]:List Str);decide +kernel) rfl (Or.inl rfl)) (fun _ _ _ _ _=>ZaW) (fun _ _ _ _ _=>(Zal ZfM (pv 0) (Zal op_repS Zao (Za1 ZcX rfl B.int boot_int (Zaa (ZaS (op_inK K) (pv 0) (pv 1) (by with_unfolding_all rfl)) Zac))))) ⟨⟨_,rfl,rfl,.inl rfl⟩,trivial⟩ ZaE)))))))))),?_⟩
 refine Zag fun k hk=>?_
 walk_at "vc";refine hk _ _ (Zag fun k hk=>?_);walk_at "vc";refine ⟨_,_,rfl,_,rfl,hk _ _ (Zag fun k hk=>?_)⟩;have m0:=Int.emod_nonneg (mixI c 900) (b:=8) (by decide);have m1:=Int.emod_lt_of_pos (mixI c 900) (b:=8) (by decide);obtain ⟨m,em,ml,mh⟩:∃ m:Nat,1+mixI c 900%8=(m:Int)∧1≤m∧m≤8:=⟨(1+mixI c 900%8).toNat,by omega,by omega,by omega⟩
 rw [em];walk_at "vc";refine ⟨_,_,rfl,_,rfl,by omega,hk _ _ (Zag fun k hk=>?_)⟩;have a0:=Int.emod_nonneg (mixI c 901) (b:=(m:Int)) (by omega);have a1:=Int.emod_lt_of_pos (mixI c 901) (b:=(m:Int)) (by omega);obtain ⟨a,ea,ah⟩:∃ a:Nat,mixI c 901%(m:Int)=(a:Int)∧a<m:=⟨(mixI c 901%(m:Int)).toNat,by omega,by omega⟩
 rw [ea];walk_at "vc";refine ⟨by decide,fun p np=>hk _ _ (Zag fun k hk=>?_)⟩;walk_at "vc";refine loopR (NmI c m a p H) ⟨⟨_,_,_,_,rfl⟩,Zab,Same.new np⟩ ?_ ?_
 · rintro i σ H1 hi ⟨⟨v5,v6,v7,v8,rfl⟩,hp,sm⟩;rw [ZaQ];refine Zag fun k2 hk2=>?_
   walk_at "vc";refine ⟨by omega,by omega,?_⟩;rw [Int.toNat_natCast];refine compR (fun _=>true) (fun j=>.str ⟨#[ltr (mixI c (902+(j:Int))+(i:Int)*(if (j:Int)=(a:Int) then 1 else 0))]⟩) (by omega) (fun j H2 R hj s2 h=>h) (fun j H2 R hj _ s2 h=>?_) (fun D hD=>hk2 _ _ ?_)
   · walk_at "vc";exact ⟨_,_,rfl,.inl ⟨by omega,by omega⟩,_,rfl,by decide,_,(ltr_at _).1,h⟩
   · have e1:((List.range m).filter fun _=>true).map (fun (j:Nat)=>V.str ⟨#[ltr (mixI c (902+(j:Int))+(i:Int)*(if (j:Int)=(a:Int) then 1 else 0))]⟩)=((cds c m a i).map fun k=>(⟨#[k]⟩:Str)).map V.str:=by
       rw [show (List.range m).filter (fun _=>true)=List.range m from List.filter_eq_self.mpr fun _ _=>rfl];unfold cds;rw [List.map_map,List.map_map];rfl
     rw [e1];have nD:=hD;have s2:=Same.new (o:=.lst (((cds c m a i).map fun k=>(⟨#[k]⟩:Str)).map V.str)) hD;have cl:(cds c m a i).length=m:=by unfold cds;rw [List.length_map,List.length_range]
     walk_at "vc";refine ⟨⟨_,SqL.of (s2 _ _ hp)⟩,_,SqL.of Zab,?_,_,s2 _ _ hp,?_,⟨_,_,_,_,rfl⟩,?_,(sm.trans s2).put np⟩
     · rw [sum1,List.length_map,cl,show (Str.ofString "").length=0 from rfl];omega
     · rw [List.length_map,List.length_range,sizeLine_eq];omega
     · rw [Zab,join1,List.range_succ,List.map_append];rfl
 · rintro σ H1 ⟨⟨v5,v6,v7,v8,rfl⟩,hp,sm⟩;refine hk _ _ (Zag fun k hk=>?_);walk_at "vc";refine ⟨_,_,rfl,_,rfl,?_⟩;by_cases c3:mixI c 899%3=0
   · rw [if_pos c3]
     refine compR (fun _=>true) (fun j=>.str ⟨#[con (mixI c (890+(j:Int)))]⟩) (by decide) (fun j H2 R hj s2 h=>h) (fun j H2 R hj _ s2 h=>?_) (fun D hD=>?_)
     · walk_at "vc";exact ⟨_,_,rfl,_,rfl,by decide,_,(con_at _).1,h⟩
     · have e1:((List.range 8).filter fun _=>true).map (fun (j:Nat)=>V.str ⟨#[con (mixI c (890+(j:Int)))]⟩)=((((List.range 8).map fun (j:Nat)=>con (mixI c (890+(j:Int))))).map fun k=>(⟨#[k]⟩:Str)).map V.str:=by
         rw [show (List.range 8).filter (fun _=>true)=List.range 8 from List.filter_eq_self.mpr fun _ _=>rfl];rw [List.map_map,List.map_map];rfl
       rw [e1];have cl:((List.range 8).map fun (j:Nat)=>con (mixI c (890+(j:Int)))).length=8:=by rw [List.length_map,List.length_range]
       have ok:OkS ⟨((List.range 8).map fun (j:Nat)=>con (mixI c (890+(j:Int)))).toArray⟩:=fun x hx=>by
         have hx:x∈(List.range 8).map fun (j:Nat)=>con (mixI c (890+(j:Int))):=hx
         obtain ⟨j,_,rfl⟩:=List.mem_map.mp hx;exact (con_at _).2
       have lb:(⟨((List.range 8).map fun (j:Nat)=>con (mixI c (890+(j:Int)))).toArray⟩:Str).length=8:=by show Array.size _=8;rw [List.size_toArray,cl]
       have s2:=Same.new (o:=.lst ((((List.range 8).map fun (j:Nat)=>con (mixI c (890+(j:Int)))).map fun k=>(⟨#[k]⟩:Str)).map V.str)) hD;refine ⟨_,rfl,_,SqL.of Zab,?_,?_⟩
       · rw [sum1,List.length_map,List.length_map,List.length_map,List.length_range,show (Str.ofString "").length=0 from rfl];decide
       rw [join1];generalize (⟨((List.range 8).map fun (j:Nat)=>con (mixI c (890+(j:Int)))).toArray⟩:Str)=bs at ok lb;refine compR (fun _=>true) (fun j=>.str (Txt.slice bs none (some (1+((j:Int)*2+mixI c 898)%5)))) (by decide) (fun j H2 R hj s2 h=>h) (fun j H2 R hj _ s2 h=>?_) (fun D2 hD2=>?_)
       · walk_at "vc";exact ⟨_,_,rfl,_,rfl,by rw [lb];decide,h⟩
       · refine q D2 ((List.range 5).map fun (j:Nat)=>Txt.slice bs none (some (1+((j:Int)*2+mixI c 898)%5))) _ ((sm.trans s2).trans (Same.new hD2)) ?_ (by rw [List.length_map,List.length_range]) (fun x hx=>?_)
         · rw [Zab,show (List.range 5).filter (fun _=>true)=List.range 5 from List.filter_eq_self.mpr fun _ _=>rfl,List.map_map];rfl
         · obtain ⟨k,_,rfl⟩:=List.mem_map.mp hx;exact (slice_ok _ _ ok).ok
   rw [if_neg c3];refine hk _ _ (Zag fun k hk=>?_);walk_at "vc";refine ⟨by decide,fun p2 np2=>hk _ _ ?_⟩;have s2:=Same.new (o:=.lst ws8) np2;walk_at "vc";have ll:((List.range 5).map fun k=>V.str (wk c m a k)).length=5:=by rw [List.length_map,List.length_range]
   refine ⟨⟨_,SqL.of (s2 _ _ hp)⟩,compL (K:=K) (xs:=(List.range 5).map fun k=>V.str (wk c m a k)) (fun _=>true) fX (SqL.of (s2 _ _ hp)) (by rw [ll];decide) (fun v H2 R hv s3 h=>h) (fun v H2 R hv _ s3 h=>?_) (fun D hD=>?_)⟩
   · obtain ⟨k',_,rfl⟩:=List.mem_map.mp hv;have h:R (.str (nmX (wk c m a k'))) H2:=h;unfold nmX at h;have wl:=wk_len c m a k';generalize wk c m a k'=w at h wl;walk_at "vc";refine ⟨ws8,.inl (s3.seq (SqL.of Zab)),rfl,flat8,?_⟩;by_cases c8:inV (.str w) ws8=true
     · rw [if_pos c8] at h;rw [if_pos c8,if_pos rfl];exact ⟨.inr rfl,small5 (by rw [show (Str.ofString "x").length=1 by decide +kernel];omega),h⟩
     · rw [if_neg c8] at h;rw [if_neg c8,if_neg (by decide)];refine ⟨.inl rfl,small5 (by rw [show Str.empty.length=0 from rfl];omega),?_⟩;have e:w++Str.empty=w:=by
         cases w;show (⟨_++#[]⟩:Str)=_;rw [Array.append_empty]
       rw [e];exact h
   · refine q D ((List.range 5).map fun k=>nmX (wk c m a k)) _ ((sm.trans s2).trans (Same.new hD)) ?_ (by rw [List.length_map,List.length_range]) (fun x hx=>?_)
     · rw [Zab,show ((List.range 5).map fun k=>V.str (wk c m a k)).filter (fun _=>true)=(List.range 5).map fun k=>V.str (wk c m a k) from List.filter_eq_self.mpr fun _ _=>rfl];rw [List.map_map,List.map_map];rfl
     · obtain ⟨k,_,rfl⟩:=List.mem_map.mp hx;exact (nmX_ok (wk_ok c m a k)).ok
end
theorem comp0 {J:It}{n:Nat}{caps:List Nat}{g:TG}{tt:TT}{te:TE}{σ:L2.St}{H1:Hp}{Q:VK}(hs:∀ D,H1 D=none→J.stop 0 (upd H1 D (.lst [])))(hq:∀ D,H1 D=none→Q (.ref D) (upd H1 D (.lst []))):CompJ J n caps g tt te σ H1 Q:=fun D hD =>
 ⟨fun i _ H2=>i=0∧H2=upd H1 D (.lst []),⟨0,rfl,rfl⟩,fun i _ H2 ⟨e1,e2⟩=>.inl (by subst e1 e2;exact ⟨hs D hD,hq D hD⟩)⟩
theorem loop0 {J:It}{g:TG}{tb:TS}{D:Ends}{σ:L2.St}{H:Hp}(hs:J.stop 0 H)(hq:D.nx σ H):LoopJ J g tb D σ H :=
 ⟨fun i _ σ' H'=>i=0∧σ'=σ∧H'=H,⟨0,rfl,rfl,rfl⟩,fun i _ σ' H' ⟨e1,e2,e3⟩=>.inl (by subst e1 e2 e3;exact ⟨hs,hq⟩)⟩
def Fx (x:Addr)(H H':Hp):Prop:=∀ b o,b≠x→H b=some o→H' b=some o
theorem Fx.of {x:Addr}{H H':Hp}(s:Same H H'):Fx x H H':=fun b o _ e=>s b o e
theorem Fx.trans {x:Addr}{H H' H'':Hp}(a:Fx x H H')(b:Fx x H' H''):Fx x H H'':=fun c o n e=>b c o n (a c o n e)
theorem Fx.put {x:Addr}{H H':Hp}{o:HO}(a:Fx x H H'):Fx x H (upd H' x o):=fun c oc n e=>by rw [Zah n];exact a c oc n e
theorem Zeb {H H':Hp}{x dx:Addr}{o o':HO}(h1:H x=none)(h2:H dx=none)(f:Fx x (upd (upd H dx o) x o') H'):Same H H':=fun b ob e=>by
 have nb:b≠x:=Zak e h1;refine f b ob nb ?_;rw [Zah nb,Zah (Zak e h2)];exact e
def MkE (CM:Addr)(H:Hp)(p:Addr):Prop:=∃ dx a b c,H p=some (.ins CM dx [("keyed",.ref a),("aheads",.ref b),("stretches",.ref c),("held",.int 0)])∧H a=some (.lst [])∧H b=some (.lst [])∧H c=some (.lst [])
theorem MkE.same {CM:Addr}{H H':Hp}{p:Addr}(s:Same H H')(h:MkE CM H p):MkE CM H' p:=by obtain ⟨dx,a,b,c,h1,h2,h3,h4⟩:=h;exact ⟨dx,a,b,c,s _ _ h1,s _ _ h2,s _ _ h3,s _ _ h4⟩
theorem MkE.fx {CM x:Addr}{H H':Hp}{p:Addr}{C dx:Addr}{fs:List (Str × V)}(n:p≠x)(hx:H x=some (.ins C dx fs))(s:Fx x H H')(h:MkE CM H p):MkE CM H' p:=by
 obtain ⟨dx',a,b,c,h1,h2,h3,h4⟩:=h;have k:∀ {l:Addr},H l=some (.lst [])→H' l=some (.lst []):=fun {l} e=>s _ _ (fun z=>by rw [z,hx] at e;cases e) e
 exact ⟨dx',a,b,c,s _ _ n h1,k h2,k h3,k h4⟩
def spMI (CM:Addr):Sp:=fun vs H Q _=>∃ (x dx:Addr),vs=[.ref x]∧H x=some (.ins CM dx [])∧∀ H',Fx x H H'→MkE CM H' x→Q .non H'
section
variable {P:Program}{w:World}{K:PySem.W.Frag}{mg:Str→Option Value}{base:Heap}{CM:Addr}
theorem ok_MI (cd:CD_Marks K mg CM):MakeAt P w K mg base "Marks" CM ["self"] 1 (spMI CM):=by
 refine MakeAt.of cd.at_ cd.init ZcM (fun vs H Q E h=>?_) (fun f cdv A outer s H vs Q E hr h=>?_)
 · obtain ⟨x,dx,rfl,_⟩:=h;rfl
 obtain ⟨x,dx,rfl,hx,q⟩:=h;refine ⟨_,(Zae (ZaY K (pv 0) (ZaG Zac))
     (Zae (ZaY K (pv 0) (ZaG Zac))
     (Zae (ZaY K (pv 0) (ZaG Zac))
     (Zaf (ZaY K (pv 0) Zad))))),?_⟩
 walk_at "vc";refine ⟨by decide,fun p1 n1=>⟨_,_,_,(Same.new n1) _ _ hx,cd.c,cd.n_keyed,by decide,by decide,fun p2 n2=>⟨_,_,_,(Same.new n2) _ _ Zab,cd.c,cd.n_aheads,by show 1<1000;decide,by decide,fun p3 n3=>⟨_,_,_,(Same.new n3) _ _ Zab,cd.c,cd.n_stretches,by show 2<1000;decide,_,_,_,Zab,cd.c,cd.n_held,by show 3<1000;decide,q _ ?_ ?_⟩⟩⟩⟩
 · exact ((((Fx.of (Same.new n1)).put.trans (Fx.of (Same.new n2))).put.trans (Fx.of (Same.new n3))).put).put
 · have x1:p1≠x:=Ne.symm (Zak hx n1);have x2:p2≠x:=fun z=>by rw [z,Zab] at n2;cases n2
   have x3:p3≠x:=fun z=>by rw [z,Zab] at n3;cases n3
   refine ⟨dx,p1,p2,p3,Zab,?_,?_,?_⟩
   · have e1:=Zab (H:=H) (a:=p1) (o:=.lst []);have e2:=(Fx.of (x:=x) (Same.refl _)).put (o:=.ins CM dx [("keyed",.ref p1)]) _ _ x1 e1;have e3:=(Fx.of (Same.new (o:=.lst []) n2)).put (o:=.ins CM dx [("keyed",.ref p1),("aheads",.ref p2)]) _ _ x1 e2;have e4:=(Fx.of (Same.new (o:=.lst []) n3)).put (o:=.ins CM dx [("keyed",.ref p1),("aheads",.ref p2),("stretches",.ref p3)]) _ _ x1 e3;rw [Zah x1];exact e4
   · have e2:=Zab (H:=upd (upd H p1 (.lst [])) x (.ins CM dx [("keyed",.ref p1)])) (a:=p2) (o:=.lst []);have e3:=(Fx.of (x:=x) (Same.refl _)).put (o:=.ins CM dx [("keyed",.ref p1),("aheads",.ref p2)]) _ _ x2 e2;have e4:=(Fx.of (Same.new (o:=.lst []) n3)).put (o:=.ins CM dx [("keyed",.ref p1),("aheads",.ref p2),("stretches",.ref p3)]) _ _ x2 e3;rw [Zah x2];exact e4
   · rw [Zah x3,Zah x3,Zab]
end
def ColE (CM C:Addr)(f:Str)(v:V)(H:Hp)(x:Addr):Prop:=∃ dx m d1 d2,H x=some (.ins C dx [("valued",.ref m),("by_number",.ref d1),("by_key",.ref d2),(f,v)])∧MkE CM H m∧H d1=some (.dK [])∧H d2=some (.dK [])
theorem ColE.same {CM C:Addr}{f:Str}{v:V}{H H':Hp}{x:Addr}(s:Same H H')(h:ColE CM C f v H x):ColE CM C f v H' x:=by obtain ⟨dx,m,d1,d2,h1,h2,h3,h4⟩:=h;exact ⟨dx,m,d1,d2,s _ _ h1,h2.same s,s _ _ h3,s _ _ h4⟩
def spCI (CM C:Addr):Sp:=fun vs H Q _=>∃ (x dx:Addr),vs=[.ref x]∧H x=some (.ins C dx [])∧∀ m d1 d2 H',Fx x H H'→H' x=some (.ins C dx [("valued",.ref m),("by_number",.ref d1),("by_key",.ref d2)])→MkE CM H' m→H' d1=some (.dK [])→H' d2=some (.dK [])→H d1=none→H d2=none→Q .non H'
structure ClC (K:PySem.W.Frag)(C:Addr):Prop where
 c:Cls K C
 n1:NoAttr K C "valued"
 n2:NoAttr K C "by_number"
 n3:NoAttr K C "by_key"
section
variable {P:Program}{w:World}{K:PySem.W.Frag}{mg:Str→Option Value}{base:Heap}{CM:Addr}
theorem ok_CI {C M f:Addr}{fd:FuncData}(h_Marks:MakeAt P w K mg base "Marks" CM ["self"] 1 (spMI CM))(cc:ClC K C)(bc:ByCls K mg "Column" "__init__" M f)(F:Fun K "__init__" "Column.__init__" Zau f fd)(b:Binds K fd ["self"] []):BaseAt P w K mg base "Column" "__init__" ["self"] 3 (spCI CM C):=by
 refine ⟨M,f,fd,bc,?_,b⟩;refine F.ok Zcx (fun vs H Q E h=>?_) (fun cdv A outer s H vs Q E hr h=>?_)
 · obtain ⟨x,dx,rfl,_⟩:=h;rfl
 obtain ⟨x,dx,rfl,hx,q⟩:=h;refine ⟨_,(Zae (ZaY K (pv 0) (ZgS h_Marks (hr.mono (by decide)) rfl))
     (Zae (ZaY K (pv 0) ZbP)
     (Zaf (ZaY K (pv 0) ZbP)))),?_⟩
 walk_at "vc";refine fun m dm nm ndm hne=>⟨m,dm,rfl,Zab,fun H2 f2 me=>⟨rfl,?_⟩⟩
 have sm:=Zeb nm ndm f2;have xm:x≠m:=Zak hx nm;have hx2:=sm _ _ hx;refine ⟨_,_,_,hx2,cc.c,cc.n1,by decide,fun p1 n1=>⟨_,_,_,(Same.new n1) _ _ Zab,cc.c,cc.n2,by show 1<1000;decide,fun p2 n2=>⟨_,_,_,(Same.new n2) _ _ Zab,cc.c,cc.n3,by show 2<1000;decide,?_⟩⟩⟩;have p1x:p1≠x:=fun z=>by rw [z,Zab] at n1;cases n1
 have p2x:p2≠x:=fun z=>by rw [z,Zab] at n2;cases n2
 have g1:Fx x H2 (upd H2 x (.ins C dx [("valued",.ref m)])):=(Fx.of (Same.refl _)).put;have g2:=(g1.trans (Fx.of (Same.new (o:=.dK []) n1))).put (o:=.ins C dx [("valued",.ref m),("by_number",.ref p1)]);have g3:=(g2.trans (Fx.of (Same.new (o:=.dK []) n2))).put (o:=.ins C dx [("valued",.ref m),("by_number",.ref p1),("by_key",.ref p2)]);refine q m p1 p2 _ ((Fx.of sm).trans g3) Zab (me.fx (Ne.symm xm) hx2 g3) ?_ ?_ (none_of sm (by rw [Zah p1x] at n1;exact n1)) ?_
 · have e1:=Zab (H:=upd H2 x (.ins C dx [("valued",.ref m)])) (a:=p1) (o:=.dK []);have e2:upd (upd (upd H2 x (.ins C dx [("valued",.ref m)])) p1 (.dK [])) x (.ins C dx [("valued",.ref m),("by_number",.ref p1)]) p1=some (.dK []):=by rw [Zah p1x];exact e1
   rw [Zah p1x];exact (Same.new n2) _ _ e2
 · rw [Zah p2x,Zab]
 · refine none_of sm ?_;rw [Zah p2x] at n2;have n3:=none_of (Same.new (o:=.dK []) n1) n2;rw [Zah p2x] at n3;exact n3
def spVI (CM C:Addr)(f:Str):Sp:=fun vs H Q _=>∃ (x dx:Addr) (v:V),vs=[.ref x,v]∧H x=some (.ins C dx [])∧∀ H',Fx x H H'→ColE CM C f v H' x→(∀ d kvs,H d=some (.dK kvs)→ColE CM C f v (del H' d) x)→Q .non H'
theorem ColE.mk {C x dx m d1 d2:Addr}{f:Str}{v:V}{H1:Hp}(e1:H1 x=some (.ins C dx [("valued",.ref m),("by_number",.ref d1),("by_key",.ref d2)]))(me:MkE CM H1 m)(k1:H1 d1=some (.dK []))(k2:H1 d2=some (.dK []))(mx:m≠x):ColE CM C f v (upd H1 x (.ins C dx [("valued",.ref m),("by_number",.ref d1),("by_key",.ref d2),(f,v)])) x:=by
 refine ⟨dx,m,d1,d2,Zab,me.fx mx e1 (Fx.of (Same.refl _)).put,?_,?_⟩
 · rw [Zah (fun z=>by rw [z,e1] at k1;cases k1)];exact k1
 · rw [Zah (fun z=>by rw [z,e1] at k2;cases k2)];exact k2
theorem MkE.ne {H:Hp}{m x C dx:Addr}{fs:List (Str × V)}(me:MkE CM H m)(hx:H x=some (.ins C dx (("valued",.ref m)::fs))):m≠x:=fun z=>by
 obtain ⟨_,_,_,_,h1,_⟩:=me;rw [z,hx] at h1;injection h1 with h1
 injection h1 with _ _ h1
 injection h1 with h1
 injection h1 with h1
 revert h1;decide +kernel
theorem ColE.off {C x dx m d1 d2 d:Addr}{f:Str}{v:V}{H H1:Hp}{kvs:List (Key × V)}(hx:H x=some (.ins C dx []))(f1:Fx x H H1)(e1:H1 x=some (.ins C dx [("valued",.ref m),("by_number",.ref d1),("by_key",.ref d2)]))(me:MkE CM H1 m)(k1:H1 d1=some (.dK []))(k2:H1 d2=some (.dK []))(n1:H d1=none)(n2:H d2=none)(hd:H d=some (.dK kvs)):ColE CM C f v (del (upd H1 x (.ins C dx [("valued",.ref m),("by_number",.ref d1),("by_key",.ref d2),(f,v)])) d) x:=by
 have mx:m≠x:=me.ne e1;obtain ⟨dm,a,b,c,g1,g2,g3,g4⟩:=me;have dx':d≠x:=fun z=>by rw [z,hx] at hd;cases hd
 have hd1:=f1 _ _ dx' hd;have no:∀ {p:Addr} {o:HO},H1 p=some o→p≠x→d≠p→del (upd H1 x (.ins C dx [("valued",.ref m),("by_number",.ref d1),("by_key",.ref d2),(f,v)])) d p=some o:=fun {p o} e np nd=>by
   rw [ZaO (Ne.symm nd),Zah np];exact e
 have ty:∀ {p:Addr} {o:HO},H1 p=some o→o≠.dK kvs→d≠p:=fun {p o} e no z=>by
   rw [← z,hd1] at e;exact no (Option.some.inj e).symm
 refine ⟨dx,m,d1,d2,by rw [ZaO (Ne.symm dx'),Zab],⟨dm,a,b,c,no g1 mx (ty g1 fun z=>by cases z),no g2 (fun z=>by rw [z,e1] at g2;cases g2) (ty g2 fun z=>by cases z),no g3 (fun z=>by rw [z,e1] at g3;cases g3) (ty g3 fun z=>by cases z),no g4 (fun z=>by rw [z,e1] at g4;cases g4) (ty g4 fun z=>by cases z)⟩,no k1 (fun z=>by rw [z,e1] at k1;cases k1) (fun z=>by rw [← z,hd] at n1;cases n1),no k2 (fun z=>by rw [z,e1] at k2;cases k2) (fun z=>by rw [← z,hd] at n2;cases n2)⟩
theorem ok_VI {CV:Addr}(cd:CD_ByValue K mg CV)(hb_Column:BaseAt P w K mg base "Column" "__init__" ["self"] 3 (spCI CM CV)):MakeAt P w K mg base "ByValue" CV ["self","top"] 4 (spVI CM CV "greatest"):=by
 refine MakeAt.of cd.at_ cd.init Zci (fun vs H Q E h=>?_) (fun f cdv A outer s H vs Q E hr h=>?_)
 · obtain ⟨x,dx,v,rfl,_⟩:=h;rfl
 obtain ⟨x,dx,v,rfl,hx,q⟩:=h;refine ⟨_,(Zae (Za8 (Zgu hb_Column (hr.mono (by decide)) rfl (Zaa (pv 0) Zac)))
     (Zaf (ZaY K (pv 0) (pv 1)))),?_⟩
 walk_at "vc";exact ⟨x,dx,rfl,hx,fun m d1 d2 H1 f1 e1 me k1 k2 z1 z2=>⟨_,_,_,e1,cd.c,cd.n_greatest,by show 3<1000;decide,q _ f1.put (ColE.mk e1 me k1 k2 (me.ne e1)) fun d kvs hd=>ColE.off hx f1 e1 me k1 k2 z1 z2 hd⟩⟩
theorem ok_BI {CB:Addr}(cd:CD_ByBits K mg CB)(hb_Column:BaseAt P w K mg base "Column" "__init__" ["self"] 3 (spCI CM CB)):MakeAt P w K mg base "ByBits" CB ["self","width"] 4 (spVI CM CB "width"):=by
 refine MakeAt.of cd.at_ cd.init Zcr (fun vs H Q E h=>?_) (fun f cdv A outer s H vs Q E hr h=>?_)
 · obtain ⟨x,dx,v,rfl,_⟩:=h;rfl
 obtain ⟨x,dx,v,rfl,hx,q⟩:=h;refine ⟨_,(Zae (Za8 (Zgu hb_Column (hr.mono (by decide)) rfl (Zaa (pv 0) Zac)))
     (Zaf (ZaY K (pv 0) (pv 1)))),?_⟩
 walk_at "vc";exact ⟨x,dx,rfl,hx,fun m d1 d2 H1 f1 e1 me k1 k2 z1 z2=>⟨_,_,_,e1,cd.c,cd.n_width,by show 3<1000;decide,q _ f1.put (ColE.mk e1 me k1 k2 (me.ne e1)) fun d kvs hd=>ColE.off hx f1 e1 me k1 k2 z1 z2 hd⟩⟩
theorem ok_topV {CV:Addr}(cd:CD_ByValue K mg CV):MethAt P w K mg base CV "top" ["self"] 1 (fun vs H Q _=>∃ (x:Addr) (n:Int),vs=[.ref x]∧ColE CM CV "greatest" (.int n) H x∧Q (.int n) H):=by
 refine MethAt.of cd.c cd.m_top Zdy (fun vs H Q E h=>?_) (fun f cdv A outer s H vs Q E hr h=>?_)
 · obtain ⟨x,v,rfl,_⟩:=h;rfl
 obtain ⟨x,v,rfl,⟨dx,m,d1,d2,hx,me,k1,k2⟩,q⟩:=h;refine ⟨_,(Zaf (Zam (Zax K (pv 0)))),?_⟩;walk_at "vc";exact ⟨_,_,_,hx,cd.c,cd.n_greatest,_,rfl,q⟩
theorem ok_topB {CB:Addr}(cd:CD_ByBits K mg CB):MethAt P w K mg base CB "top" ["self"] 1 (fun vs H Q _=>∃ (x:Addr) (n:Int),vs=[.ref x]∧ColE CM CB "width" (.int n) H x∧0≤n∧n≤40∧Q (.int (2^n.toNat-1)) H):=by
 refine MethAt.of cd.c cd.m_top ZdJ (fun vs H Q E h=>?_) (fun f cdv A outer s H vs Q E hr h=>?_)
 · obtain ⟨x,v,rfl,_⟩:=h;rfl
 obtain ⟨x,n,rfl,⟨dx,m,d1,d2,hx,me,k1,k2⟩,n0,n1,q⟩:=h;refine ⟨_,(Zaf (Zam (Zal ZbL (Zal Zgw Zad (Zax K (pv 0))) Zad))),?_⟩;walk_at "vc";refine ⟨_,_,_,hx,cd.c,cd.n_width,_,rfl,_,rfl,⟨n0,by omega,by decide⟩,?_⟩;rw [Int.one_mul];exact q
def CkB (CV CB:Addr):Bool→Addr
 | true=>CB
 | false=>CV
def ICol (CM CV CB:Addr):Bool→Int→Hp→Addr→Prop
 | true,n,H,c=>∃ z:Nat,z≤40∧n=2^z-1∧ColE CM CB "width" (.int z) H c
 | false,n,H,c=>ColE CM CV "greatest" (.int n) H c
theorem ICol.same {CV CB:Addr}{b:Bool}{n:Int}{H H':Hp}{c:Addr}(s:Same H H')(h:ICol CM CV CB b n H c):ICol CM CV CB b n H' c:=by
 cases b with
 | true =>
   obtain ⟨z,a,e,h⟩:=h;exact ⟨z,a,e,h.same s⟩
 | false=>exact ColE.same s h
theorem ICol.obj {CV CB:Addr}{b:Bool}{n:Int}{H:Hp}{c:Addr}(h:ICol CM CV CB b n H c):∃ dx fs,H c=some (.ins (CkB CV CB b) dx fs)∧fs.lookup ("top":Str)=none:=by
 cases b with
 | true =>
   obtain ⟨z,a,e,dx,m,d1,d2,h,_⟩:=h;exact ⟨_,_,h,rfl⟩
 | false =>
   obtain ⟨dx,m,d1,d2,h,_⟩:=h;exact ⟨_,_,h,rfl⟩
theorem MethAt.imp' {C:Addr}{m:Str}{ps:List Str}{k:Nat}{sp sp':Sp}(F:MethAt P w K mg base C m ps k sp)(h:∀ vs H Q E,sp' vs H Q E→sp vs H Q E):MethAt P w K mg base C m ps k sp':=by obtain ⟨c,f,fd,a,b,d⟩:=F;exact ⟨c,f,fd,a,b.imp h,d⟩
theorem ok_top76 {CV CB:Addr}(cv:CD_ByValue K mg CV)(cb:CD_ByBits K mg CB)(b:Bool):MethAt P w K mg base (CkB CV CB b) "top" ["self"] 1 (fun vs H Q _=>∃ (x:Addr) (n:Int),vs=[.ref x]∧ICol CM CV CB b n H x∧Q (.int n) H):=by
 cases b with
 | false=>exact ok_topV cv
 | true =>
   refine MethAt.imp' (ok_topB (CM:=CM) cb) fun vs H Q E h=>?_
   obtain ⟨x,n,rfl,⟨z,hz,rfl,h⟩,q⟩:=h;exact ⟨x,z,rfl,h,by omega,by omega,q⟩
end
def LcD (K:PySem.W.Frag)(N:List Str)(tp:Str→Int)(bt:Str→Bool)(H:Hp)(d:Addr):Prop:=∃ kvs,H d=some (.dK kvs)∧(∀ kv∈kvs,∃ x∈N,kv.1=.inr x)∧kvs.length≤3∧∀ x∈N,∃ (c:Addr) (z:Nat),valV kvs (.inr x)=some (.ref c)∧SqT K H c [.str (kW (bt x)),.int z]∧tp x=(if bt x=true then 2^z-1 else (z:Int))∧z≤999∧(bt x=true→z≤40)
theorem LcD.same {K:PySem.W.Frag}{N:List Str}{tp:Str→Int}{bt:Str→Bool}{H H':Hp}{d:Addr}(s:Same H H')(h:LcD K N tp bt H d):LcD K N tp bt H' d:=by
 obtain ⟨kvs,h1,h2,h3,h4⟩:=h;exact ⟨kvs,s _ _ h1,h2,h3,fun x hx=>by
   obtain ⟨c,z,e,ic,r⟩:=h4 x hx;exact ⟨c,z,e,ZaB s ic,r⟩⟩
theorem LcD.at {K:PySem.W.Frag}{N:List Str}{tp:Str→Int}{bt:Str→Bool}{H:Hp}{d:Addr}(h:LcD K N tp bt H d):LcAt K N tp bt H d:=by obtain ⟨kvs,h1,h2,h3,h4⟩:=h;exact ⟨kvs,h1,h4⟩
theorem Zgh {K:PySem.W.Frag}{H:Hp}{d c:Addr}{kvs kvs':List (Key × V)}{xs:List V}(hd:H d=some (.dK kvs))(h:SqT K H c xs):SqT K (upd H d (.dK kvs')) c xs:=by
 rcases h with (h | ⟨o,h⟩) | h
 · refine .inl (.inl ?_);rw [Zah (fun z=>by rw [z,hd] at h;cases h)];exact h
 · refine .inl (.inr ⟨o,?_⟩);rw [Zah (fun z=>by rw [z,hd] at h;cases h)];exact h
 · exact .inr h
def tpI (b:Bool)(z:Nat):Int:=if b=true then 2^z-1 else (z:Int)
theorem putK_mem {kvs:List (Key × V)}{k:Key}{v:V}{kv:Key × V}(h:kv∈putK kvs k v):kv.1=k∨∃ kv'∈kvs,kv'.1=kv.1:=by
 unfold putK at h;split at h
 · obtain ⟨kv',h1,rfl⟩:=List.mem_map.mp h;split
   · rename_i e
     exact .inl e
   · exact .inr ⟨kv',h1,rfl⟩
 · rcases List.mem_append.mp h with h | h
   · exact .inr ⟨kv,h,rfl⟩
   · rw [List.mem_singleton.mp h];exact .inl rfl
theorem LcD.put {K:PySem.W.Frag} {N:List Str} {tp:Str→Int} {bt:Str→Bool} {H:Hp} {d:Addr} {kvs:List (Key × V)} (hd:H d=some (.dK kvs)) (h2:∀ kv∈kvs,∃ x∈N,kv.1=.inr x) (hl:kvs.length≤2) (h4:∀ x∈N,∃ (c:Addr) (z:Nat),valV kvs (.inr x)=some (.ref c)∧SqT K H c [.str (kW (bt x)),.int z]∧tp x=(if bt x=true then 2^z-1 else (z:Int))∧z≤999∧(bt x=true→z≤40)) (x:Str) (b:Bool) (z:Nat) {c:Addr} (hc:SqT K H c [.str (kW b),.int z]) (hz:z≤999) (hb:b=true→z≤40):LcD K (x::N) (fun y=>if y=x then tpI b z else tp y) (fun y=>if y=x then b else bt y) (upd H d (.dK (putK kvs (.inr x) (.ref c)))) d:=by
 refine ⟨_,Zab,fun kv hk=>?_,Nat.le_trans (Zbs _ _ _) (by omega),fun y hy=>?_⟩
 · rcases putK_mem hk with e | ⟨kv',m,e⟩
   · exact ⟨x,.head _,e⟩
   · obtain ⟨y,my,ey⟩:=h2 kv' m;exact ⟨y,.tail _ my,e ▸ ey⟩
 · rw [ZeL]
   by_cases e:y=x
   · subst e;simp only [if_pos];exact ⟨c,z,rfl,Zgh hd hc,rfl,hz,hb⟩
   · rw [if_neg (fun w=>e (Sum.inr.inj w))];simp only [if_neg e];rcases List.mem_cons.mp hy with w | w
     · exact absurd w e
     · obtain ⟨c',z',e1,e2,e3⟩:=h4 y w;exact ⟨c',z',e1,Zgh hd e2,e3⟩
def spCols (K:PySem.W.Frag):Sp:=fun vs H Q _=>∃ c:Int,vs=[.int c]∧∀ (d:Addr) (N:List Str) (tp:Str→Int) (bt:Str→Bool) (H':Hp),Same H H'→H d=none→LcD K N tp bt H' d→N≠[]→OkN N→Q (.ref d) H'
structure LcI (K:PySem.W.Frag)(c:Int)(n d:Addr)(N0:List Str)(H:Hp)(i:Nat)(σ:L2.St)(H':Hp):Prop where
 ex:∃ (N:List Str) (tp:Str→Int) (bt:Str→Bool) (kvs:List (Key × V)) (v3 v4 v5:Option V),σ=[some (.int c),some (.ref n),some (.ref d),v3,v4,v5]∧H' d=some (.dK kvs)∧LcD K N tp bt H' d∧kvs.length≤i∧(0<i→N≠[])∧∀ x∈N,x∈N0
 hn:H' n=some (.lst (N0.map V.str))
 sm:Same H H'
section
variable {P:Program}{w:World}{K:PySem.W.Frag}{mg:Str→Option Value}{base:Heap}
theorem Zed (B:Blt mg) (h_l_mixed:FnAt P w K mg base "_law_mixed" ["_law_cell","_law_k"] 1 spMixed) (h_l_names:FnAt P w K mg base "_law_names" ["_law_cell"] 2 spNm) (d:DefAt K mg "_law_columns" ZbH ["_law_cell"]):FnAt P w K mg base "_law_columns" ["_law_cell"] 3 (spCols K):=by
 refine FnAt.of d sc_l_columns (fun vs H Q E h=>?_) (fun f cdv A outer s H vs Q E hr h=>?_)
 · obtain ⟨c,rfl,_⟩:=h;rfl
 obtain ⟨c,rfl,q⟩:=h;refine ⟨_,(Zae (Zaq (i:=1) sc_l_columns.nd rfl (by walk_at "l") (Zai h_l_names (hr.mono (by decide)) rfl (Zaa (pv 0) Zac)))
     (Zae (Zaq (i:=2) sc_l_columns.nd rfl (by walk_at "l") ZbP)
     (Zae (ZbE PassesOwn.never rfl (Zbg rfl B.range (Zaa (Zal ZaJ Zad (Zal ZaA (Zai h_l_mixed (hr.mono (by decide)) rfl (Zaa (pv 0) (Zaa Zad Zac))) Zad)) Zac)) (Zav (i:=3) sc_l_columns.nd rfl (by walk_at "l")) (Zae (Zaq (i:=4) sc_l_columns.nd rfl (by walk_at "l") (Zai h_l_mixed (hr.mono (by decide)) rfl (Zaa (pv 0) (Zaa (Zal ZaJ Zad (pv 3)) Zac))))
     (Zae (Zaq (i:=5) sc_l_columns.nd rfl (by walk_at "l") (Zal ZaA (Zal ZbJ (pv 4) Zad) Zad))
     (Zae (ZaD (Zar ZaT (Zal ZaA (Zal ZbJ (pv 4) Zad) Zad) Zad (nomark _)) (Zaf (Zaq (i:=5) sc_l_columns.nd rfl (by walk_at "l") (Zap (ZaC K) (ZaG (Zaa Zad (Zaa Zad Zac))) (Zal ZaA (pv 4) Zad) (fun _ _=>rfl)))) Zas)
     (Zaf (Zf7 (hu1 hr) (pv 2) (Zap (ZaC K) (pv 1) (pv 3) (fun _ _=>rfl)) (ZaL (Zaa (Zap (ZaC K) (ZaG (Zaa Zao (Zaa Zao Zac))) (Zal ZaA (pv 4) Zad) (fun _ _=>rfl)) (Zaa (Zal ZaJ (pv 5) (Zal Zb9 (Zal ZaA (pv 4) Zad) (Za1 ZcX rfl B.int boot_int (Zaa (ZaS Zcl (pv 5) Zad (nomark _)) Zac)))) Zac))) rfl))))))
     (Zaf (Zam (pv 2)))))),?_⟩
 refine Zag fun k hk=>?_
 walk_at "vc";refine ⟨c,rfl,fun n N0 H1 s1 hn n5 nN=>hk _ _ (Zag fun k hk=>?_)⟩;walk_at "vc";refine fun d nd=>hk _ _ (Zag fun k hk=>?_)
 have s2:=Same.new (o:=.dK []) nd;have nH:H d=none:=none_of s1 nd;have m0:=Int.emod_nonneg (mixI c 910) (b:=3) (by decide);have m1:=Int.emod_lt_of_pos (mixI c 910) (b:=3) (by decide);obtain ⟨m,em,ml,mh⟩:∃ m:Nat,1+mixI c 910%3=(m:Int)∧1≤m∧m≤3:=⟨(1+mixI c 910%3).toNat,by omega,by omega,by omega⟩
 walk_at "vc";refine ⟨_,_,rfl,_,rfl,?_⟩;rw [em];refine ⟨by omega,by omega,?_⟩;rw [Int.toNat_natCast];have dn:n≠d:=Zak hn nd;refine loopR (LcI K c n d N0 H) ⟨⟨[],fun _=>0,fun _=>false,[],none,none,none,rfl,Zab,⟨[],Zab,fun kv h=>(by cases h),(by decide),fun x h=>(by cases h)⟩,Nat.le_refl _,fun h=>(by omega),fun x h=>(by cases h)⟩,s2 _ _ hn,s1.trans s2⟩ ?_ ?_
 · rintro i σ H3 hi ⟨⟨N,tp,bt,kvs,v3,v4,v5,rfl,hd,hL,hl,hp,hs⟩,hn3,sm⟩;rw [ZaQ];refine Zag fun k2 hk2=>?_
   walk_at "vc";refine ⟨_,_,rfl,hk2 _ _ (Zag fun k2 hk2=>?_)⟩;generalize mixI c (920+(i:Int))=x;walk_at "vc";refine hk2 _ _ (Zag fun k2 hk2=>?_);have z0:=Int.emod_nonneg (x/16) (b:=7) (by decide);have z1:=Int.emod_lt_of_pos (x/16) (b:=7) (by decide);generalize x/16%7=sz at z0 z1;have x0:=Int.emod_nonneg x (b:=2) (by decide);have x1:=Int.emod_lt_of_pos x (b:=2) (by decide);have st1:∀ (sz:Int) (H4:Hp),Same H3 H4→0≤sz→(sz<7∨x%2=0∧sz=999∨x%2=1∧sz=40)→k2 [some (.int c),some (.ref n),some (.ref d),some (.int (i:Int)),some (.int x),some (.int sz)] H4:=fun sz H4 s4 z0 z1=>by
     refine hk2 _ _ ?_;obtain ⟨wj,ej⟩:∃ wj,N0[i]?=some wj:=⟨_,List.getElem?_eq_getElem (by omega)⟩
     have aj:atI (N0.map V.str) (i:Int)=some (.str wj):=ZaV (by rw [List.getElem?_map,ej];rfl);obtain ⟨b,hb⟩:∃ b:Bool,x%2=(if b=true then 1 else 0):=by
       by_cases e:x%2=1
       · exact ⟨true,e⟩
       · exact ⟨false,by rw [if_neg (by decide)];omega⟩
     have ab:atI [V.str (Str.ofString "values"),V.str (Str.ofString "bits")] (x%2)=some (.str (kW b)):=by
       rw [hb];cases b
       · exact ZaV (j:=0) rfl
       · exact ZaV (j:=1) rfl
     have zb:∃ z:Nat,sz+x%2*(if sz<7 then 1 else 0)=(z:Int)∧z≤999∧(b=true→z≤40):=by
       refine ⟨(sz+x%2*(if sz<7 then 1 else 0)).toNat,?_,?_,fun e=>?_⟩
       · split<;>omega
       · split<;>omega
       · rw [e,if_pos rfl] at hb;split<;>omega
     obtain ⟨z,ez,hz,hzb⟩:=zb;walk_at "vc";rw [ez];refine ⟨by decide,fun p1 n1=>⟨_,SqL.of Zab,_,ab,.inl ⟨by omega,by omega⟩,by decide,fun p2 n2=>?_⟩⟩;have t1:=s4.trans (Same.new (o:=.lst [V.str (Str.ofString "values"),V.str (Str.ofString "bits")]) n1);have t2:=t1.trans (Same.new (o:=.tup [V.str (kW b),V.int z]) n2);have c2:SqT K (upd (upd H4 p1 (.lst [V.str (Str.ofString "values"),V.str (Str.ofString "bits")])) p2 (.tup [V.str (kW b),V.int z])) p2 [.str (kW b),.int z]:=.inl (.inl Zab);generalize upd (upd H4 p1 (.lst [V.str (Str.ofString "values"),V.str (Str.ofString "bits")])) p2 (.tup [V.str (kW b),V.int z])=H5 at t2 c2;obtain ⟨kvs',e,h2,h3,h4⟩:=LcD.same t2 hL;have hd5:=t2 _ _ hd;cases hd5.symm.trans e;have lp:=Zbs kvs (.inr wj:Key) (.ref p2);refine ⟨_,SqL.of (t2 _ _ hn3),_,aj,_,DPut.k (k:=.inr wj) hd5 (Nat.lt_of_le_of_lt h3 (by decide)),⟨wj::N,_,_,_,_,_,_,rfl,Zab,LcD.put hd5 h2 (by omega) h4 wj b z c2 hz hzb,by omega,fun _ h=>(by cases h),fun y hy=>?_⟩,?_,(sm.trans t2).put nH⟩
     · rcases List.mem_cons.mp hy with rfl | hy
       · exact List.mem_of_getElem? ej
       · exact hs y hy
     · rw [Zah dn];exact t2 _ _ hn3
   walk_at "vc";split
   · refine ⟨by decide,fun p np=>⟨_,SqL.of Zab,?_⟩⟩;by_cases e:x%2=0
     · rw [e];exact ⟨_,ZaV (j:=0) rfl,st1 _ _ (Same.new np) (by decide) (.inr (.inl ⟨e,rfl⟩))⟩
     · have e:x%2=1:=by omega
       rw [e];exact ⟨_,ZaV (j:=1) rfl,st1 _ _ (Same.new np) (by decide) (.inr (.inr ⟨e,rfl⟩))⟩
   · exact st1 _ _ (Same.refl _) z0 (.inl z1)
 · rintro σ H3 ⟨⟨N,tp,bt,kvs,v3,v4,v5,rfl,hd,hL,hl,hp,hs⟩,hn3,sm⟩;refine hk _ _ ?_;walk_at "vc";exact q d N tp bt H3 sm nH hL (hp (by omega)) fun x hx=>nN x (hs x hx)
end
theorem loopD {a:Addr}{o:Obj}{kvs:List (Key × V)}{g:TG}{tb:TS}{D:Ends}{σ:L2.St}{H:Hp}(Pv:Nat→L2.St→Hp→Prop)(h0:Pv 0 σ H)(hf:∀ i σ H,Pv i σ H→H a=some (.frz o (.dK kvs)))(hs:∀ i kv σ H,kvs[i]?=some kv→Pv i σ H→g (kV kv.1) σ H fun σ2 H2=>tb { D with nx:=Pv (i+1),ct:=Pv (i+1),bk:=D.nx } σ2 H2)(hd:∀ σ H,Pv kvs.length σ H→D.nx σ H):LoopJ (Itd a o kvs) g tb D σ H:=by
 refine ⟨fun i m σ H=>i≤kvs.length∧m=kvs.length-i∧Pv i σ H,⟨_,Nat.zero_le _,rfl,h0⟩,fun i m σ H h=>?_⟩;obtain ⟨il,rfl,p⟩:=h;by_cases c:i<kvs.length
 · refine .inr ⟨⟨hf i σ H p,c⟩,Pv (i+1),fun σ' H' p'=>⟨kvs.length-(i+1),by omega,c,rfl,p'⟩,?_⟩;rintro x H' ⟨rfl,kv,e,rfl⟩;exact hs i kv σ _ e p
 · have e:i=kvs.length:=by omega
   subst e;exact .inl ⟨⟨hf _ σ H p,Nat.le_refl _⟩,hd σ H p⟩
def spMdC (K:PySem.W.Frag)(IC:Bool→Int→Hp→Addr→Prop):Sp:=fun vs H Q _=>∃ (N:List Str) (tp:Str→Int) (bt:Str→Bool) (d e:Addr),vs=[.ref d,.ref e]∧LcD K N tp bt H d∧H e=some (.dK [])∧∀ m H',Same H H'→CoAt IC N tp bt H' m→Q (.ref m) H'
structure MdI (IC:Bool→Int→Hp→Addr→Prop)(tp:Str→Int)(bt:Str→Bool)(d e m:Addr)(o:Obj)(kvs:List (Key × V))(H:Hp)(i:Nat)(σ:L2.St)(H':Hp):Prop where
 ex:∃ (kv2:List (Key × V)) (v3 v4 v5 v6 v7:Option V),σ=[some (.ref d),some (.ref e),some (.ref m),v3,v4,v5,v6,v7]∧H' m=some (.dK kv2)∧kv2.length≤i∧∀ x:Str,(∃ j<i,∃ v,kvs[j]?=some (.inr x,v))→∃ c,valV kv2 (.inr x)=some (.ref c)∧IC (bt x) (tp x) (del H' m) c
 fz:H' d=some (.frz o (.dK kvs))
 sm:∀ b ob,b≠d→H b=some ob→H' b=some ob
theorem ColE.frz {CM C d c:Addr}{f:Str}{v:V}{H:Hp}{o:Obj}{x:HO}(hd:H d=some (.frz o x))(h:ColE CM C f v H c):ColE CM C f v (del H d) c:=by
 have k:∀ {b:Addr} {ob:HO},H b=some ob→(∀ o x,ob≠.frz o x)→del H d b=some ob:=fun {b ob} e n=>by
   rw [ZaO (fun z=>by rw [z,hd] at e;exact n _ _ (Option.some.inj e).symm)];exact e
 obtain ⟨dx,m,d1,d2,h1,⟨dx',a,b,c',g1,g2,g3,g4⟩,h3,h4⟩:=h;exact ⟨dx,m,d1,d2,k h1 fun _ _ z=>(by cases z),⟨dx',a,b,c',k g1 fun _ _ z=>(by cases z),k g2 fun _ _ z=>(by cases z),k g3 fun _ _ z=>(by cases z),k g4 fun _ _ z=>(by cases z)⟩,k h3 fun _ _ z=>(by cases z),k h4 fun _ _ z=>(by cases z)⟩
theorem ICol.frz {CM CV CB d c:Addr}{b:Bool}{n:Int}{H:Hp}{o:Obj}{x:HO}(hd:H d=some (.frz o x))(h:ICol CM CV CB b n H c):ICol CM CV CB b n (del H d) c:=by
 cases b with
 | true =>
   obtain ⟨z,a,e,h⟩:=h;exact ⟨z,a,e,ColE.frz hd h⟩
 | false=>exact ColE.frz hd h
theorem ZdC {kvs:List (Key × V)}{k:Key}{v:V}(h:valV kvs k=some v):∃ j:Nat,j<kvs.length∧kvs[j]?=some (k,v):=by
 unfold valV at h;cases e:kvs.find? fun kv=>decide (kv.1=k) with
 | none=>rw [e] at h;cases h
 | some kv =>
   rw [e] at h;have m:=List.mem_of_find?_eq_some e;have p:=List.find?_some e;obtain ⟨j,hj⟩:=List.getElem?_of_mem m;refine ⟨j,(List.getElem?_eq_some_iff.mp hj).1,?_⟩;rw [hj];cases kv with
   | mk a b =>
     cases h;have p:a=k:=of_decide_eq_true p;rw [p]
theorem sqT_sm {K:PySem.W.Frag}{H H':Hp}{d c:Addr}{kvs:List (Key × V)}{xs:List V}(hd:H d=some (.dK kvs))(sm:∀ b ob,b≠d→H b=some ob→H' b=some ob)(h:SqT K H c xs):SqT K H' c xs:=by
 rcases h with (h | ⟨o,h⟩) | h
 · exact .inl (.inl (sm _ _ (fun z=>by rw [z,hd] at h;cases h) h))
 · exact .inl (.inr ⟨o,sm _ _ (fun z=>by rw [z,hd] at h;cases h) h⟩)
 · exact .inr h
section
variable {P:Program}{w:World}{K:PySem.W.Frag}{mg:Str→Option Value}{base:Heap}{CM CV CB:Addr}
theorem ZfG (B:Blt mg) (h_ByValue:MakeAt P w K mg base "ByValue" CV ["self","top"] 4 (spVI CM CV "greatest")) (h_ByBits:MakeAt P w K mg base "ByBits" CB ["self","width"] 4 (spVI CM CB "width")) (dd:DefAt K mg "_law_made" ZcL ["_law_columns_here","_law_table_here"]):FnAt P w K mg base "_law_made" ["_law_columns_here","_law_table_here"] 7 (spMdC K (ICol CM CV CB)):=by
 refine FnAt.of dd sc_l_made (fun vs H Q E h=>?_) (fun f cdv A outer s H vs Q E hr h=>?_)
 · obtain ⟨_,_,_,d,e,rfl,_⟩:=h;rfl
 obtain ⟨N,tp,bt,d,e,rfl,hL,he,q⟩:=h;refine ⟨_,(Zae (Zaq (i:=2) sc_l_made.nd rfl (by walk_at "l") ZbP)
     (Zae (Zes (ZbE PassesOwn.never rfl (ZeB (pv 0)) (Zav (i:=3) sc_l_made.nd rfl (by walk_at "l")) (Zae (ps_asg (Zbe (hu1 hr) (pv 0) (pv 3) (fun _ _=>rfl)) (ZeD K rfl (ZbS (Zav (i:=4) sc_l_made.nd rfl (by walk_at "l")) (ZbS (Zav (i:=5) sc_l_made.nd rfl (by walk_at "l")) ZeF))))
     (Zae (ZaD (Zar ZaT (pv 4) Zao (nomark _)) (Zaf (Zaq (i:=6) sc_l_made.nd rfl (by walk_at "l") (ZbN h_ByValue (hr.mono (by decide)) rfl (Zaa (pv 5) Zac)))) (Zaf (Zaq (i:=6) sc_l_made.nd rfl (by walk_at "l") (ZbN h_ByBits (hr.mono (by decide)) rfl (Zaa (pv 5) Zac)))))
     (Zae (Zes (ZbE PassesOwn.never rfl (ZeB (pv 1)) (Zav (i:=7) sc_l_made.nd rfl (by walk_at "l")) (Zaf (Za8 (pe_meD (P:=P) (w:=w) (K:=K) (mg:=mg) (base:=base) 6 (hr.mono (by decide)) (pv 6) (Zaa (pv 7) (Zaa (Zbe (hu1 hr) (Zbe (hu1 hr) (pv 1) (pv 7) (fun _ _=>rfl)) (pv 3) (fun _ _=>rfl)) Zac)))))))
     (Zaf (Zf7 (hu1 hr) (pv 2) (pv 3) (pv 6) rfl)))))))
     (Zaf (Zam (pv 2))))),?_⟩
 refine Zag fun k hk=>?_
 walk_at "vc";refine fun m nm=>hk _ _ (Zag fun k hk=>?_)
 have s1:=Same.new (o:=.dK []) nm;obtain ⟨kvs,hdH,h2,h3,h4⟩:=hL;have hd:=s1 _ _ hdH;have he1:=s1 _ _ he;walk_at "vc";refine ⟨d,kvs,hd,kvs,hd,fun o=>?_⟩;have md:m≠d:=fun z=>by rw [← z,nm] at hdH;cases hdH
 have me:m≠e:=fun z=>by rw [z,he] at nm;cases nm
 refine loopD (MdI (ICol CM CV CB) tp bt d e m o kvs H) ⟨⟨[],none,none,none,none,none,rfl,by rw [Zah md,Zab],Nat.le_refl _,fun x ⟨j,h,_⟩=>absurd h (Nat.not_lt_zero _)⟩,Zab,fun b ob nb eb=>by rw [Zah nb];exact s1 _ _ eb⟩ (fun i σ H' h=>h.fz) ?_ ?_
 · rintro i kv σ H3 hkv ⟨⟨kv2,v3,v4,v5,v6,v7,rfl,hm,l2,hx⟩,fz,sm⟩;obtain ⟨x,xN,ex⟩:=h2 kv (List.mem_of_getElem? hkv);obtain ⟨c,z,ec,sc,et,hz,hb⟩:=h4 x xN;rw [ZaQ,ex];have sc:=sqT_sm hdH sm sc;refine Zag fun k2 hk2=>?_
   walk_at "vc";refine ⟨_,ec ▸ .inl ⟨kvs,.inr x,.inr ⟨o,fz⟩,rfl,rfl⟩,c,rfl,_,sc,rfl,_,_,rfl,_,_,rfl,rfl,hk2 _ _ (Zag fun k2 hk2=>?_)⟩
   have st : ∀ y H5,Same H3 H5→ICol CM CV CB (bt x) (tp x) (del H5 m) y→k2 [some (.ref d),some (.ref e),some (.ref m),some (.str x),some (.str (kW (bt x))),some (.int z),some (.ref y),v7] H5:=fun y H5 s5 ic=>by
     refine hk2 _ _ (Zag fun k2 hk2=>?_);have ed:e≠d:=fun z=>by
       rw [z,hdH] at he;cases he;cases hkv
     have he5:=s5 _ _ (sm _ _ ed he);have hm5:=s5 _ _ hm;have fz5:=s5 _ _ fz;walk_at "vc";refine ⟨e,[],he5,[],he5,fun o1=>?_⟩;refine loop0 ⟨Zab,Nat.le_refl _⟩ ⟨o1,Zab,hk2 _ _ ?_⟩;have s6:Same H5 (upd (upd H5 e (.frz o1 (.dK []))) e (.dK [])):=fun b ob eb=>by
       by_cases nb:b=e
       · rw [nb,Zab,← he5,← nb];exact eb
       · rw [Zah nb,Zah nb];exact eb
     generalize upd (upd H5 e (.frz o1 (.dK []))) e (.dK [])=H6 at s6;have lp:=Zbs kv2 (.inr x:Key) (.ref y);have kl:i<kvs.length:=(List.getElem?_eq_some_iff.mp hkv).1;walk_at "vc";refine ⟨_,DPut.k (k:=.inr x) (s6 _ _ hm5) (Nat.lt_of_le_of_lt (show kv2.length≤3 by omega) (by decide)),⟨_,_,_,_,_,_,rfl,Zab,by omega,fun x' hx'=>?_⟩,?_,fun b ob nb eb=>?_⟩
     · have dl:∀ {H':Hp},Same H' H6→Same (del H' m) (del (upd H6 m (.dK (putK kv2 (.inr x) (.ref y)))) m):=fun {H'} s b ob eb=>by
         obtain ⟨nb,eb⟩:=ZaH eb;rw [ZaO nb,Zah nb];exact s _ _ eb
       rw [ZeL];by_cases exx:x'=x
       · subst exx;rw [if_pos rfl];exact ⟨y,rfl,ICol.same (dl s6) ic⟩
       · rw [if_neg (fun w=>exx (Sum.inr.inj w))]
         obtain ⟨j,hj,v,ej⟩:=hx';have hj:j<i:=by
           rcases Nat.lt_or_ge j i with h | h
           · exact h
           · have:j=i:=by omega
             subst this;cases hkv.symm.trans ej;exact absurd (Sum.inr.inj ex) exx
         obtain ⟨c',e',ic'⟩:=hx x' ⟨j,hj,v,ej⟩;exact ⟨c',e',ICol.same (dl (s5.trans s6)) ic'⟩
     · rw [Zah (Ne.symm md)];exact s6 _ _ fz5
     · rw [Zah (Zak eb nm)];exact s6 _ _ (s5 _ _ (sm _ _ nb eb))
   have off:∀ {C y dy:Addr} {f:Str} {v:V} {H5:Hp},H3 y=none→H3 dy=none→(∀ d kvs,upd (upd H3 dy (.own y)) y (.ins C dy []) d=some (.dK kvs)→ColE CM C f v (del H5 d) y)→ColE CM C f v (del H5 m) y:=fun {C y dy f v H5} ny ndy h=>h m kv2 (by rw [Zah (Zak hm ny),Zah (Zak hm ndy)];exact hm)
   walk_at "vc";cases hb2:bt x with
   | true =>
     rw [hb2] at et hb st;rw [if_neg (by decide +kernel)];refine fun y dy ny ndy hne=>⟨y,dy,_,rfl,Zab,fun H5 f5 c5 cd5=>⟨rfl,st y H5 (Zeb ny ndy f5) ⟨z,hb rfl,et,off ny ndy cd5⟩⟩⟩
   | false =>
     rw [hb2] at et hb st;rw [if_pos (show kW false=Str.ofString "values" from rfl)];have et:tp x=(z:Int):=et;refine fun y dy ny ndy hne=>⟨y,dy,_,rfl,Zab,fun H5 f5 c5 cd5=>⟨rfl,st y H5 (Zeb ny ndy f5) ?_⟩⟩
     rw [et];exact off ny ndy cd5
 · rintro σ H3 ⟨⟨kv2,v3,v4,v5,v6,v7,rfl,hm,l2,hx⟩,fz,sm⟩;refine ⟨o,fz,hk _ _ ?_⟩;walk_at "vc";refine q m _ (fun b ob eb=>?_) ⟨kv2,by rw [Zah md];exact hm,fun x xN=>?_⟩
   · by_cases nb:b=d
     · rw [nb,Zab,← hdH,← nb];exact eb
     · rw [Zah nb];exact sm _ _ nb eb
   · obtain ⟨c,z,ec,_⟩:=h4 x xN;obtain ⟨c',e',ic⟩:=hx x (by obtain ⟨j,jl,ej⟩:=ZdC ec;exact ⟨j,jl,_,ej⟩);refine ⟨c',e',ICol.same (fun b ob eb=>?_) (ICol.frz (show del H3 m d=some (.frz o (.dK kvs)) by rw [ZaO (Ne.symm md)];exact fz) ic)⟩;obtain ⟨nb,eb⟩:=ZaH eb;obtain ⟨nb2,eb⟩:=ZaH eb;rw [Zah nb];exact eb
end
theorem nil_same {K:PySem.W.Frag}{H:Hp}{a b:Addr}{Q:VK}(ha:SqL K H a [])(hb:SqL K H b [])(q:Q (.bl true) H):rEqD K (.ref a) (.ref b) H Q :=
 ⟨.list [],.list [],.lst ha .nil,.lst hb .nil,by decide +kernel,by decide +kernel,by unfold SeqAt.noMix SeqAt.noMixAll;rfl,by unfold Spec.same Spec.sameAll;exact q⟩
def spEnd (K:PySem.W.Frag):Sp:=fun vs H Q _=>∃ (c s:Addr) (b:Bool) (z:Nat) (n:Int),vs=[.ref c,.ref s,.int n]∧SqT K H c [.str (kW b),.int z]∧z≤999∧(b=true→z≤40)∧H s=some (.lst [])∧∀ (i:Int) H',Same H H'→Q (.int i) H'
section
variable {P:Program}{w:World}{K:PySem.W.Frag}{mg:Str→Option Value}{base:Heap}
theorem ok_end76 (B:Blt mg)(h_l_mixed:FnAt P w K mg base "_law_mixed" ["_law_cell","_law_k"] 1 spMixed)(h_l_top:FnAt P w K mg base "_law_top" ["_law_column"] 1 (spTop K))(dd:DefAt K mg "_law_end" Zdi ["_law_column","_law_some","_law_number"]):FnAt P w K mg base "_law_end" ["_law_column","_law_some","_law_number"] 2 (spEnd K):=by
 refine FnAt.of dd sc_l_end (fun vs H Q E h=>?_) (fun f cdv A outer s H vs Q E hr h=>?_)
 · obtain ⟨c,s,b,z,n,rfl,_⟩:=h;rfl
 obtain ⟨c,s,b,z,n,rfl,hc,hz,hb,hs,q⟩:=h;refine ⟨_,(Zae (Zaq (i:=3) sc_l_end.nd rfl (by walk_at "l") (Zai h_l_top (hr.mono (by decide)) rfl (Zaa (pv 0) Zac)))
     (Zae (Zaq (i:=4) sc_l_end.nd rfl (by walk_at "l") (Zal ZbJ (pv 2) Zad))
     (Zae (ZaD (Zar ZaT (Zal ZaA (pv 2) Zad) Zad (nomark _)) (Zaf (Zam (Zap (ZaC K) (ZaG (Zaa Zad (Zaa (pv 3) (Zaa (Zal ZbL (Zal ZbL Zad Zad) (Zal ZaA (pv 4) (Zal op_pow Zad Zad))) (Zaa (Zal ZaJ (Zal ZaJ (pv 3) Zad) (Zal ZaA (pv 4) (Zal op_pow Zad Zad))) Zac))))) (Zal ZaA (pv 4) Zad) (fun _ _=>rfl)))) Zas)
     (Zae (ZaD (PW.pt (Zcp (Zar Zcl (Zal ZaA (pv 2) Zad) Zad (nomark _)) (Zcv (Zar (Zer K (hu64 hr)) (pv 1) (ZaG Zac) (nomark _))))) (Zaf (Zam (Zal ZaA (Zal Zb9 (pv 4) Zad) (Zal ZaJ (pv 3) Zad)))) Zas)
     (Zaf (Zam (Zal ZbL (Zal ZaJ (Zap (ZaC K) (pv 1) (Zal ZaA (pv 4) (Zaj (ZaN K) rfl B.len PySem.boot_len (Zaa (pv 1) Zac))) (fun _ _=>rfl)) (Zal ZaA (Zai h_l_mixed (hr.mono (by decide)) rfl (Zaa (pv 2) (Zaa Zad Zac))) Zad)) Zad))))))),?_⟩
 refine Zag fun k hk=>?_
 walk_at "vc";refine ⟨c,b,z,rfl,hc,hz,hb,hk _ _ (Zag fun k hk=>?_)⟩;have t0:0≤(if b=true then 2^z-1 else (z:Int)):=by
   split
   · have:=Int.pow_pos (n:=2) (m:=z) (by decide);omega
   · omega
 generalize (if b=true then 2^z-1 else (z:Int))=tp at t0;walk_at "vc";refine hk _ _ (Zag fun k hk=>?_);walk_at "vc";by_cases c8:n%8=0
 · rw [if_pos c8];refine ⟨by decide,by decide,by decide,fun p np=>⟨_,SqL.of Zab,?_⟩⟩;have r0:=Int.emod_nonneg (n/8) (b:=4) (by decide);have r1:=Int.emod_lt_of_pos (n/8) (b:=4) (by decide);generalize n/8%4=r at r0 r1;rcases (by omega:r=0∨r=1∨r=2∨r=3) with rfl | rfl | rfl | rfl<;>exact ⟨_,rfl,q _ _ (Same.new np)⟩
 rw [if_neg c8];refine hk _ _ (Zag fun k hk=>?_);rw [Zbj];refine (show ∀ R:Bool→Hp→Prop,(∀ H',Same H H'→R true H')→_ from fun R r=>?_) _ fun H2 s2=>?_
 · rw [Zel];walk_at "vc";by_cases c3:n%8<3
   · rw [if_pos c3];exact r H (Same.refl _)
   · rw [if_neg c3];refine ⟨by decide,fun p np=>?_⟩;have:=nil_same (K:=K) (Q:=fun v H'=>v=.bl true∧R true H') (SqL.of ((Same.new (o:=.lst []) np) _ _ hs)) (SqL.of Zab) ⟨rfl,r _ (Same.new np)⟩;obtain ⟨d1,d2,a1,a2,a3,a4,a5,a6,a7⟩:=this;refine ⟨d1,a1,d2,a2,a3,a4,a5,?_⟩;rw [V.bl.inj a6];exact a7
 · rw [if_pos rfl];walk_at "vc";exact ⟨by omega,q _ _ s2⟩
end
def spLeaf (K:PySem.W.Frag)(N:List Str)(tp:Str→Int)(bt:Str→Bool):Sp:=fun vs H Q _=>∃ (d e:Addr) (c:Int),vs=[.ref d,.ref e,.int c]∧LcD K N tp bt H d∧N≠[]∧H e=some (.dK [])∧∀ t v H',Same H H'→TrAt K (New H H') t v→t.dep=0→t.ok N→t.men.length≤1→Q v H'
section
variable {P:Program}{w:World}{K:PySem.W.Frag}{mg:Str→Option Value}{base:Heap}{N:List Str}{tp:Str→Int}{bt:Str→Bool}
theorem ZgT (B:Blt mg)(h_l_mixed:FnAt P w K mg base "_law_mixed" ["_law_cell","_law_k"] 1 spMixed)(h_l_end:FnAt P w K mg base "_law_end" ["_law_column","_law_some","_law_number"] 2 (spEnd K))(dd:DefAt K mg "_law_leaf" ZcO ["_law_columns_here","_law_table_here","_law_cell"]):FnAt P w K mg base "_law_leaf" ["_law_columns_here","_law_table_here","_law_cell"] 3 (spLeaf K N tp bt):=by
 refine FnAt.of dd sc_l_leaf (fun vs H Q E h=>?_) (fun f cdv A outer s H vs Q E hr h=>?_)
 · obtain ⟨d,e,c,rfl,_⟩:=h;rfl
 obtain ⟨d,e,c,rfl,hL,hN,he,q⟩:=h;refine ⟨_,(Zae (Zaq (i:=3) sc_l_leaf.nd rfl (by walk_at "l") (Zai h_l_mixed (hr.mono (by decide)) rfl (Zaa (pv 2) (Zaa Zad Zac))))
     (Zae (ZaD (Zar Zcl (Zal ZaA (pv 3) Zad) Zad (nomark _)) (Zaf (Zam (Zap (ZaC K) (ZaG (Zaa (ZaL (Zaa Zao Zac)) (Zaa (ZaL (Zaa Zao Zac)) Zac))) (Zal ZaA (pv 3) Zad) (fun _ _=>rfl)))) Zas)
     (Zae (Zaq (i:=4) sc_l_leaf.nd rfl (by walk_at "l") (Zap (ZaC K) (Za1 Zdx rfl B.lst boot_list (Zaa (pv 0) Zac)) (Zal ZaA (Zal ZbJ (pv 3) Zad) (Zaj ZdP rfl B.len PySem.boot_len (Zaa (pv 0) Zac))) (fun _ _=>rfl)))
     (Zae (Zes (Zct (i:=5) ["_law_row"] [4,1] sc_l_leaf.nd rfl (by walk_at "l") rfl (ZeB (pv 1)) (fun _ _ _ _ _=>Zav (i:=0) (by show List.Nodup (["_law_row","_law_name","_law_table_here"]:List Str);decide +kernel) rfl (Or.inl rfl)) (fun _ _ _ _ _=>ZaW) (fun _ _ _ _ _=>(Zbe (hu1 hr) (Zbe (hu1 hr) (pv 2) (pv 0) (fun _ _=>rfl)) (pv 1) (fun _ _=>rfl))) ⟨⟨_,rfl,rfl,.inl rfl⟩,⟨⟨_,rfl,rfl,.inl rfl⟩,trivial⟩⟩ ZaE))
     (Zae (Zaq (i:=6) sc_l_leaf.nd rfl (by walk_at "l") (Zai h_l_end (hr.mono (by decide)) rfl (Zaa (Zbe (hu1 hr) (pv 0) (pv 4) (fun _ _=>rfl)) (Zaa (pv 5) (Zaa (Zai h_l_mixed (hr.mono (by decide)) rfl (Zaa (pv 2) (Zaa Zad Zac))) Zac)))))
     (Zae (Zaq (i:=7) sc_l_leaf.nd rfl (by walk_at "l") (Zai h_l_end (hr.mono (by decide)) rfl (Zaa (Zbe (hu1 hr) (pv 0) (pv 4) (fun _ _=>rfl)) (Zaa (pv 5) (Zaa (Zai h_l_mixed (hr.mono (by decide)) rfl (Zaa (pv 2) (Zaa Zad Zac))) Zac)))))
     (Zae (Zaq (i:=8) sc_l_leaf.nd rfl (by walk_at "l") (Zal ZaA (Zal ZbJ (pv 3) Zad) Zad))
     (Zae (ZaD (Zar Zcl (pv 8) Zad (nomark _)) (Zaf (Zaq (i:=7) sc_l_leaf.nd rfl (by walk_at "l") (pv 6))) Zas)
     (Zae (ZaD (PW.pt (pw_and (Zar Zcl (pv 8) Zad (nomark _)) (ZfU (Zar op_gt (pv 6) (pv 7) (nomark _))))) (Zaf (ps_par (i:=6) (j:=7) rfl sc_l_leaf.nd rfl rfl (by decide) rfl rfl (Zaa (pv 7) (Zaa (pv 6) Zac)) rfl)) Zas)
     (Zaf (Zam (ZaL (Zaa Zao (Zaa (pv 4) (Zaa (pv 6) (Zaa (pv 7) Zac)))))))))))))))),?_⟩
 refine Zag fun k hk=>?_
 walk_at "vc";refine ⟨_,_,rfl,hk _ _ (Zag fun k hk=>?_)⟩;walk_at "vc";generalize mixI c 1000=x;by_cases c1:x%16<2
 · rw [if_pos c1];refine ⟨by decide,fun p n1=>⟨by decide,fun p1 n2=>⟨by decide,fun p2 n3=>⟨_,SqL.of Zab,?_⟩⟩⟩⟩;have s1:=Same.new (o:=.tup [V.str (Str.ofString "every")]) n1;have s2:=Same.new (o:=.tup [V.str (Str.ofString "nobody")]) n2;have s3:=Same.new (o:=.lst [V.ref p,V.ref p1]) n3;have c0:=Int.emod_nonneg x (b:=16) (by decide);generalize x%16=r at c0 c1;rcases (by omega:r=0∨r=1) with rfl | rfl
   · exact ⟨_,rfl,q .ev _ _ ((s1.trans s2).trans s3) (.tup (.inl (.inl (New.of n1 ((s2.trans s3) _ _ Zab)))) (.cons (.str _) .nil)) rfl trivial (Nat.zero_le _)⟩
   · exact ⟨_,rfl,q .no _ _ ((s1.trans s2).trans s3) (.tup (.inl (.inl (New.of (none_of s1 n2) (s3 _ _ Zab)))) (.cons (.str _) .nil)) rfl trivial (Nat.zero_le _)⟩
 rw [if_neg c1];refine hk _ _ (Zag fun k hk=>?_);walk_at "vc";obtain ⟨kvs,hd,h2,h3,h4⟩:=id hL;have kp:0<kvs.length:=by
   cases N with
   | nil=>exact absurd rfl hN
   | cons y r =>
     obtain ⟨c,z,ec,_⟩:=h4 y (.head _);obtain ⟨j,jl,_⟩:=ZdC ec;omega
 refine ⟨kvs,hd,fun l nl=>⟨kvs,(Same.new nl) _ _ hd,by omega,_,SqL.of Zab,?_⟩⟩;have r0:=Int.emod_nonneg (x/16) (b:=(kvs.length:Int)) (by omega);have r1:=Int.emod_lt_of_pos (x/16) (b:=(kvs.length:Int)) (by omega);obtain ⟨j,ej,jl⟩:∃ j:Nat,x/16%(kvs.length:Int)=(j:Int)∧j<kvs.length:=⟨(x/16%(kvs.length:Int)).toNat,by omega,by omega⟩
 obtain ⟨y,yN,ey⟩:=h2 _ (List.getElem_mem jl);have aj:atI (kvs.map fun p=>kV p.1) (j:Int)=some (.str y):=ZaV (by rw [List.getElem?_map,List.getElem?_eq_getElem jl];show some (kV kvs[j].1)=_;rw [ey];rfl);refine ⟨_,by rw [ej];exact aj,hk _ _ (Zag fun k hk=>?_)⟩;have s1:=Same.new (o:=.lst (kvs.map fun p=>kV p.1)) nl;generalize upd H l (.lst (kvs.map fun p=>kV p.1))=H1 at s1;walk_at "vc";refine ⟨e,[],s1 _ _ he,[],s1 _ _ he,fun o=>?_⟩;have ee:∀ D,upd H1 e (.frz o (.dK [])) D=none→D≠e:=fun D nD z=>by rw [z,Zab] at nD;cases nD
 refine comp0 (fun D nD=>⟨by rw [Zah (Ne.symm (ee D nD)),Zab],Nat.le_refl _⟩) fun D nD=>⟨o,by rw [Zah (Ne.symm (ee D nD)),Zab],hk _ _ (Zag fun k hk=>?_)⟩
 have nD':H1 D=none:=by rw [Zah (ee D nD)] at nD;exact nD
 have s2:Same H1 (upd (upd (upd H1 e (.frz o (.dK []))) D (.lst [])) e (.dK [])):=fun b ob eb=>by
   by_cases nb:b=e
   · rw [nb,Zab,← s1 _ _ he,← nb];exact eb
   · rw [Zah nb,Zah (Zak eb nD'),Zah nb];exact eb
 have hD:upd (upd (upd H1 e (.frz o (.dK []))) D (.lst [])) e (.dK []) D=some (.lst []):=by rw [Zah (ee D nD),Zab]
 have s12:=s1.trans s2;generalize upd (upd (upd H1 e (.frz o (.dK []))) D (.lst [])) e (.dK [])=H2 at s2 hD s12;obtain ⟨cc,z,ec,sc,_,hz,hb⟩:=h4 y yN;have gt:∀ {H'},Same H H'→DGet H' d (.str y) (some (.ref cc)):=fun {H'} s=>ec ▸ DGet.k (k:=.inr y) (s _ _ hd)
 walk_at "vc";refine ⟨_,gt s12,_,_,rfl,cc,D,bt y,z,_,rfl,ZaB s12 sc,hz,hb,hD,fun lo H3 s3=>hk _ _ (Zag fun k hk=>?_)⟩;have s13:=s12.trans s3;walk_at "vc";refine ⟨_,gt s13,_,_,rfl,cc,D,bt y,z,_,rfl,ZaB s13 sc,hz,hb,s3 _ _ hD,fun hi H4 s4=>hk _ _ (Zag fun k hk=>?_)⟩;have s14:=s13.trans s4;walk_at "vc";refine hk _ _ (Zag fun k hk=>?_);generalize x/48%8=wy;have st:∀ hi:Int,k [some (.ref d),some (.ref e),some (.int c),some (.int x),some (.str y),some (.ref D),some (.int lo),some (.int hi),some (.int wy)] H4:=fun hi=>by
   refine hk _ _ (Zag fun k hk=>?_);have fin:∀ lo hi:Int,k [some (.ref d),some (.ref e),some (.int c),some (.int x),some (.str y),some (.ref D),some (.int lo),some (.int hi),some (.int wy)] H4:=fun lo hi=>by
     refine hk _ _ ?_;walk_at "vc";exact ⟨by decide,fun p np=>q (.inn y lo hi) _ _ (s14.trans (Same.new np)) (.tup (.inl (.inl (New.of (none_of s14 np) Zab))) (.cons (.str _) (.cons (.str _) (.cons (.int _) (.cons (.int _) .nil))))) rfl yN (Nat.le_refl _)⟩
   walk_at "vc";split
   · split
     · exact ⟨_,_,⟨rfl,rfl⟩,fin _ _⟩
     · exact fin _ _
   · exact fin _ _
 walk_at "vc";split
 · exact st _
 · exact st _
end
def spRng (K:PySem.W.Frag)(N:List Str)(tp:Str→Int)(bt:Str→Bool):Sp:=fun vs H Q _=>∃ (d:Addr) (c k:Int),vs=[.ref d,.int c,.int k]∧LcD K N tp bt H d∧N≠[]∧∀ t v H',Same H H'→TrAt K (New H H') t v→t.dep=0→t.ok N→t.men.length≤1→Q v H'
theorem Zen {H H':Hp}{p:Addr}(s:Same H H'):Same (del H p) (del H' p):=fun b o e=>by
 obtain ⟨n,e⟩:=ZaH e;rw [ZaO n];exact s _ _ e
theorem gnew {H H4:Hp}{p p1:Addr}{o op:HO}(s:Same H H4)(hp:H4 p=some op)(n1:H4 p1=none):del (New H (upd H4 p1 o)) p p1=some o:=by rw [ZaO (fun z=>by rw [z,hp] at n1;cases n1)];exact New.of (none_of s n1) Zab
theorem gnew2 {H H3 H4:Hp}{p:Addr}{op:HO}(s:Same H H3)(hp:H3 p=some op):Same (New H3 H4) (del (New H H4) p):=fun b o e=>by
 obtain ⟨e1,e2⟩:=New.some e;rw [ZaO (fun z=>by rw [z,hp] at e1;cases e1)];exact New.of (none_of s e1) e2
theorem allone {K:PySem.W.Frag}{N:List Str}(ts:Ts){z:Int}(h:z=0∨z=1):∃ (w:Str) (t:T),atI [V.str (Str.ofString "all"),V.str (Str.ofString "one")] z=some (.str w)∧(∀ G q l us,SqT K G q [.str w,.ref l]→SqL K G l us→TrsAt K G ts us→TrAt K G t (.ref q))∧t.dep=ts.dep+1∧(ts.toL.length≤1000→ts.ok N→t.ok N)∧t.men=ts.men∧t.parts=ts∧(t.kd.isA||t.kd.isO)=true:=by
 rcases h with rfl | rfl
 · exact ⟨_,.al ts,rfl,fun G q l us a b c=>.tup a (.cons (.str _) (.cons (.lst b c) .nil)),rfl,fun a b=>⟨a,b⟩,rfl,rfl,rfl⟩
 · exact ⟨_,.on ts,rfl,fun G q l us a b c=>.tup a (.cons (.str _) (.cons (.lst b c) .nil)),rfl,fun a b=>⟨a,b⟩,rfl,rfl,rfl⟩
theorem oneall {K:PySem.W.Frag}{N:List Str}(ts:Ts){z:Int}(h:z=0∨z=1):∃ (w:Str) (t:T),atI [V.str (Str.ofString "one"),V.str (Str.ofString "all")] z=some (.str w)∧(∀ G q l us,SqT K G q [.str w,.ref l]→SqL K G l us→TrsAt K G ts us→TrAt K G t (.ref q))∧t.dep=ts.dep+1∧(ts.toL.length≤1000→ts.ok N→t.ok N)∧t.men=ts.men:=by
 rcases h with rfl | rfl
 · exact ⟨_,.on ts,rfl,fun G q l us a b c=>.tup a (.cons (.str _) (.cons (.lst b c) .nil)),rfl,fun a b=>⟨a,b⟩,rfl⟩
 · exact ⟨_,.al ts,rfl,fun G q l us a b c=>.tup a (.cons (.str _) (.cons (.lst b c) .nil)),rfl,fun a b=>⟨a,b⟩,rfl⟩
structure NeI (K:PySem.W.Frag)(N:List Str)(d p:Addr)(c wd:Int)(H:Hp)(i:Nat)(σ:L2.St)(H':Hp):Prop where
 ex:∃ (us:List V) (ts:List T) (v4 v5 v6:Option V),σ=[some (.ref d),some (.int c),some (.int wd),some (.ref p),v4,v5,v6]∧H' p=some (.lst us)∧RdDs K (del (New H H') p) us (ts.map T.dat)∧ts.length=i∧(∀ t∈ts,t.ok N∧t.dep≤4)∧(menL ts).length≤3*i
 sm:Same H H'
theorem ZbV {K:PySem.W.Frag}{H:Hp}:∀ {us:List V} {ds:List PyData} {u:V} {d:PyData},RdDs K H us ds→RdD K H u d→RdDs K H (us++[u]) (ds++[d])
 | _,_,_,_,.nil,h=>.cons h .nil
 | _,_,_,_,.cons a r,h=>.cons a (ZbV r h)
theorem ZcP:∀ {l:List T} {n:Nat},(∀ t∈l,t.dep≤n)→(Ts.ofL l).dep≤n
 | [],_,_=>Nat.zero_le _
 | t::r,n,h=>Nat.max_le.mpr ⟨h t (.head _),ZcP fun u hu=>h u (.tail _ hu)⟩
theorem Zd9 (l:List T):(Ts.ofL l).men=menL l:=by rw [Zfd,Ts.toL_ofL]
theorem ZfJ {N:List Str}{l:List T}(h:∀ t∈l,t.ok N):(Ts.ofL l).ok N:=ZfH fun j v e=>h v (List.mem_of_getElem? e)
section
variable {P:Program}{w:World}{K:PySem.W.Frag}{mg:Str→Option Value}{base:Heap}{N:List Str}{tp:Str→Int}{bt:Str→Bool}
theorem Zfp (B:Blt mg)(h_l_mixed:FnAt P w K mg base "_law_mixed" ["_law_cell","_law_k"] 1 spMixed)(h_l_top:FnAt P w K mg base "_law_top" ["_law_column"] 1 (spTop K))(dd:DefAt K mg "_law_range" Zch ["_law_columns_here","_law_cell","_law_k"]):FnAt P w K mg base "_law_range" ["_law_columns_here","_law_cell","_law_k"] 2 (spRng K N tp bt):=by
 refine FnAt.of dd sc_l_range (fun vs H Q E h=>?_) (fun f cdv A outer s H vs Q E hr h=>?_)
 · obtain ⟨d,c,k,rfl,_⟩:=h;rfl
 obtain ⟨d,c,k0,rfl,hL,hN,q⟩:=h;refine ⟨_,(Zae (Zaq (i:=3) sc_l_range.nd rfl (by walk_at "l") (Zai h_l_mixed (hr.mono (by decide)) rfl (Zaa (pv 1) (Zaa (Zal ZaJ Zad (pv 2)) Zac))))
     (Zae (Zaq (i:=4) sc_l_range.nd rfl (by walk_at "l") (Zap (ZaC K) (Za1 Zdx rfl B.lst boot_list (Zaa (pv 0) Zac)) (Zal ZaA (pv 3) (Zaj ZdP rfl B.len PySem.boot_len (Zaa (pv 0) Zac))) (fun _ _=>rfl)))
     (Zae (Zaq (i:=5) sc_l_range.nd rfl (by walk_at "l") (Zai h_l_top (hr.mono (by decide)) rfl (Zaa (Zbe (hu1 hr) (pv 0) (pv 4) (fun _ _=>rfl)) Zac)))
     (Zae (Zaq (i:=6) sc_l_range.nd rfl (by walk_at "l") (Zal ZaA (Zal Zb9 (Zal ZbJ (pv 3) Zad) Zad) (Zal ZaJ (Zaj (Zc4 rfl) rfl B.min Zc5 (Zaa (pv 5) (Zaa Zad Zac))) Zad)))
     (Zae (Zaq (i:=7) sc_l_range.nd rfl (by walk_at "l") (Zaj (Zc4 rfl) rfl B.min Zc5 (Zaa (pv 5) (Zaa (Zal ZaJ (pv 6) (Zal ZaA (Zai h_l_mixed (hr.mono (by decide)) rfl (Zaa (pv 1) (Zaa (Zal ZaJ Zad (pv 2)) Zac))) Zad)) Zac))))
     (Zae (ZaD (Zar ZaT (Zal ZaA (Zal ZbJ (pv 3) Zad) Zad) Zad (nomark _)) (Zaf (ps_par (i:=6) (j:=7) rfl sc_l_range.nd rfl rfl (by decide) rfl rfl (Zaa (Zaj (ZdU rfl) rfl B.max ZdT (Zaa Zad (Zaa (Zal ZbL (pv 5) (pv 7)) Zac))) (Zaa (Zaj (ZdU rfl) rfl B.max ZdT (Zaa Zad (Zaa (Zal ZbL (pv 5) (pv 6)) Zac))) Zac)) rfl)) Zas)
     (Zaf (Zam (ZaL (Zaa Zao (Zaa (pv 4) (Zaa (pv 6) (Zaa (pv 7) Zac))))))))))))),?_⟩
 refine Zag fun k hk=>?_
 walk_at "vc";refine ⟨_,_,rfl,hk _ _ (Zag fun k hk=>?_)⟩;generalize mixI c (1100+k0)=x;walk_at "vc";obtain ⟨kvs,hd,h2,h3,h4⟩:=id hL;have kp:0<kvs.length:=by
   cases N with
   | nil=>exact absurd rfl hN
   | cons y r =>
     obtain ⟨c,z,ec,_⟩:=h4 y (.head _);obtain ⟨j,jl,_⟩:=ZdC ec;omega
 refine ⟨kvs,hd,fun l nl=>⟨kvs,(Same.new nl) _ _ hd,by omega,_,SqL.of Zab,?_⟩⟩;have r0:=Int.emod_nonneg x (b:=(kvs.length:Int)) (by omega);have r1:=Int.emod_lt_of_pos x (b:=(kvs.length:Int)) (by omega);obtain ⟨j,ej,jl⟩:∃ j:Nat,x%(kvs.length:Int)=(j:Int)∧j<kvs.length:=⟨(x%(kvs.length:Int)).toNat,by omega,by omega⟩
 obtain ⟨y,yN,ey⟩:=h2 _ (List.getElem_mem jl);have aj:atI (kvs.map fun p=>kV p.1) (j:Int)=some (.str y):=ZaV (by rw [List.getElem?_map,List.getElem?_eq_getElem jl];show some (kV kvs[j].1)=_;rw [ey];rfl);refine ⟨_,by rw [ej];exact aj,hk _ _ (Zag fun k hk=>?_)⟩;have s1:=Same.new (o:=.lst (kvs.map fun p=>kV p.1)) nl;generalize upd H l (.lst (kvs.map fun p=>kV p.1))=H1 at s1;obtain ⟨cc,z,ec,sc,_,hz,hb⟩:=h4 y yN;have gt:∀ {H'},Same H H'→DGet H' d (.str y) (some (.ref cc)):=fun {H'} s=>ec ▸ DGet.k (k:=.inr y) (s _ _ hd)
 walk_at "vc";refine ⟨_,gt s1,cc,bt y,z,rfl,ZaB s1 sc,hz,hb,hk _ _ (Zag fun k hk=>?_)⟩;have t0:0≤(if bt y=true then 2^z-1 else (z:Int)):=by
   split
   · have:=Int.pow_pos (n:=2) (m:=z) (by decide);omega
   · omega
 generalize (if bt y=true then 2^z-1 else (z:Int))=top at t0;walk_at "vc";refine ⟨_,_,⟨rfl,rfl⟩,by split<;>omega,hk _ _ (Zag fun k hk=>?_)⟩;generalize x/3*7919%((if 9<top then 9 else top)+1)=lo;walk_at "vc";refine ⟨_,_,rfl,_,rfl,_,_,⟨rfl,rfl⟩,hk _ _ (Zag fun k hk=>?_)⟩;generalize (if lo+mixI c (1120+k0)%3<top then lo+mixI c (1120+k0)%3 else top)=hi;have fin:∀ lo hi:Int,k [some (.ref d),some (.int c),some (.int k0),some (.int x),some (.str y),some (.int top),some (.int lo),some (.int hi)] H1:=fun lo hi=>by
   refine hk _ _ ?_;walk_at "vc";exact ⟨by decide,fun p np=>q (.inn y lo hi) _ _ (s1.trans (Same.new np)) (.tup (.inl (.inl (New.of (none_of s1 np) Zab))) (.cons (.str _) (.cons (.str _) (.cons (.int _) (.cons (.int _) .nil))))) rfl yN (Nat.le_refl _)⟩
 walk_at "vc";split
 · exact ⟨_,_,⟨rfl,rfl⟩,_,_,⟨rfl,rfl⟩,_,_,⟨rfl,rfl⟩,fin _ _⟩
 · exact fin _ _
def spNear (K:PySem.W.Frag):Sp:=fun vs H Q _=>∃ (N:List Str) (tp:Str→Int) (bt:Str→Bool) (d:Addr) (c:Int),vs=[.ref d,.int c]∧LcD K N tp bt H d∧N≠[]∧∀ t v H',Same H H'→TrAt K (New H H') t v→t.dep≤5→t.ok N→t.men.length≤12→(t.kd.isA||t.kd.isO)=true→2≤t.parts.toL.length→Q v H'
theorem ZgK (B:Blt mg) (h_l_mixed:FnAt P w K mg base "_law_mixed" ["_law_cell","_law_k"] 1 spMixed) (h_rngA:∀ N tp bt,FnAt P w K mg base "_law_range" ["_law_columns_here","_law_cell","_law_k"] 2 (spRng K N tp bt)) (dd:DefAt K mg "_law_near" ZcD ["_law_columns_here","_law_cell"]):FnAt P w K mg base "_law_near" ["_law_columns_here","_law_cell"] 3 (spNear K):=by
 refine FnAt.of dd sc_l_near (fun vs H Q E h=>?_) (fun f cdv A outer s H vs Q E hr h=>?_)
 · obtain ⟨_,_,_,d,c,rfl,_⟩:=h;rfl
 obtain ⟨N,tp,bt,d,c,rfl,hL,hN,q⟩:=h;have h_l_range:=h_rngA N tp bt;refine ⟨_,(Zae (Zaq (i:=2) sc_l_near.nd rfl (by walk_at "l") (Zal ZaA (Zai h_l_mixed (hr.mono (by decide)) rfl (Zaa (pv 1) (Zaa Zad Zac))) Zad))
     (Zae (Zaq (i:=3) sc_l_near.nd rfl (by walk_at "l") (ZaG Zac))
     (Zae (ZbE PassesOwn.never rfl (Zbg rfl B.range (Zaa (Zal ZaJ Zad (Zal ZaA (Zai h_l_mixed (hr.mono (by decide)) rfl (Zaa (pv 1) (Zaa Zad Zac))) Zad)) Zac)) (Zav (i:=4) sc_l_near.nd rfl (by walk_at "l")) (Zae (Zaq (i:=5) sc_l_near.nd rfl (by walk_at "l") (Zal ZaA (Zai h_l_mixed (hr.mono (by decide)) rfl (Zaa (pv 1) (Zaa (Zal ZaJ Zad (pv 4)) Zac))) Zad))
     (Zae (Zaq (i:=6) sc_l_near.nd rfl (by walk_at "l") (Zai h_l_range (hr.mono (by decide)) rfl (Zaa (pv 0) (Zaa (pv 1) (Zaa (pv 4) Zac)))))
     (Zae (ZaD (Zar ZaT (pv 5) Zad (nomark _)) (Zaf (Zaq (i:=6) sc_l_near.nd rfl (by walk_at "l") (ZaL (Zaa Zao (Zaa (pv 6) Zac))))) Zas)
     (Zae (ZaD (Zar ZaT (pv 5) Zad (nomark _)) (Zaf (Zaq (i:=6) sc_l_near.nd rfl (by walk_at "l") (ZaL (Zaa (Zap (ZaC K) (ZaG (Zaa Zao (Zaa Zao Zac))) (pv 2) (fun _ _=>rfl)) (Zaa (ZaG (Zaa (pv 6) (Zaa (Zai h_l_range (hr.mono (by decide)) rfl (Zaa (pv 0) (Zaa (pv 1) (Zaa (Zal ZaJ Zad (pv 4)) Zac)))) Zac))) Zac))))) Zas)
     (Zae (ZaD (Zar ZaT (pv 5) Zad (nomark _)) (Zaf (Zaq (i:=6) sc_l_near.nd rfl (by walk_at "l") (ZaL (Zaa (Zap (ZaC K) (ZaG (Zaa Zao (Zaa Zao Zac))) (pv 2) (fun _ _=>rfl)) (Zaa (ZaG (Zaa (Zai h_l_range (hr.mono (by decide)) rfl (Zaa (pv 0) (Zaa (pv 1) (Zaa Zad Zac)))) (Zaa (ZaL (Zaa Zao (Zaa (pv 6) Zac))) Zac))) Zac))))) Zas)
     (Zaf (Za8 (ZbM K PySem.F.plainAttrs_list PySem.F.slot_list_append PySem.F.type_list_append Zbm (pv 3) (Zaa (pv 6) Zac))))))))))
     (Zaf (Zam (ZaL (Zaa (Zap (ZaC K) (ZaG (Zaa Zao (Zaa Zao Zac))) (pv 2) (fun _ _=>rfl)) (Zaa (pv 3) Zac)))))))),?_⟩
 refine Zag fun k hk=>?_
 walk_at "vc";refine ⟨_,_,rfl,_,rfl,hk _ _ (Zag fun k hk=>?_)⟩;have w0:=Int.emod_nonneg (mixI c 1090) (b:=2) (by decide);have w1:=Int.emod_lt_of_pos (mixI c 1090) (b:=2) (by decide);generalize mixI c 1090%2=wd at w0 w1;walk_at "vc";refine ⟨by decide,fun p np=>hk _ _ (Zag fun k hk=>?_)⟩;walk_at "vc";have m0:=Int.emod_nonneg (mixI c 1091) (b:=3) (by decide);have m1:=Int.emod_lt_of_pos (mixI c 1091) (b:=3) (by decide);obtain ⟨m,em,ml,mh⟩:∃ m:Nat,2+mixI c 1091%3=(m:Int)∧2≤m∧m≤4:=⟨(2+mixI c 1091%3).toNat,by omega,by omega,by omega⟩
 refine ⟨_,_,rfl,_,rfl,?_⟩;rw [em,Int.toNat_natCast];refine ⟨by omega,by omega,?_⟩;have w2:wd=0∨wd=1:=by omega
 refine loopR (NeI K N d p c wd H) ⟨⟨[],[],none,none,none,rfl,Zab,.nil,rfl,fun t h=>(by cases h),Nat.zero_le _⟩,Same.new np⟩ ?_ ?_
 · rintro i σ H3 hi ⟨⟨us,ts,v4,v5,v6,rfl,hp,hu,li,ht,hm⟩,sm⟩;rw [ZaQ];refine Zag fun k1 hk1=>?_
   walk_at "vc";refine ⟨_,_,rfl,_,rfl,hk1 _ _ (Zag fun k1 hk1=>?_)⟩;generalize mixI c (1092+(i:Int))%6=wy;walk_at "vc";refine ⟨d,c,_,rfl,LcD.same sm hL,hN,fun t v H4 s4 tr d0 o0 m0=>hk1 _ _ (Zag fun k1 hk1=>?_)⟩;have G:∀ {A B:Hp},Same A B→Same (del (New H A) p) (del (New H B) p):=fun s=>Zen (New.same s)
   have tr:TrAt K (del (New H H4) p) t v:=TrAt.same (gnew2 sm hp) tr;have hl:us.length=i:=by rw [Za7 hu,List.length_map,li]
   have st1:∀ t v H5,Same H3 H5→TrAt K (del (New H H5) p) t v→t.dep≤1→t.ok N→t.men.length≤1→k1 [some (.ref d),some (.int c),some (.int wd),some (.ref p),some (.int i),some (.int wy),some v] H5:=fun t v H5 s5 tr d0 o0 m0=>by
     refine hk1 _ _ (Zag fun k1 hk1=>?_);have st2:∀ t v H5,Same H3 H5→TrAt K (del (New H H5) p) t v→t.dep≤2→t.ok N→t.men.length≤2→k1 [some (.ref d),some (.int c),some (.int wd),some (.ref p),some (.int i),some (.int wy),some v] H5:=fun t v H5 s5 tr d0 o0 m0=>by
       refine hk1 _ _ (Zag fun k1 hk1=>?_);have st3:∀ t v H5,Same H3 H5→TrAt K (del (New H H5) p) t v→t.dep≤4→t.ok N→t.men.length≤3→k1 [some (.ref d),some (.int c),some (.int wd),some (.ref p),some (.int i),some (.int wy),some v] H5:=fun t v H5 s5 tr d0 o0 m0=>by
         refine hk1 _ _ ?_;walk_at "vc";have pp:Same (del (New H H5) p) (del (New H (upd H5 p (.lst (us++[v])))) p):=fun b o e=>by
           obtain ⟨n,e⟩:=ZaH e;obtain ⟨e1,e2⟩:=New.some e;rw [ZaO n];refine New.of e1 ?_;rw [Zah n];exact e2
         refine ⟨⟨_,SqL.of (s5 _ _ hp)⟩,_,s5 _ _ hp,Nat.lt_of_le_of_lt (show us.length≤4 by omega) (by decide),⟨us++[v],ts++[t],_,_,_,rfl,Zab,?_,by rw [List.length_append,li];rfl,fun u hu=>?_,?_⟩,(sm.trans s5).put np⟩
         · rw [List.map_append];exact ZbV (rdDs_same ((G s5).trans pp) hu) (TrAt.same pp tr)
         · rcases List.mem_append.mp hu with hu | hu
           · exact ht u hu
           · rw [List.mem_singleton.mp hu];exact ⟨o0,d0⟩
         · unfold menL at hm ⊢;rw [List.flatMap_append,List.length_append];simp only [List.flatMap_cons,List.flatMap_nil,List.append_nil];omega
       walk_at "vc";split
       · refine ⟨by decide,fun p1 n1=>⟨_,SqL.of Zab,?_⟩⟩;have t1:=Same.new (o:=.lst [V.str (Str.ofString "one"),V.str (Str.ofString "all")]) n1;generalize upd H5 p1 (.lst [V.str (Str.ofString "one"),V.str (Str.ofString "all")])=H6 at t1;have s6:=s5.trans t1;have getw:∀ ts:Ts,∃ (w:Str) (t:T),atI [V.str (Str.ofString "one"),V.str (Str.ofString "all")] wd=some (.str w)∧(∀ G q l us,SqT K G q [.str w,.ref l]→SqL K G l us→TrsAt K G ts us→TrAt K G t (.ref q))∧t.dep=ts.dep+1∧(ts.toL.length≤1000→ts.ok N→t.ok N)∧t.men=ts.men:=fun ts=>oneall ts w2
         obtain ⟨w,_,aw,_⟩:=getw .nil;refine ⟨_,aw,d,c,_,rfl,LcD.same (sm.trans s6) hL,hN,fun t2 v2 H7 s7 tr2 d2 o2 m2=>⟨by decide,fun p2 n2=>⟨by decide,fun p3 n3=>⟨by decide,fun p4 n4=>?_⟩⟩⟩⟩;obtain ⟨w',t3,aw',mk,e1,e2,e3⟩:=getw (.cons t2 (.cons (.opp t) .nil));cases V.str.inj (Option.some.inj (aw.symm.trans aw'));have s7':=s6.trans s7;have hp7:=s7' _ _ hp;have a2:=Same.new (o:=.tup [V.str (Str.ofString "not"),v]) n2;have a3:=Same.new (o:=.lst [v2,V.ref p2]) n3;have a4:=Same.new (o:=.tup [V.str w,V.ref p3]) n4;have g2:=gnew (o:=.tup [V.str (Str.ofString "not"),v]) (sm.trans s7') hp7 n2;have g3:=gnew (o:=.lst [v2,V.ref p2]) ((sm.trans s7').trans a2) (a2 _ _ hp7) n3;have g4:=gnew (o:=.tup [V.str w,V.ref p3]) (((sm.trans s7').trans a2).trans a3) (a3 _ _ (a2 _ _ hp7)) n4;refine st3 t3 _ _ (((s7'.trans a2).trans a3).trans a4) (mk _ p4 p3 [v2,V.ref p2] (.inl (.inl g4)) (SqL.of (G a4 _ _ g3)) (.cons (TrAt.same ((gnew2 (sm.trans s6) (s6 _ _ hp)).trans (G ((a2.trans a3).trans a4))) tr2) (.cons (.tup (.inl (.inl (G (a3.trans a4) _ _ g2))) (.cons (.str _) (.cons (TrAt.same (G (((t1.trans s7).trans a2).trans (a3.trans a4))) tr) .nil))) .nil))) ?_ (e2 (by show 2≤1000;decide) ⟨o2,o0,trivial⟩) ?_
         · rw [e1];have:(Ts.cons t2 (.cons (.opp t) .nil)).dep≤3:=Nat.max_le.mpr ⟨by omega,Nat.max_le.mpr ⟨by show t.dep+1≤3;omega,Nat.zero_le _⟩⟩;omega
         · rw [e3];show (t2.men++(t.men++[])).length≤3;rw [List.append_nil,List.length_append];omega
       · exact st3 t v H5 s5 tr (by omega) o0 (by omega)
     walk_at "vc";split
     · refine ⟨by decide,fun p1 n1=>⟨_,SqL.of Zab,?_⟩⟩;have t1:=Same.new (o:=.lst [V.str (Str.ofString "one"),V.str (Str.ofString "all")]) n1;generalize upd H5 p1 (.lst [V.str (Str.ofString "one"),V.str (Str.ofString "all")])=H6 at t1;have s6:=s5.trans t1;have getw:∀ ts:Ts,∃ (w:Str) (t:T),atI [V.str (Str.ofString "one"),V.str (Str.ofString "all")] wd=some (.str w)∧(∀ G q l us,SqT K G q [.str w,.ref l]→SqL K G l us→TrsAt K G ts us→TrAt K G t (.ref q))∧t.dep=ts.dep+1∧(ts.toL.length≤1000→ts.ok N→t.ok N)∧t.men=ts.men:=fun ts=>oneall ts w2
       obtain ⟨w,_,aw,_⟩:=getw .nil;refine ⟨_,aw,d,c,_,rfl,LcD.same (sm.trans s6) hL,hN,fun t2 v2 H7 s7 tr2 d2 o2 m2=>⟨by decide,fun p3 n3=>⟨by decide,fun p4 n4=>?_⟩⟩⟩;obtain ⟨w',t3,aw',mk,e1,e2,e3⟩:=getw (.cons t (.cons t2 .nil));cases V.str.inj (Option.some.inj (aw.symm.trans aw'));have s7':=s6.trans s7;have hp7:=s7' _ _ hp;have a3:=Same.new (o:=.lst [v,v2]) n3;have a4:=Same.new (o:=.tup [V.str w,V.ref p3]) n4;have g3:=gnew (o:=.lst [v,v2]) (sm.trans s7') hp7 n3;have g4:=gnew (o:=.tup [V.str w,V.ref p3]) ((sm.trans s7').trans a3) (a3 _ _ hp7) n4;refine st2 t3 _ _ ((s7'.trans a3).trans a4) (mk _ p4 p3 [v,v2] (.inl (.inl g4)) (SqL.of (G a4 _ _ g3)) (.cons (TrAt.same (G (((t1.trans s7).trans a3).trans a4)) tr) (.cons (TrAt.same ((gnew2 (sm.trans s6) (s6 _ _ hp)).trans (G (a3.trans a4))) tr2) .nil))) ?_ (e2 (by show 2≤1000;decide) ⟨o0,o2,trivial⟩) ?_
       · rw [e1];have:(Ts.cons t (.cons t2 .nil)).dep≤1:=Nat.max_le.mpr ⟨by omega,Nat.max_le.mpr ⟨by omega,Nat.zero_le _⟩⟩;omega
       · rw [e3];show (t.men++(t2.men++[])).length≤2;rw [List.append_nil,List.length_append];omega
     · exact st2 t v H5 s5 tr (by omega) o0 (by omega)
   walk_at "vc";split
   · refine ⟨by decide,fun p1 n1=>?_⟩;have a1:=Same.new (o:=.tup [V.str (Str.ofString "not"),v]) n1;exact st1 (.opp t) _ _ (s4.trans a1) (.tup (.inl (.inl (gnew (sm.trans s4) (s4 _ _ hp) n1))) (.cons (.str _) (.cons (TrAt.same (G a1) tr) .nil))) (by show t.dep+1≤1;omega) o0 m0
   · exact st1 t v H4 s4 tr (by omega) o0 m0
 · rintro σ H3 ⟨⟨us,ts,v4,v5,v6,rfl,hp,hu,li,ht,hm⟩,sm⟩;refine hk _ _ ?_;walk_at "vc";refine ⟨by decide,fun p1 n1=>⟨_,SqL.of Zab,?_⟩⟩;obtain ⟨w,t,aw,mk,e1,e2,e3,e4,e5⟩:=allone (K:=K) (N:=N) (Ts.ofL ts) w2;refine ⟨_,aw,by decide,fun p2 n2=>?_⟩;have a1:=Same.new (o:=.lst [V.str (Str.ofString "all"),V.str (Str.ofString "one")]) n1;have a2:=Same.new (o:=.tup [V.str w,V.ref p]) n2;have s2:=(sm.trans a1).trans a2;have hp2:=a2 _ _ (a1 _ _ hp);have uu:TrsAt K (New H (upd (upd H3 p1 (.lst [V.str (Str.ofString "all"),V.str (Str.ofString "one")])) p2 (.tup [V.str w,V.ref p]))) (Ts.ofL ts) us:=by
     unfold TrsAt;rw [Ts.dat_map,Ts.toL_ofL];refine rdDs_same (fun b o e=>?_) hu;obtain ⟨_,e⟩:=ZaH e;exact New.same (a1.trans a2) _ _ e
   refine q t _ _ s2 (mk _ p2 p us (.inl (.inl (New.of (none_of (sm.trans a1) n2) Zab))) (SqL.of (New.of np hp2)) uu) ?_ (e2 (by rw [Ts.toL_ofL];omega) (ZfJ fun t h=>(ht t h).1)) ?_ e5 (by rw [e4,Ts.toL_ofL];omega)
   · rw [e1];have:=ZcP (n:=4) fun t h=>(ht t h).2
     omega
   · rw [e3,Zd9];omega
end
theorem nil_trs {K:PySem.W.Frag}{N:List Str}{H:Hp}{a b:Addr}{us:List V}{ts:List T}{R:VK}(hO:OkN N)(ha:SqL K H a us)(hr:RdDs K H us (ts.map T.dat))(ok:∀ t∈ts,t.ok N∧t.dep≤30)(hb:SqL K H b [])(r:R (.bl ts.isEmpty) H):rEqD K (.ref a) (.ref b) H R:=by
 have lay:=Zdh hO fun t h=>(ok t h).1
 have dp:PyData.depthAll (ts.map T.dat)≤61:=by
   have h1:=Ts.depth (Ts.ofL ts);rw [Ts.dat_map,Ts.toL_ofL] at h1;have h2:=ZcP (n:=30) fun t h=>(ok t h).2
   omega
 refine ⟨.list (ts.map T.dat),.list [],.lst ha hr,.lst hb .nil,?_,by decide +kernel,?_,?_⟩
 · unfold SeqAt.shaped;rw [show (PyData.list (ts.map T.dat)).canLay0=true by unfold PyData.canLay0;exact lay,show (PyData.list (ts.map T.dat)).depth=PyData.depthAll (ts.map T.dat)+1 by rw [PyData.depth],decide_eq_true (by omega)];rfl
 · unfold SeqAt.noMix;cases ts<;>(unfold SeqAt.noMixAll;rfl)
 · cases ts with
   | nil=>unfold Spec.same Spec.sameAll;exact r
   | cons=>unfold Spec.same Spec.sameAll;exact r
def spQu (K:PySem.W.Frag):Sp:=fun vs H Q _=>∃ (N:List Str) (tp:Str→Int) (bt:Str→Bool) (d e a:Addr) (zs:List Int),vs=[.ref d,.ref e,.ref a]∧LcD K N tp bt H d∧N≠[]∧OkN N∧H e=some (.dK [])∧H a=some (.lst (zs.map V.int))∧zs.length≤9∧∀ t v H',Same H H'→TrAt K H' t v→t.dep≤10→t.ok N→t.men.length≤9→Q v H'
structure QuI (K:PySem.W.Frag)(N:List Str)(d e a:Addr)(H:Hp)(i:Nat)(σ:L2.St)(H':Hp):Prop where
 ex:∃ (p:Addr) (us:List V) (ts:List T) (v4 v5 v6 v7 v8 v9:Option V),σ=[some (.ref d),some (.ref e),some (.ref a),some (.ref p),v4,v5,v6,v7,v8,v9]∧H' p=some (.lst us)∧H p=none∧RdDs K (del H' p) us (ts.map T.dat)∧ts.length≤i∧(∀ t∈ts,t.ok N∧t.dep≤i)∧(menL ts).length≤i
 sm:Same H H'
theorem Zd5 {K:PySem.W.Frag}{H:Hp}:∀ {us:List V} {ds:List PyData} {d:PyData},RdDs K H us (ds++[d])→∃ us' u,us=us'++[u]∧RdDs K H us' ds∧RdD K H u d
 | _,[],_,h=>by
   obtain ⟨u,us,rfl,a,b⟩:=ZaK h;cases Zb2 b;exact ⟨[],u,rfl,.nil,a⟩
 | _,x::r,_,h=>by
   obtain ⟨u,us,rfl,a,b⟩:=ZaK h;obtain ⟨us',v,rfl,c,e⟩:=Zd5 b;exact ⟨u::us',v,rfl,.cons a c,e⟩
theorem ZeZ {K:PySem.W.Frag}{H:Hp}:∀ {us:List V} {ds:List PyData} (i:Nat),RdDs K H us ds→RdDs K H (us.drop i) (ds.drop i)
 | _,_,0,h=>h
 | _,_,i+1,.nil=>.nil
 | _,_,i+1,.cons h r=>ZeZ i r
theorem Zeo {tt:TT}{a b:TS}{D:Ends}{σ:L2.St}{H:Hp}(h:∀ kb:L2.St→Hp→Prop,(∀ σ' H',b D σ' H'→kb σ' H')→tt σ H fun c H1=>if c=true then a D σ H1 else kb σ H1):tIfS tt a b D σ H:=h (b D) fun _ _ x=>x
section
variable {P:Program}{w:World}{K:PySem.W.Frag}{mg:Str→Option Value}{base:Heap}
theorem ZdI (B:Blt mg) (h_l_mixed:FnAt P w K mg base "_law_mixed" ["_law_cell","_law_k"] 1 spMixed) (h_leafA:∀ N tp bt,FnAt P w K mg base "_law_leaf" ["_law_columns_here","_law_table_here","_law_cell"] 3 (spLeaf K N tp bt)) (dd:DefAt K mg "_law_question" Zbx ["_law_columns_here","_law_table_here","_law_cells"]):FnAt P w K mg base "_law_question" ["_law_columns_here","_law_table_here","_law_cells"] 4 (spQu K):=by
 refine FnAt.of dd sc_l_question (fun vs H Q E h=>?_) (fun f cdv A outer s H vs Q E hr h=>?_)
 · obtain ⟨_,_,_,d,e,a,zs,rfl,_⟩:=h;rfl
 obtain ⟨N,tp,bt,d,e,a,zs,rfl,hL,hN,hO,he,ha,z9,q⟩:=h;have h_l_leaf:=h_leafA N tp bt;refine ⟨_,(Zae (Zaq (i:=3) sc_l_question.nd rfl (by walk_at "l") (ZaG Zac))
     (Zae (ZbE PassesOwn.never rfl (ZaP K (pv 2)) (Zav (i:=4) sc_l_question.nd rfl (by walk_at "l")) (Zae (Zaq (i:=5) sc_l_question.nd rfl (by walk_at "l") (Zai h_l_mixed (hr.mono (by decide)) rfl (Zaa (pv 4) (Zaa Zad Zac))))
     (Zae (Zaq (i:=6) sc_l_question.nd rfl (by walk_at "l") (Zal ZaA (pv 5) Zad))
     (Zae (Zaq (i:=7) sc_l_question.nd rfl (by walk_at "l") (Zaj (Zc4 rfl) rfl B.min Zc5 (Zaa (Zal ZaA (Zal ZbJ (pv 5) Zad) Zad) (Zaa (Zaj (ZaN K) rfl B.len PySem.boot_len (Zaa (pv 3) Zac)) Zac))))
     (Zaf (ZaD (PW.pt (Zcp (Zar Zcl (pv 6) Zad (nomark _)) (Zcv (Zar (Zer K (hu64 hr)) (pv 3) (ZaG Zac) (nomark _))))) (Zaf (Za8 (ZbM K PySem.F.plainAttrs_list PySem.F.slot_list_append PySem.F.type_list_append Zbm (pv 3) (Zaa (Zai h_l_leaf (hr.mono (by decide)) rfl (Zaa (pv 0) (Zaa (pv 1) (Zaa (pv 4) Zac)))) Zac)))) (Zaf (ZaD (Zar ZaT (pv 6) Zad (nomark _)) (Zaf (Za8 (ZbM K PySem.F.plainAttrs_list PySem.F.slot_list_append PySem.F.type_list_append Zbm (pv 3) (Zaa (ZaL (Zaa Zao (Zaa (pe_bm0K K PySem.F.plainAttrs_list PySem.F.slot_list_pop PySem.F.type_list_pop mt_pop (pv 3)) Zac))) Zac)))) (Zaf (ZaD (Zar ZaT (pv 6) Zad (nomark _)) (Zae (Zct (i:=8) ["_law_one"] [] sc_l_question.nd rfl (by walk_at "l") rfl (ZaP K (pv 3)) (fun _ _ _ _ _=>Zav (i:=0) (by show List.Nodup (["_law_one"]:List Str);decide +kernel) rfl (Or.inl rfl)) (fun _ _ _ _ _=>pts_one (Zar ZaT (Zap (Zan K) (pv 0) Zad (fun _ _=>rfl)) Zao (nomark _))) (fun _ _ _ _ _=>(pv 0)) trivial ZaE)
     (Zaf (Za8 (ZbM K PySem.F.plainAttrs_list PySem.F.slot_list_append PySem.F.type_list_append Zbm (pv 3) (Zaa (Zap (ZaC K) (Zal ZfB (pv 8) (ZaG (Zaa (ZaL (Zaa Zao Zac)) Zac))) Zad (fun _ _=>rfl)) Zac))))) (Zae (Zaq (i:=9) sc_l_question.nd rfl (by walk_at "l") (ZbD (ZbR K) (pv 3) (ZbZ (Zal ZbL (Zaj (ZaN K) rfl B.len PySem.boot_len (Zaa (pv 3) Zac)) (pv 7))) Zb1))
     (Zaf (Zaq (i:=3) sc_l_question.nd rfl (by walk_at "l") (Zal ZfB (ZbD (ZbR K) (pv 3) Zb1 (ZbZ (Zal ZbL (Zaj (ZaN K) rfl B.len PySem.boot_len (Zaa (pv 3) Zac)) (pv 7)))) (ZaG (Zaa (ZaL (Zaa (Zap (ZaC K) (ZaG (Zaa Zao (Zaa Zao Zac))) (Zal ZbL (pv 6) Zad) (fun _ _=>rfl)) (Zaa (pv 9) Zac))) Zac))))))))))))))))
     (Zae (ZaD (Zar ZaT (Zaj (ZaN K) rfl B.len PySem.boot_len (Zaa (pv 3) Zac)) Zad (nomark _)) (Zaf (Zam (Zap (ZaC K) (pv 3) Zad (fun _ _=>rfl)))) Zas)
     (Zaf (Zam (ZaL (Zaa (Zap (ZaC K) (ZaG (Zaa Zao (Zaa Zao Zac))) (Zal ZaA (Zaj (ZaN K) rfl B.len PySem.boot_len (Zaa (pv 2) Zac)) Zad) (fun _ _=>rfl)) (Zaa (pv 3) Zac)))))))),?_⟩
 refine Zag fun k hk=>?_
 walk_at "vc";refine ⟨by decide,fun p np=>hk _ _ (Zag fun k hk=>?_)⟩;walk_at "vc";refine ⟨⟨_,SqL.of ((Same.new np) _ _ ha)⟩,?_⟩;refine loopL (K:=K) (xs:=zs.map V.int) (QuI K N d e a H) ⟨⟨p,[],[],none,none,none,none,none,none,rfl,Zab,np,.nil,Nat.le_refl _,fun t h=>(by cases h),Nat.le_refl _⟩,Same.new np⟩ (fun i σ H3 _ h=>SqL.of (h.sm _ _ ha)) ?_ ?_
 · rintro i x σ H3 hx ⟨⟨p,us,ts,v4,v5,v6,v7,v8,v9,rfl,hp,np,hu,li,ht,hm⟩,sm⟩;obtain ⟨c,rfl⟩:∃ c:Int,x=.int c:=by
     obtain ⟨c,_,rfl⟩:=List.mem_map.mp (List.mem_of_getElem? hx);exact ⟨c,rfl⟩
   have hi:i<9:=by have:=(List.getElem?_eq_some_iff.mp hx).1;rw [List.length_map] at this;omega
   have hl:us.length=ts.length:=by rw [Za7 hu,List.length_map]
   rw [ZaQ];refine Zag fun k1 hk1=>?_
   walk_at "vc";refine ⟨_,_,rfl,hk1 _ _ (Zag fun k1 hk1=>?_)⟩;generalize mixI c 1010=x;walk_at "vc";refine hk1 _ _ (Zag fun k1 hk1=>?_);have y0:=Int.emod_nonneg x (b:=8) (by decide);have y1:=Int.emod_lt_of_pos x (b:=8) (by decide);generalize x%8=wy at y0 y1;walk_at "vc";have m0:=Int.emod_nonneg (x/8) (b:=4) (by decide);obtain ⟨mn,em,ml⟩:∃ mn:Nat,(if (us.length:Int)<x/8%4 then (us.length:Int) else x/8%4)=(mn:Int)∧mn≤us.length:=⟨(if (us.length:Int)<x/8%4 then (us.length:Int) else x/8%4).toNat,by split<;>omega,by split<;>omega⟩
   refine ⟨_,.inl (SqL.of hp),_,_,⟨rfl,rfl⟩,hk1 _ _ ?_⟩;rw [em];have put:∀ (w8:Option V) (v:V) (t:T) (H5:Hp),Same H3 H5→TrAt K (del H5 p) t v→t.ok N→t.dep≤i+1→(menL ts).length+t.men.length≤i+1→us.length<sizeLine∧QuI K N d e a H (i+1) [some (.ref d),some (.ref e),some (.ref a),some (.ref p),some (.int c),some (.int x),some (.int wy),some (.int mn),w8,v9] (upd H5 p (.lst (us++[v]))):=fun w8 v t H5 s5 tr o0 d0 m0=>by
     have pp:Same (del H5 p) (del (upd H5 p (.lst (us++[v]))) p):=fun b o e=>by
       obtain ⟨n,e⟩:=ZaH e;rw [ZaO n,Zah n];exact e
     refine ⟨Nat.lt_of_le_of_lt (show us.length≤9 by omega) (by decide),⟨p,us++[v],ts++[t],_,_,_,_,_,_,rfl,Zab,np,?_,by rw [List.length_append];exact Nat.succ_le_succ li,fun u hu=>?_,?_⟩,(sm.trans s5).put np⟩
     · rw [List.map_append];exact ZbV (rdDs_same ((Zen s5).trans pp) hu) (TrAt.same pp tr)
     · rcases List.mem_append.mp hu with hu | hu
       · exact ⟨(ht u hu).1,Nat.le_succ_of_le (ht u hu).2⟩
       · rw [List.mem_singleton.mp hu];exact ⟨o0,d0⟩
     · unfold menL at hm m0 ⊢;rw [List.flatMap_append,List.length_append];simp only [List.flatMap_cons,List.flatMap_nil,List.append_nil];omega
   refine Zeo fun kb hkb=>?_
   have leaf:∀ H5,Same H3 H5→(∃ xs,SqL K H5 p xs)∧spLeaf K N tp bt [V.ref d,V.ref e,V.int c] H5 (fun x_1 H1=>∃ x_2,H1 p=some (HO.lst x_2)∧x_2.length<sizeLine∧QuI K N d e a H (i+1) [some (V.ref d),some (V.ref e),some (V.ref a),some (V.ref p),some (V.int c),some (V.int x),some (V.int wy),some (V.int mn),v8,v9] (upd H1 p (HO.lst (x_2++[x_1])))) E0:=fun H5 s5=>by
     refine ⟨⟨_,SqL.of (s5 _ _ hp)⟩,d,e,c,rfl,LcD.same (sm.trans s5) hL,hN,(sm.trans s5) _ _ he,fun t v H6 s6 tr d0 o0 m0=>⟨us,(s5.trans s6) _ _ hp,?_⟩⟩;refine put v8 v t H6 (s5.trans s6) (TrAt.same (fun b o eb=>?_) tr) o0 (by omega) (by omega);obtain ⟨e1,e2⟩:=New.some eb;rw [ZaO (fun z=>by rw [z,s5 _ _ hp] at e1;cases e1)];exact e2
   walk_at "vc";by_cases c4:wy<4
   · rw [if_pos c4];exact leaf H3 (Same.refl _)
   rw [if_neg c4];refine ⟨by decide,fun p1 n1=>?_⟩;have s4:=Same.new (o:=.lst []) n1;have g1:=Zab (H:=H3) (a:=p1) (o:=.lst []);have dsub:∀ {H':Hp} {p:Addr},Same (del H' p) H':=fun {H' p} b o e=>(ZaH e).2
   have p1p:p1≠p:=fun z=>by rw [z,hp] at n1;cases n1
   generalize upd H3 p1 (.lst [])=H4 at s4 g1;have cmp:=nil_trs (K:=K) (R:=fun v H'=>v=.bl ts.isEmpty∧H'=H4) hO (SqL.of (s4 _ _ hp)) (rdDs_same (dsub.trans s4) hu) (fun t h=>⟨(ht t h).1,by have:=(ht t h).2;omega⟩) (SqL.of g1) ⟨rfl,rfl⟩;obtain ⟨d1,d2,a1,a2,a3,a4,a5,a6,_⟩:=cmp;refine ⟨d1,a1,d2,a2,a3,a4,a5,?_⟩;rw [V.bl.inj a6];cases hts:ts.isEmpty with
   | true =>
     rw [if_pos rfl];exact leaf H4 s4
   | false =>
   rw [if_neg Bool.false_ne_true];have tp0:0<ts.length:=by
     cases ts with
     | nil=>cases hts
     | cons=>exact Nat.succ_pos _
   refine hkb _ _ (Zeo fun kb2 hkb2=>?_);walk_at "vc";by_cases c5:wy=4
   · rw [if_pos c5]
     obtain ⟨ts',t,rfl⟩:∃ ts' t,ts=ts'++[t]:=⟨_,_,(List.dropLast_concat_getLast (List.ne_nil_of_length_pos tp0)).symm⟩
     rw [List.map_append] at hu;obtain ⟨us',u,rfl,hu1,hu2⟩:=Zd5 hu;refine ⟨⟨_,SqL.of (s4 _ _ hp)⟩,⟨_,SqL.of (s4 _ _ hp)⟩,p,_,u,rfl,rfl,s4 _ _ hp,?_,by decide,fun q1 nq=>?_⟩
     · rw [List.length_append,List.length_singleton,Nat.add_sub_cancel,List.getElem?_append_right (Nat.le_refl _),Nat.sub_self];rfl
     rw [List.dropLast_concat] at nq ⊢;have qp:q1≠p:=fun z=>by rw [z,Zab] at nq;cases nq
     have nq4:H4 q1=none:=by rw [Zah qp] at nq;exact nq
     rw [List.length_append] at li hl;have li:ts'.length+1≤i:=li;have hl1:us'.length=ts'.length:=by rw [Za7 hu1,List.length_map]
     have ss:Same (del H3 p) (del (upd (upd (upd H4 p (.lst us')) q1 (.tup [V.str (Str.ofString "not"),u])) p (.lst (us'++[V.ref q1]))) p):=fun b o eb=>by
       obtain ⟨n,eb⟩:=ZaH eb;have:=s4 _ _ eb;rw [ZaO n,Zah n,Zah (Zak this nq4),Zah n];exact this
     have hm':(menL ts').length+t.men.length≤i:=by unfold menL at hm ⊢;rw [List.flatMap_append,List.length_append] at hm;simp only [List.flatMap_cons,List.flatMap_nil,List.append_nil] at hm;exact hm
     refine ⟨us',by rw [Zah (Ne.symm qp),Zab],Nat.lt_of_le_of_lt (show us'.length≤9 by omega) (by decide),⟨p,us'++[V.ref q1],ts'++[.opp t],_,_,_,_,_,_,rfl,Zab,np,?_,by rw [List.length_append];show ts'.length+1≤i+1;omega,fun v hv=>?_,?_⟩,fun b o eb=>?_⟩
     · rw [List.map_append];refine ZbV (rdDs_same ss hu1) (.tup (.inl (.inl ?_)) (.cons (.str _) (.cons (Za5 ss hu2) .nil)));rw [ZaO qp,Zah qp,Zab]
     · rcases List.mem_append.mp hv with hv | hv
       · have:=ht v (List.mem_append_left _ hv);exact ⟨this.1,Nat.le_succ_of_le this.2⟩
       · have:=ht t (List.mem_append_right _ (.head _));rw [List.mem_singleton.mp hv];exact ⟨this.1,Nat.succ_le_succ this.2⟩
     · unfold menL at hm' ⊢;rw [List.flatMap_append,List.length_append];simp only [List.flatMap_cons,List.flatMap_nil,List.append_nil];show _+t.men.length≤i+1;omega
     · have e3:=(sm.trans s4) _ _ eb;rw [Zah (Zak eb np),Zah (Zak e3 nq4),Zah (Zak eb np)];exact e3
   rw [if_neg c5];refine hkb2 _ _ (Zeo fun kb3 hkb3=>?_);walk_at "vc";by_cases c6:wy=5
   · rw [if_pos c6]
     refine ⟨⟨_,SqL.of (s4 _ _ hp)⟩,compT (fun j=>decide ((ts[j]?.getD .ev).wd=Str.ofString "in")) (SqL.of (s4 _ _ hp)) (by omega) (fun j y H5 R hy s5 r=>?_) (fun y H5 R r=>?_) (fun D H5 s5 hD=>?_)⟩
     · obtain ⟨dd,e2,rd⟩:=Zc7 hu hy;rw [List.getElem?_map] at e2;cases ej:ts[j]? with
       | none=>rw [ej] at e2;cases e2
       | some t =>
         rw [ej] at e2 r;cases e2;obtain ⟨q1,r1,rfl,e1,_⟩:=TrAt.hd t (show TrAt K _ t y from rd);unfold tTest;walk_at "vc";refine ⟨_,ZaB ((dsub.trans s4).trans s5) e1,V.str t.wd,at0,rfl,?_⟩;rw [show decide (V.str t.wd=V.str (Str.ofString "in"))=decide (t.wd=Str.ofString "in") from decide_eq_decide.mpr (by rw [V.str.injEq])];exact r H5 (Same.refl _)
     · walk_at "vc";exact r
     · have s35:=s4.trans s5;refine ⟨⟨_,SqL.of (s35 _ _ hp)⟩,by decide,fun q1 n1=>⟨by decide,fun q2 n2=>⟨D,rfl,?_⟩⟩⟩;have b1:=Same.new (o:=.tup [V.str (Str.ofString "every")]) n1;have b2:=Same.new (o:=.lst [V.ref q1]) n2;refine ⟨_,(b1.trans b2) _ _ hD,_,Zab,?_,fun q3 n3=>⟨_,SqL.of Zab,?_⟩⟩
       · have:=List.length_filter_le (fun j=>decide ((ts[j]?.getD .ev).wd=Str.ofString "in")) (List.range us.length);rw [List.length_range] at this;rw [List.length_map];exact small5 (by show _+1≤_;omega)
       have b3:=Same.new (o:=.lst (((List.range us.length).filter fun j=>decide ((ts[j]?.getD .ev).wd=Str.ofString "in")).map (fun i=>us.getD i V.non)++[V.ref q1])) n3;have s36:=((s35.trans b1).trans b2).trans b3;have n1':q1≠p:=fun z=>by rw [z,s35 _ _ hp] at n1;cases n1
       have ev:TrAt K (del (upd (upd (upd H5 q1 (.tup [V.str (Str.ofString "every")])) q2 (.lst [V.ref q1])) q3 (.lst (((List.range us.length).filter fun j=>decide ((ts[j]?.getD .ev).wd=Str.ofString "in")).map (fun i=>us.getD i V.non)++[V.ref q1]))) p) .ev (.ref q1):=.tup (.inl (.inl (by rw [ZaO n1'];exact (b2.trans b3) _ _ Zab))) (.cons (.str _) .nil);generalize upd (upd (upd H5 q1 (.tup [V.str (Str.ofString "every")])) q2 (.lst [V.ref q1])) q3 (.lst (((List.range us.length).filter fun j=>decide ((ts[j]?.getD .ev).wd=Str.ofString "in")).map (fun i=>us.getD i V.non)++[V.ref q1]))=H7 at s36 ev;cases hf:(List.range us.length).filter fun j=>decide ((ts[j]?.getD .ev).wd=Str.ofString "in") with
       | nil=>exact ⟨_,rfl,us,s36 _ _ hp,put _ _ .ev H7 s36 ev trivial (Nat.zero_le _) (by show _+0≤_;omega)⟩
       | cons j r =>
         have hj:j∈(List.range us.length).filter fun j=>decide ((ts[j]?.getD .ev).wd=Str.ofString "in"):=by rw [hf];exact .head _
         obtain ⟨hj1,hj2⟩:=List.mem_filter.mp hj;have jl:=List.mem_range.mp hj1;have ej:=List.getElem?_eq_getElem (l:=ts) (i:=j) (by omega);rw [ej] at hj2;have wi:ts[j].wd=Str.ofString "in":=of_decide_eq_true hj2;obtain ⟨dd,e2,rd⟩:=Zc7 hu (List.getElem?_eq_getElem jl);rw [List.getElem?_map,ej] at e2;cases e2;have gx:us.getD j V.non=us[j]:=by rw [List.getD_eq_getElem?_getD,List.getElem?_eq_getElem jl];rfl
         have tm:ts[j]∈ts:=List.getElem_mem _;have mt:=(ht _ tm).1;refine ⟨us[j],by show atI (us.getD j V.non::_) 0=_;rw [gx];exact at0,us,s36 _ _ hp,put _ _ ts[j] H7 s36 (Za5 (Zen s36) rd) mt (Nat.le_succ_of_le (ht _ tm).2) ?_⟩;have:ts[j].men.length≤1:=by
           generalize ts[j]=t at wi;cases t with
           | inn x lo hi=>exact Nat.le_refl _
           | _=>exact absurd (congrArg V.str wi) (wd_in _ rfl)
         omega
   rw [if_neg c6];refine hkb3 _ _ (Zag fun k5 hk5=>?_);walk_at "vc";refine ⟨_,.inl (SqL.of (s4 _ _ hp)),_,SqL.of (s4 _ _ hp),fun q1 n1=>hk5 _ _ ?_⟩;have ct1:cutV us (some ((us.length:Int)-(mn:Int))) none=us.drop (us.length-mn):=by unfold cutV;rw [show (us.length:Int)-(mn:Int)=((us.length-mn:Nat):Int) by omega,HT.sIx_nat,Nat.min_eq_left (by omega)];rw [show HT.sIx us.length us.length none=us.length from rfl,List.take_of_length_le (by rw [List.length_drop];exact Nat.le_refl _)]
   have ct2:cutV us none (some ((us.length:Int)-(mn:Int)))=us.take (us.length-mn):=by rw [show (us.length:Int)-(mn:Int)=((us.length-mn:Nat):Int) by omega];exact Zdg us (by omega)
   rw [ct1] at *;have b1:=Same.new (o:=.lst (us.drop (us.length-mn))) n1;have g1:=Zab (H:=H4) (a:=q1) (o:=.lst (us.drop (us.length-mn)));generalize upd H4 q1 (.lst (us.drop (us.length-mn)))=H5 at b1 g1;have s5:=s4.trans b1;have hp5:=s5 _ _ hp;walk_at "vc";refine ⟨_,.inl (SqL.of hp5),_,SqL.of hp5,fun q2 n2=>⟨by decide,fun q3 n3=>⟨_,SqL.of Zab,?_⟩⟩⟩;rw [ct2] at *;obtain ⟨w,t,aw,mk,e1,e2,e3,e4,e5⟩:=allone (K:=K) (N:=N) (Ts.ofL (ts.drop (us.length-mn))) (z:=wy-6) (by omega);refine ⟨_,aw,by decide,fun q4 n4=>⟨by decide,fun q5 n5=>?_⟩⟩;have b2:=Same.new (o:=.lst (us.take (us.length-mn))) n2;have b3:=Same.new (o:=.lst [V.str (Str.ofString "all"),V.str (Str.ofString "one")]) n3;have b4:=Same.new (o:=.tup [V.str w,V.ref q1]) n4;have b5:=Same.new (o:=.lst [V.ref q4]) n5;refine ⟨_,((b3.trans b4).trans b5) _ _ Zab,_,Zab,?_,fun q6 n6=>?_⟩
   · rw [List.length_take];exact small5 (by show _+1≤_;omega)
   have b6:=Same.new (o:=.lst (us.take (us.length-mn)++[V.ref q4])) n6;have s9:=(((b2.trans b3).trans b4).trans b5).trans b6;have sA:=(sm.trans s5).trans s9;have q4t:=(b5.trans b6) _ _ (Zab (H:=upd (upd H5 q2 (.lst (us.take (us.length-mn)))) q3 (.lst [V.str (Str.ofString "all"),V.str (Str.ofString "one")])) (a:=q4) (o:=.tup [V.str w,V.ref q1]));have q1l:=s9 _ _ g1;have n6H:H3 q6=none:=none_of (s5.trans (((b2.trans b3).trans b4).trans b5)) n6;have n5':H5 q6=none:=none_of (((b2.trans b3).trans b4).trans b5) n6;have q46:q4≠q6:=Zak (b5 _ _ (Zab (H:=upd (upd H5 q2 (.lst (us.take (us.length-mn)))) q3 (.lst [V.str (Str.ofString "all"),V.str (Str.ofString "one")])) (a:=q4) (o:=.tup [V.str w,V.ref q1]))) n6;have h6:=Zab (H:=upd (upd (upd (upd H5 q2 (.lst (us.take (us.length-mn)))) q3 (.lst [V.str (Str.ofString "all"),V.str (Str.ofString "one")])) q4 (.tup [V.str w,V.ref q1])) q5 (.lst [V.ref q4])) (a:=q6) (o:=.lst (us.take (us.length-mn)++[V.ref q4]));generalize upd (upd (upd (upd (upd H5 q2 (.lst (us.take (us.length-mn)))) q3 (.lst [V.str (Str.ofString "all"),V.str (Str.ofString "one")])) q4 (.tup [V.str w,V.ref q1])) q5 (.lst [V.ref q4])) q6 (.lst (us.take (us.length-mn)++[V.ref q4]))=H9 at s9 sA q4t q1l h6;have ss:Same (del H3 p) (del H9 q6):=fun b o eb=>by
     obtain ⟨n,eb⟩:=ZaH eb;rw [ZaO (Zak eb n6H)];exact (s5.trans s9) _ _ eb
   have r1:=ZdE (us.length-mn) (rdDs_same ss hu);have r2:=ZeZ (us.length-mn) (rdDs_same ss hu);rw [← List.map_take] at r1;rw [← List.map_drop] at r2;have mtd:(menL (ts.take (us.length-mn))).length+(menL (ts.drop (us.length-mn))).length≤i:=by
     have:menL ts=menL (ts.take (us.length-mn))++menL (ts.drop (us.length-mn)):=by unfold menL;rw [← List.flatMap_append,List.take_append_drop]
     rw [this,List.length_append] at hm;exact hm
   refine ⟨⟨q6,_,ts.take (us.length-mn)++[t],_,_,_,_,_,_,rfl,h6,none_of sm n6H,?_,?_,fun v hv=>?_,?_⟩,sA⟩
   · rw [List.map_append];refine ZbV r1 (mk _ q4 q1 (us.drop (us.length-mn)) (.inl (.inl ?_)) (SqL.of ?_) ?_)
     · rw [ZaO q46];exact q4t
     · rw [ZaO (Zak g1 n5')];exact q1l
     · unfold TrsAt;rw [Ts.dat_map,Ts.toL_ofL];exact r2
   · rw [List.length_append,List.length_take];show _+1≤_;omega
   · rcases List.mem_append.mp hv with hv | hv
     · have:=ht v (List.mem_of_mem_take hv);exact ⟨this.1,Nat.le_succ_of_le this.2⟩
     · rw [List.mem_singleton.mp hv];refine ⟨e2 (by rw [Ts.toL_ofL,List.length_drop];omega) (ZfJ fun t h=>(ht t (List.mem_of_mem_drop h)).1),?_⟩;rw [e1];exact Nat.succ_le_succ (ZcP fun t h=>(ht t (List.mem_of_mem_drop h)).2)
   · have e:(menL (ts.take (us.length-mn)++[t])).length=(menL (ts.take (us.length-mn))).length+t.men.length:=by
       unfold menL;rw [List.flatMap_append,List.length_append];simp only [List.flatMap_cons,List.flatMap_nil,List.append_nil]
     rw [e,e3,Zd9];omega
 · rintro σ H3 ⟨⟨p,us,ts,v4,v5,v6,v7,v8,v9,rfl,hp,np,hu,li,ht,hm⟩,sm⟩;refine hk _ _ (Zag fun k hk=>?_);walk_at "vc";have hl:us.length=ts.length:=by rw [Za7 hu,List.length_map]
   rw [List.length_map] at li ht hm;refine ⟨_,.inl (SqL.of hp),?_⟩;by_cases c1:(us.length:Int)=1
   · rw [if_pos c1]
     cases ts with
     | nil=>rw [hl] at c1;cases c1
     | cons t r =>
       obtain ⟨u,us',rfl,a1,a2⟩:=ZaK hu;refine ⟨_,SqL.of hp,u,at0,q t u H3 sm (Za5 (fun b o e=>(ZaH e).2) a1) (by have:=(ht t (.head _)).2;omega) (ht t (.head _)).1 ?_⟩;have:(menL (t::r)).length=t.men.length+(menL r).length:=by unfold menL;rw [List.flatMap_cons,List.length_append]
       omega
   · rw [if_neg c1];refine hk _ _ ?_;walk_at "vc";refine ⟨by decide,fun q1 n1=>⟨_,.inl (SqL.of ((Same.new n1) _ _ (sm _ _ ha))),_,SqL.of Zab,?_⟩⟩;rw [List.length_map];obtain ⟨w,t,aw,mk,e1,e2,e3,e4,e5⟩:=allone (K:=K) (N:=N) (Ts.ofL ts) (z:=(zs.length:Int)%2) (by omega);refine ⟨_,aw,by decide,fun q2 n2=>?_⟩;have b1:=Same.new (o:=.lst [V.str (Str.ofString "all"),V.str (Str.ofString "one")]) n1;have b2:=Same.new (o:=.tup [V.str w,V.ref p]) n2;have s2:=b1.trans b2;refine q t _ _ (sm.trans s2) (mk _ q2 p us (.inl (.inl Zab)) (SqL.of (s2 _ _ hp)) ?_) ?_ (e2 (by rw [Ts.toL_ofL];omega) (ZfJ fun t h=>(ht t h).1)) ?_
     · unfold TrsAt;rw [Ts.dat_map,Ts.toL_ofL];exact rdDs_same (fun b o e=>s2 _ _ (ZaH e).2) hu
     · rw [e1];have:=ZcP (n:=zs.length) fun t h=>(ht t h).2
       omega
     · rw [e3,Zd9];omega
end
def spObj (K:PySem.W.Frag)(C:Kd→Addr)(n:Nat):Sp:=fun vs H Q _=>∃ (N:List Str) (t:T) (v:V),vs=[v]∧TrAt K H t v∧t.ok N∧t.dep<n∧∀ q H',Same H H'→QAt C (New H H') t q→Q q H'
section
variable {P:Program}{w:World}{K:PySem.W.Frag}{mg:Str→Option Value}{base:Heap}{C:Kd→Addr}
theorem del_sub {H:Hp}{p:Addr}:Same (del H p) H:=fun _ _ e=>(ZaH e).2
theorem Ze3 (n_Every:NewAt K mg "Every" (C .ev)) (n_Nobody:NewAt K mg "Nobody" (C .no)) (h_Within:MakeAt P w K mg base "Within" (C .wi) ["self","name","low","high"] 1 (spIWi C)) (h_Opposite:MakeAt P w K mg base "Opposite" (C .op) ["self","one"] 1 (spIOp C)) (h_AllOf:MakeAt P w K mg base "AllOf" (C .al) ["self","parts"] 1 (spIPa C .al)) (h_OneOf:MakeAt P w K mg base "OneOf" (C .on) ["self","parts"] 1 (spIPa C .on)) (d:DefAt K mg "_law_object" Zb0 ["_law_tree"]):∀ n,FnAt P w K mg base "_law_object" ["_law_tree"] (n+3) (spObj K C n):=by
 intro n;induction n with
 | zero=>exact FnAt.of d Zc9 (fun vs H Q E h=>by obtain ⟨_,t,v,rfl,_⟩:=h;rfl) (fun f cdv A outer s H vs Q E hr h=>by obtain ⟨_,t,v,rfl,_,_,h,_⟩:=h;omega)
 | succ n h_l_object =>
   refine FnAt.of d Zc9 (fun vs H Q E h=>?_) (fun f cdv A outer s H vs Q E hr h=>?_)
   · obtain ⟨_,t,v,rfl,_⟩:=h;rfl
   obtain ⟨N,t,v,rfl,ht,ok,hd,q⟩:=h;refine ⟨_,(Zae (ZaD (Zar ZaT (Zap (Zan K) (pv 0) Zad (fun _ _=>rfl)) Zao (nomark _)) (Zaf (Zam (pe_new n_Every.2 rfl n_Every.1))) Zas)
     (Zae (ZaD (Zar ZaT (Zap (Zan K) (pv 0) Zad (fun _ _=>rfl)) Zao (nomark _)) (Zaf (Zam (pe_new n_Nobody.2 rfl n_Nobody.1))) Zas)
     (Zae (ZaD (Zar ZaT (Zap (Zan K) (pv 0) Zad (fun _ _=>rfl)) Zao (nomark _)) (Zaf (Zam (ZbN h_Within (hr.mono (by omega)) rfl (Zaa (Zap (Zan K) (pv 0) Zad (fun _ _=>rfl)) (Zaa (Zap (Zan K) (pv 0) Zad (fun _ _=>rfl)) (Zaa (Zap (Zan K) (pv 0) Zad (fun _ _=>rfl)) Zac)))))) Zas)
     (Zae (ZaD (Zar ZaT (Zap (Zan K) (pv 0) Zad (fun _ _=>rfl)) Zao (nomark _)) (Zaf (Zam (ZbN h_Opposite (hr.mono (by omega)) rfl (Zaa (Zai h_l_object (hr.mono (by omega)) rfl (Zaa (Zap (Zan K) (pv 0) Zad (fun _ _=>rfl)) Zac)) Zac)))) Zas)
     (Zae (ZaD (Zar ZaT (Zap (Zan K) (pv 0) Zad (fun _ _=>rfl)) Zao (nomark _)) (Zaf (Zam (ZbN h_AllOf (hr.mono (by omega)) rfl (Zaa (ZaZ ["_law_part"] [] rfl (ZaP K (Zap (Zan K) (pv 0) Zad (fun _ _=>rfl))) (fun _ _ _ _ _=>Zav (i:=0) (by show List.Nodup (["_law_part"]:List Str);decide +kernel) rfl (Or.inl rfl)) (fun _ _ _ _ _=>ZaW) (fun _ _ _ _ _=>(Zai h_l_object (hr.mono (by omega)) rfl (Zaa (pv 0) Zac))) trivial ZaE) Zac)))) Zas)
     (Zaf (Zam (ZbN h_OneOf (hr.mono (by omega)) rfl (Zaa (ZaZ ["_law_part"] [] rfl (ZaP K (Zap (Zan K) (pv 0) Zad (fun _ _=>rfl))) (fun _ _ _ _ _=>Zav (i:=0) (by show List.Nodup (["_law_part"]:List Str);decide +kernel) rfl (Or.inl rfl)) (fun _ _ _ _ _=>ZaW) (fun _ _ _ _ _=>(Zai h_l_object (hr.mono (by omega)) rfl (Zaa (pv 0) Zac))) trivial ZaE) Zac))))))))),?_⟩
   have parts:∀ (ts:Ts) (k:Kd) (l:Addr) (us:List V),SqL K H l us→TrsAt K H ts us→ts.toL.length≤1000→ts.ok N→ts.dep<n→(∀ x dx l ys H',Same H H'→New H H' x=some (.ins (C k) dx [("parts",.ref l)])→New H H' l=some (.lst ys)→QsAt C (New H H') ts ys→Q (.ref x) H')→CompJ (Itl K l) 1 [] (gName 0) tNoTest (tCall (spObj K C n) [] E0 (tCons (tVar 0) tNil)) [some v] H fun x H1=>∀ x_1 dx,H1 x_1=none→H1 dx=none→dx≠x_1→spIPa C k [V.ref x_1,x] (upd (upd H1 dx (HO.own x_1)) x_1 (HO.ins (C k) dx [])) (fun v H2=>v=V.non∧Q (V.ref x_1) H2) E0:=fun ts k l us hl hu l0 ok dp q=>by
     have ln:=TrsAt.len hu;refine compA (xs:=us) (fun i y H=>∀ t,ts.toL[i]?=some t→QAt C H t y) (fun i y H H' s h t ht=>QAt.same s t (h t ht)) hl (by omega) (fun i x H2 R hx s2 q2=>?_) (fun D ys H2 hD s2 h2 l2 h3=>?_)
     · obtain ⟨t,ht,htr⟩:=TrsAt.at hu hx;have d1:=Zc1 ts ht;walk_at "vc";refine ⟨N,t,x,rfl,TrAt.same s2 htr,Zbl ts ht ok,by omega,fun v1 H3 s3 q3=>q2 _ H3 s3 fun t' ht'=>?_⟩;cases ht.symm.trans ht';exact q3
     · have qs:QsAt C (New H H2) ts ys:=QsAt.mk ts (by omega) fun i u t hu ht=>QAt.same del_sub t (h3 i u hu t ht)
       refine fun x dx h1 h2' hne=>⟨x,dx,D,ys,rfl,Zab,?_,fun l1 H3 hl1 off hx=>⟨rfl,?_⟩⟩
       · rw [Zah (Zak h2 h1),Zah (Zak h2 h2')];exact h2
       obtain ⟨s3,g3,n3⟩:=pa_off h1 h2' hl1 off;exact q x dx l1 ys H3 (s2.trans s3) (New.of (none_of s2 h1) hx) (New.of (none_of s2 n3) g3) (QsAt.same (New.same s3) ts qs)
   cases t with
   | ev =>
     obtain ⟨p,rfl,hp⟩:=TrAt.leaf ht rfl;walk_at "vc";refine ⟨_,hp,V.str (Str.ofString "every"),at0,rfl,?_⟩;rw [if_pos rfl];exact fun x dx h1 h2 h3=>q _ _ (same2 h1 h2 h3) (by unfold QAt;exact ⟨x,dx,rfl,New.of h1 Zab⟩)
   | no =>
     obtain ⟨p,rfl,hp⟩:=TrAt.leaf ht rfl;walk_at "vc";refine ⟨_,hp,V.str (Str.ofString "nobody"),at0,rfl,?_⟩;rw [if_neg (by decide +kernel)];refine ⟨_,hp,V.str (Str.ofString "nobody"),at0,rfl,?_⟩;rw [if_pos rfl];exact fun x dx h1 h2 h3=>q _ _ (same2 h1 h2 h3) (by unfold QAt;exact ⟨x,dx,rfl,New.of h1 Zab⟩)
   | inn nm lo hi =>
     obtain ⟨p,rfl,hp⟩:=TrAt.inn ht;walk_at "vc";refine ⟨_,hp,_,at0,rfl,?_⟩;rw [if_neg (by decide +kernel)];refine ⟨_,hp,_,at0,rfl,?_⟩;rw [if_neg (by decide +kernel)];refine ⟨_,hp,_,at0,rfl,?_⟩;rw [if_pos rfl];refine ⟨_,hp,_,rfl,_,hp,_,rfl,_,hp,_,rfl,?_⟩;refine fun x dx h1 h2 h3=>⟨x,dx,nm,lo,hi,rfl,Zab,fun H' off hx=>⟨rfl,?_⟩⟩
     exact q _ _ (Ze6 h1 h2 off) (by unfold QAt;exact ⟨x,dx,rfl,New.of h1 hx⟩)
   | opp t =>
     obtain ⟨p,u,rfl,hp,hu⟩:=TrAt.opp ht;walk_at "vc";refine ⟨_,hp,_,at0,rfl,?_⟩;rw [if_neg (by decide +kernel)];refine ⟨_,hp,_,at0,rfl,?_⟩;rw [if_neg (by decide +kernel)];refine ⟨_,hp,_,at0,rfl,?_⟩;rw [if_neg (by decide +kernel)];refine ⟨_,hp,_,at0,rfl,?_⟩;rw [if_pos rfl];refine ⟨_,hp,_,rfl,N,t,u,rfl,hu,ok,Nat.lt_of_succ_lt_succ hd,fun v1 H1 s1 q1=>?_⟩;refine fun x dx h1 h2 h3=>⟨x,dx,v1,rfl,Zab,fun H' off hx=>⟨rfl,?_⟩⟩
     have s2:=Ze6 h1 h2 off;exact q _ _ (s1.trans s2) (by unfold QAt;exact ⟨x,dx,v1,rfl,New.of (none_of s1 h1) hx,QAt.same (New.same s2) t q1⟩)
   | al ts =>
     obtain ⟨p,l,us,rfl,hp,hl,hu⟩:=TrAt.al ht;walk_at "vc";refine ⟨_,hp,_,at0,rfl,?_⟩;rw [if_neg (by decide +kernel)];refine ⟨_,hp,_,at0,rfl,?_⟩;rw [if_neg (by decide +kernel)];refine ⟨_,hp,_,at0,rfl,?_⟩;rw [if_neg (by decide +kernel)];refine ⟨_,hp,_,at0,rfl,?_⟩;rw [if_neg (by decide +kernel)];refine ⟨_,hp,_,at0,rfl,?_⟩;rw [if_pos rfl];refine ⟨_,hp,_,rfl,l,rfl,⟨_,hl⟩,?_⟩;exact parts ts .al l us hl hu ok.1 ok.2 (Nat.lt_of_succ_lt_succ hd) fun x dx l ys H' s hx hl' qs=>q _ _ s (by unfold QAt;exact ⟨x,dx,l,ys,rfl,hx,hl',qs⟩)
   | on ts =>
     obtain ⟨p,l,us,rfl,hp,hl,hu⟩:=TrAt.on ht;walk_at "vc";refine ⟨_,hp,_,at0,rfl,?_⟩;rw [if_neg (by decide +kernel)];refine ⟨_,hp,_,at0,rfl,?_⟩;rw [if_neg (by decide +kernel)];refine ⟨_,hp,_,at0,rfl,?_⟩;rw [if_neg (by decide +kernel)];refine ⟨_,hp,_,at0,rfl,?_⟩;rw [if_neg (by decide +kernel)];refine ⟨_,hp,_,at0,rfl,?_⟩;rw [if_neg (by decide +kernel)];refine ⟨_,hp,_,rfl,l,rfl,⟨_,hl⟩,?_⟩;exact parts ts .on l us hl hu ok.1 ok.2 (Nat.lt_of_succ_lt_succ hd) fun x dx l ys H' s hx hl' qs=>q _ _ s (by unfold QAt;exact ⟨x,dx,l,ys,rfl,hx,hl',qs⟩)
end
def spLaw (K:PySem.W.Frag):Sp:=fun vs H Q _=>∃ (a:Addr) (ns:List Int),vs=[.ref a]∧SqL K H a (ns.map V.int)∧ns.length≤63∧∀ H',Q (.bl true) H'
theorem lnQ_eq (tp:Str→Int)(bt:Str→Bool)(t:T):t.neatQ tp bt=t.lnQ tp bt:=by unfold T.neatQ T.lnQ;rw [T.ln_neat]
theorem ZfV {K:PySem.W.Frag}{H:Hp}:∀ {us vs:List V} {ds es:List PyData},RdDs K H us ds→RdDs K H vs es→RdDs K H (us++vs) (ds++es)
 | _,_,_,_,.nil,h=>h
 | _,_,_,_,.cons a r,h=>.cons a (ZfV r h)
theorem ZeX {t u:T}{i:Nat}(h:t.parts.toL[i]?=some u):u.men.length≤t.men.length:=by
 have k:∀ {ts:Ts},ts.toL[i]?=some u→u.men.length≤ts.men.length:=fun {ts} h=>by
   rw [Zfd];have:=Zgm ts.toL (i+1);rw [← ZdX h,List.length_append] at this;omega
 cases t with
 | al ts=>exact k h
 | on ts=>exact k h
 | _=>cases h
structure TrI (K:PySem.W.Frag)(N:List Str)(a d m p:Addr)(c:Int)(H:Hp)(i:Nat)(σ:L2.St)(H':Hp):Prop where
 ex:∃ (us:List V) (ts:List T) (v5 v6 v7:Option V),σ=[some (.ref a),some (.int c),some (.ref d),some (.ref m),some (.ref p),v5,v6,v7]∧H' p=some (.lst us)∧RdDs K (del H' p) us (ts.map T.dat)∧ts.length=4+i∧(∀ t∈ts,t.ok N∧t.dep≤10∧t.men.length≤12)∧∀ (j:Nat) t,4≤j→ts[j]?=some t→(t.kd.isA||t.kd.isO)=true∧2≤t.parts.toL.length
 sm:Same H H'
section
variable {P:Program}{w:World}{K:PySem.W.Frag}{mg:Str→Option Value}{base:Heap}{C:Kd→Addr}{CK:Bool→Addr}{IC:Bool→Int→Hp→Addr→Prop}
def spNtX (C:Kd→Addr)(IC:Bool→Int→Hp→Addr→Prop)(n:Nat):Sp:=fun vs H Q E=>∃ (N:List Str) (tp:Str→Int) (bt:Str→Bool),OkN N∧spNt C IC N tp bt n vs H Q E
theorem ok_neatX {n:Nat}(Y:CoC P w K mg base CK IC)(h1:∀ N tp bt,OkN N→FnAt P w K mg base "check_names" ["question","columns"] (n+2) (spChkNs C IC N tp bt n))(h2:∀ N tp bt,OkN N→FnAt P w K mg base "is_neat" ["question","columns"] (2*n+5) (spNt C IC N tp bt n))(d:DefAt K mg "neat" s_neat ["question","columns"]):FnAt P w K mg base "neat" ["question","columns"] (2*n+6) (spNtX C IC n):=by
 refine FnAt.of d sc_neat (fun vs H Q E h=>?_) (fun f cdv A outer s H vs Q E hr h=>?_)
 · obtain ⟨N,tp,bt,hN,t,x,d,rfl,_⟩:=h;rfl
 obtain ⟨N,tp,bt,hN,t,x,d,rfl,ht,ot,dt,mt,hc,q⟩:=h;have h_check_names:=h1 N tp bt hN;have h_is_neat:=h2 N tp bt hN;refine ⟨_,(Zae (Za8 (Zai h_check_names (hr.mono (by omega)) rfl (Zaa (pv 0) (Zaa (pv 1) Zac))))
     (Zaf (Zam (Zai h_is_neat (hr.mono (by omega)) rfl (Zaa (pv 0) (Zaa (pv 1) Zac)))))),?_⟩
 walk_at "vc";exact ⟨t,_,_,rfl,ht,ot,dt,mt,hc,fun H2 s2=>⟨t,_,_,rfl,QAt.same s2 t ht,ot,dt,mt,CoAt.same Y s2 hc,fun H3 s3=>q H3 (s2.trans s3)⟩⟩
def spLnX (K:PySem.W.Frag)(n:Nat):Sp:=fun vs H Q E=>∃ (N:List Str) (tp:Str→Int) (bt:Str→Bool),OkN N∧spLnQ K N tp bt n vs H Q E
theorem ok_lnX {n:Nat}(B:Blt mg)(h1:∀ N tp bt,OkN N→FnAt P w K mg base "_law_neat_part" ["_law_tree","_law_columns_here"] (n+2) (spLn K N tp bt n))(d:DefAt K mg "_law_neat" ZcI ["_law_tree","_law_columns_here"]):FnAt P w K mg base "_law_neat" ["_law_tree","_law_columns_here"] (n+3) (spLnX K n):=by
 refine FnAt.of d ZgI (fun vs H Q E h=>?_) (fun f cdv A outer s H vs Q E hr h=>?_)
 · obtain ⟨N,tp,bt,hN,t,x,d,rfl,_⟩:=h;rfl
 obtain ⟨N,tp,bt,hN,t,x,d,rfl,ht,ot,dt,hc,q⟩:=h;have h_l_neat_part:=h1 N tp bt hN;refine ⟨_,(Zaf (Zam (Zco (ZaS ZaT (Zaj (ZaN K) rfl B.len PySem.boot_len (Zaa (pv 0) Zac)) Zad (nomark _)) (ZaI (Zai h_l_neat_part (hr.mono (by omega)) rfl (Zaa (pv 0) (Zaa (pv 1) Zac))))))),?_⟩;have hs:∃ p us,x=.ref p∧SqT K H p us∧decide ((us.length:Int)=1)=(t.kd.isE||t.kd.isN):=by
   cases t with
   | ev =>
     obtain ⟨p,e,f⟩:=TrAt.leaf ht rfl;exact ⟨p,_,e,f,rfl⟩
   | no =>
     obtain ⟨p,e,f⟩:=TrAt.leaf ht rfl;exact ⟨p,_,e,f,rfl⟩
   | inn x lo hi =>
     obtain ⟨p,e,f⟩:=TrAt.inn ht;exact ⟨p,_,e,f,rfl⟩
   | opp t =>
     obtain ⟨p,u,e,f,_⟩:=TrAt.opp ht;exact ⟨p,_,e,f,rfl⟩
   | al ts =>
     obtain ⟨p,l,us,e,f,_⟩:=TrAt.al ht;exact ⟨p,_,e,f,rfl⟩
   | on ts =>
     obtain ⟨p,l,us,e,f,_⟩:=TrAt.on ht;exact ⟨p,_,e,f,rfl⟩
 obtain ⟨p,us,rfl,hs,el⟩:=hs;rw [Za9];refine Vl.or (H:=H) (a:=t.kd.isE||t.kd.isN) (b:=t.ln tp bt) (fun H3 s3 R r=>?_) (fun _ H3 s3 R r=>?_) H (Same.refl _) _ q
 · walk_at "vc";exact ⟨_,.inr (ZaB s3 hs),el ▸ r H3 (Same.refl _)⟩
 · walk_at "vc";exact ⟨t,_,_,rfl,TrAt.same s3 ht,ot,dt,LcAt.same s3 hc,r⟩
theorem ok_law76 (B:Blt mg)(Y:CoC P w K mg base CK IC)(h_l_cell_at:FnAt P w K mg base "_law_cell_at" ["_law_script","_law_k"] 1 (spCell K))(h_l_columns:FnAt P w K mg base "_law_columns" ["_law_cell"] 3 (spCols K))(h_l_made:FnAt P w K mg base "_law_made" ["_law_columns_here","_law_table_here"] 7 (spMdC K IC))(h_l_question:FnAt P w K mg base "_law_question" ["_law_columns_here","_law_table_here","_law_cells"] 4 (spQu K))(h_l_near:FnAt P w K mg base "_law_near" ["_law_columns_here","_law_cell"] 3 (spNear K))(h_l_object:FnAt P w K mg base "_law_object" ["_law_tree"] 15 (spObj K C 12))(h_neat:FnAt P w K mg base "neat" ["question","columns"] 30 (spNtX C IC 12))(h_l_neat:FnAt P w K mg base "_law_neat" ["_law_tree","_law_columns_here"] 15 (spLnX K 12))
   {f:Addr} {fd:FuncData} (F:Fun K "law" "law" Zdb f fd):FnOk P w K mg base CX0 31 f fd ["_law_script"] (spLaw K):=by
 refine F.ok sc_law (fun vs H Q E h=>?_) (fun cdv A outer s H vs Q E hr h=>?_)
 · obtain ⟨a,ns,rfl,_⟩:=h;rfl
 obtain ⟨a,ns,rfl,hS,h63,q⟩:=h;refine ⟨_,(Zae (Zaq (i:=1) sc_law.nd rfl (by walk_at "l") (Zai h_l_cell_at (hr.mono (by decide)) rfl (Zaa (pv 0) (Zaa Zad Zac))))
     (Zae (Zaq (i:=2) sc_law.nd rfl (by walk_at "l") (Zai h_l_columns (hr.mono (by decide)) rfl (Zaa (pv 1) Zac)))
     (Zae (Zaq (i:=3) sc_law.nd rfl (by walk_at "l") (Zai h_l_made (hr.mono (by decide)) rfl (Zaa (pv 2) (Zaa ZbP Zac))))
     (Zae (Zaq (i:=4) sc_law.nd rfl (by walk_at "l") (ZaG (Zaa (Zai h_l_question (hr.mono (by decide)) rfl (Zaa (pv 2) (Zaa ZbP (Zaa (ZbD (ZbR K) (pv 0) Zb1 (ZbZ Zad)) Zac)))) (Zaa (ZaL (Zaa Zao Zac)) (Zaa (ZaL (Zaa Zao Zac)) (Zaa (ZaL (Zaa Zao (Zaa (ZaL (Zaa Zao Zac)) Zac))) Zac))))))
     (Zae (ZbE PassesOwn.never rfl (Zbg rfl B.range (Zaa Zad Zac)) (Zav (i:=5) sc_law.nd rfl (by walk_at "l")) (Zaf (Za8 (ZbM K PySem.F.plainAttrs_list PySem.F.slot_list_append PySem.F.type_list_append Zbm (pv 4) (Zaa (Zai h_l_near (hr.mono (by decide)) rfl (Zaa (pv 2) (Zaa (Zal ZaJ (Zai h_l_cell_at (hr.mono (by decide)) rfl (Zaa (pv 0) (Zaa (pv 5) Zac))) (pv 5)) Zac))) Zac)))))
     (Zae (Za8 (ZbM K PySem.F.plainAttrs_list PySem.F.slot_list_extend PySem.F.type_list_extend Zd2 (pv 4) (Zaa (ZaG (Zaa (Zap (ZaC K) (Zap (Zan K) (Zap (ZaC K) (pv 4) Zad (fun _ _=>rfl)) Zad (fun _ _=>rfl)) Zad (fun _ _=>rfl)) (Zaa (ZaL (Zaa Zao (Zaa (Zap (ZaC K) (Zap (Zan K) (Zap (ZaC K) (pv 4) Zad (fun _ _=>rfl)) Zad (fun _ _=>rfl)) Zad (fun _ _=>rfl)) Zac))) (Zaa (ZaL (Zaa Zao (Zaa (Zap (ZaC K) (pv 4) Zad (fun _ _=>rfl)) Zac))) Zac)))) Zac)))
     (Zae (ZbE PassesOwn.never rfl (ZaP K (Zal ZfB (pv 4) (ZbD (ZbR K) (pv 4) Zb1 (ZbZ Zad)))) (Zav (i:=6) sc_law.nd rfl (by walk_at "l")) (Zae (Zaq (i:=7) sc_law.nd rfl (by walk_at "l") (Zai h_neat (hr.mono (by decide)) rfl (Zaa (Zai h_l_object (hr.mono (by decide)) rfl (Zaa (pv 6) Zac)) (Zaa (pv 3) Zac))))
     (Zaf (ZaD (PW.pt (Zcp (ZfA (Zbk (Zaj (Zat K) rfl B.isi Zaw (Zaa (pv 7) (Zaa (pe_bltn (v:=.ty "bool") rfl B.bool boot_bool rfl) Zac))))) (Zcv (Zar op_ne (pv 7) (Zai h_l_neat (hr.mono (by decide)) rfl (Zaa (pv 6) (Zaa (pv 2) Zac))) (nomark _))))) (Zaf (Zam ZbO)) Zas))))
     (Zaf (Zam ZbO))))))))),?_⟩
 refine Zag fun k hk=>?_
 walk_at "vc";refine ⟨a,ns,0,rfl,hS,hk _ _ (Zag fun k hk=>?_)⟩;generalize ns.getD 0 0=c;walk_at "vc";refine ⟨c,rfl,fun d N tp bt H1 s1 nd hL hN hO=>hk _ _ (Zag fun k hk=>?_)⟩;walk_at "vc";refine fun e ne=>⟨N,tp,bt,d,e,rfl,LcD.same (Same.new ne) hL,Zab,fun m H2 s2 hC=>hk _ _ (Zag fun k hk=>?_)⟩
 have s12:=s1.trans ((Same.new ne).trans s2);have hL2:=LcD.same ((Same.new ne).trans s2) hL;walk_at "vc";have t9:cutV (ns.map V.int) none (some 9)=(ns.take 9).map V.int:=by
   unfold cutV;rw [show (9:Int)=((9:Nat):Int) from rfl,HT.sIx_nat,show HT.sIx (ns.map V.int).length 0 none=0 from rfl,List.drop_zero,Nat.sub_zero,List.map_take];by_cases c:9≤(ns.map V.int).length
   · rw [Nat.min_eq_left c]
   · rw [Nat.min_eq_right (by omega),List.take_of_length_le (Nat.le_refl _),List.take_of_length_le (by omega)]
 refine fun e2 ne2=>⟨_,(s12.trans (Same.new ne2)).seq hS,fun l9 n9=>?_⟩
 rw [t9];have r1:=(Same.new (o:=.dK []) ne2).trans (Same.new (o:=.lst ((ns.take 9).map V.int)) n9);refine ⟨N,tp,bt,d,e2,l9,ns.take 9,rfl,LcD.same r1 hL2,hN,hO,(Same.new n9) _ _ Zab,Zab,by rw [List.length_take];omega,fun t v H3 s3 tr d0 o0 m0=>?_⟩;refine ⟨by decide,fun q1 n1=>⟨by decide,fun q2 n2=>⟨by decide,fun q3 n3=>⟨by decide,fun q4 n4=>⟨by decide,fun p np=>hk _ _ (Zag fun k hk=>?_)⟩⟩⟩⟩⟩;have b1:=Same.new (o:=.tup [V.str (Str.ofString "every")]) n1;have b2:=Same.new (o:=.tup [V.str (Str.ofString "nobody")]) n2;have b3:=Same.new (o:=.tup [V.str (Str.ofString "nobody")]) n3;have b4:=Same.new (o:=.tup [V.str (Str.ofString "not"),V.ref q3]) n4;have trs:RdDs K (upd (upd (upd (upd H3 q1 (.tup [V.str (Str.ofString "every")])) q2 (.tup [V.str (Str.ofString "nobody")])) q3 (.tup [V.str (Str.ofString "nobody")])) q4 (.tup [V.str (Str.ofString "not"),V.ref q3])) [v,.ref q1,.ref q2,.ref q4] ([t,.ev,.no,.opp .no].map T.dat) :=
   .cons (Za5 (((b1.trans b2).trans b3).trans b4) tr) (.cons (.tup (.inl (.inl (((b2.trans b3).trans b4) _ _ Zab))) (.cons (.str _) .nil)) (.cons (.tup (.inl (.inl ((b3.trans b4) _ _ Zab))) (.cons (.str _) .nil)) (.cons (.tup (.inl (.inl Zab)) (.cons (.str _) (.cons (.tup (.inl (.inl (b4 _ _ Zab))) (.cons (.str _) .nil)) .nil))) .nil)))
 have s4:=((r1.trans s3).trans ((b1.trans b2).trans b3)).trans b4;generalize upd (upd (upd (upd H3 q1 (.tup [V.str (Str.ofString "every")])) q2 (.tup [V.str (Str.ofString "nobody")])) q3 (.tup [V.str (Str.ofString "nobody")])) q4 (.tup [V.str (Str.ofString "not"),V.ref q3])=H4 at trs s4 np ⊢;have np2:H2 p=none:=none_of s4 np;walk_at "vc";refine loopR (TrI K N a d m p c H2) ⟨⟨[v,.ref q1,.ref q2,.ref q4],[t,.ev,.no,.opp .no],none,none,none,rfl,Zab,rdDs_same (fun b o eb=>?_) trs,rfl,fun u hu=>?_,fun j u hj eu=>?_⟩,s4.trans (Same.new np)⟩ ?_ ?_
 · rw [ZaO (Zak eb np),Zah (Zak eb np)];exact eb
 · simp only [List.mem_cons,List.not_mem_nil,or_false] at hu;rcases hu with rfl | rfl | rfl | rfl
   · exact ⟨o0,d0,by omega⟩
   · exact ⟨trivial,Nat.zero_le _,Nat.zero_le _⟩
   · exact ⟨trivial,Nat.zero_le _,Nat.zero_le _⟩
   · exact ⟨trivial,by decide,Nat.zero_le _⟩
 · have:=(List.getElem?_eq_some_iff.mp eu).1;exact absurd this (by show ¬j<4;omega)
 · rintro i σ H5 hi ⟨⟨us,ts,v5,v6,v7,rfl,hp,hu,li,ht,hj⟩,sm⟩;rw [ZaQ];walk_at "vc";refine ⟨⟨_,SqL.of hp⟩,a,ns,i,rfl,(s12.trans sm).seq hS,_,rfl,N,tp,bt,d,_,rfl,LcD.same sm hL2,hN,fun t v H6 s6 tr d0 o0 m0 ka kp=>⟨us,s6 _ _ hp,?_⟩⟩;have hl:us.length=ts.length:=by rw [Za7 hu,List.length_map]
   have pp:Same (del H6 p) (del (upd H6 p (.lst (us++[v]))) p):=fun b o e=>by
     obtain ⟨n,e⟩:=ZaH e;rw [ZaO n,Zah n];exact e
   refine ⟨Nat.lt_of_le_of_lt (show us.length≤9 by omega) (by decide),⟨us++[v],ts++[t],_,_,_,rfl,Zab,?_,by rw [List.length_append,li];rfl,fun u hu=>?_,fun j u hj2 eu=>?_⟩,(sm.trans s6).put np2⟩
   · rw [List.map_append];refine ZbV (rdDs_same ((Zen s6).trans pp) hu) (TrAt.same (fun b o eb=>?_) tr);obtain ⟨e1,e2⟩:=New.some eb;have nb:b≠p:=fun z=>by rw [z,hp] at e1;cases e1
     rw [ZaO nb,Zah nb];exact e2
   · rcases List.mem_append.mp hu with hu | hu
     · exact ht u hu
     · rw [List.mem_singleton.mp hu];exact ⟨o0,by omega,m0⟩
   · by_cases c:j<ts.length
     · rw [List.getElem?_append_left c] at eu;exact hj j u hj2 eu
     · rw [List.getElem?_append_right (by omega)] at eu;obtain ⟨z,w⟩:=List.getElem?_eq_some_iff.mp eu;have:j-ts.length=0:=by
         have:j-ts.length<1:=z;omega
       rw [this] at eu;cases eu;exact ⟨ka,kp⟩
 · rintro σ H5 ⟨⟨us,ts,v5,v6,v7,rfl,hp,hu,li,ht,hj⟩,sm⟩;refine hk _ _ (Zag fun k hk=>?_);have hl:us.length=8:=by rw [Za7 hu,List.length_map,li]
   have dsub:∀ {H':Hp} {p:Addr},Same (del H' p) H':=fun {H' p} b o e=>(ZaH e).2
   have at5:∀ j:Nat,j<8→∃ u t,us[j]?=some u∧ts[j]?=some t∧TrAt K (del H5 p) t u∧t∈ts:=fun j h=>by
     have e1:=List.getElem?_eq_getElem (l:=us) (i:=j) (by omega);have e2:=List.getElem?_eq_getElem (l:=ts) (i:=j) (by omega);obtain ⟨dd,e3,rd⟩:=Zc7 hu e1;rw [List.getElem?_map,e2] at e3;cases e3;exact ⟨_,_,e1,e2,rd,List.getElem_mem _⟩
   obtain ⟨u4,t4,eu4,et4,tr4,m4⟩:=at5 4 (by decide);obtain ⟨u5,t5,eu5,et5,tr5,m5⟩:=at5 5 (by decide);obtain ⟨k4,l4⟩:=hj 4 t4 (Nat.le_refl _) et4;obtain ⟨p4,lp,us4,rfl,sq4,sl4,tr4'⟩:=TrAt.ao tr4 k4;have ln4:=TrsAt.len tr4';obtain ⟨a0,ea0⟩:∃ x,us4[0]?=some x:=⟨_,List.getElem?_eq_getElem (by omega)⟩
   obtain ⟨a1,ea1⟩:∃ x,us4[1]?=some x:=⟨_,List.getElem?_eq_getElem (by omega)⟩
   obtain ⟨x0,ex0,tx0⟩:=TrsAt.at tr4' ea0;obtain ⟨x1,ex1,tx1⟩:=TrsAt.at tr4' ea1;have sq4:=ZaB dsub sq4;have sl4:=dsub.seq sl4;walk_at "vc";refine ⟨⟨_,SqL.of hp⟩,_,SqL.of hp,_,ZaV (j:=4) eu4,_,rfl,_,sq4,V.ref lp,rfl,_,rfl,_,sl4,a0,ZaV (j:=0) ea0,_,SqL.of hp,_,ZaV (j:=4) eu4,_,rfl,_,sq4,V.ref lp,rfl,_,rfl,_,sl4,a1,ZaV (j:=1) ea1,by decide,fun q1 n1=>?_⟩;have b1:=Same.new (o:=.tup [V.str (Str.ofString "not"),a1]) n1;refine ⟨_,SqL.of (b1 _ _ hp),u5,ZaV (j:=5) eu5,by decide,fun q2 n2=>⟨by decide,fun q3 n3=>?_⟩⟩;have b2:=Same.new (o:=.tup [V.str (Str.ofString "not"),u5]) n2;have b3:=Same.new (o:=.lst [a0,V.ref q1,V.ref q2]) n3;have hp8:=((b1.trans b2).trans b3) _ _ hp;refine ⟨us,hp8,[a0,V.ref q1,V.ref q2],Zab,small5 (by rw [hl];show 8+3≤100000;decide),hk _ _ (Zag fun k hk=>?_)⟩;have n1p:q1≠p:=fun z=>by rw [z,hp] at n1;cases n1
   have n2p:q2≠p:=fun z=>by rw [z,b1 _ _ hp] at n2;cases n2
   have g1:=(b2.trans b3) _ _ (Zab (H:=H5) (a:=q1) (o:=.tup [V.str (Str.ofString "not"),a1]));have g2:=b3 _ _ (Zab (H:=upd H5 q1 (.tup [V.str (Str.ofString "not"),a1])) (a:=q2) (o:=.tup [V.str (Str.ofString "not"),u5]));have s8:=(b1.trans b2).trans b3;generalize upd (upd (upd H5 q1 (.tup [V.str (Str.ofString "not"),a1])) q2 (.tup [V.str (Str.ofString "not"),u5])) q3 (.lst [a0,V.ref q1,V.ref q2])=H8 at hp8 g1 g2 s8;have ss:Same (del H5 p) (upd H8 p (.lst (us++[a0,V.ref q1,V.ref q2]))):=fun b o e=>by
     obtain ⟨n,e⟩:=ZaH e;rw [Zah n];exact s8 _ _ e
   have trs:RdDs K (upd H8 p (.lst (us++[a0,V.ref q1,V.ref q2]))) (us++[a0,V.ref q1,V.ref q2]) ((ts++[x0,.opp x1,.opp t5]).map T.dat):=by
     rw [List.map_append];refine ZfV (rdDs_same ss hu) (.cons (Za5 ss tx0) (.cons (.tup (.inl (.inl ?_)) (.cons (.str _) (.cons (Za5 ss tx1) .nil))) (.cons (.tup (.inl (.inl ?_)) (.cons (.str _) (.cons (Za5 ss tr5) .nil))) .nil)))
     · rw [Zah n1p];exact g1
     · rw [Zah n2p];exact g2
   have all:∀ t∈ts++[x0,.opp x1,.opp t5],t.ok N∧t.dep<12∧t.men.length≤12:=fun t h=>by
     have o4:=ht t4 m4;rcases List.mem_append.mp h with h | h
     · have:=ht t h;exact ⟨this.1,by omega,this.2.2⟩
     · simp only [List.mem_cons,List.not_mem_nil,or_false] at h;rcases h with rfl | rfl | rfl
       · have d1:=Zbh t4 _ ex0;exact ⟨Zbl _ ex0 (ZaU t4 o4.1),by omega,Nat.le_trans (ZeX ex0) o4.2.2⟩
       · have d1:=Zbh t4 _ ex1;exact ⟨show x1.ok N from Zbl _ ex1 (ZaU t4 o4.1),by show x1.dep+1<12;omega,Nat.le_trans (show x1.men.length≤_ from ZeX ex1) o4.2.2⟩
       · have o5:=ht t5 m5;exact ⟨o5.1,by show t5.dep+1<12;omega,o5.2.2⟩
   have h9:=Zab (H:=H8) (a:=p) (o:=.lst (us++[a0,V.ref q1,V.ref q2]));have s9:Same H2 (upd H8 p (.lst (us++[a0,V.ref q1,V.ref q2]))):=(sm.trans s8).put np2;have ul:(us++[a0,V.ref q1,V.ref q2]).length=11:=by rw [List.length_append,hl];rfl
   generalize us++[a0,V.ref q1,V.ref q2]=vs at trs h9 s9 ul ⊢;generalize ts++[x0,.opp x1,.opp t5]=ws at trs all;generalize upd H8 p (.lst vs)=H9 at trs h9 s9;walk_at "vc";have c2:cutV vs none (some 2)=vs.take 2:=Zdg (n:=2) vs (by omega);refine ⟨_,SqL.of h9,fun l1 m1=>?_⟩;rw [c2];have f1:=Same.new (o:=.lst (vs.take 2)) m1;refine ⟨_,f1 _ _ h9,_,Zab,small5 (by rw [List.length_take];omega),fun l2 m2=>⟨⟨_,SqL.of Zab⟩,?_⟩⟩;have f2:=f1.trans (Same.new (o:=.lst (vs++vs.take 2)) m2);have h10:=Zab (H:=upd H9 l1 (.lst (vs.take 2))) (a:=l2) (o:=.lst (vs++vs.take 2));generalize upd (upd H9 l1 (.lst (vs.take 2))) l2 (.lst (vs++vs.take 2))=H10 at f2 h10;refine loopL (K:=K) (xs:=vs++vs.take 2) (fun i σ H'=>(∃ v5 v6 v7,σ=[some (.ref a),some (.int c),some (.ref d),some (.ref m),some (.ref p),v5,v6,v7])∧Same H10 H') ⟨⟨_,_,_,rfl⟩,Same.refl _⟩ (fun i σ H3 _ h=>SqL.of (h.2 _ _ h10)) ?_ ?_
   · rintro i x σ H11 hx ⟨⟨v5,v6,v7,rfl⟩,s11⟩;have xm:x∈vs:=by
       rcases List.mem_append.mp (List.mem_of_getElem? hx) with h | h
       · exact h
       · exact List.mem_of_mem_take h
     obtain ⟨j,ej⟩:=List.getElem?_of_mem xm;obtain ⟨dd,e3,rd⟩:=Zc7 trs ej;rw [List.getElem?_map] at e3;cases et:ws[j]? with
     | none=>rw [et] at e3;cases e3
     | some t =>
     rw [et] at e3;cases e3;obtain ⟨ot,dt,mt⟩:=all t (List.mem_of_getElem? et);have sA:=f2.trans s11;have sB:=s9.trans sA;rw [ZaQ];refine Zag fun k2 hk2=>?_
     walk_at "vc";refine ⟨N,t,x,rfl,Za5 sA rd,ot,dt,fun qq H12 s12' qa=>⟨N,tp,bt,hO,t,qq,m,rfl,QAt.same New.sub t qa,ot,dt,by omega,CoAt.same Y (sB.trans s12') hC,fun H13 s13=>hk2 _ _ ?_⟩⟩;walk_at "vc";refine ⟨N,tp,bt,hO,t,x,d,rfl,Za5 ((sA.trans s12').trans s13) rd,ot,dt,(LcD.same ((sB.trans s12').trans s13) hL2).at,fun H14 s14=>⟨rfl,?_⟩⟩;rw [if_pos (by rw [lnQ_eq])];exact ((s11.trans s12').trans s13).trans s14
   · rintro σ H11 ⟨⟨v5,v6,v7,rfl⟩,s11⟩;refine hk _ _ ?_;walk_at "vc";exact q _
end
theorem base_mk {K:PySem.W.Frag}{h:Heap}{mg:Str→Option Value}{M f:Addr}{oc:Value}{od an:Option Addr}{osl:Array (Option Value)}{kV doc pm cdv ct:Value}(X:K.In h)(G:h.Ns mainGlobals mg)(a:PySem.W.nsIn K mainGlobals "Column"=some (some (.ref M)))
   (sp:PySem.W.specialIn K (.ref M) "__getattribute__"=some (some (.builtin "type.__getattribute__"))) (rd:PySem.W.readsIn K M (.type "type")=true) (fc:PySem.W.findCls K (.ref M) (.type "type") "__init__"=some (.val (.ref f)))
   (l:K.lookup f=some ⟨oc,od,.func (PySem.W.fnOf "__init__" "Column.__init__" (defArgs Zau) (defBody Zau) (defScope Zau) .none kV doc pm an cdv ct),osl⟩) (c:PySem.W.codeIn K cdv "Column.__init__"=true) (k:PySem.W.keepIn K (.ref f)=true)
   (hb:∀ (kV doc pm:Value) (an:Option Addr) (cdv ct:Value) (us:List Value),us.length=["self"].length→bindArgs (PySem.W.fnOf "__init__" "Column.__init__" (defArgs Zau) (defBody Zau) (defScope Zau) .none kV doc pm an cdv ct) ⟨us,[]⟩=pure ((["self"]:List Str).zip us)) :
   ∃ M f fd,ByCls K mg "Column" "__init__" M f∧Fun K "__init__" "Column.__init__" Zau f fd∧Binds K fd ["self"] [] :=
 ⟨M,f,_,⟨PySem.W.mg_of X G a,sp,rd,fc,k⟩,ZbY l c k,(ZbY l c k).binds hb⟩
def kdA (C_Every C_Nobody C_Within C_Opposite C_AllOf C_OneOf:Addr):Kd→Addr
 | .ev=>C_Every
 | .no=>C_Nobody
 | .wi=>C_Within
 | .op=>C_Opposite
 | .al=>C_AllOf
 | .on=>C_OneOf
theorem wire76 {P:Program}{w:World}{K:PySem.W.Frag}{mg:Str→Option Value}{base:Heap}{C_Every C_Nobody C_Within C_Opposite C_AllOf C_OneOf C_Marks C_ByValue C_ByBits MC fC:Addr}{fdC:FuncData}{fa:Addr}{fd:FuncData}(B:Blt mg)(cd_Every:CD_Every K mg C_Every)(cd_Nobody:CD_Nobody K mg C_Nobody)(cd_Within:CD_Within K mg C_Within)(cd_Opposite:CD_Opposite K mg C_Opposite)(cd_AllOf:CD_AllOf K mg C_AllOf)(cd_OneOf:CD_OneOf K mg C_OneOf)(cd_Marks:CD_Marks K mg C_Marks)(cd_ByValue:CD_ByValue K mg C_ByValue)(cd_ByBits:CD_ByBits K mg C_ByBits)(D_alike:DefAt K mg "alike" ZcK ["one","other"])(D_all_alike:DefAt K mg "all_alike" Zbt ["some","others"])(D_stands_among:DefAt K mg "stands_among" Zbi ["question","others"])(D_parts_of:DefAt K mg "parts_of" ZbX ["question"])(D_are_of_one_name:DefAt K mg "are_of_one_name" Za2 ["one","other"])(D_are_side_by_side:DefAt K mg "are_side_by_side" Za0 ["one","other"])(D_are_opposites:DefAt K mg "are_opposites" Zbc ["one","other"])(D_is_neat:DefAt K mg "is_neat" Zcb ["question","columns"])(D_is_neat_inside:DefAt K mg "is_neat_inside" ZaX ["question","columns"])(D_go_together:DefAt K mg "go_together" Zbr ["question","earlier","part","columns"])(D_neat:DefAt K mg "neat" s_neat ["question","columns"])(D_check_name:DefAt K mg "check_name" Zby ["name","columns"])(D_check_names:DefAt K mg "check_names" Zbq ["question","columns"])(D_l_mixed:DefAt K mg "_law_mixed" Zcf ["_law_cell","_law_k"])(D_l_cell_at:DefAt K mg "_law_cell_at" ZbI ["_law_script","_law_k"])(D_l_top:DefAt K mg "_law_top" Zdj ["_law_column"])(D_l_ranges_meet:DefAt K mg "_law_ranges_meet" Zbd ["_law_one","_law_other","_law_columns_here","_law_word"])(D_l_neat_part:DefAt K mg "_law_neat_part" Zba ["_law_tree","_law_columns_here"])(D_l_neat:DefAt K mg "_law_neat" ZcI ["_law_tree","_law_columns_here"])(D_l_names:DefAt K mg "_law_names" Zce ["_law_cell"])(D_l_columns:DefAt K mg "_law_columns" ZbH ["_law_cell"])(D_l_end:DefAt K mg "_law_end" Zdi ["_law_column","_law_some","_law_number"])(D_l_leaf:DefAt K mg "_law_leaf" ZcO ["_law_columns_here","_law_table_here","_law_cell"])(D_l_question:DefAt K mg "_law_question" Zbx ["_law_columns_here","_law_table_here","_law_cells"])(D_l_object:DefAt K mg "_law_object" Zb0 ["_law_tree"])(D_l_made:DefAt K mg "_law_made" ZcL ["_law_columns_here","_law_table_here"])(D_l_range:DefAt K mg "_law_range" Zch ["_law_columns_here","_law_cell","_law_k"])(D_l_near:DefAt K mg "_law_near" ZcD ["_law_columns_here","_law_cell"])(bc:ByCls K mg "Column" "__init__" MC fC)(FC:Fun K "__init__" "Column.__init__" Zau fC fdC)(bC:Binds K fdC ["self"] [])(FL:Fun K "law" "law" Zdb fa fd):FnOk P w K mg base CX0 100 fa fd ["_law_script"] (spLaw K):=by
 have c1:CD_Every K mg (kdA C_Every C_Nobody C_Within C_Opposite C_AllOf C_OneOf .ev):=cd_Every;have c2:CD_Nobody K mg (kdA C_Every C_Nobody C_Within C_Opposite C_AllOf C_OneOf .no):=cd_Nobody;have c3:CD_Within K mg (kdA C_Every C_Nobody C_Within C_Opposite C_AllOf C_OneOf .wi):=cd_Within;have c4:CD_Opposite K mg (kdA C_Every C_Nobody C_Within C_Opposite C_AllOf C_OneOf .op):=cd_Opposite;have c5:CD_AllOf K mg (kdA C_Every C_Nobody C_Within C_Opposite C_AllOf C_OneOf .al):=cd_AllOf;have c6:CD_OneOf K mg (kdA C_Every C_Nobody C_Within C_Opposite C_AllOf C_OneOf .on):=cd_OneOf;generalize kdA C_Every C_Nobody C_Within C_Opposite C_AllOf C_OneOf=C at c1 c2 c3 c4 c5 c6;have hc:∀ k,Cls K (C k):=fun k=>match k with | .ev=>c1.c | .no=>c2.c | .wi=>c3.c | .op=>c4.c | .al=>c5.c | .on=>c6.c
 have Z:QC P w K mg base C:=⟨hc,fun k=>match k with | .ev=>Zeq (.inl rfl) c1.c c1.m_beneath | .no=>Zeq (.inr (.inl rfl)) c2.c c2.m_beneath | .wi=>Zeq (.inr (.inr rfl)) c3.c c3.m_beneath | .op=>ok_benO c4 | .al=>ok_benA B c5 | .on=>ok_benN B c6⟩
 have S:SQ K mg C:={
   c:=hc
   t:=fun k=>match k with | .ev=>c1.ty | .no=>c2.ty | .wi=>c3.ty | .op=>c4.ty | .al=>c5.ty | .on=>c6.ty
   gE:=c1.at_
   gN:=c2.at_
   gW:=c3.at_
   gP:=c4.at_
   gA:=c5.at_
   gO:=c6.at_
   iE:=fun k=>match k with | .ev=>c1.i_Every | .no=>c2.i_Every | .wi=>c3.i_Every | .op=>c4.i_Every | .al=>c5.i_Every | .on=>c6.i_Every
   iN:=fun k=>match k with | .ev=>c1.i_Nobody | .no=>c2.i_Nobody | .wi=>c3.i_Nobody | .op=>c4.i_Nobody | .al=>c5.i_Nobody | .on=>c6.i_Nobody
   iW:=fun k=>match k with | .ev=>c1.i_Within | .no=>c2.i_Within | .wi=>c3.i_Within | .op=>c4.i_Within | .al=>c5.i_Within | .on=>c6.i_Within
   iP:=fun k=>match k with | .ev=>c1.i_Opposite | .no=>c2.i_Opposite | .wi=>c3.i_Opposite | .op=>c4.i_Opposite | .al=>c5.i_Opposite | .on=>c6.i_Opposite
   iA:=fun k=>match k with | .ev=>c1.i_AllOf | .no=>c2.i_AllOf | .wi=>c3.i_AllOf | .op=>c4.i_AllOf | .al=>c5.i_AllOf | .on=>c6.i_AllOf
   iO:=fun k=>match k with | .ev=>c1.i_OneOf | .no=>c2.i_OneOf | .wi=>c3.i_OneOf | .op=>c4.i_OneOf | .al=>c5.i_OneOf | .on=>c6.i_OneOf
   w1:=c3.n_name
   w2:=c3.n_low
   w3:=c3.n_high
   o1:=c4.n_one
   a1:=c5.n_parts
   n1:=c6.n_parts }
 have h_Marks:=ok_MI (P:=P) (w:=w) (base:=base) cd_Marks;have ccV:ClC K C_ByValue:=⟨cd_ByValue.c,cd_ByValue.n_valued,cd_ByValue.n_by_number,cd_ByValue.n_by_key⟩
 have ccB:ClC K C_ByBits:=⟨cd_ByBits.c,cd_ByBits.n_valued,cd_ByBits.n_by_number,cd_ByBits.n_by_key⟩
 have h_ByValue:=ok_VI (P:=P) (w:=w) (base:=base) cd_ByValue (ok_CI h_Marks ccV bc FC bC);have h_ByBits:=ok_BI (P:=P) (w:=w) (base:=base) cd_ByBits (ok_CI h_Marks ccB bc FC bC);have Y:CoC P w K mg base (CkB C_ByValue C_ByBits) (ICol C_Marks C_ByValue C_ByBits):={
   same:=fun s h=>ICol.same s h
   obj:=fun h=>ICol.obj h
   c:=fun b=>match b with | true=>cd_ByBits.c | false=>cd_ByValue.c
   t:=fun b=>match b with | true=>cd_ByBits.ty | false=>cd_ByValue.ty
   gB:=cd_ByBits.at_
   iB:=fun b=>match b with | true=>cd_ByBits.i_ByBits | false=>cd_ByValue.i_ByBits
   top:=fun b=>ok_top76 cd_ByValue cd_ByBits b }
 have al:=fun (N:List Str) (hN:OkN N)=>Zgz (P:=P) (w:=w) (base:=base) B hN S Z D_alike D_all_alike
 have go:=fun (N:List Str) (tp:Str→Int) (bt:Str→Bool) (hN:OkN N) (n:Nat)=>ok_go (N:=N) (tp:=tp) (bt:=bt) B S Y (al N hN n) (ok_oppos B S (al N hN n) D_are_opposites) (ok_among B (al N hN n) D_stands_among) (ok_parts B S D_parts_of) (ZfQ B S D_are_of_one_name) (ok_side S (ZfQ B S D_are_of_one_name) D_are_side_by_side) D_go_together
 have ins:=fun (N:List Str) (tp:Str→Int) (bt:Str→Bool) (hN:OkN N)=>Zfn (N:=N) (tp:=tp) (bt:=bt) B S Y (go N tp bt hN) D_is_neat_inside
 have h_is_neat:=fun (N:List Str) (tp:Str→Int) (bt:Str→Bool) (hN:OkN N)=>ZfC (n:=12) B S Y (ins N tp bt hN 12) D_is_neat
 have h_chk:=fun (N:List Str) (tp:Str→Int) (bt:Str→Bool) (hN:OkN N)=>Zdz (C:=C) (N:=N) (tp:=tp) (bt:=bt) (n:=12) B Y (ZeO B Z c1 c2 c3 c4 c5 c6 12) (ZdN D_check_name) D_check_names
 have h_neat:=ok_neatX (n:=12) Y h_chk h_is_neat D_neat
 have h_l_mixed:=ok_mixed (P:=P) (w:=w) (base:=base) D_l_mixed;have h_l_cell_at:=ZfD (P:=P) (w:=w) (base:=base) B D_l_cell_at
 have h_l_top:=ok_ltop (P:=P) (w:=w) (base:=base) D_l_top;have h_np:=fun (N:List Str) (tp:Str→Int) (bt:Str→Bool) (hN:OkN N)=>ok_lnps (N:=N) (tp:=tp) (bt:=bt) B hN h_l_top (ok_meet D_l_ranges_meet) D_l_neat_part 12 (by decide)
 have h_l_neat:=ok_lnX (n:=12) B h_np D_l_neat
 have h_l_names:=ZfI B h_l_mixed D_l_names;have h_l_columns:=Zed B h_l_mixed h_l_names D_l_columns;have h_l_made:=ZfG B h_ByValue h_ByBits D_l_made;have h_l_end:=ok_end76 B h_l_mixed h_l_top D_l_end;have h_l_question:=ZdI B h_l_mixed (fun N tp bt=>ZgT B h_l_mixed h_l_end D_l_leaf) D_l_question;have h_l_near:=ZgK B h_l_mixed (fun N tp bt=>Zfp B h_l_mixed h_l_top D_l_range) D_l_near;have h_l_object:=Ze3 (P:=P) (w:=w) (base:=base) (C:=C) ⟨c1.at_,c1.new⟩ ⟨c2.at_,c2.new⟩ (ok_iWi c3) (ok_iOp c4) (ok_iAl B c5) (ok_iOn B c6) D_l_object 12;exact (ok_law76 B Y h_l_cell_at h_l_columns h_l_made h_l_question h_l_near h_l_object h_neat h_l_neat FL).mono (by decide)
theorem law_mk {K:PySem.W.Frag}{h:Heap}{mg:Str→Option Value}{fa f:Addr}{oc:Value}{od an:Option Addr}{osl:Array (Option Value)}{kV doc pm cdv ct:Value}(X:K.In h)(G:h.Ns mainGlobals mg)(hfa:mg "law"=some (.ref fa))(a:PySem.W.nsIn K mainGlobals "law"=some (some (.ref f)))
   (l:K.lookup f=some ⟨oc,od,.func (PySem.W.fnOf "law" "law" (defArgs Zdb) (defBody Zdb) (defScope Zdb) .none kV doc pm an cdv ct),osl⟩) (c:PySem.W.codeIn K cdv "law"=true) (k:PySem.W.keepIn K (.ref f)=true) :
   ∃ fd,Fun K "law" "law" Zdb fa fd∧∀ (s:Shared) (v:Value),BindsTo s fd ⟨[v],[]⟩ [("_law_script",v)]:=by
 have e:=hfa.symm.trans (PySem.W.mg_of X G a);cases e;exact ⟨_,ZbY l c k,fun s v=>.of_eq rfl⟩
theorem walk {l:PySem.W.OpenLaw}{q:Program}{loose:List Str}{XP:(Str→Option Value)→Heap→Prop}{YP:World→Heap→Prop}{d:DefRec}{K:Params→PySem.W.Frag}(hn:l.most=some 63)(hdf:d.params.defaults=[])
   (hY:∀ (w:World) (h:Heap),YP w h→(K w.params).In h)
   (F:∀ (w:World) (mg:Str→Option Value) (fa:Addr) (h:Heap),(K w.params).In h→h.Ns mainGlobals mg→mg d.name=some (.ref fa) →
     ∃ fd:FuncData,(∀ (s:Shared) (u:Value),BindsTo s fd ⟨[u],[]⟩ [("_law_script",u)])∧∀ base:Heap,(K w.params).In base→base.Ns mainGlobals mg→FnOk l.prog w (K w.params) mg base CX0 100 fa fd ["_law_script"] (spLaw (K w.params))) :
   PySem.W.WalkO q loose XP YP l.row.toRowW d [] (fun f vs=>PySem.call f vs) :=
 L2.walk_of (n:=63) (k:=100) (x:="_law_script") (CX:=fun _=>CX0) (sp:=fun w=>spLaw (K w.params)) hn (by decide) hdf ⟨rfl,by decide,by decide⟩ hY F (fun _ _ a ns hl _ hS=>⟨a,ns,rfl,hS,hl,fun _=>rfl⟩) fun _ _ _ _ _ z=>z
theorem ZcR {K:PySem.W.Frag}{h:Heap}{mg:Str→Option Value}{x:Str}{C:Addr}{R:Addr→Prop}(X:K.In h)(G:h.Ns mainGlobals mg)(a:PySem.W.nsIn K mainGlobals x=some (some (.ref C)))(r:mg x=some (.ref C)→R C):∃ C,R C:=⟨C,r (PySem.W.mg_of X G a)⟩
end My
theorem PySem.W.Fast.te10663359065790897042:True:=trivial
def PySem.W.Fast.tw10663359065790897042:Unit:=()
theorem PySem.W.Fast.te3767015472654064522:True:=trivial
def PySem.W.Fast.tw3767015472654064522:Unit:=()
theorem PySem.W.Fast.te10048640088290115760:True:=trivial
def PySem.W.Fast.tw10048640088290115760:Unit:=()
theorem PySem.W.Fast.te8403559534865787773:True:=trivial
def PySem.W.Fast.tw8403559534865787773:Unit:=()
theorem PySem.W.Fast.te13052408679150730464:True:=trivial
def PySem.W.Fast.tw13052408679150730464:Unit:=()
theorem PySem.W.Fast.te16555476440528808052:True:=trivial
def PySem.W.Fast.tw16555476440528808052:Unit:=()
theorem PySem.W.Fast.te4868988410673395695:True:=trivial
def PySem.W.Fast.tw4868988410673395695:Unit:=()
open PySem PySem.W PyProof.Rows My L2
local macro_rules | `(tactic| walk_at "d1")=>`(tactic| (dsimp only [L2.KOf]; refine' ZcJ (by assumption) (by assumption) ?a ?l ?c ?k ?b; (case a=>k_is); (case l=>k_is); (case c=>k_is); (case k=>k_is); exact fun _ _ _ _ _ _=>all1 fun _=>rfl))
local macro_rules | `(tactic| walk_at "d2")=>`(tactic| (dsimp only [L2.KOf]; refine' ZcJ (by assumption) (by assumption) ?a ?l ?c ?k ?b; (case a=>k_is); (case l=>k_is); (case c=>k_is); (case k=>k_is); exact fun _ _ _ _ _ _=>all2 fun _ _=>rfl))
local macro_rules | `(tactic| walk_at "d3")=>`(tactic| (dsimp only [L2.KOf]; refine' ZcJ (by assumption) (by assumption) ?a ?l ?c ?k ?b; (case a=>k_is); (case l=>k_is); (case c=>k_is); (case k=>k_is); exact fun _ _ _ _ _ _=>all3 fun _ _ _=>rfl))
local macro_rules | `(tactic| walk_at "d4")=>`(tactic| (dsimp only [L2.KOf]; refine' ZcJ (by assumption) (by assumption) ?a ?l ?c ?k ?b; (case a=>k_is); (case l=>k_is); (case c=>k_is); (case k=>k_is); exact fun _ _ _ _ _ _=>all4 fun _ _ _ _=>rfl))
local macro_rules | `(tactic| walk_at "i1")=>`(tactic| (refine' ZdA ?a ?b ?c ?d ?e ?f ?g ?h; (case a=>k_is); (case b=>k_is); (case c=>k_is); (case d=>k_is); (case e=>k_is); (case f=>k_is); (case g=>k_is); exact fun _ _ _ _ _ _=>all1 fun _=>rfl))
local macro_rules | `(tactic| walk_at "i2")=>`(tactic| (refine' ZdA ?a ?b ?c ?d ?e ?f ?g ?h; (case a=>k_is); (case b=>k_is); (case c=>k_is); (case d=>k_is); (case e=>k_is); (case f=>k_is); (case g=>k_is); exact fun _ _ _ _ _ _=>all2 fun _ _=>rfl))
local macro_rules | `(tactic| walk_at "i4")=>`(tactic| (refine' ZdA ?a ?b ?c ?d ?e ?f ?g ?h; (case a=>k_is); (case b=>k_is); (case c=>k_is); (case d=>k_is); (case e=>k_is); (case f=>k_is); (case g=>k_is); exact fun _ _ _ _ _ _=>all4 fun _ _ _ _=>rfl))
local macro_rules | `(tactic| walk_at "m1")=>`(tactic| (refine' mdef_mk ?a ?b ?c ?d ?e ?f; (case a=>k_is); (case b=>k_is); (case c=>k_is); (case d=>k_is); (case e=>k_is); exact fun _ _ _ _ _ _=>all1 fun _=>rfl))
local macro_rules | `(tactic| walk_at "cc")=>`(tactic| (refine' ⟨?a,?b,?c,?d⟩; (case a=>k_is); (case b=>k_is); (case c=>k_is); (case d=>k_is)))
local macro_rules | `(tactic| walk_at "ci")=>`(tactic| (refine' isi_to (by assumption) (by assumption) ?a ?b; (case a=>k_is); (case b=>kit_is)))
local macro_rules | `(tactic| walk_at "ck")=>`(tactic| (refine' ⟨?a,?b,?c⟩; (case a=>k_is); (case b=>k_is); (case c=>k_is)))
local macro_rules | `(tactic| walk_at "cn")=>`(tactic| (show PySem.W.findIn _ _ _ = _; k_is))
local macro_rules | `(tactic| walk_at "ic")=>`(tactic| (refine' int_mk (by assumption) (by assumption) ?a; (case a=>k_is)))
local macro_rules | `(tactic| o_head ($_ $k $a $_))=>`(tactic| o_head Hk.fHook $k $a (fun _=>by kernel_rfl) (by kernel_rfl))
local macro_rules | `(tactic| o_head ($_ $k $a $_ $_))=>`(tactic| o_head Hk.fHook $k $a (fun _=>by kernel_rfl) (by kernel_rfl))
set_option maxRecDepth 100000 in
set_option maxHeartbeats 0 in
theorem PySem.Challenge.cw_runmarks_k76_what_is_neat_holds : PySem.Challenge.rw_runmarks_k76_what_is_neat.Holds := by
 w_on;o_law;k_head;(case hw=>w_witness2)
 k_fill
 refine My.walk (l:=PySem.Challenge.rw_runmarks_k76_what_is_neat) rfl rfl (fun w h Y=>Hk.f_in Y) ?F
 case F =>
   intro w mg fa h KX G hmg;have D_is_whole:DefAt (L2.KOf KX) mg "is_whole" Zfq ["thing"]:=by walk_at "d1"
   have D_bit_at:DefAt (L2.KOf KX) mg "bit_at" s_bit_at ["word","place"]:=by walk_at "d2"
   have D_all_below:DefAt (L2.KOf KX) mg "all_below" ZeJ ["place"]:=by walk_at "d1"
   have D_without_first:DefAt (L2.KOf KX) mg "without_first" Zde ["word"]:=by walk_at "d1"
   have D_counted:DefAt (L2.KOf KX) mg "counted" ZgA ["word"]:=by walk_at "d1"
   have D_first_one:DefAt (L2.KOf KX) mg "first_one" ZeR ["word"]:=by walk_at "d1"
   have D_last_one:DefAt (L2.KOf KX) mg "last_one" Zfx ["word"]:=by walk_at "d1"
   have D_span_word:DefAt (L2.KOf KX) mg "span_word" Ze4 ["first","last"]:=by walk_at "d2"
   have D_word_of:DefAt (L2.KOf KX) mg "word_of" ZgF ["places"]:=by walk_at "d1"
   have D_places_of:DefAt (L2.KOf KX) mg "places_of" Ze7 ["word"]:=by walk_at "d1"
   have D_runs_of:DefAt (L2.KOf KX) mg "runs_of" ZgY ["word"]:=by walk_at "d1"
   have D_word_of_runs:DefAt (L2.KOf KX) mg "word_of_runs" Zdr ["runs"]:=by walk_at "d1"
   have D_sizes:DefAt (L2.KOf KX) mg "sizes" s_sizes ["word"]:=by walk_at "d1"
   have D_kept:DefAt (L2.KOf KX) mg "kept" s_kept ["word"]:=by walk_at "d1"
   have D_added:DefAt (L2.KOf KX) mg "added" s_added ["stretch","place"]:=by walk_at "d2"
   have D_removed:DefAt (L2.KOf KX) mg "removed" ZgP ["stretch","place"]:=by walk_at "d2"
   have D_halved:DefAt (L2.KOf KX) mg "halved" s_halved ["many","goes_on"]:=by walk_at "d2"
   have D_halved_keys:DefAt (L2.KOf KX) mg "halved_keys" ZdO ["keys","key"]:=by walk_at "d2"
   have D_check_number:DefAt (L2.KOf KX) mg "check_number" ZdF ["thing"]:=by walk_at "d1"
   have D_alike:DefAt (L2.KOf KX) mg "alike" ZcK ["one","other"]:=by walk_at "d2"
   have D_all_alike:DefAt (L2.KOf KX) mg "all_alike" Zbt ["some","others"]:=by walk_at "d2"
   have D_stands_among:DefAt (L2.KOf KX) mg "stands_among" Zbi ["question","others"]:=by walk_at "d2"
   have D_parts_of:DefAt (L2.KOf KX) mg "parts_of" ZbX ["question"]:=by walk_at "d1"
   have D_are_of_one_name:DefAt (L2.KOf KX) mg "are_of_one_name" Za2 ["one","other"]:=by walk_at "d2"
   have D_are_side_by_side:DefAt (L2.KOf KX) mg "are_side_by_side" Za0 ["one","other"]:=by walk_at "d2"
   have D_are_opposites:DefAt (L2.KOf KX) mg "are_opposites" Zbc ["one","other"]:=by walk_at "d2"
   have D_is_neat:DefAt (L2.KOf KX) mg "is_neat" Zcb ["question","columns"]:=by walk_at "d2"
   have D_is_neat_inside:DefAt (L2.KOf KX) mg "is_neat_inside" ZaX ["question","columns"]:=by walk_at "d2"
   have D_go_together:DefAt (L2.KOf KX) mg "go_together" Zbr ["question","earlier","part","columns"]:=by walk_at "d4"
   have D_check_name:DefAt (L2.KOf KX) mg "check_name" Zby ["name","columns"]:=by walk_at "d2"
   have D_check_names:DefAt (L2.KOf KX) mg "check_names" Zbq ["question","columns"]:=by walk_at "d2"
   have D_neat:DefAt (L2.KOf KX) mg "neat" s_neat ["question","columns"]:=by walk_at "d2"
   have D_l_cell_at:DefAt (L2.KOf KX) mg "_law_cell_at" ZbI ["_law_script","_law_k"]:=by walk_at "d2"
   have D_l_mixed:DefAt (L2.KOf KX) mg "_law_mixed" Zcf ["_law_cell","_law_k"]:=by walk_at "d2"
   have D_l_names:DefAt (L2.KOf KX) mg "_law_names" Zce ["_law_cell"]:=by walk_at "d1"
   have D_l_columns:DefAt (L2.KOf KX) mg "_law_columns" ZbH ["_law_cell"]:=by walk_at "d1"
   have D_l_top:DefAt (L2.KOf KX) mg "_law_top" Zdj ["_law_column"]:=by walk_at "d1"
   have D_l_end:DefAt (L2.KOf KX) mg "_law_end" Zdi ["_law_column","_law_some","_law_number"]:=by walk_at "d3"
   have D_l_leaf:DefAt (L2.KOf KX) mg "_law_leaf" ZcO ["_law_columns_here","_law_table_here","_law_cell"]:=by walk_at "d3"
   have D_l_question:DefAt (L2.KOf KX) mg "_law_question" Zbx ["_law_columns_here","_law_table_here","_law_cells"]:=by walk_at "d3"
   have D_l_object:DefAt (L2.KOf KX) mg "_law_object" Zb0 ["_law_tree"]:=by walk_at "d1"
   have D_l_made:DefAt (L2.KOf KX) mg "_law_made" ZcL ["_law_columns_here","_law_table_here"]:=by walk_at "d2"
   have D_l_ranges_meet:DefAt (L2.KOf KX) mg "_law_ranges_meet" Zbd ["_law_one","_law_other","_law_columns_here","_law_word"]:=by walk_at "d4"
   have D_l_neat_part:DefAt (L2.KOf KX) mg "_law_neat_part" Zba ["_law_tree","_law_columns_here"]:=by walk_at "d2"
   have D_l_neat:DefAt (L2.KOf KX) mg "_law_neat" ZcI ["_law_tree","_law_columns_here"]:=by walk_at "d2"
   have D_l_range:DefAt (L2.KOf KX) mg "_law_range" Zch ["_law_columns_here","_law_cell","_law_k"]:=by walk_at "d3"
   have D_l_near:DefAt (L2.KOf KX) mg "_law_near" ZcD ["_law_columns_here","_law_cell"]:=by walk_at "d2"
   have e_Every:∃ C,CD_Every (L2.KOf KX) mg C:=by
     dsimp only [L2.KOf];refine' ZcR (x:="Every") KX G ?aEvery ?bEvery
     (case aEvery=>k_is)
     intro z;refine' ⟨z,?_,?_,?_,?_,?_,?_,?_,?_,?_,?_,?_,?_⟩
     · walk_at "cc"
     · walk_at "m1"
     · walk_at "m1"
     · walk_at "cc"
     · walk_at "ci"
     · walk_at "ci"
     · walk_at "ci"
     · walk_at "ci"
     · walk_at "ci"
     · walk_at "ci"
     · walk_at "ci"
     · walk_at "ck"
   obtain ⟨C_Every,cd_Every⟩:=e_Every;have e_Nobody:∃ C,CD_Nobody (L2.KOf KX) mg C:=by
     dsimp only [L2.KOf];refine' ZcR (x:="Nobody") KX G ?aNobody ?bNobody
     (case aNobody=>k_is)
     intro z;refine' ⟨z,?_,?_,?_,?_,?_,?_,?_,?_,?_,?_,?_,?_⟩
     · walk_at "cc"
     · walk_at "m1"
     · walk_at "m1"
     · walk_at "cc"
     · walk_at "ci"
     · walk_at "ci"
     · walk_at "ci"
     · walk_at "ci"
     · walk_at "ci"
     · walk_at "ci"
     · walk_at "ci"
     · walk_at "ck"
   obtain ⟨C_Nobody,cd_Nobody⟩:=e_Nobody;have e_Within:∃ C,CD_Within (L2.KOf KX) mg C:=by
     dsimp only [L2.KOf];refine' ZcR (x:="Within") KX G ?aWithin ?bWithin
     (case aWithin=>k_is)
     intro z;refine' ⟨z,?_,?_,?_,?_,?_,?_,?_,?_,?_,?_,?_,?_,?_,?_,?_⟩
     · walk_at "cc"
     · walk_at "i4"
     · walk_at "m1"
     · walk_at "m1"
     · walk_at "cc"
     · walk_at "ci"
     · walk_at "ci"
     · walk_at "ci"
     · walk_at "ci"
     · walk_at "ci"
     · walk_at "ci"
     · walk_at "ci"
     · walk_at "cn"
     · walk_at "cn"
     · walk_at "cn"
   obtain ⟨C_Within,cd_Within⟩:=e_Within;have e_Opposite:∃ C,CD_Opposite (L2.KOf KX) mg C:=by
     dsimp only [L2.KOf];refine' ZcR (x:="Opposite") KX G ?aOpposite ?bOpposite
     (case aOpposite=>k_is)
     intro z;refine' ⟨z,?_,?_,?_,?_,?_,?_,?_,?_,?_,?_,?_,?_,?_⟩
     · walk_at "cc"
     · walk_at "i2"
     · walk_at "m1"
     · walk_at "m1"
     · walk_at "cc"
     · walk_at "ci"
     · walk_at "ci"
     · walk_at "ci"
     · walk_at "ci"
     · walk_at "ci"
     · walk_at "ci"
     · walk_at "ci"
     · walk_at "cn"
   obtain ⟨C_Opposite,cd_Opposite⟩:=e_Opposite;have e_AllOf:∃ C,CD_AllOf (L2.KOf KX) mg C:=by
     dsimp only [L2.KOf];refine' ZcR (x:="AllOf") KX G ?aAllOf ?bAllOf
     (case aAllOf=>k_is)
     intro z;refine' ⟨z,?_,?_,?_,?_,?_,?_,?_,?_,?_,?_,?_,?_,?_⟩
     · walk_at "cc"
     · walk_at "i2"
     · walk_at "m1"
     · walk_at "m1"
     · walk_at "cc"
     · walk_at "ci"
     · walk_at "ci"
     · walk_at "ci"
     · walk_at "ci"
     · walk_at "ci"
     · walk_at "ci"
     · walk_at "ci"
     · walk_at "cn"
   obtain ⟨C_AllOf,cd_AllOf⟩:=e_AllOf;have e_OneOf:∃ C,CD_OneOf (L2.KOf KX) mg C:=by
     dsimp only [L2.KOf];refine' ZcR (x:="OneOf") KX G ?aOneOf ?bOneOf
     (case aOneOf=>k_is)
     intro z;refine' ⟨z,?_,?_,?_,?_,?_,?_,?_,?_,?_,?_,?_,?_,?_⟩
     · walk_at "cc"
     · walk_at "i2"
     · walk_at "m1"
     · walk_at "m1"
     · walk_at "cc"
     · walk_at "ci"
     · walk_at "ci"
     · walk_at "ci"
     · walk_at "ci"
     · walk_at "ci"
     · walk_at "ci"
     · walk_at "ci"
     · walk_at "cn"
   obtain ⟨C_OneOf,cd_OneOf⟩:=e_OneOf;have e_Marks:∃ C,CD_Marks (L2.KOf KX) mg C:=by
     dsimp only [L2.KOf];refine' ZcR (x:="Marks") KX G ?aMarks ?bMarks
     (case aMarks=>k_is)
     intro z;refine' ⟨z,?_,?_,?_,?_,?_,?_⟩
     · walk_at "cc"
     · walk_at "i1"
     · walk_at "cn"
     · walk_at "cn"
     · walk_at "cn"
     · walk_at "cn"
   obtain ⟨C_Marks,cd_Marks⟩:=e_Marks;have e_ByBits:∃ C,CD_ByBits (L2.KOf KX) mg C:=by
     dsimp only [L2.KOf];refine' ZcR (x:="ByBits") KX G ?aByBits ?bByBits
     (case aByBits=>k_is)
     intro z;refine' ⟨z,?_,?_,?_,?_,?_,?_,?_,?_,?_⟩
     · walk_at "cc"
     · walk_at "i2"
     · walk_at "m1"
     · walk_at "cc"
     · walk_at "ci"
     · walk_at "cn"
     · walk_at "cn"
     · walk_at "cn"
     · walk_at "cn"
   obtain ⟨C_ByBits,cd_ByBits⟩:=e_ByBits;have e_ByValue:∃ C,CD_ByValue (L2.KOf KX) mg C:=by
     dsimp only [L2.KOf];refine' ZcR (x:="ByValue") KX G ?aByValue ?bByValue
     (case aByValue=>k_is)
     intro z;refine' ⟨z,?_,?_,?_,?_,?_,?_,?_,?_,?_⟩
     · walk_at "cc"
     · walk_at "i2"
     · walk_at "m1"
     · walk_at "cc"
     · walk_at "ci"
     · walk_at "cn"
     · walk_at "cn"
     · walk_at "cn"
     · walk_at "cn"
   obtain ⟨C_ByValue,cd_ByValue⟩:=e_ByValue;have e_Question:∃ C,mg "Question"=some (.ref C)∧True:=by
     refine' ex_cls KX G ?aQuestion True.intro
     (case aQuestion=>k_is)
   obtain ⟨C_Question,g_Question,_⟩:=e_Question;have e_Column:∃ C,mg "Column"=some (.ref C)∧True:=by
     refine' ex_cls KX G ?aColumn True.intro
     (case aColumn=>k_is)
   obtain ⟨C_Column,g_Column,_⟩:=e_Column;have c_PLACES:∃ t,mg "PLACES"=some (.int 256 t):=by walk_at "ic"
   have c_LOWER_1:∃ t,mg "LOWER_1"=some (.int 38597363079105398474523661669562635951089994888546854679819194669304376546645 t):=by walk_at "ic"
   have c_LOWER_2:∃ t,mg "LOWER_2"=some (.int 23158417847463239084714197001737581570653996933128112807891516801582625927987 t):=by walk_at "ic"
   have c_LOWER_4:∃ t,mg "LOWER_4"=some (.int 6811299366900952671974763824040465167839410862684739061144563765171360567055 t):=by walk_at "ic"
   have c_LOWER_8:∃ t,mg "LOWER_8"=some (.int 450552876409790643671482431940419874915447411150352389258589821042463539455 t):=by walk_at "ic"
   have c_GREATEST:∃ t,mg "GREATEST"=some (.int 65535 t):=by walk_at "ic"
   have B:Blt mg:=by
     refine' ⟨PySem.W.mg_none_of KX G ?z0,PySem.W.mg_none_of KX G ?z1,PySem.W.mg_none_of KX G ?z2,PySem.W.mg_none_of KX G ?z3,PySem.W.mg_none_of KX G ?z4,PySem.W.mg_none_of KX G ?z5,PySem.W.mg_none_of KX G ?z6,PySem.W.mg_none_of KX G ?z7,PySem.W.mg_none_of KX G ?z8,PySem.W.mg_none_of KX G ?z9,PySem.W.mg_none_of KX G ?z10,PySem.W.mg_none_of KX G ?z11,PySem.W.mg_none_of KX G ?z12,PySem.W.mg_none_of KX G ?z13,PySem.W.mg_none_of KX G ?z14,PySem.W.mg_none_of KX G ?z15⟩
     (case z0=>k_is);(case z1=>k_is);(case z2=>k_is);(case z3=>k_is);(case z4=>k_is);(case z5=>k_is);(case z6=>k_is);(case z7=>k_is);(case z8=>k_is);(case z9=>k_is);(case z10=>k_is);(case z11=>k_is);(case z12=>k_is);(case z13=>k_is);(case z14=>k_is);(case z15=>k_is)
   have L:∃ fd,Fun (L2.KOf KX) "law" "law" Zdb fa fd∧∀ (s:Shared) (v:Value),BindsTo s fd ⟨[v],[]⟩ [("_law_script",v)]:=by
     dsimp only [L2.KOf];refine' My.law_mk KX G hmg ?aL ?lL ?cL ?kL
     (case aL=>k_is);(case lL=>k_is);(case cL=>k_is);(case kL=>k_is)
   obtain ⟨fd,FL,bL⟩:=L;refine ⟨fd,bL,fun base _ _=>?_⟩;have eB:∃ M f fd,ByCls (L2.KOf KX) mg "Column" "__init__" M f∧Fun (L2.KOf KX) "__init__" "Column.__init__" Zau f fd∧Binds (L2.KOf KX) fd ["self"] []:=by
     dsimp only [L2.KOf];refine' base_mk KX G ?ya ?ys ?yr ?yf ?yl ?yc ?yk ?yh
     (case ya=>k_is);(case ys=>k_is);(case yr=>k_is);(case yf=>k_is);(case yl=>k_is);(case yc=>k_is);(case yk=>k_is)
     case yh=>exact fun _ _ _ _ _ _=>all1 fun _=>rfl
   obtain ⟨MC,fC,fdC,bc,FC,bC⟩:=eB;exact wire76 B cd_Every cd_Nobody cd_Within cd_Opposite cd_AllOf cd_OneOf cd_Marks cd_ByValue cd_ByBits D_alike D_all_alike D_stands_among D_parts_of D_are_of_one_name D_are_side_by_side D_are_opposites D_is_neat D_is_neat_inside D_go_together D_neat D_check_name D_check_names D_l_mixed D_l_cell_at D_l_top D_l_ranges_meet D_l_neat_part D_l_neat D_l_names D_l_columns D_l_end D_l_leaf D_l_question D_l_object D_l_made D_l_range D_l_near bc FC bC FL
#print axioms PySem.Challenge.cw_runmarks_k76_what_is_neat_holds
