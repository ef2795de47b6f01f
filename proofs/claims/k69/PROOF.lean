import PyProof.Rows.All
import Wide.All
import OpenK.AllK
import Wide.FinOn
import Lean
import PyProof.EqAt
import PyProof.EqKinds
import PyProof.TupleCall
import PyProof.Rows.TupIter
import PyProof.ZipIter
import PyProof.MinMaxWalk
import PyProof.WalkInts
import PyProof.WalksMore
import PyProof.SeqI3
import PyProof.Rows.SetFrom
import PyProof.Rows.SortShell
import OpenK.KMore
import KE.KSortTup
import KE.KDictSum
import PyProof.CollectWalk
import PyProof.ListNew
import PyProof.SumWalkG
import KE.KDictLaws
import KE.KIntText
import KE.IntTextLaws
import PyProof.StrBlockI
import PyProof.ConsumeWalk
import PyProof.StrLawsIn
import KE.KDictOf
import KE.KEqDict
import KE.KMinBuiltin
import PyProof.Rows.CallKwBuiltin
import KE.KTryOn
import PyProof.NsDelKeeps
import PyProof.RulesAs
import PyProof.ExcArgsOwn
import PyProof.IsiH_list
import KE.KIsAll
import PyProof.Rows.FStr
import PyProof.FString
import PyProof.ExcInit
import PyProof.ReprStr
import PyProof.StrLawsRepr
import PyProof.Draws
import PyProof.EnumMake
import PyProof.EnumFor
import PySem.Challenge.RW_runmarks_k69_whole_texts_of_words
set_option maxHeartbeats 4000000
local macro_rules | `(tactic| omega) => `(tactic| lia)
local macro_rules | `(tactic| walk_at "l") => `(tactic| first | exact Or.inl rfl | exact Or.inr rfl)
local macro_rules | `(tactic| walk_at "s") => `(tactic| exact ⟨rfl,rfl,rfl,by decide +kernel,rfl,by decide +kernel,by decide +kernel⟩)
set_option Elab.async false
set_option linter.all false
set_option maxRecDepth 100000
namespace L2
open PySem PySem.Spec PyProof.Rows
abbrev Key:=Sum Int Str
def keyIs:Key→Value→Bool
 | .inl k,v=>Value.isInt k v
 | .inr x,v=>Value.isStrOf x v
def keyH (w:World):Key→Int
 | .inl k=>hashInt k
 | .inr x=>hashStr w x
theorem ZaT:∀ {k:Key} {v:Value},keyIs k v=true→(∃ i t,k=Sum.inl i∧v=Value.int i t)∨(∃ x t,k=Sum.inr x∧v=Value.str x t)
 | .inl i,v,h=>by
   obtain ⟨t,e⟩:=Value.isInt_shape (k:=i) (v:=v) h;exact .inl ⟨i,t,rfl,e⟩
 | .inr x,v,h=>by
   obtain ⟨t,e⟩:=Value.isStrOf_shape (x:=x) (v:=v) h;exact .inr ⟨x,t,rfl,e⟩
theorem ZkN (i:Int)(t:Tok):keyIs (.inl i) (.int i t)=true:=by simp [keyIs,Value.isInt]
theorem ZkF (x:Str)(t:Tok):keyIs (.inr x) (.str x t)=true:=by simp [keyIs,Value.isStrOf]
theorem key_ll (a b:Int):decide ((Sum.inl a:Key)=Sum.inl b)=(a==b):=by
 by_cases e:a=b
 · subst e;simp
 · have h:¬ (Sum.inl a:Key)=Sum.inl b:=fun q=>e (Sum.inl.inj q)
   rw [decide_eq_false h];exact (beq_eq_false_iff_ne.mpr e).symm
theorem key_rr (a b:Str):decide ((Sum.inr a:Key)=Sum.inr b)=decide (a=b):=by
 by_cases e:a=b
 · subst e;simp
 · have h:¬ (Sum.inr a:Key)=Sum.inr b:=fun q=>e (Sum.inr.inj q)
   rw [decide_eq_false h,decide_eq_false e]
theorem key_lr (a:Int)(b:Str):decide ((Sum.inl a:Key)=Sum.inr b)=false:=decide_eq_false (fun q=>nomatch q)
theorem key_rl (a:Str)(b:Int):decide ((Sum.inr a:Key)=Sum.inl b)=false:=decide_eq_false (fun q=>nomatch q)
def mixKind (prog:Program) (w:World):PySem.KeyKind prog w Key where
 is:=keyIs
 hash:=keyH w
 inj := fun v a b ha hb=>by
   rcases ZaT ha with ⟨i,t,rfl,rfl⟩ | ⟨x,t,rfl,rfl⟩
   · rcases ZaT hb with ⟨j,u,rfl,e⟩ | ⟨y,u,rfl,e⟩
     · injection e with e1 _;rw [e1]
     · exact nomatch e
   · rcases ZaT hb with ⟨j,u,rfl,e⟩ | ⟨y,u,rfl,e⟩
     · exact nomatch e
     · injection e with e1 _;rw [e1]
 byValue:=fun k v h=>by
   rcases ZaT h with ⟨i,t,rfl,rfl⟩ | ⟨x,t,rfl,rfl⟩<;>rfl
 pyHash:=fun hv h=>by
   rcases ZaT hv with ⟨i,t,rfl,rfl⟩ | ⟨x,t,rfl,rfl⟩
   · exact wpAny_pyHash_int h
   · exact wpAny_pyHash_str h
 eqBool:=fun hu hv h=>by
   rcases ZaT hu with ⟨i,t,rfl,rfl⟩ | ⟨x,t,rfl,rfl⟩
   · rcases ZaT hv with ⟨j,u,rfl,rfl⟩ | ⟨y,u,rfl,rfl⟩
     · rw [key_ll] at h;exact wpAny_eqBool_int h
     · rw [key_lr] at h;exact SeqAt.EqAt.int_str i t y u _ _ _ _ h
   · rcases ZaT hv with ⟨j,u,rfl,rfl⟩ | ⟨y,u,rfl,rfl⟩
     · rw [key_rl] at h;exact SeqAt.EqAt.str_int x t j u _ _ _ _ h
     · rw [key_rr] at h;exact wpAny_eqBool_str h
 «strs»:=fun k x t v h=>by
   rcases ZaT h with ⟨i,u,rfl,e⟩ | ⟨y,u,rfl,e⟩
   · exact nomatch e
   · injection e with e1 _
     subst e1;cases v<;>rfl
theorem Zhx (prog:Program)(w:World)(i:Int)(t:Tok):(mixKind prog w).is (.inl i) (.int i t)=true:=ZkN i t
theorem Zeo (prog:Program)(w:World)(x:Str)(t:Tok):(mixKind prog w).is (.inr x) (.str x t)=true:=ZkF x t
inductive V where
 | non | bl (b:Bool) | int (i:Int) | str (x:Str) | byt (b:Array UInt8) | flt (b:UInt64) | ref (a:Addr) | ty (n:String)
 deriving DecidableEq
def RelV:V→Value→Prop
 | .non,u=>u=Value.none
 | .bl b,u=>u=Value.bool b
 | .int i,u=>∃ t,u=Value.int i t
 | .str x,u=>∃ t,u=Value.str x t
 | .byt b,u=>∃ t,u=Value.bytes b t
 | .flt b,u=>∃ t,u=Value.float b t
 | .ref a,u=>u=Value.ref a
 | .ty n,u=>u=Value.type n
abbrev Vals:List V→List Value→Prop:=Paired RelV
theorem Vals.length {xs:List V}{us:List Value}(r:Vals xs us):xs.length=us.length:=Paired.length r
theorem Vals.get:∀ {xs:List V} {us:List Value} {i:Nat} {x:V},Vals xs us→xs[i]?=some x→∃ u,us[i]?=some u∧RelV x u
 | _,_,_,_,.nil,e=>by simp at e
 | _,_,0,_,.cons r _,e=>by simp at e;subst e;exact ⟨_,rfl,r⟩
 | _,_,i+1,x,.cons _ t,e=>by
   obtain ⟨u,h1,h2⟩:=Vals.get (i:=i) (x:=x) t (by simpa using e);exact ⟨u,by simpa using h1,h2⟩
theorem Vals.set {x:V}{u:Value}(r:RelV x u):∀ {xs:List V} {us:List Value} (i:Nat),Vals xs us→Vals (xs.set i x) (us.set i u)
 | _,_,_,.nil=>.nil
 | _,_,0,.cons _ t=>.cons r t
 | _,_,i+1,.cons q t=>.cons q (Vals.set r i t)
theorem Vals.append:∀ {xs ys:List V} {us ws:List Value},Vals xs us→Vals ys ws→Vals (xs++ys) (us++ws)
 | _,_,_,_,.nil,s=>s
 | _,_,_,_,.cons r t,s=>.cons r (Vals.append t s)
theorem Vals.take:∀ {xs:List V} {us:List Value} (n:Nat),Vals xs us→Vals (xs.take n) (us.take n)
 | _,_,0,_=>.nil
 | _,_,_+1,.nil=>.nil
 | _,_,n+1,.cons r t=>.cons r (Vals.take n t)
theorem Vals.drop:∀ {xs:List V} {us:List Value} (n:Nat),Vals xs us→Vals (xs.drop n) (us.drop n)
 | _,_,0,r=>r
 | _,_,_+1,.nil=>.nil
 | _,_,n+1,.cons _ t=>Vals.drop n t
def RelO:Option V→Option Value→Prop
 | some v,some u=>RelV v u
 | none,none=>True
 | _,_=>False
def KV {κ:Type}:List (κ × V)→List (κ × Value)→Prop:=Paired fun (p:κ × V) (q:κ × Value)=>p.1=q.1∧RelV p.2 q.2
def kV:Key→V
 | .inl i=>.int i
 | .inr x=>.str x
inductive HO where
 | lst (xs:List V)
 | tup (xs:List V)
 | dK (kvs:List (Key × V)) | dT (kvs:List (List Key × V))
 | set (S:Int→Bool) (n:Nat)
 | ins (C dx:Addr) (fs:List (Str × V))
 | own (x:Addr)
 | xd (fs:List (Str × V))
 | met (f x:Addr)
 | rng (lo hi:Int)
 | frz (o:Obj) (u:HO)
 | tbl (ps:Array Value)
 | ext (φ:Heap→Prop)
abbrev Hp:=Addr→Option HO
def upd (H:Hp)(a:Addr)(o:HO):Hp:=fun b=>if b=a then some o else H b
theorem Zad {H:Hp}{a:Addr}{o:HO}:upd H a o a=some o:=by unfold upd;rw [if_pos rfl]
theorem Zah {H:Hp}{a b:Addr}{o:HO}(h:b≠a):upd H a o b=H b:=by unfold upd;rw [if_neg h]
theorem upd_upd {H:Hp}{a:Addr}{o u:HO}:upd (upd H a o) a u=upd H a u:=by funext b;unfold upd;split<;>rfl
theorem ne_of {H:Hp}{a b:Addr}{o u:HO}(h:H a=some o)(h':H b=some u)(d:o≠u):a≠b:=by intro e;subst e;rw [h] at h';exact d (Option.some.inj h')
theorem Zaj {H:Hp}{a b:Addr}{o:HO}(h:H a=some o)(h':H b=none):a≠b:=by intro e;subst e;rw [h] at h';cases h'
section
variable (P:Program)(w:World)
def ObjOk (H:Hp)(h:Heap)(a:Addr):HO→Prop
 | .lst xs=>xs.length≤sizeLine∧∃ (its:List Value) (n:Nat),Vals xs its∧h.get? a=some { cls:=.type "list",data:=.seq its.toArray n }
 | .tup xs=>xs.length≤sizeLine∧∃ its:List Value,Vals xs its∧IsTup h a its.toArray
 | .dK kvs=>kvs.length≤sizeLine∧(a==sysModules)=false∧∃ vs,KV kvs vs∧h.DictOf (mixKind P w) a vs
 | .dT kvs=>kvs.length≤sizeLine∧(a==sysModules)=false∧∃ xs:List (List Key × Addr × Value),
     Paired (fun (p:List Key × V) (q:List Key × Addr × Value)=>p.1=q.1∧H q.2.1=some (.tup (p.1.map kV))∧RelV p.2 q.2.2) kvs xs ∧
     ∃ o es ep,h.get? a=some o∧o.ExactDict∧o.data=.dict es ep∧es.toList=xs.map (entryOfKey (tupleKind (mixKind P w)))∧(xs.map (·.1)).Nodup
 | .set S n=>h.SetOf (intKind P w) a S n
 | .ins C dx fs=>H dx=some (.own a)∧fs.length≤1000∧dx≠a∧h.get? a=some (PySem.W.instObj C dx) ∧
     ∃ mA,h.Ns1 dx mA∧(∀ f,RelO (fs.lookup f) (mA f))∧PySem.Within mA (fs.map (·.1))
 | .own _=>∃ o,h.get? a=some o
 | .xd fs=>∃ mA,h.Ns1 a mA∧∀ f,RelO (fs.lookup f) (mA f)
 | .rng lo hi=>∃ t u v,h.get? a=some { cls:=.type "range",data:=.fields #[.int lo t,.int hi u,.int 1 v] }
 | .frz o u=>h.get? a=some o∧ObjOk H h a u
 | .tbl ps=>h.get? a=some { cls:=.none,data:=.fields ps }
 | .met f x=>h.get? a=some (PySem.W.methodObj (.ref f) (.ref x))
 | .ext φ=>φ h∧(∃ o,h.get? a=some o)∧∀ h1 h2:Heap,φ h1→(∀ o,h1.get? a=some o→h2.get? a=some o)→φ h2
def HOk (H:Hp)(h:Heap):Prop:=∀ a o,H a=some o→ObjOk P w H h a o
end
section
variable {P:Program}{w:World}{H H':Hp}{h h':Heap}{a:Addr}{o:HO}
theorem ObjOk.lt (x:ObjOk P w H h a o):a<h.objs.size:=by
 cases o with
 | lst xs=>obtain ⟨_,_,_,_,e⟩:=x;exact Heap.lt_size e
 | tup xs=>obtain ⟨_,_,_,p⟩:=x;exact p.lt
 | dK kvs=>obtain ⟨_,_,_,_,o,_,_,e,_⟩:=x;exact Heap.lt_size e
 | dT kvs=>obtain ⟨_,_,_,_,o,_,_,e,_⟩:=x;exact Heap.lt_size e
 | set S n=>obtain ⟨o,_,_,_,e,_⟩:=x;exact Heap.lt_size e
 | ins C dx fs=>obtain ⟨_,_,_,e,_⟩:=x;exact Heap.lt_size e
 | own y=>obtain ⟨_,e⟩:=x;exact Heap.lt_size e
 | xd fs=>obtain ⟨_,⟨_,_,_,e,_⟩,_⟩:=x;exact Heap.lt_size e
 | rng lo hi=>obtain ⟨_,_,_,e⟩:=x;exact Heap.lt_size e
 | frz ob u=>obtain ⟨e,_⟩:=x;exact Heap.lt_size e
 | tbl ps=>exact Heap.lt_size (show h.get? a=some _ from x)
 | met f y=>exact Heap.lt_size (show h.get? a=some _ from x)
 | ext φ=>obtain ⟨_,⟨_,e⟩,_⟩:=x;exact Heap.lt_size e
theorem Paired.mapP {α β:Type}{F G:α→β→Prop}:∀ {l₁:List α} {l₂:List β},Paired F l₁ l₂→(∀ a b,F a b→G a b)→Paired G l₁ l₂
 | _,_,.nil,_=>.nil
 | _,_,.cons r t,f=>.cons (f _ _ r) (Paired.mapP t f)
theorem ObjOk.stay (x:ObjOk P w H h a o)(k:∀ b u,(b=a∨H b=some (.own a))→h.get? b=some u→h'.get? b=some u)
   (ho:∀ b,H b=some (.own a)→H' b=some (.own a)) (ht:∀ b xs,H b=some (.tup xs)→H' b=some (.tup xs)):ObjOk P w H' h' a o:=by
 induction o with
 | lst xs=>obtain ⟨z,its,n,r,e⟩:=x;exact ⟨z,its,n,r,k _ _ (.inl rfl) e⟩
 | tup xs=>obtain ⟨z,its,r,ob,e,c⟩:=x;exact ⟨z,its,r,ob,k _ _ (.inl rfl) e,c⟩
 | dK kvs=>obtain ⟨z,y,vs,r,ob,es,ep,e,c⟩:=x;exact ⟨z,y,vs,r,ob,es,ep,k _ _ (.inl rfl) e,c⟩
 | dT kvs =>
   obtain ⟨z,y,xs,r,ob,es,ep,e,c⟩:=x;exact ⟨z,y,xs,Paired.mapP r fun p q z=>⟨z.1,ht _ _ z.2.1,z.2.2⟩,ob,es,ep,k _ _ (.inl rfl) e,c⟩
 | set S n=>obtain ⟨ob,es,ep,t,e,c⟩:=x;exact ⟨ob,es,ep,t,k _ _ (.inl rfl) e,c⟩
 | ins C dx fs =>
   obtain ⟨d,z,ne,e,mA,⟨od,es,ep,e2,c⟩,r⟩:=x;exact ⟨ho _ d,z,ne,k _ _ (.inl rfl) e,mA,⟨od,es,ep,k _ _ (.inr d) e2,c⟩,r⟩
 | own y=>obtain ⟨ob,e⟩:=x;exact ⟨ob,k _ _ (.inl rfl) e⟩
 | xd fs=>obtain ⟨mA,⟨od,es,ep,e,c⟩,r⟩:=x;exact ⟨mA,⟨od,es,ep,k _ _ (.inl rfl) e,c⟩,r⟩
 | rng lo hi=>obtain ⟨t,u,v,e⟩:=x;exact ⟨t,u,v,k _ _ (.inl rfl) e⟩
 | frz ob u ih=>obtain ⟨e,q⟩:=x;exact ⟨k _ _ (.inl rfl) e,ih q⟩
 | tbl ps =>
   have e:h.get? a=some { cls:=.none,data:=.fields ps }:=x;show h'.get? a=some { cls:=.none,data:=.fields ps };exact k a _ (.inl rfl) e
 | met f y =>
   have e:h.get? a=some (PySem.W.methodObj (.ref f) (.ref y)):=x;show h'.get? a=some (PySem.W.methodObj (.ref f) (.ref y));exact k a _ (.inl rfl) e
 | ext φ=>obtain ⟨p,⟨o,e⟩,st⟩:=x;exact ⟨st _ _ p fun o q=>k _ _ (.inl rfl) q,⟨o,k _ _ (.inl rfl) e⟩,st⟩
theorem HOk.lt (x:HOk P w H h)(e:H a=some o):a<h.objs.size:=(x a o e).lt
theorem HOk.fresh (x:HOk P w H h)(e:h.objs.size≤a):H a=none:=by
 cases q:H a with
 | none=>rfl
 | some u=>exact absurd (Nat.lt_of_lt_of_le (x.lt q) e) (Nat.lt_irrefl _)
theorem HOk.kept (x:HOk P w H h)(k:∀ b u,h.get? b=some u→h'.get? b=some u):HOk P w H h':=fun a o e =>
 (x a o e).stay (fun b u _ q=>k b u q) (fun _ q=>q) fun _ _ q=>q
theorem HOk.laid (x:HOk P w H h)(k:∀ b u,h.get? b=some u→h'.get? b=some u)(hp:h.objs.size≤a)(new:ObjOk P w (upd H a o) h' a o):HOk P w (upd H a o) h':=fun b u e=>by
 have hn:=x.fresh hp;by_cases hb:b=a
 · subst hb;rw [Zad] at e;cases e;exact new
 · rw [Zah hb] at e
   exact (x b u e).stay (fun c v _ q=>k c v q) (fun c q=>by rw [Zah (Zaj q hn)];exact q) fun c xs q=>by rw [Zah (Zaj q hn)];exact q
end
def Rd (H:Hp)(a:Addr)(u:HO):Prop:=H a=some u∨∃ o,H a=some (.frz o u)
theorem Rd.ok {P:Program}{w:World}{H:Hp}{h:Heap}{a:Addr}{u:HO}(r:Rd H a u)(x:HOk P w H h):ObjOk P w H h a u:=by
 rcases r with r | ⟨o,r⟩
 · exact x a u r
 · obtain ⟨_,q⟩:=x a _ r
   exact q
def Mut:Option HO→Prop
 | some (.lst _)=>True
 | some (.dK _)=>True
 | some (.dT _)=>True
 | some (.set _ _)=>True
 | some (.ins _ _ _)=>True
 | some (.ext _)=>True
 | _=>False
section
variable {P:Program}{w:World}{H:Hp}{h h':Heap}{x e:Addr}{o':HO}
theorem HOk.write (ok:HOk P w H h) (mu:Mut (H x)) (he:e=x∨H e=some (.own x)) (k:∀ b u,b≠e→h.get? b=some u→h'.get? b=some u) (heo:∃ u,h'.get? e=some u)
   (new:ObjOk P w (upd H x o') h' x o'):HOk P w (upd H x o') h':=fun b u q=>by
 have nown:∀ c y,H c=some (.own y)→c≠x:=fun c y r z=>by subst z;rw [r] at mu;exact mu
 have ntup:∀ c xs,H c=some (.tup xs)→c≠x:=fun c xs r z=>by subst z;rw [r] at mu;exact mu
 by_cases hb:b=x
 · subst hb;rw [Zad] at q;cases q;exact new
 · rw [Zah hb] at q
   by_cases hbe:b=e
   · have q':H b=some (.own x):=by
       rcases he with z | z
       · exact absurd (hbe.trans z) hb
       · rw [hbe];exact z
     rw [q] at q';cases q';obtain ⟨v,hv⟩:=heo;exact ⟨v,by rw [hbe];exact hv⟩
   · refine (ok b u q).stay (fun c v hc r=>k c v ?_ r) (fun c r=>by rw [Zah (nown c b r)];exact r) fun c xs r=>by rw [Zah (ntup c xs r)];exact r
     rcases hc with rfl | hc
     · exact hbe
     · rintro rfl
       rcases he with z | z
       · exact nown c b hc z
       · rw [hc] at z;cases z;exact hb rfl
end
structure Un (fs ex:List Addr)(H H':Hp)(h h':Heap):Prop where
 keep:∀ b o,h.get? b=some o→H b=none→b∉fs→b∉ex→h'.get? b=some o
 slot:∀ b o,h.get? b=some o→H b=none→b∈fs→b∉ex→∃ sl,h'.get? b=some { o with slots:=sl }
 free:∀ b o,h.get? b=some o→H b=none→b∉ex→H' b=none
 there:∀ b o,h.get? b=some o→b∉ex→∃ o',h'.get? b=some o'
 tups:∀ b xs,H b=some (.tup xs)→H' b=some (.tup xs)
 frzs:∀ b o u,H b=some (.frz o u)→H' b=some (.frz o u)
 tbls:∀ b ps,H b=some (.tbl ps)→∃ more,H' b=some (.tbl (ps++more))
section
variable {fs fs' ex ex':List Addr}{H H1 H2:Hp}{h h1 h2 h':Heap}{a x e:Addr}{o:HO}
theorem Un.any (u:Un fs ex H H1 h h1){b:Addr}{ob:Obj}(q:h.get? b=some ob)(n:H b=none)(hx:b∉ex):∃ sl,h1.get? b=some { ob with slots:=sl }:=by
 by_cases hb:b∈fs
 · exact u.slot b ob q n hb hx
 · exact ⟨ob.slots,u.keep b ob q n hb hx⟩
theorem Un.trans (a:Un fs ex H H1 h h1)(b:Un fs ex H1 H2 h1 h2):Un fs ex H H2 h h2 where
 keep:=fun c ob q n hc hx=>b.keep c ob (a.keep c ob q n hc hx) (a.free c ob q n hx) hc hx
 slot:=fun c ob q n hc hx=>by
   obtain ⟨sl,e1⟩:=a.slot c ob q n hc hx;obtain ⟨sl',e2⟩:=b.slot c _ e1 (a.free c ob q n hx) hc hx;exact ⟨sl',e2⟩
 free:=fun c ob q n hx=>by
   obtain ⟨o',e1⟩:=a.there c ob q hx;exact b.free c o' e1 (a.free c ob q n hx) hx
 there:=fun c ob q hx=>by
   obtain ⟨o',e1⟩:=a.there c ob q hx;exact b.there c o' e1 hx
 tups:=fun c xs q=>b.tups c xs (a.tups c xs q)
 frzs:=fun c ob xs q=>b.frzs c ob xs (a.frzs c ob xs q)
 tbls:=fun c ps q=>by
   obtain ⟨m1,e1⟩:=a.tbls c ps q;obtain ⟨m2,e2⟩:=b.tbls c _ e1;exact ⟨m1++m2,by rw [e2,Array.append_assoc]⟩
theorem Un.kept (k:∀ b u,h.get? b=some u→h'.get? b=some u):Un fs ex H H h h' :=
 ⟨fun b ob q _ _ _=>k b ob q,fun b ob q _ _ _=>⟨ob.slots,k b ob q⟩,fun _ _ _ n _=>n,fun b ob q _=>⟨ob,k b ob q⟩,fun _ _ q=>q,fun _ _ _ q=>q,fun _ ps q=>⟨#[],by rw [q];simp⟩⟩
theorem Un.refl:Un fs ex H H h h:=Un.kept fun _ _ q=>q
theorem Un.laid (k:∀ b u,h.get? b=some u→h'.get? b=some u)(hp:h.objs.size≤a)(hn:H a=none):Un fs ex H (upd H a o) h h' where
 keep:=fun b u q _ _ _=>k b u q
 slot:=fun b u q _ _ _=>⟨u.slots,k b u q⟩
 free:=fun b u q n _=>by rw [Zah (Nat.ne_of_lt (Nat.lt_of_lt_of_le (Heap.lt_size q) hp))];exact n
 there:=fun b u q _=>⟨u,k b u q⟩
 tups:=fun b xs q=>by rw [Zah (Zaj q hn)];exact q
 frzs:=fun b u xs q=>by rw [Zah (Zaj q hn)];exact q
 tbls:=fun b ps q=>⟨#[],by rw [Zah (Zaj q hn),q];simp⟩
theorem Un.write (mu:Mut (H x))(he:e=x∨H e=some (.own x))(k:∀ b u,b≠e→h.get? b=some u→h'.get? b=some u)(heo:∃ u,h'.get? e=some u):Un fs ex H (upd H x o) h h':=by
 have hx:∀ b,H b=none→b≠x:=fun b n z=>by subst z;rw [n] at mu;exact mu
 have hb:∀ b,H b=none→b≠e:=fun b n z=>by
   subst z;rcases he with r | r
   · exact hx b n r
   · rw [n] at r;cases r
 have hm:∀ b u,H b=some u→¬ Mut (some u)→b≠x:=fun b u q nm z=>by subst z;rw [q] at mu;exact nm mu
 refine ⟨fun b u q n _ _=>k b u (hb b n) q,fun b u q n _ _=>⟨u.slots,k b u (hb b n) q⟩,fun b u q n _=>by rw [Zah (hx b n)];exact n,fun b u q _=>?_,
   fun b xs q=>by rw [Zah (hm b _ q fun z=>z)];exact q,fun b u xs q=>by rw [Zah (hm b _ q fun z=>z)];exact q,fun b ps q=>⟨#[],by rw [Zah (hm b _ q fun z=>z),q];simp⟩⟩
 by_cases hbe:b=e
 · subst hbe;exact heo
 · exact ⟨u,k b u hbe q⟩
end
def trk (h:Heap)(H:Hp):List Addr:=(List.range h.objs.size).filter fun a=>(H a).isSome
def hidT (h:Heap)(H:Hp):Heap:=PySem.W.hideAll h (trk h H)
theorem Zkl (h:Heap)(H:Hp):(hidT h H).objs.size=h.objs.size:=PySem.W.hideAll_size _ _
theorem hidT_get {h:Heap}{H:Hp}{b:Addr}{o:Obj}(e:h.get? b=some o)(n:H b=none):(hidT h H).get? b=some o :=
 PySem.W.hideAll_get _ e fun hm=>by
   have q:(H b).isSome=true:=(List.mem_filter.mp hm).2;rw [n] at q;simp at q
theorem of_hidT {h:Heap}{H:Hp}{b:Addr}{o:Obj}(e:(hidT h H).get? b=some o):h.get? b=some o∧H b=none:=by
 have e':h.get? b=some o:=PySem.W.of_hideAll (trk h H) e;refine ⟨e',?_⟩;cases q:H b with
 | none=>rfl
 | some x =>
   have hm:b∈trk h H:=List.mem_filter.mpr ⟨List.mem_range.mpr (Heap.lt_size e'),by simp [q]⟩;have z:(hidT h H).get? b=none:=PySem.W.hideAll_none (trk h H) hm;rw [z] at e;cases e
def allNews (g h:Heap)(L:Addr):List (Addr × Obj):=(List.range h.objs.size).filterMap fun a=>if a=L∨(g.get? a).isSome=true then none else (h.get? a).map fun o=>(a,o)
def rest (g h:Heap)(L d:Addr):List (Addr × Obj):=(allNews g h L).filter fun p=>decide (p.1≠d)
structure Mod (K:PySem.W.Frag)(mg:Str→Option Value)(base:Heap):Prop where
 kin:K.In base
 glob:base.Ns mainGlobals mg
 blt:∃ mb,base.Ns builtinsNs mb∧∀ x:Str,x≠"__name__"→mb x=bootBuiltins x
 nolimit:base.NoLimit
structure Cx where
 prog:Program
 w:World
 K:PySem.W.Frag
 mg:Str→Option Value
 base:Heap
 A:Around
 N:List Str
 s₀:Shared
 H₀:Hp
 env:Env
 outer:List Env
 stack:List Env
 ex:List Addr
 fn:Str→Bool
 calm:Bool
 pn:List (Addr × Obj)
 xe:Value→Shared→Prop
def frs (l:List Env):List Addr:=l.filterMap (·.frame)
abbrev Cx.fs (X:Cx):List Addr:=frs X.outer
def Vis (sc:Scope)(x:Str):Prop:=sc.names.lookup x=some .local∨sc.names.lookup x=some .cell∨sc.names.lookup x=some .free
def Loc (sc:Scope)(x:Str):Prop:=sc.names.lookup x=some .local∨sc.names.lookup x=some .cell
def Look (env:Env)(h:Heap)(m:Str→Option Value)(x:Str)(u:Value):Prop :=
 (env.kindOf x=some .local∧m x=some u)∨((env.kindOf x=some .cell∨env.kindOf x=some .free)∧∃ c,env.cells.lookup x=some c∧h.IsCell c (some u))
structure Cx.Ok (X:Cx):Prop where
 mod:Mod X.K X.mg X.base
 kind:X.env.scope.kind=.function
 glob:X.env.globals=mainGlobals
 blt:X.env.builtins=builtinsNs
 above:X.s₀.heap.objs.size≤X.env.locals
 inj:∀ x y c,X.env.cells.lookup x=some c→X.env.cells.lookup y=some c→x=y
 has:∀ x,(X.env.kindOf x=some .cell∨X.env.kindOf x=some .free)→∃ c,X.env.cells.lookup x=some c
 cab:∀ x c,X.fn x=true→X.env.cells.lookup x=some c→X.s₀.heap.objs.size≤c
 hd:X.calm=true→X.A.handled=none
 frames:X.A.frames=some X.stack
 stk:X.stack=X.outer∨(X.stack=X.env::X.outer∧X.env.frame=some X.env.locals)
 exf:∀ b∈X.ex,b≠X.env.locals∧∀ x c,X.env.cells.lookup x=some c→c≠b
 bs:∀ b o,X.base.get? b=some o→X.s₀.heap.get? b=some o∧X.H₀ b=none
 bsz:X.base.objs.size≤X.s₀.heap.objs.size
 noex:∀ b o,X.base.get? b=some o→b∉X.ex
 exfs:∀ b∈X.ex,b∉X.fs
 funs:X.s₀.heap.FunFrames X.base X.outer
 frf:∀ b∈X.fs,X.H₀ b=none
structure Inv (X:Cx)(pins:List (Addr × Obj))(σ:List (Option V))(H:Hp)(s:Shared):Prop where
 ok:X.Ok
 os:s.os=X.s₀.os
 bare:AllBare s.gens
 base:Un X.fs X.ex X.H₀ H X.s₀.heap s.heap
 loc:∃ m,s.heap.Ns X.env.locals m∧∀ (i:Nat) (x:Str) (v:V),X.N[i]?=some x→σ[i]?=some (some v)→Vis X.env.scope x→∃ u,RelV v u∧Look X.env s.heap m x u
 cell:∀ x c,X.env.cells.lookup x=some c→∃ v,s.heap.IsCell c v
 free:H X.env.locals=none
 freeC:∀ x c,X.env.cells.lookup x=some c→H c=none
 pin:∀ p∈X.pn++pins,s.heap.get? p.1=some p.2∧H p.1=none∧p.1≠X.env.locals∧p.1∉X.fs∧∀ v,p.2.data≠.cell v
 hok:HOk X.prog X.w H s.heap
 len:σ.length=X.N.length
section
variable {X:Cx}{pins:List (Addr × Obj)}{σ:List (Option V)}{H H':Hp}{s:Shared}{h':Heap}
theorem Cx.Ok.nofr (ok:X.Ok){b:Addr}{o:Obj}(e:X.base.get? b=some o):b∉X.fs:=fun hb=>by
 have:=(ok.funs.mem hb).1;rw [e] at this;cases this
theorem Inv.bs (I:Inv X pins σ H s):∀ b o,X.base.get? b=some o→s.heap.get? b=some o∧H b=none:=fun b o e =>
 ⟨I.base.keep b o (I.ok.bs b o e).1 (I.ok.bs b o e).2 (I.ok.nofr e) (I.ok.noex b o e),I.base.free b o (I.ok.bs b o e).1 (I.ok.bs b o e).2 (I.ok.noex b o e)⟩
theorem Inv.bk (I:Inv X pins σ H s):∀ b o,X.base.get? b=some o→s.heap.get? b=some o:=fun b o e=>(I.bs b o e).1
theorem Inv.mod (I:Inv X pins σ H s):Mod X.K X.mg X.base:=I.ok.mod
theorem Inv.kIn (I:Inv X pins σ H s):X.K.In s.heap:=I.ok.mod.kin.keeps I.bk
theorem Inv.lt (I:Inv X pins σ H s):X.env.locals<s.heap.objs.size:=let ⟨_,hn,_⟩:=I.loc;hn.lt
theorem Inv.sz (I:Inv X pins σ H s):X.s₀.heap.objs.size≤s.heap.objs.size:=Nat.le_trans I.ok.above (Nat.le_of_lt I.lt)
theorem Inv.nofs (I:Inv X pins σ H s){a:Addr}(h:s.heap.objs.size≤a):a∉X.fs:=fun hb=>by
 obtain ⟨_,o,ho,_⟩:=I.ok.funs.mem hb;exact absurd (Nat.lt_of_lt_of_le (Heap.lt_size ho) (Nat.le_trans I.sz h)) (Nat.lt_irrefl _)
theorem Inv.cne (I:Inv X pins σ H s):∀ x c,X.env.cells.lookup x=some c→c≠X.env.locals:=fun x c e z=>by
 obtain ⟨v,o,ho,hd⟩:=I.cell x c e;obtain ⟨m,⟨o',es,ep,ho',hd',_⟩,_⟩:=I.loc;rw [z,ho'] at ho;cases ho;rw [hd'] at hd;cases hd
theorem Inv.funs (I:Inv X pins σ H s):s.heap.FunFrames X.base X.outer:=by
 have all:∀ (l:List Env),(∀ b∈frs l,b∈X.fs)→X.s₀.heap.FunFrames X.base l→s.heap.FunFrames X.base l:=by
   intro l;induction l with
   | nil=>intro _ _;trivial
   | cons env r ih =>
     intro hs hl;obtain ⟨hk,⟨L,o,hf,hn,ho,hd⟩,hr⟩:=hl;have hL:L∈X.fs:=hs L (by unfold frs;rw [List.filterMap_cons,hf];exact List.mem_cons_self);obtain ⟨sl,e⟩:=I.base.slot L o ho (I.ok.frf L hL) hL fun z=>I.ok.exfs L z hL
     exact ⟨hk,⟨L,_,hf,hn,e,hd⟩,ih (fun b hb=>hs b (by unfold frs;rw [List.filterMap_cons,hf];exact List.mem_cons_of_mem _ hb)) hr⟩
 exact all X.outer (fun _ hb=>hb) I.ok.funs
theorem Inv.stack (I:Inv X pins σ H s):s.heap.FunFrames X.base X.stack:=by
 rcases I.ok.stk with e | ⟨e,hf⟩
 · rw [e];exact I.funs
 · rw [e]
   obtain ⟨m,hn,_⟩:=I.loc;refine .cons (by rw [I.ok.kind];decide) hf hn ?_ I.funs;exact Heap.get?_none_of_le (Nat.le_trans I.ok.bsz I.ok.above)
theorem Inv.stkSub (I:Inv X pins σ H s):∀ b∈frs X.stack,b∈X.env.locals::X.fs:=fun b hb=>by
 rcases I.ok.stk with e | ⟨e,hf⟩
 · rw [e] at hb;exact List.mem_cons_of_mem _ hb
 · rw [e] at hb
   unfold frs at hb;rw [List.filterMap_cons,hf] at hb;exact hb
theorem Inv.stkFree (I:Inv X pins σ H s):∀ b∈frs X.stack,H b=none:=fun b hb=>by
 rcases List.mem_cons.mp (I.stkSub b hb) with e | hb
 · rw [e];exact I.free
 · obtain ⟨_,o,ho,_⟩:=I.ok.funs.mem hb
   exact I.base.free b o ho (I.ok.frf b hb) fun z=>I.ok.exfs b z hb
theorem Inv.step {g':Array GenState}{t':Nat}{d':Drawn}{ch:List Addr}(I:Inv X pins σ H s)
   (hch:∀ b∈ch,(b∈X.ex∨X.s₀.heap.objs.size≤b)∧b≠X.env.locals∧(∀ x c,X.env.cells.lookup x=some c→c≠b)∧∀ p∈X.pn++pins,p.1≠b)
   (keep:∀ b o,b≠X.env.locals→b∉X.fs→b∉ch→s.heap.get? b=some o→H b=none→h'.get? b=some o)
   (slot:∀ b o,b≠X.env.locals→b∈X.fs→b∉ch→s.heap.get? b=some o→H b=none→∃ sl,h'.get? b=some { o with slots:=sl }) (free:∀ b o,b∉ch→s.heap.get? b=some o→H b=none→H' b=none)
   (there:∀ b o,b∉ch→s.heap.get? b=some o→∃ o',h'.get? b=some o')
   (tups:∀ b xs,H b=some (.tup xs)→H' b=some (.tup xs)) (frzs:∀ b o u,H b=some (.frz o u)→H' b=some (.frz o u)) (tbls:∀ b ps,H b=some (.tbl ps)→∃ more,H' b=some (.tbl (ps++more)))
   (ns:∀ m,s.heap.Ns X.env.locals m→h'.Ns X.env.locals m) (hok:HOk X.prog X.w H' h') (hg:AllBare g') :
   Inv X pins σ H' { s with heap:=h',gens:=g',drawn:=d',toks:=t' }:=by
 have neL:∀ b o,X.s₀.heap.get? b=some o→b≠X.env.locals:=fun b o e=>Nat.ne_of_lt (Nat.lt_of_lt_of_le (Heap.lt_size e) I.ok.above)
 have neC:∀ b o,X.s₀.heap.get? b=some o→b∉X.ex→b∉ch:=fun b o e hx hb=>by
   rcases (hch b hb).1 with z | z
   · exact hx z
   · exact absurd (Nat.lt_of_lt_of_le (Heap.lt_size e) z) (Nat.lt_irrefl _)
 have cellK:∀ x c,X.env.cells.lookup x=some c→∀ v,s.heap.IsCell c v→h'.IsCell c v:=fun x c e v ⟨o,ho,hd⟩=>by
   have nch:c∉ch:=fun z=>(hch c z).2.2.1 x c e rfl
   by_cases hc:c∈X.fs
   · obtain ⟨sl,q⟩:=slot c o (I.cne x c e) hc nch ho (I.freeC x c e)
     exact ⟨_,q,hd⟩
   · exact ⟨o,keep c o (I.cne x c e) hc nch ho (I.freeC x c e),hd⟩
 refine ⟨I.ok,I.os,hg,⟨fun b o e n hb hx=>?_,fun b o e n hb hx=>?_,fun b o e n hx=>?_,fun b o e hx=>?_,fun b xs e=>tups b xs (I.base.tups b xs e),fun b o xs e=>frzs b o xs (I.base.frzs b o xs e),fun b ps e=>?_⟩,?_,fun x c e=>?_,?_,fun x c e=>?_,fun p hp=>?_,hok,I.len⟩
 · exact keep b o (neL b o e) hb (neC b o e hx) (I.base.keep b o e n hb hx) (I.base.free b o e n hx)
 · obtain ⟨sl,e1⟩:=I.base.slot b o e n hb hx
   obtain ⟨sl',e2⟩:=slot b _ (neL b o e) hb (neC b o e hx) e1 (I.base.free b o e n hx);exact ⟨sl',e2⟩
 · obtain ⟨o',e1⟩:=I.base.there b o e hx
   exact free b o' (neC b o e hx) e1 (I.base.free b o e n hx)
 · obtain ⟨o',e1⟩:=I.base.there b o e hx
   exact there b o' (neC b o e hx) e1
 · obtain ⟨m1,e1⟩:=I.base.tbls b ps e
   obtain ⟨m2,e2⟩:=tbls b _ e1;exact ⟨m1++m2,by rw [e2,Array.append_assoc]⟩
 · obtain ⟨m,hn,hl⟩:=I.loc
   refine ⟨m,ns m hn,fun i x v e1 e2 e3=>?_⟩;obtain ⟨u,r,l⟩:=hl i x v e1 e2 e3;refine ⟨u,r,?_⟩;rcases l with l | ⟨k,c,e,z⟩
   · exact .inl l
   · exact .inr ⟨k,c,e,cellK x c e _ z⟩
 · obtain ⟨v,z⟩:=I.cell x c e
   exact ⟨v,cellK x c e v z⟩
 · obtain ⟨m,⟨o,_,_,ho,_⟩,_⟩:=I.loc
   exact free _ o (fun z=>(hch _ z).2.1 rfl) ho I.free
 · obtain ⟨v,o,ho,hd⟩:=I.cell x c e
   exact free c o (fun z=>(hch c z).2.2.1 x c e rfl) ho (I.freeC x c e)
 · obtain ⟨e,n,ne,nf,d⟩:=I.pin p hp
   have nch:p.1∉ch:=fun z=>(hch p.1 z).2.2.2 p hp rfl
   exact ⟨keep p.1 p.2 ne nf nch e n,free p.1 p.2 nch e n,ne,nf,d⟩
theorem Inv.un {t':Nat}(I:Inv X pins σ H s)(u:Un X.fs [] H H' s.heap h')(hok:HOk X.prog X.w H' h'):Inv X pins σ H' { s with heap:=h',toks:=t' }:=by
 obtain ⟨m,⟨o,es,ep,ho,r⟩,_⟩:=id I.loc;obtain ⟨sl,hL⟩:=u.any ho I.free (by simp);exact I.step (g':=s.gens) (d':=s.drawn) (ch:=[]) (fun _ z=>nomatch z) (fun b o _ hb _ e n=>u.keep b o e n hb (by simp)) (fun b o _ hb _ e n=>u.slot b o e n hb (by simp)) (fun b o _ e n=>u.free b o e n (by simp)) (fun b o _ e=>u.there b o e (by simp)) u.tups u.frzs u.tbls (fun m' hm=>by
   obtain ⟨o',es',ep',ho',r'⟩:=hm;rw [ho] at ho';cases ho';exact ⟨_,es',ep',hL,r'⟩) hok I.bare
theorem Inv.call {g':Array GenState}{t':Nat}{d':Drawn}{ch:List Addr}(I:Inv X pins σ H s)(u:Un (frs X.stack) ch H H' s.heap h')(hok:HOk X.prog X.w H' h')(hg:AllBare g')
   (hch:∀ b∈ch,(b∈X.ex∨X.s₀.heap.objs.size≤b)∧b≠X.env.locals∧(∀ x c,X.env.cells.lookup x=some c→c≠b)∧∀ p∈X.pn++pins,p.1≠b) :
   Inv X pins σ H' { s with heap:=h',gens:=g',drawn:=d',toks:=t' }:=by
 obtain ⟨m,⟨o,es,ep,ho,r⟩,_⟩:=id I.loc;obtain ⟨sl,hL⟩:=u.any ho I.free fun z=>(hch _ z).2.1 rfl
 exact I.step (ch:=ch) hch (fun b o hL hb hc e n=>u.keep b o e n (fun z=>(List.mem_cons.mp (I.stkSub b z)).elim hL hb) hc) (fun b o _ _ hc e n=>u.any e n hc) (fun b o hc e n=>u.free b o e n hc) (fun b o hc e=>u.there b o e hc) u.tups u.frzs u.tbls (fun m' hm=>by
   obtain ⟨o',es',ep',ho',r'⟩:=hm;rw [ho] at ho';cases ho';exact ⟨_,es',ep',hL,r'⟩) hok hg
theorem Inv.turned {t':Nat}{it:Addr}(I:Inv X pins σ H s)(k:∀ b o,b≠it→s.heap.get? b=some o→h'.get? b=some o)(hn:H it=none)(hL:it≠X.env.locals)
   (h1:it∈X.ex∨X.s₀.heap.objs.size≤it) (h2:∀ x c,X.env.cells.lookup x=some c→c≠it) (h3:∀ p∈X.pn++pins,p.1≠it):Inv X pins σ H { s with heap:=h',toks:=t' }:=by
 have nit:∀ b u,H b=some u→b≠it:=fun b u e z=>by rw [z,hn] at e;cases e
 refine I.step (g':=s.gens) (d':=s.drawn) (ch:=[it]) (fun b hb=>?_) (fun b o _ _ hc e _=>k b o (fun z=>hc (by simp [z])) e) (fun b o _ _ hc e _=>⟨o.slots,k b o (fun z=>hc (by simp [z])) e⟩) (fun _ _ _ _ n=>n)
   (fun b o hc e=>⟨o,k b o (fun z=>hc (by simp [z])) e⟩) (fun _ _ e=>e) (fun _ _ _ e=>e) (fun b ps e=>⟨#[],by rw [e];simp⟩) (fun m hm=>?_) (fun b u e=>?_) I.bare
 · have e:b=it:=by simpa using hb
   subst e;exact ⟨h1,hL,h2,h3⟩
 · obtain ⟨o,es,ep,ho,r⟩:=hm
   exact ⟨o,es,ep,k _ o (Ne.symm hL) ho,r⟩
 · refine (I.hok b u e).stay (fun c v hc q=>k c v ?_ q) (fun _ q=>q) fun _ _ q=>q
   rcases hc with z | z
   · rw [z];exact nit b u e
   · exact nit c _ z
theorem Inv.tok (I:Inv X pins σ H s)(t:Nat):Inv X pins σ H { s with toks:=t }:=I.un (h':=s.heap) (t':=t) Un.refl I.hok
theorem Inv.kept {t':Nat}(I:Inv X pins σ H s)(k:∀ b u,s.heap.get? b=some u→h'.get? b=some u):Inv X pins σ H { s with heap:=h',toks:=t' }:=I.un (Un.kept k) (I.hok.kept k)
theorem Inv.laid {a:Addr}{o:HO}{t':Nat}(I:Inv X pins σ H s)(k:∀ b u,s.heap.get? b=some u→h'.get? b=some u)(hp:s.heap.objs.size≤a)(new:ObjOk X.prog X.w (upd H a o) h' a o) :
   Inv X pins σ (upd H a o) { s with heap:=h',toks:=t' }:=I.un (Un.laid k hp (I.hok.fresh hp)) (I.hok.laid k hp new)
theorem Inv.write {x e:Addr}{o:HO}{t':Nat}(I:Inv X pins σ H s)(mu:Mut (H x))(he:e=x∨H e=some (.own x))(k:∀ b u,b≠e→s.heap.get? b=some u→h'.get? b=some u)(heo:∃ u,h'.get? e=some u)
   (new:ObjOk X.prog X.w (upd H x o) h' x o):Inv X pins σ (upd H x o) { s with heap:=h',toks:=t' }:=I.un (Un.write mu he k heo) (I.hok.write mu he k heo new)
theorem Inv.weak {σ':List (Option V)}(I:Inv X pins σ H s)(hl:σ'.length=σ.length)(w:∀ (i:Nat) v,σ'[i]?=some (some v)→σ[i]?=some (some v)):Inv X pins σ' H s :=
 ⟨I.ok,I.os,I.bare,I.base,let ⟨m,hn,hl'⟩:=I.loc;⟨m,hn,fun i x v e1 e2 e3=>hl' i x v e1 (w i v e2) e3⟩,I.cell,I.free,I.freeC,I.pin,I.hok,hl.trans I.len⟩
theorem Inv.pins_of {pins':List (Addr × Obj)}(I:Inv X pins σ H s)(h:∀ p∈pins',s.heap.get? p.1=some p.2∧H p.1=none∧p.1≠X.env.locals∧p.1∉X.fs∧∀ v,p.2.data≠.cell v):Inv X pins' σ H s :=
 ⟨I.ok,I.os,I.bare,I.base,I.loc,I.cell,I.free,I.freeC,fun p hp=>(List.mem_append.mp hp).elim (fun z=>I.pin p (List.mem_append_left _ z)) (h p),I.hok,I.len⟩
theorem ZeL {N:List Str}(hN:N.Nodup){i j:Nat}{x:Str}(a:N[i]?=some x)(b:N[j]?=some x):i=j:=by obtain ⟨h1,e1⟩:=List.getElem?_eq_some_iff.mp a;obtain ⟨h2,e2⟩:=List.getElem?_eq_some_iff.mp b;exact (List.getElem_inj hN).mp (e1.trans e2.symm)
theorem Zkm {M:Model} {A:Around} {E:Value→Shared→Prop} {i:Nat} {x:Str} {v:V} {u:Value} {Q:Unit→Shared→Prop} (I:Inv X pins σ H s) (hN:X.N.Nodup) (hi:X.N[i]?=some x) (hx:Loc X.env.scope x) (r:RelV v u)
   (h:∀ s',Inv X pins (σ.set i (some v)) H s'→(∃ a,Heap.SameBut a s.heap s'.heap∧(a=X.env.locals∨X.env.cells.lookup x=some a))→Q () s') (hf:X.fn x=true∨X.env.scope.names.lookup x=some .local:=by first | exact .inl rfl | exact .inr rfl | assumption):wpAny M A (storeName X.env x u) Q E s:=by
 obtain ⟨m,hn,hl⟩:=id I.loc;have hcls:(X.env.scope.kind==.class||(X.env.scope.kind==.module&&X.env.locals != X.env.globals))=false:=by rw [I.ok.kind];rfl
 have hiσ:i<σ.length:=by rw [I.len];exact (List.getElem?_eq_some_iff.mp hi).1
 have cne:=I.cne;have tracked:∀ {a:Addr} {h':Heap},(∃ o,s.heap.get? a=some o∧H a=none)→Heap.SameBut a s.heap h'→HOk X.prog X.w H h':=fun {a h'} ha hs b ob e=>by
   obtain ⟨_,_,hfree⟩:=ha;refine (I.hok b ob e).stay (fun c w' hc q=>(hs.2 c ?_).trans q) (fun _ q=>q) fun _ _ q=>q
   rintro rfl;rcases hc with rfl | hc
   · rw [hfree] at e;cases e
   · rw [hfree] at hc;cases hc
 rcases hx with hk | hk
 · refine wpAny_storeName_local hk hn (fun h' hn' hs=>?_) hcls
   obtain ⟨oL,_,_,hoL,_⟩:=id hn;refine h _ ⟨I.ok,I.os,I.bare,⟨fun b o e n hb hx=>?_,fun b o e n hb hx=>?_,I.base.free,fun b o e hx=>?_,I.base.tups,I.base.frzs,I.base.tbls⟩,⟨_,hn',fun j y v' e1 e2 e3=>?_⟩,fun y c e=>?_,I.free,I.freeC,fun p hp=>?_,tracked ⟨oL,hoL,I.free⟩ hs,by simpa using I.len⟩ ⟨_,hs,.inl rfl⟩
   · exact (hs.2 b (Nat.ne_of_lt (Nat.lt_of_lt_of_le (Heap.lt_size e) I.ok.above))).trans (I.base.keep b o e n hb hx)
   · obtain ⟨sl,e1⟩:=I.base.slot b o e n hb hx
     exact ⟨sl,(hs.2 b (Nat.ne_of_lt (Nat.lt_of_lt_of_le (Heap.lt_size e) I.ok.above))).trans e1⟩
   · obtain ⟨o',e1⟩:=I.base.there b o e hx
     exact ⟨o',(hs.2 b (Nat.ne_of_lt (Nat.lt_of_lt_of_le (Heap.lt_size e) I.ok.above))).trans e1⟩
   · by_cases hj:j=i
     · subst hj
       rw [hi] at e1;cases e1;rw [List.getElem?_set_self hiσ] at e2;cases e2;exact ⟨u,r,.inl ⟨hk,by simp⟩⟩
     · rw [List.getElem?_set_ne (Ne.symm hj)] at e2
       obtain ⟨u',r',q⟩:=hl j y v' e1 e2 e3;refine ⟨u',r',?_⟩;rcases q with ⟨k,e⟩ | ⟨k,c,e,z⟩
       · refine .inl ⟨k,?_⟩
         have:y≠x:=fun e=>hj (ZeL hN e1 (e ▸ hi))
         simp [this,e]
       · exact .inr ⟨k,c,e,z.sameBut hs (cne y c e)⟩
   · obtain ⟨w',z⟩:=I.cell y c e
     exact ⟨w',z.sameBut hs (cne y c e)⟩
   · obtain ⟨e,n,ne,nf,d⟩:=I.pin p hp
     exact ⟨(hs.2 p.1 ne).trans e,n,ne,nf,d⟩
 · have hfn:X.fn x=true:=by
     rcases hf with z | z
     · exact z
     · rw [z] at hk;cases hk
   obtain ⟨c,hc⟩:=I.ok.has x (.inl hk);obtain ⟨w',z⟩:=I.cell x c hc;refine wpAny_storeName_cell I.ok.kind hk hc z (fun h' hc' hs=>?_);obtain ⟨oc,hoc,hocd⟩:=id z;refine h { s with heap:=h' } ⟨I.ok,I.os,I.bare,⟨fun b o e n hb hx=>?_,fun b o e n hb hx=>?_,I.base.free,fun b o e hx=>?_,I.base.tups,I.base.frzs,I.base.tbls⟩,⟨m,hn.sameBut hs (Ne.symm (cne x c hc)),fun j y v' e1 e2 e3=>?_⟩,fun y c' e=>?_,I.free,I.freeC,fun p hp=>?_,tracked ⟨oc,hoc,I.freeC x c hc⟩ hs,by simpa using I.len⟩ ⟨c,hs,.inr hc⟩
   · exact (hs.2 b (Nat.ne_of_lt (Nat.lt_of_lt_of_le (Heap.lt_size e) (I.ok.cab x c hfn hc)))).trans (I.base.keep b o e n hb hx)
   · obtain ⟨sl,e1⟩:=I.base.slot b o e n hb hx
     exact ⟨sl,(hs.2 b (Nat.ne_of_lt (Nat.lt_of_lt_of_le (Heap.lt_size e) (I.ok.cab x c hfn hc)))).trans e1⟩
   · obtain ⟨o',e1⟩:=I.base.there b o e hx
     exact ⟨o',(hs.2 b (Nat.ne_of_lt (Nat.lt_of_lt_of_le (Heap.lt_size e) (I.ok.cab x c hfn hc)))).trans e1⟩
   · by_cases hj:j=i
     · subst hj
       rw [hi] at e1;cases e1;rw [List.getElem?_set_self hiσ] at e2;cases e2;exact ⟨u,r,.inr ⟨.inl hk,c,hc,hc'⟩⟩
     · rw [List.getElem?_set_ne (Ne.symm hj)] at e2
       obtain ⟨u',r',q⟩:=hl j y v' e1 e2 e3;refine ⟨u',r',?_⟩;rcases q with q | ⟨k,c',e,z'⟩
       · exact .inl q
       · refine .inr ⟨k,c',e,z'.sameBut hs ?_⟩
         rintro rfl;exact hj (ZeL hN e1 (I.ok.inj _ _ _ e hc ▸ hi))
   · by_cases hcc:c'=c
     · subst hcc;exact ⟨_,hc'⟩
     · obtain ⟨w2,z2⟩:=I.cell y c' e
       exact ⟨w2,z2.sameBut hs hcc⟩
   · obtain ⟨e,n,ne,nf,d⟩:=I.pin p hp
     refine ⟨(hs.2 p.1 ?_).trans e,n,ne,nf,d⟩;intro q;rw [q,hoc] at e;have q':oc=p.2:=Option.some.inj e;exact d w' (by rw [← q'];exact hocd)
theorem ZdO {M:Model}{A:Around}{E:Value→Shared→Prop}{i:Nat}{x:Str}{v:V}{u:Value}{Q:Unit→Shared→Prop}(I:Inv X pins σ H s)(hN:X.N.Nodup)(hi:X.N[i]?=some x)(hx:Loc X.env.scope x)(r:RelV v u)
   (h:∀ s',Inv X pins (σ.set i (some v)) H s'→Q () s') (hf:X.fn x=true∨X.env.scope.names.lookup x=some .local:=by first | exact .inl rfl | exact .inr rfl | assumption):wpAny M A (storeName X.env x u) Q E s :=
 Zkm I hN hi hx r (fun s' I' _=>h s' I') hf
theorem Inv.call' {s':Shared}{ch:List Addr}(I:Inv X pins σ H s)(ho:s'.os=s.os)(u:Un (frs X.stack) ch H H' s.heap s'.heap)(hok:HOk X.prog X.w H' s'.heap)(hg:AllBare s'.gens)
   (hch:∀ b∈ch,(b∈X.ex∨X.s₀.heap.objs.size≤b)∧b≠X.env.locals∧(∀ x c,X.env.cells.lookup x=some c→c≠b)∧∀ p∈X.pn++pins,p.1≠b):Inv X pins σ H' s':=by
 obtain ⟨h',g',d',t',o'⟩:=s';have e:o'=s.os:=ho;subst e;exact I.call (g':=g') (t':=t') (d':=d') u hok hg hch
end
abbrev XK:=Value→Option Addr→Hp→Prop
abbrev St:=List (Option V)
abbrev VK:=V→Hp→Prop
abbrev TE:=St→Hp→VK→Prop
abbrev TT:=St→Hp→(Bool→Hp→Prop)→Prop
abbrev TA:=St→Hp→(List V→Hp→Prop)→Prop
structure Ends where
 nx:St→Hp→Prop
 rt:VK
 bk:St→Hp→Prop:=fun _ _=>False
 ct:St→Hp→Prop:=fun _ _=>False
abbrev TS:=Ends→St→Hp→Prop
def EP (X:Cx)(pins:List (Addr × Obj))(σ:St)(Q:VK)(u:Value)(s':Shared):Prop:=∃ v H',Inv X pins σ H' s'∧RelV v u∧Q v H'
def TP (X:Cx)(pins:List (Addr × Obj))(σ:St)(Q:Bool→Hp→Prop)(b:Bool)(s':Shared):Prop:=∃ H',Inv X pins σ H' s'∧Q b H'
def AP (X:Cx)(pins:List (Addr × Obj))(σ:St)(Q:List V→Hp→Prop)(us:List Value)(s':Shared):Prop:=∃ vs H',Inv X pins σ H' s'∧Vals vs us∧Q vs H'
def SP (X:Cx)(pins:List (Addr × Obj))(D:Ends)(f:Flow)(s':Shared):Prop :=
 match f with
 | .next=>∃ σ' H',Inv X pins σ' H' s'∧D.nx σ' H'
 | .brk=>∃ σ' H',Inv X pins σ' H' s'∧D.bk σ' H'
 | .cont=>∃ σ' H',Inv X pins σ' H' s'∧D.ct σ' H'
 | .ret u=>∃ v σ' H',Inv X pins σ' H' s'∧RelV v u∧D.rt v H'
def PE (X:Cx)(e:Expr)(t:TE):Prop :=
 ∀ (pins:List (Addr × Obj)) (s:Shared) (σ:St) (H:Hp) (Q:VK),Inv X pins σ H s→t σ H Q→wpAny (model X.prog X.w) X.A (eval e X.env) (EP X pins σ Q) X.xe s
def PT (X:Cx)(e:Expr)(t:TT):Prop :=
 ∀ (pins:List (Addr × Obj)) (s:Shared) (σ:St) (H:Hp) (Q:Bool→Hp→Prop),Inv X pins σ H s→t σ H Q→wpAny (model X.prog X.w) X.A (isTrue e X.env (eval e X.env)) (TP X pins σ Q) X.xe s
def PW (X:Cx)(e:Expr)(t:TT):Prop :=
 ∀ (whole:Sem Value) (pins:List (Addr × Obj)) (s:Shared) (σ:St) (H:Hp) (Q:Bool→Hp→Prop),Inv X pins σ H s→t σ H Q→wpAny (model X.prog X.w) X.A (isTrue e X.env whole) (TP X pins σ Q) X.xe s
theorem PW.pt {X:Cx}{e:Expr}{t:TT}(h:PW X e t):PT X e t:=h _
def PA (X:Cx)(es:List Expr)(t:TA):Prop :=
 ∀ (pos:Pos) (pins:List (Addr × Obj)) (s:Shared) (σ:St) (H:Hp) (Q:List V→Hp→Prop),Inv X pins σ H s→t σ H Q→wpAny (model X.prog X.w) X.A (spliced (backTo pos (starEach es X.env))) (AP X pins σ Q) X.xe s
def PS (X:Cx)(st:Stmt)(t:TS):Prop :=
 ∀ (pins:List (Addr × Obj)) (s:Shared) (σ:St) (H:Hp) (D:Ends),Inv X pins σ H s→t D σ H→wpAny (model X.prog X.w) X.A (exec st X.env) (SP X pins D) X.xe s
def PSs (X:Cx)(st:List Stmt)(t:TS):Prop :=
 ∀ (pins:List (Addr × Obj)) (s:Shared) (σ:St) (H:Hp) (D:Ends),Inv X pins σ H s→t D σ H→wpAny (model X.prog X.w) X.A (execs st X.env) (SP X pins D) X.xe s
theorem thn {α:Type}{t:Sem α}{Q Q':α→Shared→Prop}{M:Model}{A:Around}{E:Value→Shared→Prop}{s:Shared}(h:wpAny M A t Q E s)(hQ:∀ a s,Q a s→Q' a s):wpAny M A t Q' E s:=wpAny_mono h hQ fun _ _ x=>x
section
variable {X:Cx}
def tVar (i:Nat):TE:=fun σ H Q=>∃ v,σ[i]?=some (some v)∧Q v H
def tC (v:V):TE:=fun _ H Q=>Q v H
theorem pe_var {i:Nat}{x:Str}{pos:Pos}(hN:X.N[i]?=some x)(hv:Vis X.env.scope x)(hd:(x==("__debug__":Str))=false:=by decide)(hcd:(x==("__classdict__":Str))=false:=by decide):PE X (.Name x pos) (tVar i):=by
 intro pins s σ H Q I h;obtain ⟨v,e,h⟩:=h;obtain ⟨m,hn,hl⟩:=I.loc;obtain ⟨u,r,l⟩:=hl i x v hN e hv;have fin:EP X pins σ Q u s:=⟨v,H,I,r,h⟩
 rcases l with ⟨hk,hm⟩ | ⟨hk,c,hc,hcell⟩
 · exact wpAny_Name (wpAny_loadName_local I.ok.kind hk hn hm fin) hd
 · rcases hk with hk | hk
   · exact wpAny_Name (wpAny_loadName_cell I.ok.kind hk hc hcell fin) hd
   · exact wpAny_Name (wpAny_loadName_free I.ok.kind hk hc hcell fin hcd) hd
theorem Zak {i j pos}:PE X (.Constant (.int i) j pos) (tC (.int i)):=fun _ _ _ H _ I h=>wpAny_Constant_int ⟨.int i,H,I.tok _,⟨_,rfl⟩,h⟩
theorem ZbL {b j pos}:PE X (.Constant (.bool b) j pos) (tC (.bl b)):=fun _ _ _ H _ I h=>Constant_bool ⟨.bl b,H,I,rfl,h⟩
theorem Za6 {j pos}:PE X (.Constant .none j pos) (tC .non):=fun _ _ _ H _ I h=>Constant_none ⟨.non,H,I,rfl,h⟩
theorem Zaf {x j pos}:PE X (.Constant (.str x) j pos) (tC (.str x)):=fun _ _ _ H _ I h=>Calls.Constant_str ⟨.str x,H,I.tok _,⟨_,rfl⟩,h⟩
def Gl (X:Cx)(x:Str):Prop:=X.env.kindOf x=some .globalImplicit
theorem ZbI {E:Value→Shared→Prop}{pins:List (Addr × Obj)}{s:Shared}{σ:St}{H:Hp}{x:Str}{u:Value}{pos:Pos}{Q:Value→Shared→Prop}(I:Inv X pins σ H s)(hg:Gl X x)(hm:X.mg x=some u)(h:Q u s)
   (hd:(x==("__debug__":Str))=false:=by decide):wpAny (model X.prog X.w) X.A (eval (.Name x pos) X.env) Q E s :=
 Calls.Name_function_global I.ok.kind hg (Calls.loadGlobal_global (by rw [I.ok.glob];exact I.mod.glob.keeps I.bk) hm h) hd
theorem Zea {E:Value→Shared→Prop}{pins:List (Addr × Obj)}{s:Shared}{σ:St}{H:Hp}{x:Str}{u:Value}{pos:Pos}{Q:Value→Shared→Prop}(I:Inv X pins σ H s)(hg:Gl X x)(hm:X.mg x=none)(hv:bootBuiltins x=some u)(h:Q u s)
   (hn:x≠"__name__":=by decide) (hd:(x==("__debug__":Str))=false:=by decide):wpAny (model X.prog X.w) X.A (eval (.Name x pos) X.env) Q E s:=by
 obtain ⟨mb,h1,h2⟩:=I.mod.blt;exact Calls.Name_function_global I.ok.kind hg (Calls.loadGlobal_builtin (by rw [I.ok.glob];exact I.mod.glob.keeps I.bk) hm (by rw [I.ok.blt];exact h1.keeps I.bk) ((h2 x hn).trans hv) h) hd
theorem Zbk {x:Str}{v:V}{u:Value}{pos:Pos}(hg:Gl X x)(hm:X.mg x=some u)(r:RelV v u)(hd:(x==("__debug__":Str))=false:=by decide):PE X (.Name x pos) (tC v) :=
 fun _ _ _ H _ I h=>ZbI I hg hm ⟨v,H,I,r,h⟩ hd
theorem Zjn {x:Str}{v:V}{u:Value}{pos:Pos}(hg:Gl X x)(hm:X.mg x=none)(hv:bootBuiltins x=some u)(r:RelV v u)(hn:x≠"__name__":=by decide)(hd:(x==("__debug__":Str))=false:=by decide):PE X (.Name x pos) (tC v) :=
 fun _ _ _ H _ I h=>Zea I hg hm hv ⟨v,H,I,r,h⟩ hn hd
variable {a b:Expr}{ta tb:TE}{pos:Pos}
def PC (X:Cx) (op:CmpOp) (a b:Expr) (t:TE):Prop :=
 ∀ (pins:List (Addr × Obj)) (s:Shared) (σ:St) (H:Hp) (Q:VK),Inv X pins σ H s→t σ H Q →
   wpAny (model X.prog X.w) X.A (eval a X.env) (fun v s₁=>wpAny (model X.prog X.w) X.A (eval b X.env) (fun u s₂=>wpAny (model X.prog X.w) X.A (compareOp op v u) (EP X pins σ Q) X.xe s₂) X.xe s₁) X.xe s
theorem nobehind (b:Expr){op:CmpOp}(h:op≠.In)(h2:op≠.NotIn):behindInMarks op b=false:=by
 have e1:(op==CmpOp.In)=false:=by cases op<;>first | rfl | exact absurd rfl h
 have e2:(op==CmpOp.NotIn)=false:=by cases op<;>first | rfl | exact absurd rfl h2
 cases b<;>simp [behindInMarks,e1,e2]
def tB (t:TE):TT:=fun σ H Q=>t σ H fun x H1=>∃ c,x=.bl c∧Q c H1
theorem pt_cmp {op:CmpOp}{t:TE}(h:PC X op a b t)(h1:behindInMarks op b=false:=by first | exact nobehind _ (by decide) (by decide) | rfl):PT X (.Compare a [op] [b] pos) (tB t):=by intro pins s σ H Q I hw;refine wpAny_isTrue_Compare1 (thn (h pins s σ H _ I hw) fun v s1 h1=>thn h1 fun u s2 h2=>thn h2 fun c s3 ⟨x,H1,I1,r1,q1⟩=>?_) h1;obtain ⟨d,rfl,q⟩:=q1;cases r1;exact wpAny_truthy_bool ⟨H1,I1,q⟩
theorem Zdc {e:Expr}{t:TE}(h:PE X e t)(he:∀ whole,isTrue e X.env whole=(do let v ← whole;standAt e.pos;holding [v] (truthy v)):=by intro _;rfl):PT X e (tB t):=by intro pins s σ H Q I hw;refine isTrue_plain (thn (h pins s σ H _ I hw) fun v s1 ⟨x,H1,I1,r1,q1⟩=>?_) (he _);obtain ⟨d,rfl,q⟩:=q1;cases r1;exact wpAny_truthy_bool ⟨H1,I1,q⟩
variable {tA tB':TT}{rest:List Expr}
def tAnd (t u:TT):TT:=fun σ H Q=>t σ H fun c H1=>if c=true then u σ H1 Q else Q false H1
def tOr (t u:TT):TT:=fun σ H Q=>t σ H fun c H1=>if c=true then Q true H1 else u σ H1 Q
def tNot (t:TT):TT:=fun σ H Q=>t σ H fun c H1=>Q (!c) H1
theorem ZaU (ha:PT X a tA):PW X (.BoolOp .And [a] pos) tA:=by
 intro wh pins s σ H Q I h;refine isTrue_and (thn (ha pins s σ H Q I h) fun c s1 e=>?_);cases c with
 | true=>exact isTrue_and_nil e
 | false=>exact e
theorem Zbe (ha:PT X a tA):PW X (.BoolOp .Or [a] pos) tA:=by
 intro wh pins s σ H Q I h;refine isTrue_or (thn (ha pins s σ H Q I h) fun c s1 e=>?_);cases c with
 | false=>exact isTrue_or_nil e
 | true=>exact e
theorem ZaX (ha:PT X a tA)(hb:PW X (.BoolOp .And (b::rest) pos) tB'):PW X (.BoolOp .And (a::b::rest) pos) (tAnd tA tB'):=by
 intro wh pins s σ H Q I h;refine isTrue_and (thn (ha pins s σ H _ I h) fun c s1 ⟨H1,I1,q1⟩=>?_);cases c with
 | true=>exact hb wh pins s1 σ H1 Q I1 q1
 | false=>exact ⟨H1,I1,q1⟩
theorem Zbw (ha:PT X a tA)(hb:PW X (.BoolOp .Or (b::rest) pos) tB'):PW X (.BoolOp .Or (a::b::rest) pos) (tOr tA tB'):=by
 intro wh pins s σ H Q I h;refine isTrue_or (thn (ha pins s σ H _ I h) fun c s1 ⟨H1,I1,q1⟩=>?_);cases c with
 | true=>exact ⟨H1,I1,q1⟩
 | false=>exact hb wh pins s1 σ H1 Q I1 q1
theorem ZhZ (ha:PT X a tA):PT X (.UnaryOp .Not a pos) (tNot tA):=by intro pins s σ H Q I h;exact isTrue_not (ha pins s σ H (fun c H1=>Q (!c) H1) I h)
def tAndV (ta tb:TE):TE:=fun σ H Q=>ta σ H fun x H1=>∃ c,x=.bl c∧if c=true then tb σ H1 Q else Q (.bl false) H1
def tOrV (ta tb:TE):TE:=fun σ H Q=>ta σ H fun x H1=>∃ c,x=.bl c∧if c=true then Q (.bl true) H1 else tb σ H1 Q
def tNotV (ta:TE):TE:=fun σ H Q=>ta σ H fun x H1=>∃ c,x=.bl c∧Q (.bl (!c)) H1
theorem ZcI {op}{t:TE}(h:PE X a t):PE X (.BoolOp op [a] pos) t:=fun pins s σ H Q I hw=>BoolOp_one (h pins s σ H Q I hw)
theorem Zee (ha:PE X a ta)(hb:PE X (.BoolOp .And (b::rest) pos) tb):PE X (.BoolOp .And (a::b::rest) pos) (tAndV ta tb):=by
 intro pins s σ H Q I h;refine BoolOp_and (thn (ha pins s σ H _ I h) fun v s1 ⟨x,H1,I1,r1,q1⟩=>?_);obtain ⟨c,rfl,q1⟩:=q1;cases r1;refine wpAny_truthy_bool ?_;cases c with
 | true=>exact hb pins s1 σ H1 Q I1 q1
 | false=>exact ⟨.bl false,H1,I1,rfl,q1⟩
theorem pe_or (ha:PE X a ta)(hb:PE X (.BoolOp .Or (b::rest) pos) tb):PE X (.BoolOp .Or (a::b::rest) pos) (tOrV ta tb):=by
 intro pins s σ H Q I h;refine BoolOp_or (thn (ha pins s σ H _ I h) fun v s1 ⟨x,H1,I1,r1,q1⟩=>?_);obtain ⟨c,rfl,q1⟩:=q1;cases r1;refine wpAny_truthy_bool ?_;cases c with
 | false=>exact hb pins s1 σ H1 Q I1 q1
 | true=>exact ⟨.bl true,H1,I1,rfl,q1⟩
theorem Zib (ha:PE X a ta):PE X (.UnaryOp .Not a pos) (tNotV ta):=by intro pins s σ H Q I h;refine UnaryOp_ (thn (ha pins s σ H _ I h) fun v s1 ⟨x,H1,I1,r1,q1⟩=>?_);obtain ⟨c,rfl,q1⟩:=q1;cases r1;exact not_of (wpAny_truthy_bool ⟨.bl (!c),H1,I1,rfl,q1⟩)
def tIf (t:TT)(ta tb:TE):TE:=fun σ H Q=>t σ H fun c H1=>if c=true then ta σ H1 Q else tb σ H1 Q
theorem ZdJ {c:Expr}(hc:PT X c tA)(ha:PE X a ta)(hb:PE X b tb):PE X (.IfExp c a b pos) (tIf tA ta tb):=by
 intro pins s σ H Q I h;refine wpAny_IfExp (thn (hc pins s σ H _ I h) fun d s1 ⟨H1,I1,q1⟩=>?_);cases d with
 | true=>exact ha pins s1 σ H1 Q I1 q1
 | false=>exact hb pins s1 σ H1 Q I1 q1
end
def SqL (K:PySem.W.Frag) (H:Hp) (a:Addr) (xs:List V):Prop :=
 Rd H a (.lst xs) ∨
   ∃ (o:Obj) (its:Array Value) (n:Nat),K.lookup a=some o∧o.cls=.type "list"∧o.dict=none∧o.data=.seq its n∧its.size≤sizeLine∧Vals xs its.toList
def SqT (K:PySem.W.Frag) (H:Hp) (a:Addr) (xs:List V):Prop :=
 Rd H a (.tup xs) ∨
   ∃ (o:Obj) (its:Array Value) (n:Nat),K.lookup a=some o∧o.cls=.type "tuple"∧o.data=.seq its n∧its.size≤sizeLine∧Vals xs its.toList
def absV:Value→Option V
 | .none=>some .non
 | .bool b=>some (.bl b)
 | .int i _=>some (.int i)
 | .str x _=>some (.str x)
 | .bytes b _=>some (.byt b)
 | .float b _=>some (.flt b)
 | .ref a=>some (.ref a)
 | .type n=>some (.ty n)
 | _=>none
theorem RelV.abs {x:V}{u:Value}(r:RelV x u):absV u=some x:=by
 cases x with
 | non=>cases r;rfl
 | bl _=>cases r;rfl
 | int _=>obtain ⟨t,rfl⟩:=r;rfl
 | str _=>obtain ⟨t,rfl⟩:=r;rfl
 | byt _=>obtain ⟨t,rfl⟩:=r;rfl
 | flt _=>obtain ⟨t,rfl⟩:=r;rfl
 | ref _=>cases r;rfl
 | ty _=>cases r;rfl
theorem RelV.inj {x y:V}{u:Value}(r:RelV x u)(q:RelV y u):x=y:=Option.some.inj (r.abs.symm.trans q.abs)
theorem Vals.inj:∀ {xs ys:List V} {us:List Value},Vals xs us→Vals ys us→xs=ys
 | _,_,_,.nil,.nil=>rfl
 | _,_,_,.cons r t,.cons r' t'=>by rw [r.inj r',Vals.inj t t']
section
variable {X:Cx}{pins:List (Addr × Obj)}{σ:St}{H:Hp}{s:Shared}{a:Addr}{xs ys:List V}
theorem SqL.of {K:PySem.W.Frag}(h:H a=some (.lst xs)):SqL K H a xs:=.inl (.inl h)
theorem Inv.list (I:Inv X pins σ H s)(h:SqL X.K H a xs):∃ its:List Value,Vals xs its∧PlainL s.heap a its.toArray∧xs.length≤sizeLine:=by
 rcases h with h | ⟨o,its,n,hk,hc,hd,hs,hz,r⟩
 · obtain ⟨z,its,n,r,e⟩:=h.ok I.hok
   exact ⟨its,r,⟨_,n,e,rfl,rfl,rfl⟩,z⟩
 · refine ⟨its.toList,r,⟨o,n,I.kIn a o hk,hc,hd,by simpa using hs⟩,?_⟩
   have e:=r.length;simp only [Array.length_toList] at e;omega
theorem Inv.tuple (I:Inv X pins σ H s)(h:SqT X.K H a xs):∃ its:List Value,Vals xs its∧IsTup s.heap a its.toArray∧xs.length≤sizeLine:=by
 rcases h with h | ⟨o,its,n,hk,hc,hs,hz,r⟩
 · obtain ⟨z,its,r,p⟩:=h.ok I.hok
   exact ⟨its,r,p,z⟩
 · refine ⟨its.toList,r,⟨o,I.kIn a o hk,hc,n,by simpa using hs⟩,?_⟩
   have e:=r.length;simp only [Array.length_toList] at e;omega
theorem Inv.list_inj (I:Inv X pins σ H s)(h:SqL X.K H a xs)(h':SqL X.K H a ys):xs=ys:=by
 obtain ⟨its,r,⟨o,n,e,_,_,d⟩,_⟩:=I.list h;obtain ⟨its',r',⟨o',n',e',_,_,d'⟩,_⟩:=I.list h';rw [e] at e';cases e';rw [d] at d';injection d' with d1 _
 have:its=its':=by simpa using congrArg Array.toList d1
 subst this;exact r.inj r'
end
abbrev Cx.wish (X:Cx)(E:Value→Shared→Prop):Cx:={ X with xe:=E }
abbrev Cx.nox (X:Cx):Cx:=X.wish fun _ _=>False
theorem Cx.Ok.wish {X:Cx}(ok:X.Ok)(E:Value→Shared→Prop):(X.wish E).Ok :=
 ⟨ok.mod,ok.kind,ok.glob,ok.blt,ok.above,ok.inj,ok.has,ok.cab,ok.hd,ok.frames,ok.stk,ok.exf,ok.bs,ok.bsz,ok.noex,ok.exfs,ok.funs,ok.frf⟩
theorem Cx.Ok.unwish {X:Cx}{E:Value→Shared→Prop}(ok:(X.wish E).Ok):X.Ok :=
 ⟨ok.mod,ok.kind,ok.glob,ok.blt,ok.above,ok.inj,ok.has,ok.cab,ok.hd,ok.frames,ok.stk,ok.exf,ok.bs,ok.bsz,ok.noex,ok.exfs,ok.funs,ok.frf⟩
section
variable {X:Cx}{pins:List (Addr × Obj)}{σ:St}{H:Hp}{s:Shared}{E:Value→Shared→Prop}
theorem Inv.wish (I:Inv X pins σ H s)(E:Value→Shared→Prop):Inv (X.wish E) pins σ H s:=⟨I.ok.wish E,I.os,I.bare,I.base,I.loc,I.cell,I.free,I.freeC,I.pin,I.hok,I.len⟩
theorem Inv.unwish (I:Inv (X.wish E) pins σ H s):Inv X pins σ H s:=⟨I.ok.unwish,I.os,I.bare,I.base,I.loc,I.cell,I.free,I.freeC,I.pin,I.hok,I.len⟩
theorem SP.unwish {D:Ends}{f:Flow}{s':Shared}(h:SP (X.wish E) pins D f s'):SP X pins D f s':=by
 cases f with
 | next=>obtain ⟨σ',H',I,q⟩:=h;exact ⟨σ',H',I.unwish,q⟩
 | brk=>obtain ⟨σ',H',I,q⟩:=h;exact ⟨σ',H',I.unwish,q⟩
 | cont=>obtain ⟨σ',H',I,q⟩:=h;exact ⟨σ',H',I.unwish,q⟩
 | ret u=>obtain ⟨v,σ',H',I,r,q⟩:=h;exact ⟨v,σ',H',I.unwish,r,q⟩
theorem PSs.nox {st:List Stmt}{t:TS}(h:PSs X.nox st t):PSs X st t:=fun pins s σ H D I hw =>
 wpAny_mono (h pins s σ H D (I.wish _) hw) (fun _ _ q=>q.unwish) fun _ _ z=>False.elim z
end
section
variable {X:Cx}{st:Stmt}{rest:List Stmt}{t u:TS}{e:Expr}{te:TE}{pos:Pos}
def tNext:TS:=fun D σ H=>D.nx σ H
def tSeq (t u:TS):TS:=fun D σ H=>t { D with nx:=u D } σ H
theorem Zap:PSs X [] tNext:=fun _ _ σ H _ I h=>wpAny_execs_nil ⟨σ,H,I,h⟩
theorem Zab (h1:PS X st t)(h2:PSs X rest u):PSs X (st::rest) (tSeq t u):=by
 intro pins s σ H D I h;refine wpAny_execs_cons (thn (h1 pins s σ H { D with nx:=u D } I h) fun f s1 q=>?_);cases f with
 | next =>
   obtain ⟨σ',H',I',q⟩:=q;exact h2 pins s1 σ' H' D I' q
 | ret v=>exact q
 | brk=>exact q
 | cont=>exact q
theorem Zae (h1:PS X st t):PSs X [st] t:=by
 intro pins s σ H D I h;refine wpAny_execs_cons (thn (h1 pins s σ H D I h) fun f s1 q=>?_);cases f with
 | next=>exact wpAny_execs_nil q
 | ret v=>exact q
 | brk=>exact q
 | cont=>exact q
def tBreak:TS:=fun D σ H=>D.bk σ H
def tCont:TS:=fun D σ H=>D.ct σ H
theorem ps_break:PS X (.Break pos) tBreak:=fun _ _ σ H _ I h=>wpAny_Break ⟨σ,H,I,h⟩
theorem ZhQ:PS X (.Continue pos) tCont:=fun _ _ σ H _ I h=>wpAny_Continue ⟨σ,H,I,h⟩
theorem Inv.quiet {pins:List (Addr × Obj)}{σ:St}{H:Hp}{s:Shared}(I:Inv X pins σ H s):interactive X.env=false:=by simp [interactive,I.ok.kind]
def tDrop (te:TE):TS:=fun D σ H=>te σ H fun _ H1=>D.nx σ H1
theorem Zay (he:PE X e te)(hs:swapsWith e none pos.line X.env=pure false:=by rfl):PS X (.Expr e pos) (tDrop te):=by intro pins s σ H D I h;exact wpAny_Expr_any (thn (he pins s σ H _ I h) fun v s1 ⟨x,H1,I1,r1,q1⟩=>⟨σ,H1,I1,q1⟩) I.quiet hs
def tRet (te:TE):TS:=fun D σ H=>te σ H D.rt
theorem Zam (he:PE X e te):PS X (.Return (some e) pos) (tRet te):=by intro pins s σ H D I h;exact wpAny_Return_some (thn (he pins s σ H _ I h) fun v s1 ⟨x,H1,I1,r1,q1⟩=>⟨x,σ,H1,I1,r1,q1⟩)
def tIfS (c:TT)(t u:TS):TS:=fun D σ H=>c σ H fun b H1=>if b=true then t D σ H1 else u D σ H1
theorem Zau {c:Expr}{a b:List Stmt}{tc:TT}(hc:PT X c tc)(ha:PSs X a t)(hb:PSs X b u):PS X (.If c a b pos) (tIfS tc t u):=by
 intro pins s σ H D I h;refine wpAny_If (thn (hc pins s σ H _ I h) fun d s1 ⟨H1,I1,q1⟩=>?_);cases d with
 | true=>exact ha pins s1 σ H1 D I1 q1
 | false=>exact hb pins s1 σ H1 D I1 q1
end
abbrev TG:=V→St→Hp→(St→Hp→Prop)→Prop
abbrev TGs:=List V→St→Hp→(St→Hp→Prop)→Prop
def PG (X:Cx) (target:Expr) (t:TG):Prop :=
 ∀ (pins:List (Addr × Obj)) (s:Shared) (σ:St) (H:Hp) (v:V) (u:Value) (Q:St→Hp→Prop),Inv X pins σ H s→RelV v u→t v σ H Q →
   wpAny (model X.prog X.w) X.A (assign target X.env u) (fun _ s'=>∃ σ' H',Inv X pins σ' H' s'∧Q σ' H') X.xe s
def PGs (X:Cx) (ts:List Expr) (t:TGs):Prop :=
 ∀ (pins:List (Addr × Obj)) (s:Shared) (σ:St) (H:Hp) (vs:List V) (us:List Value) (Q:St→Hp→Prop),Inv X pins σ H s→Vals vs us→t vs σ H Q →
   wpAny (model X.prog X.w) X.A (assignInOrder ((assignEach ts X.env).map (·.2)) us) (fun _ s'=>∃ σ' H',Inv X pins σ' H' s'∧Q σ' H') X.xe s
abbrev TSet:=V→V→V→Hp→(Hp→Prop)→Prop
def PSet (X:Cx) (t:TSet):Prop :=
 ∀ (pins:List (Addr × Obj)) (s:Shared) (σ:St) (H:Hp) (o i v:V) (ov iv u:Value) (Q:Hp→Prop),Inv X pins σ H s→RelV o ov→RelV i iv→RelV v u→t o i v H Q →
   wpAny (model X.prog X.w) X.A (setItem ov iv u) (fun _ s'=>∃ H',Inv X pins σ H' s'∧Q H') X.xe s
section
variable {X:Cx}{pos:Pos}
def gName (i:Nat):TG:=fun v σ H Q=>Q (σ.set i (some v)) H
theorem ZaB {i:Nat}{x:Str}(hN:X.N.Nodup)(hi:X.N[i]?=some x)(hx:Loc X.env.scope x)(hf:X.fn x=true∨X.env.scope.names.lookup x=some .local:=by first | exact .inl rfl | exact .inr rfl | assumption):PG X (.Name x pos) (gName i):=by intro pins s σ H v u Q I r h;exact wpAny_assign_Name (ZdO I hN hi hx r (fun s' I'=>⟨_,H,I',h⟩) hf)
def gNil:TGs:=fun vs σ H Q=>vs=[]∧Q σ H
def gCons (t:TG)(u:TGs):TGs:=fun vs σ H Q=>∃ v r,vs=v::r∧t v σ H fun σ' H'=>u r σ' H' Q
theorem ZjQ:PGs X [] gNil:=by intro pins s σ H vs us Q I r h;obtain ⟨e,h⟩:=h;subst e;cases r;exact assignInOrder_nil ⟨σ,H,I,h⟩
theorem ZdE {e:Expr}{es:List Expr}{t:TG}{u:TGs}(h1:PG X e t)(h2:PGs X es u)
   (hs:(assignEach (e::es) X.env).map (·.2)=assign e X.env::(assignEach es X.env).map (·.2):=by rfl):PGs X (e::es) (gCons t u):=by
 intro pins s σ H vs us Q I r h;obtain ⟨v,vr,e1,h⟩:=h;subst e1;cases r with
 | cons r rr =>
   rw [hs];refine assignInOrder_cons (thn (h1 pins s σ H _ _ _ I r h) fun _ s1 ⟨σ1,H1,I1,q1⟩=>?_);exact h2 pins s1 σ1 H1 _ _ Q I1 rr q1
def gTup (K:PySem.W.Frag)(n:Nat)(t:TGs):TG:=fun v σ H Q=>∃ a xs,v=.ref a∧SqT K H a xs∧xs.length=n∧t xs σ H Q
theorem pg_tup {es:List Expr}{k:Nat}{t:TGs}{n:Nat}(hc:X.calm=true)(h:PGs X es t)
   (hn:(assignEach es X.env).length=n:=by rfl) (hst:(assignEach es X.env).findIdx? (·.1)=none:=by rfl):PG X (.Tuple es k pos) (gTup X.K n t):=by
 intro pins s σ H v u Q I r hw;obtain ⟨a,xs,e1,hq,hl,hw⟩:=hw;subst e1;cases r;obtain ⟨its,rv,ht,hz⟩:=I.tuple hq;refine assign_Tuple_tuple (I.ok.hd hc) ht (by simp [hn,← hl,rv.length]) hst fun h' hx=>?_
 have I1:Inv X pins σ H { s with heap:=h' }:=I.kept (t':=s.toks) fun b o e=>hx b o (Nat.ne_of_lt (Heap.lt_size e)) e
 exact h pins _ σ H xs _ Q I1 (by simpa using rv) hw
def gSub (to ti:TE)(t:TSet):TG:=fun v σ H Q=>to σ H fun o H1=>ti σ H1 fun i H2=>t o i v H2 fun H3=>Q σ H3
theorem pg_sub {o i:Expr}{to ti:TE}{t:TSet}(ho:PE X o to)(hi:PE X i ti)(hs:PSet X t)
   (ha:∀ v,assign (.Subscript o i pos) X.env v=(do
     let ov ← holding [v] (eval o X.env)
     let iv ← holding [v,ov] (eval i X.env)
     standAt pos
     holding [v,ov,iv] (setItem ov iv v)
     release [v,ov,iv] []):=by intro _;rfl):PG X (.Subscript o i pos) (gSub to ti t):=by
 intro pins s σ H v u Q I r h;rw [ha];refine wpAny_bind (wpAny_holding (thn (ho pins s σ H _ I h) fun ov s1 ⟨x,H1,I1,r1,q1⟩=>?_));refine wpAny_bind (wpAny_holding (thn (hi pins s1 σ H1 _ I1 q1) fun iv s2 ⟨y,H2,I2,r2,q2⟩=>?_));refine wpAny_bind (wpAny_standAt (wpAny_bind (wpAny_holding (thn (hs pins s2 σ H2 x y v ov iv u _ I2 r1 r2 r q2) fun _ s3 ⟨H3,I3,q3⟩=>?_))));exact wpAny_release ⟨σ,H3,I3,q3⟩
def tAsg (te:TE)(g:TG):TS:=fun D σ H=>te σ H fun x H1=>g x σ H1 D.nx
theorem ps_asg {tg e:Expr}{te:TE}{g:TG}(he:PE X e te)(hg:PG X tg g)(hs:swapsWithSole [tg] e pos.line X.env=pure false:=by rfl)(hw:swappedStores [tg] e X.env=pure none:=by rfl)
   (h1:(assignEach [tg] X.env).map (·.2)=[assign tg X.env]:=by rfl):PS X (.Assign [tg] e pos) (tAsg te g):=by
 intro pins s σ H D I h;refine wpAny_Assign_stores (thn (he pins s σ H _ I h) fun v s1 ⟨x,H1,I1,r1,q1⟩=>?_) hs hw;rw [h1];exact thn (hg pins s1 σ H1 x v _ I1 r1 q1) fun _ s2 q=>q
theorem Zao {i:Nat}{x:Str}{e:Expr}{te:TE}{pos':Pos}(hN:X.N.Nodup)(hi:X.N[i]?=some x)(hx:Loc X.env.scope x)(he:PE X e te)(hs:swapsWith e (some (.Name x pos')) pos.line X.env=pure false:=by rfl)(hf:X.fn x=true∨X.env.scope.names.lookup x=some .local:=by first | exact .inl rfl | exact .inr rfl | assumption) :
   PS X (.Assign [.Name x pos'] e pos) (tAsg te (gName i)):=by
 intro pins s σ H D I h;refine wpAny_Assign_Name (thn (he pins s σ H _ I h) fun v s1 ⟨y,H1,I1,r1,q1⟩=>?_) hs;exact ZdO I1 hN hi hx r1 (fun s2 I2=>⟨_,H1,I2,q1⟩) hf
end
section
variable {X:Cx}{pos:Pos}
def tWhile (c:TT)(tb:TS):TS:=fun D σ H=>∃ W:Nat→St→Hp→Prop,(∃ m,W m σ H)∧∀ m σ H,W m σ H →
 c σ H fun b H1=>if b=true then ∃ N:St→Hp→Prop,(∀ σ' H',N σ' H'→∃ m',m'<m∧W m' σ' H')∧tb { D with nx:=N,ct:=N,bk:=D.nx } σ H1 else D.nx σ H1
theorem Zdk {c:Expr}{body:List Stmt}{tc:TT}{tb:TS}(hp:PassesOwn (model X.prog X.w) X.A X.env X.xe)(hc:PT X c tc)(hb:PSs X body tb):PS X (.While c body [] pos) (tWhile tc tb):=by
 intro pins s σ H D I h;obtain ⟨W,⟨m0,w0⟩,turn⟩:=h;refine wpAny_While (codeAny_whileLoop (fun n s'=>∃ σ' H',Inv X pins σ' H' s'∧W n σ' H') ?_ m0 ⟨σ,H,I,w0⟩);rintro n s1 ⟨σ1,H1,I1,w1⟩;refine wpAny_passesOwn hp (thn (hc pins s1 σ1 H1 _ I1 (turn n σ1 H1 w1)) fun b s2 ⟨H2,I2,q2⟩=>?_);cases b with
 | true =>
   obtain ⟨N,hN,q2⟩:=q2;rw [if_pos rfl];refine wpAny_passesOwn hp (thn (hb pins s2 σ1 H2 _ I2 q2) fun f s3 q3=>?_);cases f with
   | next =>
     obtain ⟨σ3,H3,I3,n3⟩:=q3;obtain ⟨m',hm,w3⟩:=hN σ3 H3 n3;exact ⟨m',hm,σ3,H3,I3,w3⟩
   | cont =>
     obtain ⟨σ3,H3,I3,n3⟩:=q3;obtain ⟨m',hm,w3⟩:=hN σ3 H3 n3;exact ⟨m',hm,σ3,H3,I3,w3⟩
   | brk=>exact q3
   | ret v=>exact q3
 | false =>
   rw [if_neg Bool.false_ne_true];exact wpAny_execs_nil ⟨σ1,H2,I2,q2⟩
end
structure It where
 go:Nat→Hp→Prop
 yld:Nat→Hp→V→Hp→Prop
 stop:Nat→Hp→Prop
def FpOk (X:Cx)(pins:List (Addr × Obj))(H:Hp)(b:Addr):Prop :=
 H b=none∧b≠X.env.locals∧b∉X.fs∧(b∈X.ex∨X.s₀.heap.objs.size≤b)∧(∀ x c,X.env.cells.lookup x=some c→c≠b)∧∀ p∈X.pn++pins,p.1≠b
theorem Inv.fpOk {X:Cx}{pins:List (Addr × Obj)}{σ:St}{H H':Hp}{s:Shared}{b:Addr}(I:Inv X pins σ H s)(hb:s.heap.objs.size≤b)(hn:H' b=none):FpOk X pins H' b:=by
 refine ⟨hn,Nat.ne_of_gt (Nat.lt_of_lt_of_le I.lt hb),I.nofs hb,.inr (Nat.le_trans I.sz hb),fun x c e z=>?_,fun p hp z=>?_⟩
 · obtain ⟨v,q⟩:=I.cell x c e
   exact absurd (Nat.lt_of_lt_of_le q.lt (by rw [z];exact hb)) (Nat.lt_irrefl _)
 · exact absurd (Nat.lt_of_lt_of_le (Heap.lt_size (I.pin p hp).1) (by rw [z];exact hb)) (Nat.lt_irrefl _)
structure Turn (P:Program)(w:World)(K:PySem.W.Frag)(tg:Expr)(J:It)(fp:List Addr)(it:Addr)(tn:Nat→Heap→Prop):Prop where
 mem:it∈fp
 obj:∀ i h,tn i h→∀ b∈fp,∃ o,h.get? b=some o∧∀ v,o.data≠.cell v
 keep:∀ i h h',tn i h→(∀ b∈fp,∀ o,h.get? b=some o→h'.get? b=some o)→tn i h'
 item:∀ (X:Cx),X.prog=P→X.w=w→X.K=K→X.calm=true→∀ (i:Nat) (pins:List (Addr × Obj)) (s:Shared) (σ:St) (H:Hp) (E:Value→Shared→Prop),Inv X pins σ H s→(∀ b∈fp,FpOk X pins H b)→tn i s.heap→J.go i H →
   wpAny (model P w) X.A (pyNext (.ref it)) (fun r s1=>∃ u,r=some u ∧
     wpAny (model P w) X.A (letOwnedTupleGo tg (.ref it) u) (fun _ s2=>∃ x H',Inv X pins σ H' s2∧RelV x u∧J.yld i H x H'∧tn (i+1) s2.heap∧∀ b∈fp,H' b=none) E s1) E s
 done:∀ (X:Cx),X.prog=P→X.w=w→X.K=K→X.calm=true→∀ (i:Nat) (pins:List (Addr × Obj)) (s:Shared) (σ:St) (H:Hp) (E:Value→Shared→Prop),Inv X pins σ H s→(∀ b∈fp,FpOk X pins H b)→tn i s.heap→J.stop i H →
   wpAny (model P w) X.A (pyNext (.ref it)) (fun r s1=>r=none∧Inv X pins σ H s1) E s
 self:∀ (A:Around) (i:Nat) (s:Shared) (Q:Value→Shared→Prop) (E:Value→Shared→Prop),tn i s.heap→Q (.ref it) s→wpAny (model P w) A (pyIter (.ref it)) Q E s
abbrev TI:=St→Hp→(It→Hp→Prop)→Prop
def PIE (X:Cx)(pins:List (Addr × Obj))(σ:St)(tg:Expr)(R:It→Hp→Prop)(itv:Value)(s2:Shared):Prop :=
 ∃ (it:Addr) (fp:List Addr) (tn:Nat→Heap→Prop) (J:It) (H':Hp),itv=.ref it∧Inv X pins σ H' s2∧Turn X.prog X.w X.K tg J fp it tn∧tn 0 s2.heap∧(∀ b∈fp,FpOk X pins H' b)∧R J H'
def PI (X:Cx) (tg iter:Expr) (wi:TI):Prop :=
 ∀ (pins:List (Addr × Obj)) (s:Shared) (σ:St) (H:Hp) (R:It→Hp→Prop),Inv X pins σ H s→wi σ H R →
   wpAny (model X.prog X.w) X.A (eval iter X.env) (fun v s1=>wpAny (model X.prog X.w) X.A (pyIter v) (PIE X pins σ tg R) X.xe s1) X.xe s
theorem go_of {M:Model} {A:Around} {E:Value→Shared→Prop} {s:Shared} {tg:Expr} {it:Addr} {u:Value} {o:Obj} {n:String} {vs:Array Value} {Q:Unit→Shared→Prop} (ho:s.heap.get? it=some o) (hc:o.cls=.type n) (hd:o.data=.fields vs)
   (hn:["enumerate","zip","dict_itemiterator","dict_reverseitemiterator","odict_iterator","itertools.zip_longest","itertools.pairwise"].contains n=false) (hQ:Q () s):wpAny M A (letOwnedTupleGo tg (.ref it) u) Q E s:=by
 unfold letOwnedTupleGo
 cases tg <;> first
   | exact wpAny_pure hQ
   | (cases u<;>first
       | exact wpAny_pure hQ
       | (refine wpAny_bind (wpAny_load ho ?_)
          rw [hc,hd];show wpAny M A (if (["enumerate","zip","dict_itemiterator","dict_reverseitemiterator","odict_iterator","itertools.zip_longest","itertools.pairwise"].contains n&&vs[0]?==some (rawInt _))=true then _ else _) Q E s;rw [if_neg (by intro h;rw [hn,Bool.false_and] at h;cases h)];exact wpAny_pure hQ))
def Itl (K:PySem.W.Frag)(a:Addr):It :=
 ⟨fun i H=>∃ xs x,SqL K H a xs∧xs[i]?=some x,fun i H x H'=>H'=H∧∀ xs,SqL K H a xs→xs[i]?=some x,fun i H=>∃ xs,SqL K H a xs∧xs.length≤i⟩
def Itr (lo:Int)(n:Nat):It:=⟨fun i _=>i<n,fun i H x H'=>H'=H∧x=.int (lo+i),fun i _=>n≤i⟩
theorem ZkA {P:Program}{w:World}{K:PySem.W.Frag}{tg:Expr}(a it:Addr):Turn P w K tg (Itl K a) [it] it (fun i h=>h.IsListIter it a i) where
 mem:=by simp
 obj:=fun i h st b hb=>by
   have e:b=it:=by simpa using hb
   subst e;obtain ⟨o,e,c,d⟩:=st;exact ⟨o,e,fun v z=>by rw [d] at z;cases z⟩
 keep:=fun i h h' st k=>st.at fun o e=>k it (by simp) o e
 item:=by
   intro X hP hw hK hc i pins s σ H E I hf st hg;subst hP hw hK;obtain ⟨xs,x,hq,hx⟩:=hg;obtain ⟨its,rv,p,hz⟩:=I.list hq;obtain ⟨u,hu,ru⟩:=rv.get hx;obtain ⟨f0,f1,f2,f3,f4,f5⟩:=hf it (by simp);refine wpAny_pyNext_list_item st p.isList (x:=u) (by simpa using hu) fun h' st' sb=>?_
   have I1:Inv X pins σ H { s with heap:=h' }:=I.turned (t':=s.toks) (fun b o hb e=>(sb.2 b hb).trans e) f0 f1 f3 f4 f5;obtain ⟨o,e,c,d⟩:=id st';exact ⟨u,rfl,go_of (s:={ s with heap:=h' }) e c d (by decide) ⟨x,H,I1,ru,⟨rfl,fun ys hy=>by rw [I.list_inj hy hq];exact hx⟩,st',fun b hb=>(hf b hb).1⟩⟩
 done:=by intro X hP hw hK hc i pins s σ H E I hf st hg;subst hP hw hK;obtain ⟨xs,hq,hx⟩:=hg;obtain ⟨its,rv,p,hz⟩:=I.list hq;obtain ⟨f0,f1,f2,f3,f4,f5⟩:=hf it (by simp);have hl:=rv.length;exact wpAny_pyNext_list_end (I.ok.hd hc) st p.isList (by simp;omega) fun h' eb=>⟨rfl,I.turned (t':=s.toks) (fun b o hb e=>eb b o hb e) f0 f1 f3 f4 f5⟩
 self:=fun _ _ _ _ _ st h=>wpAny_pyIter_listiter st h
theorem ZiB {P:Program}{w:World}{K:PySem.W.Frag}{tg:Expr}(it:Addr)(lo:Int)(n:Nat):Turn P w K tg (Itr lo n) [it] it (fun i h=>IsRangeIter h it (lo+(i:Nat)*1) ((n:Int)-(i:Nat)) 1) where
 mem:=by simp
 obj := fun i h st b hb=>by
   have e:b=it:=by simpa using hb
   subst e;exact ⟨_,st,fun v z=>by
     have z':Data.fields _=Data.cell v:=z;cases z'⟩
 keep:=fun i h h' st k=>k it (by simp) _ st
 item:=by
   intro X hP hw hK hc i pins s σ H E I hf st hg;subst hP hw hK;obtain ⟨f0,f1,f2,f3,f4,f5⟩:=hf it (by simp);have W:=Walks.range (prog:=X.prog) (w:=X.w) (I.ok.hd hc) it lo 1 n;refine W.item i s _ _ hg st fun v h' tk hv st' kk=>?_
   obtain ⟨t,rfl⟩:=hv;have I1:Inv X pins σ H { s with heap:=h',toks:=tk }:=I.turned (fun b o hb e=>kk b o (by simpa using hb) e) f0 f1 f3 f4 f5;refine ⟨_,rfl,go_of (s:={ s with heap:=h',toks:=tk }) (n:="range_iterator") st' rfl rfl (by decide) ⟨.int (lo+i),H,I1,⟨t,?_⟩,⟨rfl,rfl⟩,st',fun b hb=>(hf b hb).1⟩⟩;rw [Int.mul_one]
 done:=by intro X hP hw hK hc i pins s σ H E I hf st hg;subst hP hw hK;obtain ⟨f0,f1,f2,f3,f4,f5⟩:=hf it (by simp);exact wpAny_pyNext_range_end (I.ok.hd hc) st (by have:n≤i:=hg;omega) fun h' eb=>⟨rfl,I.turned (t':=s.toks) (fun b o hb e=>eb b o hb e) f0 f1 f3 f4 f5⟩
 self:=fun _ _ _ _ _ st h=>wpAny_pyIter_rangeiter st h
section
variable {X:Cx}{tg:Expr}
def iList (K:PySem.W.Frag)(tl:TE):TI:=fun σ H R=>tl σ H fun x H1=>∃ a,x=.ref a∧(∃ xs,SqL K H1 a xs)∧R (Itl K a) H1
theorem pi_list {l:Expr}{tl:TE}(hl:PE X l tl):PI X tg l (iList X.K tl):=by
 intro pins s σ H R I h;refine thn (hl pins s σ H _ I h) fun v s1 ⟨x,H1,I1,r1,q1⟩=>?_
 obtain ⟨a,e,⟨xs,hq⟩,q⟩:=q1;subst e;cases r1;obtain ⟨its,rv,p,hz⟩:=I1.list hq;refine wpAny_pyIter_list p.isList ?_;refine ⟨s1.heap.objs.size,[s1.heap.objs.size],_,_,H1,rfl,I1.kept (t':=s1.toks) fun b o e=>Heap.get?_push_of_some _ e,ZkA a _,⟨_,Heap.get?_push_size _ rfl,rfl,rfl⟩,fun b hb=>?_,q⟩;have e:b=s1.heap.objs.size:=by simpa using hb
 subst e;exact I1.fpOk (Nat.le_refl _) (I1.hok.fresh (Nat.le_refl _))
theorem range_it {pins:List (Addr × Obj)}{σ:St}{H:Hp}{s:Shared}{R:It→Hp→Prop}{E:Value→Shared→Prop}{lo hi:Int}{t u v:Tok}{tk:Nat}(I:Inv X pins σ H s)(h1:-(2^62)≤lo)(h2:lo<2^62)(h3:-(2^62)≤hi)(h4:hi<2^62)
   (q:R (Itr lo (hi-lo).toNat) H):wpAny (model X.prog X.w) X.A (pyIter (.ref s.heap.objs.size)) (PIE X pins σ tg R) E { s with heap:=s.heap.push { cls:=.type "range",data:=.fields #[.int lo t,.int hi u,.int 1 v] },toks:=tk }:=by
 refine wpAny_pyIter_range (IsRange.new ..) (small_one h1 h2 h3 h4) ?_;have I1:Inv X pins σ H { s with heap:=s.heap.push { cls:=.type "range",data:=.fields #[.int lo t,.int hi u,.int 1 v] },toks:=tk }:=I.kept fun b o e=>Heap.get?_push_of_some _ e
 refine ⟨(s.heap.push { cls:=.type "range",data:=.fields #[.int lo t,.int hi u,.int 1 v] }).objs.size,[(s.heap.push { cls:=.type "range",data:=.fields #[.int lo t,.int hi u,.int 1 v] }).objs.size],_,_,H,rfl,
   I1.kept (t':=tk) fun b o e=>Heap.get?_push_of_some _ e,ZiB _ lo (hi-lo).toNat,?_,fun b hb=>?_,q⟩
 · have e1:lo+((0:Nat):Int)*1=lo:=by simp
   have e2:(((hi-lo).toNat:Nat):Int)-((0:Nat):Int)=Builtin.Range.rangeSize lo hi 1:=by rw [rangeSize_one];split<;>omega
   show IsRangeIter _ _ (lo+((0:Nat):Int)*1) ((((hi-lo).toNat:Nat):Int)-((0:Nat):Int)) 1;rw [e1,e2];exact Heap.get?_push_size _ rfl
 · have e:b=(s.heap.push { cls:=.type "range",data:=.fields #[.int lo t,.int hi u,.int 1 v] }).objs.size:=by simpa using hb
   subst e;exact I1.fpOk (Nat.le_refl _) (I1.hok.fresh (Nat.le_refl _))
def iRng1 (ta:TA):TI:=fun σ H R=>ta σ H fun vs H1=>∃ j:Int,vs=[.int j]∧-(2^62)≤j∧j<2^62∧R (Itr 0 j.toNat) H1
theorem Zbm {a:Expr}{ta:TA}{p pos:Pos}(hg:Gl X "range")(hm:X.mg "range"=none)(ha:PA X [a] ta)(hs:starEach [a] X.env=[(false,eval a X.env)]:=by rfl):PI X tg (.Call (.Name "range" p) [a] [] pos) (iRng1 ta):=by
 intro pins s σ H R I h;refine Call_ (Zea I hg hm boot_range (PyProof.Rows.callWith_type1 (thn (ha pos pins s σ H _ I h) fun us s1 ⟨vs,H1,I1,r1,q1⟩=>?_) hs rfl));obtain ⟨j,e,q1,q2,q⟩:=q1;subst e;cases r1 with
 | cons r rr =>
   cases rr;obtain ⟨t,rfl⟩:=r;exact call_range_1 (range_it I1 (by omega) (by omega) q1 q2 (by simpa using q))
def tFor (wi:TI)(g:TG)(tb:TS):TS:=fun D σ H=>wi σ H fun J H1=>∃ W:Nat→Nat→St→Hp→Prop,(∃ m,W 0 m σ H1)∧∀ i m σ H,W i m σ H →
 (J.stop i H∧D.nx σ H)∨(J.go i H∧∃ N:St→Hp→Prop,(∀ σ' H',N σ' H'→∃ m',m'<m∧W (i+1) m' σ' H')∧∀ x H',J.yld i H x H'→g x σ H' fun σ2 H2=>tb { D with nx:=N,ct:=N,bk:=D.nx } σ2 H2)
def pinsAt (fp:List Addr)(h:Heap):List (Addr × Obj):=fp.filterMap fun b=>(h.get? b).map fun o=>(b,o)
theorem Zde {fp:List Addr}{h:Heap}{b:Addr}{o:Obj}(hb:b∈fp)(e:h.get? b=some o):(b,o)∈pinsAt fp h:=List.mem_filterMap.mpr ⟨b,hb,by rw [e];rfl⟩
theorem ZkD {fp:List Addr}{h:Heap}{p:Addr × Obj}(hp:p∈pinsAt fp h):p.1∈fp∧h.get? p.1=some p.2:=by
 obtain ⟨b,hb,e⟩:=List.mem_filterMap.mp hp;cases q:h.get? b with
 | none=>rw [q] at e;cases e
 | some o =>
   rw [q] at e;have e':(b,o)=p:=Option.some.inj e;subst e';exact ⟨hb,q⟩
theorem Inv.pinned {pins:List (Addr × Obj)}{σ:St}{H:Hp}{s:Shared}{fp:List Addr}(I:Inv X pins σ H s)(hf:∀ b∈fp,FpOk X pins H b)(ho:∀ b∈fp,∃ o,s.heap.get? b=some o∧∀ v,o.data≠.cell v):Inv X (pins++pinsAt fp s.heap) σ H s :=
 I.pins_of fun p hp=>(List.mem_append.mp hp).elim (fun z=>I.pin p (List.mem_append_right _ z)) fun z=>by
   obtain ⟨hb,e⟩:=ZkD z;obtain ⟨f0,f1,f2,_⟩:=hf p.1 hb;obtain ⟨o,e',d⟩:=ho p.1 hb;rw [e] at e';cases e';exact ⟨e,f0,f1,f2,d⟩
theorem Inv.unpinned {pins pl:List (Addr × Obj)}{σ:St}{H:Hp}{s:Shared}(I:Inv X (pins++pl) σ H s):Inv X pins σ H s:=I.pins_of fun p hp=>I.pin p (List.mem_append_right _ (List.mem_append_left _ hp))
theorem Zbs {iter:Expr}{body:List Stmt}{wi:TI}{g:TG}{tb:TS}{pos:Pos}(hp:PassesOwn (model X.prog X.w) X.A X.env X.xe)(hc:X.calm=true)(hi:PI X tg iter wi)(hg:PG X tg g)(hb:PSs X body tb)
   (hs:∀ x,foldedSetIterable iter X.env x=pure x:=by intro _;rfl):PS X (.For tg iter body [] pos) (tFor wi g tb):=by
 intro pins s σ H D I h;refine wpAny_For (thn (hi pins s σ H _ I h) fun v s1 h1=>thn h1 fun itv s2 h2=>?_) hs;obtain ⟨it,fp,tn,J,H2,e,I2,T,st2,f2,W,⟨m0,w0⟩,turn⟩:=h2;subst e;have stat:∀ {H':Hp},(∀ b∈fp,H' b=none)→∀ b∈fp,FpOk X pins H' b:=fun hn b hb=>⟨hn b hb,(f2 b hb).2⟩
 refine codeAny_forLoop_any (fun n s'=>∃ i σ' H',Inv X pins σ' H' s'∧tn i s'.heap∧(∀ b∈fp,H' b=none)∧W i n σ' H') ?_ m0 ⟨0,σ,H2,I2,st2,fun b hb=>(f2 b hb).1,w0⟩;rintro n s3 ⟨i,σ3,H3,I3,st3,fr3,w3⟩;rcases turn i n σ3 H3 w3 with ⟨stop,qn⟩ | ⟨go,N,hN,step⟩
 · refine wpAny_passesOwn hp (thn (T.done X rfl rfl rfl hc i pins s3 σ3 H3 X.xe I3 (stat fr3) st3 stop) fun r s4 ⟨hr,I4⟩=>?_)
   subst hr;exact wpAny_execs_nil ⟨σ3,H3,I4,qn⟩
 · refine wpAny_passesOwn hp (thn (T.item X rfl rfl rfl hc i pins s3 σ3 H3 X.xe I3 (stat fr3) st3 go) fun r s4 ⟨u,hr,h4⟩=>?_)
   subst hr;refine wpAny_passesOwn hp (thn h4 fun _ s5 ⟨x,H5,I5,r5,y5,st5,fr5⟩=>?_);have I5':=I5.pinned (stat fr5) (T.obj _ _ st5);refine wpAny_passesOwn hp (thn (hg _ s5 σ3 H5 x u _ I5' r5 (step x H5 y5)) fun _ s6 ⟨σ6,H6,I6,q6⟩=>?_);refine wpAny_passesOwn hp (thn (hb _ s6 σ6 H6 _ I6 q6) fun f s7 q7=>?_);have again:∀ {σ7:St} {H7:Hp},Inv X (pins++pinsAt fp s5.heap) σ7 H7 s7→N σ7 H7→∃ m,m<n∧∃ i σ' H',Inv X pins σ' H' s7∧tn i s7.heap∧(∀ b∈fp,H' b=none)∧W i m σ' H':=fun {σ7 H7} I7 n7=>by
     obtain ⟨m',hm,w7⟩:=hN σ7 H7 n7;refine ⟨m',hm,i+1,σ7,H7,I7.unpinned,T.keep _ _ _ st5 fun b hb o e=>(I7.pin (b,o) (List.mem_append_right _ (List.mem_append_right _ (Zde hb e)))).1,fun b hb=>?_,w7⟩;obtain ⟨o,e,d⟩:=T.obj _ _ st5 b hb;exact (I7.pin (b,o) (List.mem_append_right _ (List.mem_append_right _ (Zde hb e)))).2.1
   cases f with
   | next=>obtain ⟨σ7,H7,I7,n7⟩:=q7;exact again I7 n7
   | cont=>obtain ⟨σ7,H7,I7,n7⟩:=q7;exact again I7 n7
   | brk=>obtain ⟨σ7,H7,I7,q7⟩:=q7;exact ⟨σ7,H7,I7.unpinned,q7⟩
   | ret v=>obtain ⟨x7,σ7,H7,I7,r7,q7⟩:=q7;exact ⟨x7,σ7,H7,I7.unpinned,r7,q7⟩
end
theorem for_list {K:PySem.W.Frag}{a:Addr}{xs:List V}{g:TG}{tb:TS}{D:Ends}{σ:St}{H:Hp}(Pv:Nat→St→Hp→Prop)(h0:Pv 0 σ H)(hl:∀ i σ H,i≤xs.length→Pv i σ H→SqL K H a xs)
   (hs:∀ i x σ H,xs[i]?=some x→Pv i σ H→g x σ H fun σ2 H2=>tb { D with nx:=Pv (i+1),ct:=Pv (i+1),bk:=D.nx } σ2 H2) (hd:∀ σ H,Pv xs.length σ H→D.nx σ H) :
   ∃ W:Nat→Nat→St→Hp→Prop,(∃ m,W 0 m σ H)∧∀ i m σ H,W i m σ H →
     ((Itl K a).stop i H∧D.nx σ H)∨((Itl K a).go i H∧∃ N:St→Hp→Prop,(∀ σ' H',N σ' H'→∃ m',m'<m∧W (i+1) m' σ' H')∧∀ x H',(Itl K a).yld i H x H'→g x σ H' fun σ2 H2=>tb { D with nx:=N,ct:=N,bk:=D.nx } σ2 H2):=by
 refine ⟨fun i m σ H=>m=xs.length-i∧i≤xs.length∧Pv i σ H,⟨xs.length,by simp,Nat.zero_le _,h0⟩,?_⟩;rintro i m σ H ⟨rfl,hi,p⟩;have q:=hl i σ H hi p;by_cases hlt:i<xs.length
 · refine .inr ⟨⟨xs,xs[i],q,by simp [hlt]⟩,Pv (i+1),fun σ' H' p'=>⟨xs.length-(i+1),by omega,rfl,hlt,p'⟩,fun x H' y=>?_⟩
   obtain ⟨e,y⟩:=y;subst e;exact hs i x σ _ (y xs q) p
 · have e:i=xs.length:=by omega
   subst e;exact .inl ⟨⟨xs,q,Nat.le_refl _⟩,hd σ H p⟩
theorem Zks {lo:Int}{n:Nat}{g:TG}{tb:TS}{D:Ends}{σ:St}{H:Hp}(Pv:Nat→St→Hp→Prop)(h0:Pv 0 σ H)
   (hs:∀ i σ H,i<n→Pv i σ H→g (.int (lo+i)) σ H fun σ2 H2=>tb { D with nx:=Pv (i+1),ct:=Pv (i+1),bk:=D.nx } σ2 H2) (hd:∀ σ H,Pv n σ H→D.nx σ H) :
   ∃ W:Nat→Nat→St→Hp→Prop,(∃ m,W 0 m σ H)∧∀ i m σ H,W i m σ H →
     ((Itr lo n).stop i H∧D.nx σ H)∨((Itr lo n).go i H∧∃ N:St→Hp→Prop,(∀ σ' H',N σ' H'→∃ m',m'<m∧W (i+1) m' σ' H')∧∀ x H',(Itr lo n).yld i H x H'→g x σ H' fun σ2 H2=>tb { D with nx:=N,ct:=N,bk:=D.nx } σ2 H2):=by
 refine ⟨fun i m σ H=>m=n-i∧i≤n∧Pv i σ H,⟨n,by simp,Nat.zero_le _,h0⟩,?_⟩;rintro i m σ H ⟨rfl,hi,p⟩;by_cases hlt:i<n
 · refine .inr ⟨hlt,Pv (i+1),fun σ' H' p'=>⟨n-(i+1),by omega,rfl,hlt,p'⟩,fun x H' y=>?_⟩
   obtain ⟨e,y⟩:=y;subst e y;exact hs i σ _ hlt p
 · have e:i=n:=by omega
   subst e;exact .inl ⟨Nat.le_refl _,hd σ H p⟩
abbrev R2:=V→V→Hp→VK→Prop
def OpR (X:Cx) (f:Value→Value→Sem Value) (r:R2):Prop :=
 ∀ (pins:List (Addr × Obj)) (s:Shared) (σ:St) (H:Hp) (x y:V) (v u:Value) (Q:VK),Inv X pins σ H s→RelV x v→RelV y u→r x y H Q →
   wpAny (model X.prog X.w) X.A (f v u) (EP X pins σ Q) X.xe s
def UnR (X:Cx) (f:Value→Sem Value) (r:V→Hp→VK→Prop):Prop :=
 ∀ (pins:List (Addr × Obj)) (s:Shared) (σ:St) (H:Hp) (x:V) (v:Value) (Q:VK),Inv X pins σ H s→RelV x v→r x H Q →
   wpAny (model X.prog X.w) X.A (f v) (EP X pins σ Q) X.xe s
def CallR (X:Cx) (f:Value) (r:List V→Hp→VK→Prop):Prop :=
 ∀ (pins:List (Addr × Obj)) (s:Shared) (σ:St) (H:Hp) (xs:List V) (us:List Value) (Q:VK),Inv X pins σ H s→Vals xs us→r xs H Q →
   wpAny (model X.prog X.w) X.A (call f us) (EP X pins σ Q) X.xe s
def tOp (r:R2)(ta tb:TE):TE:=fun σ H Q=>ta σ H fun x H1=>tb σ H1 fun y H2=>r x y H2 Q
def tUn (r:V→Hp→VK→Prop)(ta:TE):TE:=fun σ H Q=>ta σ H fun x H1=>r x H1 Q
def rI (C:Int→Int→Prop)(g:Int→Int→V):R2:=fun x y H Q=>∃ i j,x=.int i∧y=.int j∧C i j∧Q (g i j) H
def rI0 (g:Int→Int→V):R2:=fun x y H Q=>∃ i j,x=.int i∧y=.int j∧Q (g i j) H
def rU (g:Int→V):V→Hp→VK→Prop:=fun x H Q=>∃ i,x=.int i∧Q (g i) H
section
variable {X:Cx}{a b c:Expr}{ta tb tc:TE}{pos:Pos}
theorem binT (ha:PE X a ta)(hb:PE X b tb){pins:List (Addr × Obj)}{s:Shared}{σ:St}{H:Hp}{R:V→V→Hp→Prop}(I:Inv X pins σ H s)
   (h:ta σ H fun x H1=>tb σ H1 fun y H2=>R x y H2) {Q:Value→Shared→Prop} {f:Value→Value→Sem Value}
   (hf:∀ v u s2 x y H2,Inv X pins σ H2 s2→RelV x v→RelV y u→R x y H2→wpAny (model X.prog X.w) X.A (f v u) Q X.xe s2) :
   wpAny (model X.prog X.w) X.A (eval a X.env) (fun v s₁=>wpAny (model X.prog X.w) X.A (eval b X.env) (fun u s₂=>wpAny (model X.prog X.w) X.A (f v u) Q X.xe s₂) X.xe s₁) X.xe s:=by
 refine thn (ha pins s σ H _ I h) fun v s1 ⟨x,H1,I1,r1,q1⟩=>?_
 refine thn (hb pins s1 σ H1 _ I1 q1) fun u s2 ⟨y,H2,I2,r2,q2⟩=>?_
 exact hf v u s2 x y H2 I2 r1 r2 q2
theorem Zar {op:Operator}{r:R2}(ho:OpR X (binaryOp op) r)(ha:PE X a ta)(hb:PE X b tb):PE X (.BinOp a op b pos) (tOp r ta tb):=by intro pins s σ H Q I h;exact wpAny_BinOp (binT ha hb I h fun v u s2 x y H2 I2 rx ry q=>ho pins s2 σ H2 x y v u Q I2 rx ry q)
theorem ZdA {op:UnaryOp}{r:V→Hp→VK→Prop}(ho:UnR X (unaryOp op) r)(ha:PE X a ta):PE X (.UnaryOp op a pos) (tUn r ta):=by intro pins s σ H Q I h;exact UnaryOp_ (thn (ha pins s σ H _ I h) fun v s1 ⟨x,H1,I1,r1,q1⟩=>ho pins s1 σ H1 x v Q I1 r1 q1)
theorem opI {f:Value→Value→Sem Value}{C:Int→Int→Prop}{g:Int→Int→Int}
   (rule:∀ (i j:Int) (t u:Tok) (s:Shared) (Q:Value→Shared→Prop) (E:Value→Shared→Prop),C i j→Q (.int (g i j) s.toks) { s with toks:=s.toks+1 }→wpAny (model X.prog X.w) X.A (f (.int i t) (.int j u)) Q E s) :
   OpR X f (rI C fun i j=>.int (g i j)):=by
 intro pins s σ H x y v u Q I rx ry h;obtain ⟨i,j,rfl,rfl,hc,q⟩:=h;obtain ⟨t,rfl⟩:=rx;obtain ⟨t',rfl⟩:=ry;exact rule i j t t' s _ _ hc ⟨.int (g i j),H,I.tok _,⟨_,rfl⟩,q⟩
theorem opI0 {f:Value→Value→Sem Value}{g:Int→Int→Int}
   (rule:∀ (i j:Int) (t u:Tok) (s:Shared) (Q:Value→Shared→Prop) (E:Value→Shared→Prop),Q (.int (g i j) s.toks) { s with toks:=s.toks+1 }→wpAny (model X.prog X.w) X.A (f (.int i t) (.int j u)) Q E s) :
   OpR X f (rI0 fun i j=>.int (g i j)):=by
 intro pins s σ H x y v u Q I rx ry h;obtain ⟨i,j,rfl,rfl,q⟩:=h;obtain ⟨t,rfl⟩:=rx;obtain ⟨t',rfl⟩:=ry;exact rule i j t t' s _ _ ⟨.int (g i j),H,I.tok _,⟨_,rfl⟩,q⟩
theorem opB0 {f:Value→Value→Sem Value}{g:Int→Int→Bool}
   (rule:∀ (i j:Int) (t u:Tok) (s:Shared) (Q:Value→Shared→Prop) (E:Value→Shared→Prop),Q (.bool (g i j)) s→wpAny (model X.prog X.w) X.A (f (.int i t) (.int j u)) Q E s) :
   OpR X f (rI0 fun i j=>.bl (g i j)):=by
 intro pins s σ H x y v u Q I rx ry h;obtain ⟨i,j,rfl,rfl,q⟩:=h;obtain ⟨t,rfl⟩:=rx;obtain ⟨t',rfl⟩:=ry;exact rule i j t t' s _ _ ⟨.bl (g i j),H,I,rfl,q⟩
def CDiv (i j:Int):Prop:=0<j∧j<1073741824
def CPow (i j:Int):Prop:=0≤j∧j≤1000000∧i.natAbs<2^64
def CMul (i j:Int):Prop:=(-(2^64)<i∧i<2^64)∨(-(2^64)<j∧j<2^64)
theorem CMul.ok {i j:Int}(h:CMul i j):IntMulOk i j:=by
 rcases h with ⟨h1,h2⟩ | ⟨h1,h2⟩
 · exact .of_left (intBits_le_64 h1 h2)
 · exact .of_right (intBits_le_64 h1 h2)
theorem ZaR:OpR X (binaryOp .Add) (rI0 fun i j=>.int (i+j)):=opI0 fun _ _ _ _ _ _ _ q=>add_int q
theorem Zgn:OpR X (binaryOp .Sub) (rI0 fun i j=>.int (i-j)):=opI0 fun _ _ _ _ _ _ _ q=>sub_int q
theorem Zen:OpR X (binaryOp .Mult) (rI CMul fun i j=>.int (i*j)):=opI fun _ _ _ _ _ _ _ hc q=>mul_int q hc.ok
theorem ZcR:OpR X (binaryOp .FloorDiv) (rI CDiv fun i j=>.int (i/j)):=opI fun i j _ _ _ _ _ hc q=>by
 have h1:(0:Int)<j:=hc.1;have h2:j<1073741824:=hc.2;exact floordiv_int (by omega) (by rw [Int.fdiv_eq_ediv_of_nonneg i (by omega)];exact q) (.inl (PyProof.noPylong_small (by omega)))
theorem ZaP:OpR X (binaryOp .Mod) (rI (fun _ j=>0<j) fun i j=>.int (i%j)):=opI fun i j _ _ _ _ _ hc q=>by
 have h1:(0:Int)<j:=hc;exact mod_int' (by omega) (by rw [Int.fmod_eq_emod_of_nonneg i (by omega)];exact q)
theorem op_pow:OpR X (binaryOp .Pow) (rI CPow fun i j=>.int (i^j.toNat)):=opI fun _ _ _ _ _ _ _ hc q=>pow_int_small hc.1 hc.2.1 hc.2.2 q
theorem unI {f:Value→Sem Value}{g:Int→Int}
   (rule:∀ (i:Int) (t:Tok) (s:Shared) (Q:Value→Shared→Prop) (E:Value→Shared→Prop),Q (.int (g i) s.toks) { s with toks:=s.toks+1 }→wpAny (model X.prog X.w) X.A (f (.int i t)) Q E s) :
   UnR X f (rU fun i=>.int (g i)):=by
 intro pins s σ H x v Q I rx h;obtain ⟨i,rfl,q⟩:=h;obtain ⟨t,rfl⟩:=rx;exact rule i t s _ _ ⟨.int (g i),H,I.tok _,⟨_,rfl⟩,q⟩
theorem Zcd:UnR X (unaryOp .USub) (rU fun i=>.int (-i)):=unI fun _ _ _ _ _ q=>neg_int q
end
def scal:V→V→Bool
 | .non,.non=>true | .non,.int _=>true | .int _,.non=>true | .non,.bl _=>true | .bl _,.non=>true | .non,.str _=>true | .str _,.non=>true
 | .int _,.int _=>true | .bl _,.bl _=>true | .str _,.str _=>true | .byt _,.byt _=>true
 | .int _,.str _=>true | .str _,.int _=>true | .bl _,.str _=>true | .str _,.bl _=>true
 | _,_=>false
def rEq:R2:=fun x y H Q=>scal x y=true∧Q (.bl (decide (x=y))) H
def rNe:R2:=fun x y H Q=>scal x y=true∧Q (.bl (!decide (x=y))) H
theorem ZiZ {i j:Int}:decide (V.int i=V.int j)=(i==j):=by rw [Bool.eq_iff_iff];simp
theorem dec_bl {i j:Bool}:decide (V.bl i=V.bl j)=(i==j):=by rw [Bool.eq_iff_iff];simp
theorem Zjy {i j:Str}:decide (V.str i=V.str j)=(i==j):=by rw [Bool.eq_iff_iff];simp
theorem ZiI {i j:Array UInt8}:decide (V.byt i=V.byt j)=(i.toList==j.toList):=by rw [Bool.eq_iff_iff];cases i;cases j;simp
section
variable {X:Cx}{a b c:Expr}{ta tb tc:TE}{pos:Pos}
theorem ZaF {pins:List (Addr × Obj)}{σ:St}{H:Hp}{s:Shared}{Q:VK}{k k':Bool}(I:Inv X pins σ H s)(q:Q (.bl k) H)(e:k=k'):EP X pins σ Q (.bool k') s:=by subst e;exact ⟨.bl k,H,I,rfl,q⟩
theorem Zat:OpR X (compareOp .Eq) rEq:=by
 intro pins s σ H x y v u Q I rx ry h;obtain ⟨hs,q⟩:=h;cases x with
 | non =>
   cases rx;cases y with
   | non=>cases ry;exact PySem.EqNone.eq_none_none (ZaF I q (by simp))
   | bl j=>cases ry;exact PySem.EqNone.eq_none_bool (ZaF I q (by simp))
   | int j=>obtain ⟨t',rfl⟩:=ry;exact PySem.EqNone.eq_none_int (ZaF I q (by simp))
   | str j=>obtain ⟨t',rfl⟩:=ry;exact PySem.EqNone.eq_none_str (ZaF I q (by simp))
   | _=>exact absurd (show false=true from hs) Bool.false_ne_true
 | bl i =>
   cases rx;cases y with
   | non=>cases ry;exact PySem.EqNone.eq_bool_none (ZaF I q (by simp))
   | bl j=>cases ry;exact eq_bool (ZaF I q dec_bl)
   | str j=>obtain ⟨t',rfl⟩:=ry;exact PySem.EqMixed.eq_bool_str (ZaF I q (by simp))
   | _=>exact absurd (show false=true from hs) Bool.false_ne_true
 | int i =>
   obtain ⟨t,rfl⟩:=rx;cases y with
   | non=>cases ry;exact PySem.EqNone.eq_int_none (ZaF I q (by simp))
   | int j=>obtain ⟨t',rfl⟩:=ry;exact eq_int (ZaF I q ZiZ)
   | str j=>obtain ⟨t',rfl⟩:=ry;exact PySem.EqMixed.eq_int_str (ZaF I q (by simp))
   | _=>exact absurd (show false=true from hs) Bool.false_ne_true
 | str i =>
   obtain ⟨t,rfl⟩:=rx;cases y with
   | non=>cases ry;exact PySem.EqNone.eq_str_none (ZaF I q (by simp))
   | bl j=>cases ry;exact PySem.EqMixed.eq_str_bool (ZaF I q (by simp))
   | int j=>obtain ⟨t',rfl⟩:=ry;exact PySem.EqMixed.eq_str_int (ZaF I q (by simp))
   | str j=>obtain ⟨t',rfl⟩:=ry;exact eq_str (ZaF I q Zjy)
   | _=>exact absurd (show false=true from hs) Bool.false_ne_true
 | byt i =>
   obtain ⟨t,rfl⟩:=rx;cases y with
   | byt j=>obtain ⟨t',rfl⟩:=ry;exact PySem.W.eq_bytes (ZaF I q ZiI)
   | _=>exact absurd (show false=true from hs) Bool.false_ne_true
 | _=>cases y<;>exact absurd (show false=true from hs) Bool.false_ne_true
theorem ZcM:OpR X (compareOp .NotEq) rNe:=by
 intro pins s σ H x y v u Q I rx ry h;obtain ⟨hs,q⟩:=h;cases x with
 | non =>
   cases rx;cases y with
   | non=>cases ry;exact PySem.EqNone.ne_none_none (ZaF I q (by simp))
   | bl j=>cases ry;exact PySem.EqNone.ne_none_bool (ZaF I q (by simp))
   | int j=>obtain ⟨t',rfl⟩:=ry;exact PySem.EqNone.ne_none_int (ZaF I q (by simp))
   | str j=>obtain ⟨t',rfl⟩:=ry;exact PySem.EqNone.ne_none_str (ZaF I q (by simp))
   | _=>exact absurd (show false=true from hs) Bool.false_ne_true
 | bl i =>
   cases rx;cases y with
   | non=>cases ry;exact PySem.EqNone.ne_bool_none (ZaF I q (by simp))
   | bl j=>cases ry;exact ne_bool (ZaF I q (congrArg not dec_bl))
   | str j=>obtain ⟨t',rfl⟩:=ry;exact PySem.EqMixed.ne_bool_str (ZaF I q (by simp))
   | _=>exact absurd (show false=true from hs) Bool.false_ne_true
 | int i =>
   obtain ⟨t,rfl⟩:=rx;cases y with
   | non=>cases ry;exact PySem.EqNone.ne_int_none (ZaF I q (by simp))
   | int j=>obtain ⟨t',rfl⟩:=ry;exact ne_int (ZaF I q (congrArg not ZiZ))
   | str j=>obtain ⟨t',rfl⟩:=ry;exact PySem.EqMixed.ne_int_str (ZaF I q (by simp))
   | _=>exact absurd (show false=true from hs) Bool.false_ne_true
 | str i =>
   obtain ⟨t,rfl⟩:=rx;cases y with
   | non=>cases ry;exact PySem.EqNone.ne_str_none (ZaF I q (by simp))
   | bl j=>cases ry;exact PySem.EqMixed.ne_str_bool (ZaF I q (by simp))
   | int j=>obtain ⟨t',rfl⟩:=ry;exact PySem.EqMixed.ne_str_int (ZaF I q (by simp))
   | str j=>obtain ⟨t',rfl⟩:=ry;exact ne_str (ZaF I q (congrArg not Zjy))
   | _=>exact absurd (show false=true from hs) Bool.false_ne_true
 | byt i =>
   obtain ⟨t,rfl⟩:=rx;cases y with
   | byt j=>obtain ⟨t',rfl⟩:=ry;exact PySem.W.ne_bytes (ZaF I q (congrArg not ZiI))
   | _=>exact absurd (show false=true from hs) Bool.false_ne_true
 | _=>cases y<;>exact absurd (show false=true from hs) Bool.false_ne_true
theorem Zg3:OpR X (compareOp .Lt) (rI0 fun i j=>.bl (decide (i<j))):=opB0 fun _ _ _ _ _ _ _ q=>lt_int q
theorem Zc4:OpR X (compareOp .LtE) (rI0 fun i j=>.bl (decide (i≤j))):=opB0 fun _ _ _ _ _ _ _ q=>le_int q
theorem Zhd:OpR X (compareOp .Gt) (rI0 fun i j=>.bl (decide (j<i))):=opB0 fun _ _ _ _ _ _ _ q=>gt_int q
theorem Zbl:OpR X (compareOp .In) (fun x y H Q=>∃ i j,x=.str i∧y=.str j∧Q (.bl (!(Builtin.Str.occurrences j i 0 j.length 1).isEmpty)) H):=by intro pins s σ H x y v u Q I rx ry h;obtain ⟨i,j,rfl,rfl,q⟩:=h;obtain ⟨t,rfl⟩:=rx;obtain ⟨t',rfl⟩:=ry;exact in_str (ZaF I q rfl)
theorem op_isN:OpR X (compareOp .Is) (fun x y H Q=>y=.non∧Q (.bl (decide (x=.non))) H):=by
 intro pins s σ H x y v u Q I rx ry h;obtain ⟨rfl,q⟩:=h;cases ry;refine is_none_gen (ZaF I q ?_);cases x<;>first
   | (cases rx;rfl)
   | (obtain ⟨t,rfl⟩:=rx;rfl)
theorem Zdw:OpR X (compareOp .IsNot) (fun x y H Q=>y=.non∧Q (.bl (!decide (x=.non))) H):=by
 intro pins s σ H x y v u Q I rx ry h;obtain ⟨rfl,q⟩:=h;cases ry;refine isnot_none_gen (ZaF I q ?_);cases x<;>first
   | (cases rx;rfl)
   | (obtain ⟨t,rfl⟩:=rx;rfl)
theorem nomark (b:Expr){op:CmpOp}(h:op≠.In:=by decide)(h2:op≠.NotIn:=by decide):behindInMarks op b=false:=by
 have e1:(op==CmpOp.In)=false:=by cases op<;>first | rfl | exact absurd rfl h
 have e2:(op==CmpOp.NotIn)=false:=by cases op<;>first | rfl | exact absurd rfl h2
 cases b<;>simp [behindInMarks,e1,e2]
theorem Zbp {op:CmpOp}{r:R2}(ho:OpR X (compareOp op) r)(ha:PE X a ta)(hb:PE X b tb)(hm:behindInMarks op b=false):PE X (.Compare a [op] [b] pos) (tOp r ta tb):=by intro pins s σ H Q I h;exact wpAny_Compare1 (binT ha hb I h fun v u s2 x y H2 I2 rx ry q=>ho pins s2 σ H2 x y v u Q I2 rx ry q) hm
def tTest (t:TE):TT:=fun σ H Q=>t σ H fun x H'=>∃ k,x=.bl k∧Q k H'
theorem Zai {op:CmpOp}{r:R2}(ho:OpR X (compareOp op) r)(ha:PE X a ta)(hb:PE X b tb)(hm:behindInMarks op b=false):PT X (.Compare a [op] [b] pos) (tTest (tOp r ta tb)):=by
 intro pins s σ H Q I h;refine wpAny_isTrue_Compare1 (thn (ha pins s σ H _ I h) fun v s1 ⟨x,H1,I1,r1,q1⟩=>thn (hb pins s1 σ H1 _ I1 q1) fun u s2 ⟨y,H2,I2,r2,q2⟩ =>
   thn (ho pins s2 σ H2 x y v u _ I2 r1 r2 q2) fun c s3 ⟨z,H3,I3,r3,k,e,q3⟩=>?_) hm
 subst e;cases r3;exact wpAny_truthy_bool ⟨H3,I3,q3⟩
def tChain (r r':R2)(ta tb tc:TE):TE:=fun σ H Q=>ta σ H fun x H1=>tb σ H1 fun y H2=>r x y H2 fun z H3=>∃ k,z=.bl k ∧
 (if k=true then tc σ H3 fun w' H4=>r' y w' H4 Q else Q (.bl false) H3)
theorem Zdv {op op':CmpOp}{r r':R2}(ho:OpR X (compareOp op) r)(ho':OpR X (compareOp op') r')(ha:PE X a ta)(hb:PE X b tb)(hc:PE X c tc)
   (hm:lastMarks [op,op'] [b,c]=false:=by with_unfolding_all rfl):PE X (.Compare a [op,op'] [b,c] pos) (tChain r r' ta tb tc):=by
 intro pins s σ H Q I h;refine Compare_chain (thn (ha pins s σ H _ I h) fun v s1 ⟨x,H1,I1,r1,q1⟩=>chain_link (thn (hb pins s1 σ H1 _ I1 q1) fun u s2 ⟨y,H2,I2,r2,q2⟩ =>
   thn (ho pins s2 σ H2 x y v u _ I2 r1 r2 q2) fun d s3 ⟨z,H3,I3,r3,k,e,q3⟩=>?_)) hm
 subst e;cases r3;refine wpAny_truthy_bool ?_;cases k with
 | false=>exact ite_ff ⟨.bl false,H3,I3,rfl,q3⟩
 | true=>exact ite_tt (chain_last (thn (hc pins s3 σ H3 _ I3 q3) fun w' s4 ⟨z',H4,I4,r4,q4⟩=>ho' pins s4 σ H4 y z' u w' Q I4 r2 r4 q4))
theorem pt_chain {op op':CmpOp}{r r':R2}(ho:OpR X (compareOp op) r)(ho':OpR X (compareOp op') r')(ha:PE X a ta)(hb:PE X b tb)(hc:PE X c tc)
   (hm:lastMarks [op,op'] [b,c]=false:=by with_unfolding_all rfl):PT X (.Compare a [op,op'] [b,c] pos) (tTest (tChain r r' ta tb tc)):=by
 intro pins s σ H Q I h;refine isTrue_chain (thn (ha pins s σ H _ I h) fun v s1 ⟨x,H1,I1,r1,q1⟩=>test_link (thn (hb pins s1 σ H1 _ I1 q1) fun u s2 ⟨y,H2,I2,r2,q2⟩ =>
   thn (ho pins s2 σ H2 x y v u _ I2 r1 r2 q2) fun d s3 ⟨z,H3,I3,r3,k,e,q3⟩=>?_)) hm
 subst e;cases r3;refine wpAny_truthy_bool ?_;cases k with
 | false =>
   obtain ⟨k',e',q'⟩:=q3;cases e';exact ite_ff ⟨H3,I3,q'⟩
 | true =>
   refine ite_tt (test_last (thn (hc pins s3 σ H3 _ I3 q3) fun w' s4 ⟨z',H4,I4,r4,q4⟩=>thn (ho' pins s4 σ H4 y z' u w' _ I4 r2 r4 q4) fun d' s5 ⟨z2,H5,I5,r5,k2,e2,q5⟩=>?_));subst e2;cases r5;exact wpAny_truthy_bool ⟨H5,I5,q5⟩
theorem line63:(sizeLine:Nat)<2^63:=by rw [sizeLine_eq];decide
theorem ZaE:OpR X (binaryOp .Add) (fun x y H Q=>∃ i j,x=.str i∧y=.str j∧i.length+j.length≤sizeLine∧Q (.str (i++j)) H):=by intro pins s σ H x y v u Q I rx ry h;obtain ⟨i,j,rfl,rfl,hz,q⟩:=h;obtain ⟨t,rfl⟩:=rx;obtain ⟨t',rfl⟩:=ry;exact add_str (fun t' tk=>⟨.str (i++j),H,I.tok _,⟨_,rfl⟩,q⟩) hz
theorem vals1 {x:V}{us:List Value}(r:Vals [x] us):∃ u,us=[u]∧RelV x u:=by
 cases r with
 | cons r1 r2=>cases r2;exact ⟨_,rfl,r1⟩
theorem vals2 {x y:V}{us:List Value}(r:Vals [x,y] us):∃ u w',us=[u,w']∧RelV x u∧RelV y w':=by
 cases r with
 | cons r1 r2 =>
   cases r2 with
   | cons r3 r4=>cases r4;exact ⟨_,_,rfl,r1,r3⟩
theorem ZkJ (hc:X.calm=true):CallR X (.builtin "max") (fun xs H Q=>∃ i j,xs=[.int i,.int j]∧Q (.int (if j > i then j else i)) H):=by
 intro pins s σ H xs us Q I r h;obtain ⟨i,j,rfl,q⟩:=h;obtain ⟨u,w',rfl,⟨t,rfl⟩,⟨t',rfl⟩⟩:=vals2 r;refine max_two_ints (I.ok.hd hc) fun h' tk k=>⟨_,H,I.kept k,?_,q⟩
 by_cases hj:j > i
 · rw [if_pos hj,if_pos hj];exact ⟨_,rfl⟩
 · rw [if_neg hj,if_neg hj];exact ⟨_,rfl⟩
theorem ZkB:CallR X (.type "int") (fun xs H Q=>(∃ i,xs=[.int i]∧Q (.int i) H)∨∃ k,xs=[.bl k]∧Q (.int (if k then 1 else 0)) H):=by
 intro pins s σ H xs us Q I r h;rcases h with ⟨i,rfl,q⟩ | ⟨k,rfl,q⟩
 · obtain ⟨u,rfl,t,rfl⟩:=vals1 r
   exact call_int_int ⟨.int i,H,I,⟨_,rfl⟩,q⟩
 · obtain ⟨u,rfl,r1⟩:=vals1 r
   cases r1;exact call_int_bool ⟨.int (if k then 1 else 0),H,I.tok _,⟨_,rfl⟩,q⟩
theorem Za5:CallR X (.type "str") (fun xs H Q=>∃ i,xs=[.int i]∧i.natAbs.log2<1920∧Q (.str (toString i)) H):=by intro pins s σ H xs us Q I r h;obtain ⟨i,rfl,hz,q⟩:=h;obtain ⟨u,rfl,t,rfl⟩:=vals1 r;exact PySem.P.str_of_int hz ⟨.str _,H,I.tok _,⟨_,rfl⟩,q⟩
end
structure ObjM (h:Heap)(x dx C:Addr)(mA:Str→Option Value):Prop where
 obj:h.get? x=some (PySem.W.instObj C dx)
 ns:h.Ns1 dx mA
 ne:dx≠x
theorem ZfK {h:Heap}{dx:Addr}{mA:Str→Option Value}(n:h.Ns1 dx mA):∃ od,h.get? dx=some od∧∀ name,PySem.W.lookIn name od=some (mA name):=by
 obtain ⟨o,es,ep,ho,hd,hk,_,hm⟩:=n;refine ⟨o,ho,fun name=>?_⟩;have e:=hm name;unfold nsFind findBy at e;rw [← Array.find?_toList] at e;unfold PySem.W.lookIn;rw [hd];dsimp only;split
 · rename_i y q
   rw [q] at e;exact congrArg some e
 · rename_i q
   rw [q] at e;have a:es.toList.any (·.refKey)=false:=by rw [List.any_eq_false];intro y hy;obtain ⟨z,t,hkey⟩:=hk y (Array.mem_toList_iff.mp hy);simp [DictEntry.refKey,hkey]
   have a':¬ es.toList.any (·.refKey)=true:=by rw [a];exact Bool.false_ne_true
   rw [if_neg a'];exact congrArg some e
theorem ObjM.look {h:Heap}{x dx C:Addr}{mA:Str→Option Value}(I:ObjM h x dx C mA):∃ od,PySem.W.InstAt h x (PySem.W.instObj C dx) C (some od)∧∀ name,PySem.W.lookIn name od=some (mA name) :=
 let ⟨od,ho,hl⟩:=ZfK I.ns
 ⟨od,⟨I.obj,rfl,rfl,ho⟩,hl⟩
section
variable {prog:Program}{w:World}{A:Around}{E:Value→Shared→Prop}{s:Shared}{K:PySem.W.Frag}{x dx C f:Addr}{mA:Str→Option Value}{name:Str}{v:Value}
theorem get_map {expr:Bool}{Q:Value→Shared→Prop}(X:K.In s.heap)(I:ObjM s.heap x dx C mA)(hg:PySem.W.plainGet K C name=true)(hh:PySem.W.hasDictIn K C=true)
   (ha:PySem.W.findIn K (.ref C) name=some none) (hv:mA name=some v) (hv':PySem.W.handedIn v=true) (h:Q v { s with toks:=s.toks+1 }) :
   wpAny (model prog w) A (getAttr (.ref x) name expr) Q E s:=by
 obtain ⟨od,J,hl⟩:=I.look;exact PySem.W.get_value X J (PySem.W.plainGet_of hg).1 (PySem.W.findObj_own hh ha rfl (by rw [hl,hv])) hv' h
theorem get_meth {pl:Sem Bool}{Q:Value × List Value→Shared→Prop}(X:K.In s.heap)(I:ObjM s.heap x dx C mA)(hg:PySem.W.plainGet K C name=true)
   (hf:PySem.W.findIn K (.ref C) name=some (some (.ref f))) (ht:PySem.W.isFn K (.ref f)=true) (hv:mA name=none) (h:Q (.ref f,[.ref x]) s) :
   wpAny (model prog w) A (getMethod (.ref x) name pl) Q E s:=by
 obtain ⟨od,J,hl⟩:=I.look;exact PySem.W.method_fn X J (PySem.W.plainGet_of hg).1 (PySem.W.plainGet_of hg).2 hf (beq_iff_eq.mp ht) (by show (PySem.W.lookIn name od).map (·.isSome)=some false;rw [hl,hv];rfl) h
theorem set_map {ns:List Str}{Q:Unit→Shared→Prop}(X:K.In s.heap)(I:ObjM s.heap x dx C mA)
   (hs:PySem.W.findIn K (.ref C) "__setattr__"=some (some (.builtin "object.__setattr__"))) (hp:PySem.W.plainOver K C=true) (ht:PySem.W.takerIn K C name=some none) (hh:PySem.W.hasDictIn K C=true)
   (hw:PySem.Within mA ns) (hsz:ns.length≤sizeLine)
   (h:∀ h',ObjM h' x dx C (fun y=>if y=name then some v else mA y)→Heap.SameBut dx s.heap h'→Q () { s with heap:=h',toks:=s.toks+2 }) :
   wpAny (model prog w) A (setAttr (.ref x) name v) Q E s:=by
 obtain ⟨od,J,hl⟩:=I.look;refine PySem.W.set_plain X J hs (PySem.W.osa_open (s:={ s with toks:=s.toks+1 }) (r:=none) X J hp ht fun b=>?_);obtain ⟨cd,hc,hd'⟩:=PySem.W.any_some hh;have hx:s.heap.get? x=some ⟨.ref C,some dx,.plain,#[]⟩:=I.obj;refine wpAny_bind (wpAny_pure (wpAny_bind (wpAny_bind (wpAny_loadPart hx (wpAny_bind (PySem.W.Looks.here (s:={ s with toks:=s.toks+1 }) (PySem.W.looks_clsIn X hc) ?_))))));rw [hd'];refine wpAny_pure (a:=some dx) (wpAny_bind (wpAny_pure (wpAny_bind ?_)));refine wpAny_nsSet1 (s:={ s with toks:=s.toks+1 }) I.ns fun h' hn2 hs2=>?_
 obtain ⟨oD,esD,epD,hoD,hdD,hcD⟩:=hn2.count (PySem.Within.cons name v hw);refine wpAny_bind (wpAny_lookBehind hoD (by rw [hdD];exact pastItsLine_dict (Nat.le_trans hcD (by rw [List.length_cons];omega))) ?_);exact wpAny_pure (h _ ⟨(hs2.2 _ (Ne.symm I.ne)).trans I.obj,hn2,I.ne⟩ hs2)
theorem make_map {R:Result→Shared→Prop}{vs:List Value}{kw:List (Str × Value)}(X:K.In s.heap)(hm:PySem.W.makesIn K C=true)
   (hi:PySem.W.findIn K (.ref C) "__init__"=some (some (.ref f))) (hf:PySem.W.typeIn K (.ref f)=some (.type "function"))
   (h:codeAny (model prog w) (A.under (.builtin "type.__call__" ⟨.ref C::vs,kw⟩)) (.call (.ref f) ⟨.ref (s.heap.objs.size+1)::vs,kw⟩) (PySem.W.InitBack (s.heap.objs.size+1) R)
     { s with heap:=(s.heap.push PySem.W.emptyDict).push (PySem.W.instObj C s.heap.objs.size) }) :
   codeAny (model prog w) A (.call (.ref C) ⟨vs,kw⟩) R s:=by
 obtain ⟨hh,g,d,t,os⟩:=s;exact PySem.W.make_core (PySem.W.makes_of X hm) (PySem.W.looks_findIn X hi) (fun self=>PySem.W.bind_fn X self hf) (.inl rfl) h
end
def putF (f:Str)(v:V):List (Str × V)→List (Str × V)
 | []=>[(f,v)]
 | (g,x)::r=>if g=f then (g,v)::r else (g,x)::putF f v r
theorem Zeq (f g:Str) (v:V):∀ fs:List (Str × V),(putF f v fs).lookup g=if g=f then some v else fs.lookup g
 | []=>by
   show List.lookup g [(f,v)]=_;by_cases h:g=f
   · have hb:(g==f)=true:=beq_iff_eq.mpr h
     simp only [List.lookup,hb,if_pos h]
   · have hb:(g==f)=false:=beq_eq_false_iff_ne.mpr h
     simp only [List.lookup,hb,if_neg h]
 | (k, x)::r=>by
   have ih:=Zeq f g v r;rw [show putF f v ((k,x)::r)=(if k=f then (k,v)::r else (k,x)::putF f v r) from rfl];by_cases hk:k=f
   · rw [if_pos hk]
     by_cases h:g=k
     · have hb:(g==k)=true:=beq_iff_eq.mpr h
       simp only [List.lookup,hb,if_pos (h.trans hk)]
     · have hb:(g==k)=false:=beq_eq_false_iff_ne.mpr h
       simp only [List.lookup,hb,if_neg (fun e:g=f=>h (e.trans hk.symm))]
   · rw [if_neg hk]
     by_cases h:g=k
     · have hb:(g==k)=true:=beq_iff_eq.mpr h
       simp only [List.lookup,hb,if_neg (fun e:g=f=>hk (h.symm.trans e))]
     · have hb:(g==k)=false:=beq_eq_false_iff_ne.mpr h
       simp only [List.lookup,hb];exact ih
theorem Zd4 (f:Str) (v:V):∀ fs:List (Str × V),f∈(putF f v fs).map (·.1)∧∀ g,g∈fs.map (·.1)→g∈(putF f v fs).map (·.1)
 | []=>⟨by simp [putF],fun g h=>by simp at h⟩
 | (k, x)::r=>by
   obtain ⟨i1,i2⟩:=Zd4 f v r;rw [show putF f v ((k,x)::r)=(if k=f then (k,v)::r else (k,x)::putF f v r) from rfl];by_cases hk:k=f
   · rw [if_pos hk]
     subst hk;exact ⟨by simp,fun g h=>by simpa using h⟩
   · rw [if_neg hk]
     refine ⟨?_,fun g h=>?_⟩
     · rw [List.map_cons]
       exact List.mem_cons_of_mem _ i1
     · rw [List.map_cons] at h ⊢
       rcases List.mem_cons.mp h with e | e
       · exact List.mem_cons.mpr (.inl e)
       · exact List.mem_cons_of_mem _ (i2 g e)
theorem Zep (f:Str)(v:V):∀ fs:List (Str × V),(putF f v fs).length≤fs.length+1
 | []=>by simp [putF]
 | (k,x)::r=>by
   have ih:=Zep f v r;rw [show putF f v ((k,x)::r)=(if k=f then (k,v)::r else (k,x)::putF f v r) from rfl];by_cases hk:k=f
   · rw [if_pos hk,List.length_cons,List.length_cons];omega
   · rw [if_neg hk,List.length_cons,List.length_cons];omega
theorem RelO.some_of {v:V}{o:Option Value}(r:RelO (some v) o):∃ u,o=some u∧RelV v u:=by
 cases o with
 | none=>exact (show False from r).elim
 | some u=>exact ⟨u,rfl,r⟩
theorem RelO.none_of {o:Option Value}(r:RelO none o):o=none:=by
 cases o with
 | none=>rfl
 | some u=>exact (show False from r).elim
theorem Zfy {v:V}{u:Value}(r:RelV v u):PySem.W.handedIn u=true:=by
 cases v with
 | non=>cases (show u=Value.none from r);rfl
 | bl b=>cases (show u=Value.bool b from r);rfl
 | int i=>obtain ⟨t,e⟩:=(show ∃ t,u=Value.int i t from r);cases e;rfl
 | str x=>obtain ⟨t,e⟩:=(show ∃ t,u=Value.str x t from r);cases e;rfl
 | byt b=>obtain ⟨t,e⟩:=(show ∃ t,u=Value.bytes b t from r);cases e;rfl
 | flt b=>obtain ⟨t,e⟩:=(show ∃ t,u=Value.float b t from r);cases e;rfl
 | ref a=>cases (show u=Value.ref a from r);rfl
 | ty n=>cases (show u=Value.type n from r);rfl
section
variable {P:Program}{w:World}{H H':Hp}{h h':Heap}{a C dx:Addr}{fs fs':List (Str × V)}
theorem Zdl (hok:HOk P w H h)(e:H a=some (.ins C dx fs)):∃ mA,ObjM h a dx C mA∧(∀ f,RelO (fs.lookup f) (mA f))∧PySem.Within mA (fs.map (·.1))∧fs.length≤1000∧H dx=some (.own a):=by
 obtain ⟨d,z,ne,ob,mA,n,r,q⟩:=(show ObjOk P w H h a (.ins C dx fs) from hok a _ e)
 exact ⟨mA,⟨ob,n,ne⟩,r,q,z,d⟩
end
structure Cls (K:PySem.W.Frag)(C:Addr):Prop where
 pg:PySem.W.plainGet K C Str.empty=true
 hd:PySem.W.hasDictIn K C=true
 po:PySem.W.plainOver K C=true
 sa:PySem.W.findIn K (.ref C) "__setattr__"=some (some (.builtin "object.__setattr__"))
theorem Cls.get {K:PySem.W.Frag}{C:Addr}(c:Cls K C)(f:Str):PySem.W.plainGet K C f=true:=c.pg
def NoAttr (K:PySem.W.Frag)(C:Addr)(f:Str):Prop:=PySem.W.findIn K (.ref C) f=some none
theorem NoAttr.taker {K:PySem.W.Frag}{C:Addr}{f:Str}(n:NoAttr K C f):PySem.W.takerIn K C f=some none:=by unfold PySem.W.takerIn;rw [show PySem.W.findIn K (.ref C) f=some none from n];rfl
structure Con (K:PySem.W.Frag)(C:Addr)(f:Str)(v:V)(u:Value):Prop where
 at_:PySem.W.findIn K (.ref C) f=some (some u)
 rel:RelV v u
 get:PySem.W.specialIn K u "__get__"=some none
 cp:PySem.W.copiedNames.contains f=false
structure Meth (K:PySem.W.Frag)(C:Addr)(m:Str)(f:Addr):Prop where
 at_:PySem.W.findIn K (.ref C) m=some (some (.ref f))
 fn:PySem.W.isFn K (.ref f)=true
 kp:PySem.W.keepIn K (.ref f)=true
section
variable {X:Cx}{pins:List (Addr × Obj)}{σ:St}{H:Hp}{s:Shared}{a C dx:Addr}{fs:List (Str × V)}{f:Str}{v:V}{A:Around}{E:Value→Shared→Prop}
theorem Ziu {b:Bool}{Q:Value→Shared→Prop}(I:Inv X pins σ H s)(e:H a=some (.ins C dx fs))(c:Cls X.K C)(n:NoAttr X.K C f)(l:fs.lookup f=some v)
   (h:∀ u s',Inv X pins σ H s'→RelV v u→Q u s'):wpAny (model X.prog X.w) A (getAttr (.ref a) f b) Q E s:=by
 obtain ⟨mA,O,r,_,_,_⟩:=Zdl I.hok e;obtain ⟨u,hu,ru⟩:=RelO.some_of (v:=v) (o:=mA f) (by rw [← l];exact r f);exact get_map I.kIn O (c.get f) c.hd n hu (Zfy ru) (h u _ (I.tok _) ru)
theorem Zce {m:Str}{g:Addr}{pl:Sem Bool}{Q:Value × List Value→Shared→Prop}(I:Inv X pins σ H s)(e:H a=some (.ins C dx fs))(c:Cls X.K C)(k:Meth X.K C m g)(l:fs.lookup m=none)
   (h:Q (.ref g,[.ref a]) s):wpAny (model X.prog X.w) A (getMethod (.ref a) m pl) Q E s:=by
 obtain ⟨mA,O,r,_,_,_⟩:=Zdl I.hok e;have hn:mA m=none:=RelO.none_of (by rw [← l];exact r m);exact get_meth I.kIn O (c.get m) k.at_ k.fn hn h
theorem Zig {y:V}{u:Value}{Q:Unit→Shared→Prop}(I:Inv X pins σ H s)(e:H a=some (.ins C dx fs))(c:Cls X.K C)(n:NoAttr X.K C f)(hl:fs.length<1000)(ry:RelV y u)
   (h:∀ s',Inv X pins σ (upd H a (.ins C dx (putF f y fs))) s'→Q () s'):wpAny (model X.prog X.w) A (setAttr (.ref a) f u) Q E s:=by
 obtain ⟨mA,O,r,wi,_,ho⟩:=Zdl I.hok e;have hz:(fs.map (·.1)).length≤sizeLine:=by rw [List.length_map,sizeLine_eq];omega
 refine set_map I.kIn O c.sa c.po n.taker c.hd wi hz fun h' O' sb=>h _ ?_
 have hd:∃ o,h'.get? dx=some o:=let ⟨o,_,_,e',_⟩:=O'.ns;⟨o,e'⟩
 refine I.write (x:=a) (e:=dx) (by rw [e];exact True.intro) (.inr ho) (fun b q hb z=>(sb.2 b hb).trans z) hd ?_;refine ⟨by rw [Zah O.ne];exact ho,?_,O.ne,O'.obj,_,O'.ns,fun g=>?_,fun g hg=>?_⟩
 · have:=Zep f y fs;omega
 · show RelO ((putF f y fs).lookup g) (if g=f then some u else mA g)
   rw [Zeq];by_cases q:g=f
   · rw [if_pos q,if_pos q];exact ry
   · rw [if_neg q,if_neg q];exact r g
 · by_cases q:g=f
   · rw [q];exact (Zd4 f y fs).1
   · refine (Zd4 f y fs).2 g (wi g fun z=>hg ?_)
     show (if g=f then some u else mA g)=none;rw [if_neg q];exact z
theorem Inv.made (I:Inv X pins σ H s):Inv X pins σ (upd (upd H s.heap.objs.size (.own (s.heap.objs.size+1))) (s.heap.objs.size+1) (.ins C s.heap.objs.size []))
   { s with heap:=(s.heap.push PySem.W.emptyDict).push (PySem.W.instObj C s.heap.objs.size) }:=by
 have e1:(s.heap.push PySem.W.emptyDict).get? s.heap.objs.size=some PySem.W.emptyDict:=Heap.get?_push_size s.heap rfl;have e2:((s.heap.push PySem.W.emptyDict).push (PySem.W.instObj C s.heap.objs.size)).get? (s.heap.objs.size+1)=some (PySem.W.instObj C s.heap.objs.size):=by
   have:=Heap.get?_push_size (s.heap.push PySem.W.emptyDict) (o:=PySem.W.instObj C s.heap.objs.size) rfl
   rwa [Heap.size_push] at this
 have e3:(s.heap.push PySem.W.emptyDict).Ns s.heap.objs.size (fun _=>none):=⟨PySem.W.emptyDict,#[],_,e1,rfl,(fun e he=>absurd he (by simp)),fun _=>rfl⟩
 have I1:=I.laid (a:=s.heap.objs.size) (o:=.own (s.heap.objs.size+1)) (h':=s.heap.push PySem.W.emptyDict) (t':=s.toks) (fun b u q=>Heap.get?_push_of_some _ q) (Nat.le_refl _) ⟨_,e1⟩;refine I1.laid (a:=s.heap.objs.size+1) (o:=.ins C s.heap.objs.size []) (t':=s.toks) (fun b u q=>Heap.get?_push_of_some _ q) (Nat.le_of_eq (Heap.size_push _ _)) ?_;have ne:s.heap.objs.size≠s.heap.objs.size+1:=Nat.ne_of_lt (Nat.lt_succ_self _);refine ⟨by rw [Zah ne,Zad],Nat.zero_le _,ne,e2,fun _=>none,(Heap.Ns1.of_empty e3).at fun o q=>Heap.get?_push_of_some _ q,fun _=>True.intro,fun y hy=>absurd rfl hy⟩
theorem ZjP {prog:Program}{w:World}{env:Env}{e:Expr}{f:Str}{pos:Pos}{s:Shared}{Q:Value→Shared→Prop}(hb:attributeBase e f env (eval e env)=eval e env)
   (h:wpAny (model prog w) A (eval e env) (fun o s₁=>wpAny (model prog w) A (getAttr o f true) Q E s₁) E s):wpAny (model prog w) A (eval (.Attribute e f pos) env) Q E s :=
 Attribute_any_ h (by rw [arm_eval_Attribute,hb])
end
def tFld (K:PySem.W.Frag)(ta:TE)(f:Str):TE:=fun σ H Q=>ta σ H fun x H1=>∃ a C dx fs v,x=.ref a∧H1 a=some (.ins C dx fs)∧Cls K C∧NoAttr K C f∧fs.lookup f=some v∧Q v H1
def sFld (K:PySem.W.Frag)(ta tv:TE)(f:Str):TS:=fun D σ H=>tv σ H fun y H1=>ta σ H1 fun x H2=>∃ a C dx fs,x=.ref a∧H2 a=some (.ins C dx fs)∧Cls K C∧NoAttr K C f∧fs.length<1000 ∧
 D.nx σ (upd H2 a (.ins C dx (putF f y fs)))
section
variable {X:Cx}{o e value:Expr}{f:Str}{pos pos' tpos:Pos}{ta tv:TE}
theorem pe_fld (he:PE X e ta)(hb:attributeBase e f X.env (eval e X.env)=eval e X.env):PE X (.Attribute e f pos) (tFld X.K ta f):=by intro pins s σ H Q I h;refine ZjP hb (thn (he pins s σ H _ I h) fun u s1 ⟨x,H1,I1,rx,a,C,dx,fs,v,ex,ea,c,n,l,q⟩=>?_);subst ex;obtain rfl:u=Value.ref a:=rx;exact Ziu I1 ea c n l fun u' s2 I2 ru=>⟨v,H1,I2,ru,q⟩
theorem ps_fld (ha:PE X o ta)(hv:PE X value tv)(hs:swapsWith value (some (.Attribute o f pos')) pos.line X.env=pure false):PS X (.Assign [.Attribute o f pos'] value pos) (sFld X.K ta tv f):=by intro pins s σ H D I h;refine plainObj_wpAny_Assign_Attribute (thn (hv pins s σ H _ I h) fun u s1 ⟨y,H1,I1,ry,q⟩=>thn (ha pins s1 σ H1 _ I1 q) fun ov s2 ⟨x,H2,I2,rx,a,C,dx,fs,ex,ea,c,n,l,q2⟩=>?_) hs;subst ex;obtain rfl:ov=Value.ref a:=rx;exact Zig I2 ea c n l ry fun s3 I3=>⟨σ,_,I3,q2⟩
end
section
variable {X:Cx}{pins:List (Addr × Obj)}{σ:St}{H:Hp}{s:Shared}{A:Around}{E:Value→Shared→Prop}{Q:Value→Shared→Prop}{c:Value}{b:Bool}
inductive TyOf (K:PySem.W.Frag) (H:Hp):V→Value→Prop where
 | non:TyOf K H .non (.type "NoneType")
 | bl (x:Bool):TyOf K H (.bl x) (.type "bool")
 | int (i:Int):TyOf K H (.int i) (.type "int")
 | str (x:Str):TyOf K H (.str x) (.type "str")
 | flt (x:UInt64):TyOf K H (.flt x) (.type "float")
 | lst {a:Addr} {xs:List V} (e:H a=some (.lst xs)):TyOf K H (.ref a) (.type "list")
 | frz {a:Addr} {o:Obj} {xs:List V} (e:H a=some (.frz o (.lst xs))):TyOf K H (.ref a) (.type "list")
 | tup {a:Addr} {xs:List V} (e:H a=some (.tup xs)):TyOf K H (.ref a) (.type "tuple")
 | dK {a:Addr} {kvs:List (Key × V)} (e:H a=some (.dK kvs)):TyOf K H (.ref a) (.type "dict")
 | dT {a:Addr} {kvs:List (List Key × V)} (e:H a=some (.dT kvs)):TyOf K H (.ref a) (.type "dict")
 | ins {a C dx:Addr} {fs:List (Str × V)} (e:H a=some (.ins C dx fs)) (cl:Cls K C) (ha:PySem.W.findIn K (.ref C) "__class__"=some (some (.builtin "object.__class__")))
     (hn:PySem.W.specialIn K (.builtin "object.__class__") "__get__"=some (some (.builtin "getset_descriptor.__get__"))) (htk:PySem.W.takesIn K (.builtin "object.__class__")=some true)
     (hm:PySem.W.mroIn K C (.type "object")=some true):TyOf K H (.ref a) (.ref C)
theorem Zkv {x:V}{u t:Value}(I:Inv X pins σ H s)(rx:RelV x u)(ty:TyOf X.K H x t)(e:PySem.W.kitOne X.K t c=some b)(h:∀ tk,Q (.bool b) { s with toks:=tk }) :
   wpAny (model X.prog X.w) A (call (.builtin "isinstance") [u,c]) Q E s:=by
 cases ty with
 | non=>cases (show u=Value.none from rx);exact PySem.W.kia_one PySem.W.kitx_none I.kIn True.intro e (fun z=>nomatch z) h
 | bl y=>cases (show u=Value.bool y from rx);exact PySem.W.kia_one PySem.W.kitx_bool I.kIn True.intro e (fun z=>nomatch z) h
 | int i=>obtain ⟨t,q⟩:=(show ∃ t,u=Value.int i t from rx);cases q;exact PySem.W.kia_one PySem.W.kitx_int I.kIn True.intro e (fun z=>nomatch z) h
 | str y=>obtain ⟨t,q⟩:=(show ∃ t,u=Value.str y t from rx);cases q;exact PySem.W.kia_one PySem.W.kitx_str I.kIn True.intro e (fun z=>nomatch z) h
 | flt y=>obtain ⟨t,q⟩:=(show ∃ t,u=Value.float y t from rx);cases q;exact PySem.W.kia_one PySem.W.kitx_float I.kIn True.intro e (fun z=>nomatch z) h
 | @lst a xs ea =>
   cases (show u=Value.ref a from rx);obtain ⟨_,_,n,_,h1⟩:=(show ObjOk X.prog X.w H s.heap a (.lst xs) from I.hok a _ ea)
   exact PySem.W.kia_one PySem.W.kitx_list I.kIn ⟨_,h1,rfl⟩ e (fun z=>nomatch z) h
 | @frz a ob xs ea =>
   cases (show u=Value.ref a from rx);obtain ⟨_,_,_,n,_,h1⟩:=(show ObjOk X.prog X.w H s.heap a (.frz ob (.lst xs)) from I.hok a _ ea)
   exact PySem.W.kia_one PySem.W.kitx_list I.kIn ⟨_,h1,rfl⟩ e (fun z=>nomatch z) h
 | @tup a xs ea =>
   cases (show u=Value.ref a from rx);obtain ⟨_,_,_,p⟩:=(show ObjOk X.prog X.w H s.heap a (.tup xs) from I.hok a _ ea)
   obtain ⟨o,h1,h2,_⟩:=p;exact PySem.W.kia_one PySem.W.kitx_tuple I.kIn ⟨o,h1,h2⟩ e (fun z=>nomatch z) h
 | @dK a kvs ea =>
   cases (show u=Value.ref a from rx);obtain ⟨_,_,vs,_,p⟩:=(show ObjOk X.prog X.w H s.heap a (.dK kvs) from I.hok a _ ea)
   obtain ⟨o,es,ep,h1,h2,_⟩:=p;exact PySem.W.kia_one PySem.W.kitx_dict I.kIn ⟨o,h1,h2.1⟩ e (fun z=>nomatch z) h
 | @dT a kvs ea =>
   cases (show u=Value.ref a from rx);obtain ⟨_,_,xs,_,o,es,ep,h1,h2,_⟩:=(show ObjOk X.prog X.w H s.heap a (.dT kvs) from I.hok a _ ea)
   exact PySem.W.kia_one PySem.W.kitx_dict I.kIn ⟨o,h1,h2.1⟩ e (fun z=>nomatch z) h
 | @ins a C dx fs ea cl ha hn htk hm =>
   cases (show u=Value.ref a from rx);obtain ⟨mA,O,_⟩:=Zdl I.hok ea;obtain ⟨od,J,_⟩:=O.look;exact PySem.W.kia_one (PySem.W.kitx_own (cl.get _) cl.hd ha hn htk hm) I.kIn J e (fun z=>nomatch z) h
end
structure Room (k:Nat)(A:Around):Prop where
 hd:A.handled=none
 dp:A.depth+3*k+5<recursionLimit
 un:A.units+16*k+200<cLine
theorem Room.mono {j k:Nat}{A:Around}(r:Room k A)(h:j≤k):Room j A:=⟨r.hd,by have:=r.dp;omega,by have:=r.un;omega⟩
theorem Room.deeper {k:Nat}{A:Around}(r:Room (k+1) A)(env:Env):Room k (A.deeper env) :=
 ⟨r.hd,by have:=r.dp;show A.depth+1+3*k+5<_;omega,by have:=r.un;show A.units+3+16*k+200<_;omega⟩
theorem Zh6 {A:Around}{C:Addr}{us:List Value}{kw:List (Str × Value)}:(A.under (.builtin "type.__call__" ⟨.ref C::us,kw⟩)).depth=A.depth+1:=by
 first | rfl | simp [Around.under,Code.weight,Code.isCreation,Code.isGuard,Code.isCaller,Code.frames,Code.isFrame,guardIds]
theorem Zio {A:Around}{C:Addr}{us:List Value}{kw:List (Str × Value)}:(A.under (.builtin "type.__call__" ⟨.ref C::us,kw⟩)).units=A.units+1:=by
 first | rfl | simp [Around.under,Code.cUnits,Code.frames,Code.isFrame]
theorem Room.make {k:Nat}{A:Around}(r:Room (k+1) A)(C:Addr)(us:List Value)(kw:List (Str × Value)):Room k (A.under (.builtin "type.__call__" ⟨.ref C::us,kw⟩)) :=
 ⟨r.hd,by have:=r.dp;rw [Zh6];omega,by have:=r.un;rw [Zio];omega⟩
theorem Room.depth {k:Nat}{A:Around}(r:Room k A):A.depth<recursionLimit:=by have:=r.dp;omega
def tNil:TA:=fun _ H Q=>Q [] H
def tCons (ta:TE)(tr:TA):TA:=fun σ H Q=>ta σ H fun x H1=>tr σ H1 fun xs H2=>Q (x::xs) H2
section
variable {X:Cx}{e:Expr}{es:List Expr}{te:TE}{t:TA}{pos:Pos}
theorem Zac:PA X [] tNil:=fun _ _ _ _ H Q I h=>Calls.spliced_nil ⟨[],H,I,.nil,h⟩
theorem Zaa (ha:PE X e te)(hr:PA X es t)(hs:starEach (e::es) X.env=(false,eval e X.env)::starEach es X.env:=by rfl):PA X (e::es) (tCons te t):=by intro pos pins s σ H Q I h;rw [hs];show wpAny _ _ (spliced ((false,eval e X.env)::backTo pos (starEach es X.env))) _ _ s;refine Calls.spliced_cons (thn (ha pins s σ H _ I h) fun u s1 ⟨x,H1,I1,r1,q1⟩=>?_);exact thn (hr pos pins s1 σ H1 _ I1 q1) fun us s2 ⟨xs,H2,I2,r2,q2⟩=>⟨x::xs,H2,I2,.cons r1 r2,q2⟩
def tTup (t:TA):TE:=fun σ H Q=>t σ H fun xs H1=>xs.length≤sizeLine∧∀ p,H1 p=none→Q (.ref p) (upd H1 p (.tup xs))
def tLst (t:TA):TE:=fun σ H Q=>t σ H fun xs H1=>xs.length≤sizeLine∧∀ p,H1 p=none→Q (.ref p) (upd H1 p (.lst xs))
theorem ZbU {x1}(h:PA X es t):PE X (.Tuple es x1 pos) (tTup t):=by intro pins s σ H Q I hq;refine wpAny_Tuple_spliced (thn (h pos pins s σ H _ I hq) fun us s1 ⟨xs,H1,I1,r,z,q⟩=>⟨by rw [← r.length];exact z,?_⟩);have hf:H1 s1.heap.objs.size=none:=I1.hok.fresh (Nat.le_refl _);refine ⟨.ref s1.heap.objs.size,upd H1 s1.heap.objs.size (.tup xs),I1.laid (t':=s1.toks) (fun b u e=>Heap.get?_push_of_some _ e) (Nat.le_refl _) ?_,rfl,q _ hf⟩;exact ⟨z,us,r,⟨_,Heap.get?_push_size _ rfl,rfl,_,rfl⟩⟩
theorem Zaz (h:PA X es t):PE X (.List es pos) (tLst t):=by intro pins s σ H Q I hq;refine wpAny_List_spliced (thn (h pos pins s σ H _ I hq) fun us s1 ⟨xs,H1,I1,r,z,q⟩=>⟨by rw [← r.length];exact z,?_⟩);have hf:H1 s1.heap.objs.size=none:=I1.hok.fresh (Nat.le_refl _);refine ⟨.ref s1.heap.objs.size,upd H1 s1.heap.objs.size (.lst xs),I1.laid (t':=s1.toks) (fun b u e=>Heap.get?_push_of_some _ e) (Nat.le_refl _) ?_,rfl,q _ hf⟩;exact ⟨z,us,0,r,Heap.get?_push_size _ rfl⟩
end
abbrev Sp:=List V→Hp→VK→XK→Prop
abbrev CXT:=List Env→Hp→Shared→XK→Value→Shared→Prop
structure Env0 (P:Program)(w:World)(K:PySem.W.Frag)(mg:Str→Option Value)(base:Heap)(A:Around)(outer:List Env)(s:Shared)(H:Hp):Prop where
 frames:A.frames=some outer
 mod:Mod K mg base
 bs:∀ b o,base.get? b=some o→s.heap.get? b=some o∧H b=none
 bsz:base.objs.size≤s.heap.objs.size
 funs:s.heap.FunFrames base outer
 frf:∀ b∈frs outer,H b=none
 hok:HOk P w H s.heap
 bare:AllBare s.gens
def CE (outer:List Env)(P:Program)(w:World)(H:Hp)(s:Shared)(Q:VK)(u:Value)(s':Shared):Prop :=
 ∃ v H',s'.os=s.os∧AllBare s'.gens∧Un (frs outer) [] H H' s.heap s'.heap∧HOk P w H' s'.heap∧RelV v u∧Q v H'
def CR (CX:CXT)(outer:List Env)(P:Program)(w:World)(H:Hp)(s:Shared)(Q:VK)(E:XK)(r:Result)(s':Shared):Prop :=
 match r with
 | .ok (.ret u)=>CE outer P w H s Q u s'
 | .ok _=>False
 | .error e=>CX outer H s E e s'
structure FnOk (P:Program)(w:World)(K:PySem.W.Frag)(mg:Str→Option Value)(base:Heap)(CX:CXT)(k:Nat)(f:Addr)(fd:FuncData)(ps:List Str)(sp:Sp):Prop where
 len:∀ vs H Q E,sp vs H Q E→vs.length=ps.length
 run:∀ (A:Around) (outer:List Env) (s:Shared) (H:Hp) (args:Args) (us:List Value) (vs:List V) (Q:VK) (E:XK),Room k A→Env0 P w K mg base A outer s H→BindsTo s fd args (ps.zip us)→Vals vs us→sp vs H Q E →
   codeAny (model P w) A (.call (.ref f) args) (CR CX outer P w H s Q E) s
theorem FnOk.mono {P:Program}{w:World}{K:PySem.W.Frag}{mg:Str→Option Value}{base:Heap}{CX:CXT}{j k:Nat}{f:Addr}{fd:FuncData}{ps:List Str}{sp:Sp}(F:FnOk P w K mg base CX j f fd ps sp)(h:j≤k) :
   FnOk P w K mg base CX k f fd ps sp:=⟨F.len,fun A outer s H args us vs Q E hr=>F.run A outer s H args us vs Q E (hr.mono h)⟩
theorem Env0.make {P:Program}{w:World}{K:PySem.W.Frag}{mg:Str→Option Value}{base:Heap}{A:Around}{outer:List Env}{s:Shared}{H:Hp}(e:Env0 P w K mg base A outer s H)(C:Addr)(us:List Value)(kw:List (Str × Value)) :
   Env0 P w K mg base (A.under (.builtin "type.__call__" ⟨.ref C::us,kw⟩)) outer s H:=⟨by first | exact e.frames | (simpa [Around.under,Code.envs,Code.isFrame,pushEnvs] using e.frames),e.mod,e.bs,e.bsz,e.funs,e.frf,e.hok,e.bare⟩
section
variable {X:Cx}{pins:List (Addr × Obj)}{σ:St}{H:Hp}{s s':Shared}
theorem Inv.env0 (I:Inv X pins σ H s):Env0 X.prog X.w X.K X.mg X.base X.A X.stack s H :=
 ⟨I.ok.frames,I.ok.mod,I.bs,Nat.le_trans I.ok.bsz I.sz,I.stack,I.stkFree,I.hok,I.bare⟩
theorem Inv.after {Q:VK}{u:Value}(I:Inv X pins σ H s)(h:CE X.stack X.prog X.w H s Q u s'):EP X pins σ Q u s':=by obtain ⟨v,H',os,bare,un,hok,r,q⟩:=h;obtain ⟨hh,g,d,t,os'⟩:=s';obtain rfl:os'=s.os:=os;exact ⟨v,H',I.call (h':=hh) (g':=g) (d':=d) (t':=t) (ch:=[]) un hok bare (fun b z=>absurd z (by simp)),r,q⟩
end
def tCall (sp:Sp)(dvs:List V)(E:XK)(t:TA):TE:=fun σ H Q=>t σ H fun vs H1=>sp (vs++dvs) H1 Q E
def tMake (C:Addr)(sp:Sp)(dvs:List V)(E:XK)(t:TA):TE:=fun σ H Q=>t σ H fun vs H1=>∀ x dx,H1 x=none→H1 dx=none→dx≠x →
 sp (.ref x::(vs++dvs)) (upd (upd H1 dx (.own x)) x (.ins C dx [])) (fun v H2=>v=.non∧Q (.ref x) H2) E
def Binds (K:PySem.W.Frag)(fd:FuncData)(ps:List Str)(ds:List Value):Prop :=
 ∀ (s:Shared) (us:List Value),K.In s.heap→(us++ds).length=ps.length→BindsTo s fd ⟨us,[]⟩ (ps.zip (us++ds))
theorem Binds.all {K:PySem.W.Frag}{fd:FuncData}{ps:List Str}(h:∀ us:List Value,us.length=ps.length→bindArgs fd ⟨us,[]⟩=pure (ps.zip us)):Binds K fd ps []:=fun s us _ hl=>by
 rw [List.append_nil] at hl ⊢;exact .of_eq (h us hl)
def Passes (CX:CXT)(X:Cx)(E:XK):Prop:=∀ (pins:List (Addr × Obj)) (σ:St) (H:Hp) (s:Shared) (e:Value) (s':Shared),Inv X pins σ H s→CX X.stack H s E e s'→X.xe e s'
section
variable {X:Cx}{CX:CXT}{k:Nat}{f C:Addr}{fd:FuncData}{ps:List Str}{sp:Sp}{dvs:List V}{ds:List Value}{E:XK}{x m:Str}{p pos apos:Pos}{e o:Expr}{es:List Expr}{ta:TE}{t:TA}
theorem ZeW {pins:List (Addr × Obj)}{σ:St}{H:Hp}{s:Shared}{Q:VK}{us:List Value}{vs:List V}(F:FnOk X.prog X.w X.K X.mg X.base CX k f fd ps sp)(hr:Room k X.A)(hb:Binds X.K fd ps ds)(hd:Vals dvs ds)(hx:Passes CX X E)
   (I:Inv X pins σ H s) (r:Vals vs us) (h:sp (vs++dvs) H Q E):wpAny (model X.prog X.w) X.A (call (.ref f) us) (EP X pins σ Q) X.xe s:=by
 have r2:Vals (vs++dvs) (us++ds):=r.append hd;have hl:(us++ds).length=ps.length:=by rw [← r2.length];exact F.len _ _ _ _ h
 refine wpAny_call (codeAny_mono (F.run X.A X.stack s H ⟨us,[]⟩ (us++ds) (vs++dvs) Q E hr I.env0 (hb s us I.kIn hl) r2 h) fun r s' hq=>?_);cases r with
 | error e=>exact hx pins σ H s e s' I hq
 | ok fl =>
   cases fl with
   | ret u=>exact I.after hq
   | next=>exact False.elim hq
   | brk=>exact False.elim hq
   | cont=>exact False.elim hq
theorem ZiY (F:FnOk X.prog X.w X.K X.mg X.base CX k f fd ps sp)(hr:Room k X.A)(hg:Gl X x)(hm:X.mg x=some (.ref f))(hk:PySem.W.keepIn X.K (.ref f)=true)(hb:Binds X.K fd ps ds)(hd:Vals dvs ds)(hx:Passes CX X E)
   (ha:PA X (e::es) t) (hdb:(x==("__debug__":Str))=false:=by decide) (he:starEach (e::es) X.env=(false,eval e X.env)::starEach es X.env:=by rfl) (hpl:(backTo pos (starEach es X.env)).any (·.1)=false:=by rfl) :
   PE X (.Call (.Name x p) (e::es) [] pos) (tCall sp dvs E t):=by
 intro pins s σ H Q I h;refine wpAny_Call_Name_kw (ZbI I hg hm ?_ hdb);refine PySem.W.callWith_K (h₀:=X.base) I.ok.mod.kin hk (thn (ha pos pins s σ H _ I h) fun us s1 ⟨vs,H1,I1,r,q⟩=>⟨I1.kIn,?_⟩) he hpl;exact ZeW F hr hb hd hx I1 r q
structure Mk (K:PySem.W.Frag)(C f:Addr):Prop where
 makes:PySem.W.makesIn K C=true
 init:PySem.W.findIn K (.ref C) "__init__"=some (some (.ref f))
 fn:PySem.W.isFn K (.ref f)=true
 kp:PySem.W.keepIn K (.ref C)=true
theorem run_make {pins:List (Addr × Obj)}{σ:St}{H:Hp}{s:Shared}{Q:VK}{us:List Value}{vs:List V}(M:Mk X.K C f)(F:FnOk X.prog X.w X.K X.mg X.base CX k f fd ps sp)(hr:Room (k+1) X.A)(hb:Binds X.K fd ps ds)(hd:Vals dvs ds)
   (hx:Passes CX X E) (I:Inv X pins σ H s) (r:Vals vs us)
   (h:∀ x dx,H x=none→H dx=none→dx≠x→sp (.ref x::(vs++dvs)) (upd (upd H dx (.own x)) x (.ins C dx [])) (fun v H2=>v=.non∧Q (.ref x) H2) E) :
   wpAny (model X.prog X.w) X.A (call (.ref C) us) (EP X pins σ Q) X.xe s:=by
 have hq:=h (s.heap.objs.size+1) s.heap.objs.size (I.hok.fresh (Nat.le_succ _)) (I.hok.fresh (Nat.le_refl _)) (Nat.ne_of_lt (Nat.lt_succ_self _));have I2:=Inv.made (C:=C) I;have r2:Vals (V.ref (s.heap.objs.size+1)::(vs++dvs)) (Value.ref (s.heap.objs.size+1)::(us++ds)):=.cons rfl (r.append hd);have hl:(Value.ref (s.heap.objs.size+1)::us++ds).length=ps.length:=by have e:=r2.length;rw [F.len _ _ _ _ hq] at e;exact e.symm
 refine wpAny_call (make_map (f:=f) I.kIn M.makes M.init (beq_iff_eq.mp M.fn) (codeAny_mono (F.run _ X.stack _ _ ⟨Value.ref (s.heap.objs.size+1)::us,[]⟩ (Value.ref (s.heap.objs.size+1)::(us++ds)) _ _ E (hr.make C us [])
   (I2.env0.make C us []) (hb _ (Value.ref (s.heap.objs.size+1)::us) I2.kIn hl) r2 hq) fun r s' hq'=>?_))
 cases r with
 | error e=>exact hx pins σ _ _ e s' I2 hq'
 | ok fl =>
   cases fl with
   | ret u =>
     obtain ⟨v,H',I3,rv,ev,q3⟩:=I2.after hq';subst ev;exact ⟨rv,⟨V.ref (s.heap.objs.size+1),H',I3,rfl,q3⟩⟩
   | next=>exact False.elim hq'
   | brk=>exact False.elim hq'
   | cont=>exact False.elim hq'
theorem pe_make (M:Mk X.K C f)(F:FnOk X.prog X.w X.K X.mg X.base CX k f fd ps sp)(hr:Room (k+1) X.A)(hg:Gl X x)(hm:X.mg x=some (.ref C))(hb:Binds X.K fd ps ds)(hd:Vals dvs ds)(hx:Passes CX X E)
   (ha:PA X (e::es) t) (hdb:(x==("__debug__":Str))=false:=by decide) (he:starEach (e::es) X.env=(false,eval e X.env)::starEach es X.env:=by rfl) (hpl:(backTo pos (starEach es X.env)).any (·.1)=false:=by rfl) :
   PE X (.Call (.Name x p) (e::es) [] pos) (tMake C sp dvs E t):=by
 intro pins s σ H Q I h;refine wpAny_Call_Name_kw (ZbI I hg hm ?_ hdb);refine PySem.W.callWith_K (h₀:=X.base) I.ok.mod.kin M.kp (thn (ha pos pins s σ H _ I h) fun us s1 ⟨vs,H1,I1,r,q⟩=>⟨I1.kIn,?_⟩) he hpl;exact run_make M F hr hb hd hx I1 r q
end
def PK (X:Cx)(kws:List Keyword)(t:TA):Prop :=
 ∀ (pos:Pos) (pins:List (Addr × Obj)) (s:Shared) (σ:St) (H:Hp) (Q:List V→Hp→Prop),Inv X pins σ H s→t σ H Q→wpAny (model X.prog X.w) X.A (evalAll ((backToKw pos (keywordEach kws X.env)).map (·.2))) (AP X pins σ Q) X.xe s
section
variable {X:Cx}{CX:CXT}{k:Nat}{f C:Addr}{fd:FuncData}{ps ks:List Str}{sp:Sp}{E:XK}{x m:Str}{p pos apos kpos:Pos}{e o:Expr}{es:List Expr}{kws:List Keyword}{te ta:TE}{t tk:TA}{nm:Option Str}
theorem pk_nil:PK X [] tNil:=fun _ _ _ _ H Q I h=>wpAny_evalAll_nil ⟨[],H,I,.nil,h⟩
theorem pk_cons (ha:PE X e te)(hr:PK X kws t):PK X (⟨nm,e,kpos⟩::kws) (tCons te t):=by intro pos pins s σ H Q I h;show wpAny _ _ (evalAll ((do let v ← eval e X.env;standAt pos;pure v)::(backToKw pos (keywordEach kws X.env)).map (·.2))) _ _ s;refine wpAny_evalAll_cons (wpAny_bind (thn (ha pins s σ H _ I h) fun u s1 ⟨x,H1,I1,r1,q1⟩=>wpAny_bind (wpAny_standAt (wpAny_pure ?_))));exact thn (hr pos pins s1 σ H1 _ I1 q1) fun us s2 ⟨xs,H2,I2,r2,q2⟩=>⟨x::xs,H2,I2,.cons r1 r2,q2⟩
structure KBinds (K:PySem.W.Frag)(fd:FuncData)(ps ks:List Str)(g:List Value→List Value→List Value)(gV:List V→List V→List V):Prop where
 to:∀ (s:Shared) (us ws:List Value),K.In s.heap→(g us ws).length=ps.length→BindsTo s fd ⟨us,ks.zip ws⟩ (ps.zip (g us ws))
 rel:∀ {vs:List V} {us:List Value} {zs:List V} {ws:List Value},Vals vs us→Vals zs ws→Vals (gV vs zs) (g us ws)
variable {g:List Value→List Value→List Value}{gV:List V→List V→List V}
end
structure FnScope (N P:List Str)(sc:Scope):Prop where
 kind:sc.kind=.function
 co:sc.isCoroutine=false
 gen:sc.isGenerator=false
 nd:N.Nodup
 pre:N.take P.length=P
 par:∀ x∈P,sc.names.lookup x=some .local∨sc.names.lookup x=some .cell
 nofree:∀ y∈sc.names,y.2≠.free
theorem ZfL {kindOf:Str→Option NameKind}{x:Str}:∀ {binds:List (Str × Value)} {m:Str→Option Value},(∀ v,(x,v)∉binds)→bindL kindOf binds m x=m x
 | [],_,_=>rfl
 | (n,v)::r,m,h=>by
   unfold bindL;rw [ZfL fun w hw=>h w (List.mem_cons_of_mem _ hw)];split
   · have:x≠n:=by rintro rfl;exact h v List.mem_cons_self
     simp [this]
   · rfl
theorem ZfI {kindOf:Str→Option NameKind}{x:Str}:∀ {binds:List (Str × Value)} {m:Str→Option Value},(∀ v,(x,v)∉binds)→bindC kindOf binds m x=m x
 | [],_,_=>rfl
 | (n,v)::r,m,h=>by
   unfold bindC;rw [ZfI fun w hw=>h w (List.mem_cons_of_mem _ hw)];split
   · rfl
   · have:x≠n:=by rintro rfl;exact h v List.mem_cons_self
     simp [this]
theorem ZfD {kindOf:Str→Option NameKind}{x:Str}{v:Value}:∀ {P:List Str} {vs:List Value} {i:Nat} {m:Str→Option Value},P.Nodup→P[i]?=some x→vs[i]?=some v→kindOf x=some .local →
   bindL kindOf (P.zip vs) m x=some v
 | [],_,_,_,_,h,_,_=>by simp at h
 | _::_,[],_,_,_,_,h,_=>by simp at h
 | p::P,w::vs,0,m,nd,h1,h2,hk=>by
   simp at h1 h2;subst h1;subst h2;show bindL kindOf ((p,w)::P.zip vs) m p=_;unfold bindL;rw [ZfL fun v hv=>(List.nodup_cons.mp nd).1 (List.of_mem_zip hv).1,if_pos hk];simp
 | p::P,w::vs,i+1,m,nd,h1,h2,hk=>by
   show bindL kindOf ((p,w)::P.zip vs) m x=_;unfold bindL;exact ZfD (i:=i) (List.nodup_cons.mp nd).2 (by simpa using h1) (by simpa using h2) hk
theorem ZfT {kindOf:Str→Option NameKind}{x:Str}{v:Value}:∀ {P:List Str} {vs:List Value} {i:Nat} {m:Str→Option Value},P.Nodup→P[i]?=some x→vs[i]?=some v→kindOf x≠some .local →
   bindC kindOf (P.zip vs) m x=some v
 | [],_,_,_,_,h,_,_=>by simp at h
 | _::_,[],_,_,_,_,h,_=>by simp at h
 | p::P,w::vs,0,m,nd,h1,h2,hk=>by
   simp at h1 h2;subst h1;subst h2;show bindC kindOf ((p,w)::P.zip vs) m p=_;unfold bindC;rw [ZfI fun v hv=>(List.nodup_cons.mp nd).1 (List.of_mem_zip hv).1,if_neg hk];simp
 | p::P,w::vs,i+1,m,nd,h1,h2,hk=>by
   show bindC kindOf ((p,w)::P.zip vs) m x=_;unfold bindC;exact ZfT (i:=i) (List.nodup_cons.mp nd).2 (by simpa using h1) (by simpa using h2) hk
def start (N:List Str)(vs:List V):St:=vs.map some++List.replicate (N.length-vs.length) none
def cxOf (CX:CXT)(P:Program)(w:World)(K:PySem.W.Frag)(mg:Str→Option Value)(base:Heap)(N:List Str)(qual:Str)(scope:Scope)(f:Addr)(cd:Value)(A:Around)(outer:List Env)(s:Shared)(H:Hp)(E:XK):Cx where
 prog:=P
 w:=w
 K:=K
 mg:=mg
 base:=base
 A:=A.deeper (envOfC qual scope s.heap.objs.size f cd)
 N:=N
 s₀:=s
 H₀:=H
 env:=envOfC qual scope s.heap.objs.size f cd
 outer:=outer
 stack:=envOfC qual scope s.heap.objs.size f cd::outer
 ex:=[]
 calm:=true
 fn:=fun _=>true
 pn:=[]
 xe:=fun e s'=>wpAny (model P w) (A.deeper (envOfC qual scope s.heap.objs.size f cd)) (leaving (envOfC qual scope s.heap.objs.size f cd) e) (fun _ s''=>CX outer H s E e s'') (fun e' s''=>CX outer H s E e' s'') s'
theorem ZhO {sc:Scope}{n:Nat}{x:Str}(h:sc.names.lookup x=some .cell):∃ c,(cellsFrom n sc.names []).lookup x=some c:=by have q:=PySem.W.cellsFrom_some sc.names n [] (.inl h);exact Option.isSome_iff_exists.mp q
theorem Zkt {CX:CXT} {P:Program} {w:World} {K:PySem.W.Frag} {mg:Str→Option Value} {base:Heap} {N ps:List Str} {qual:Str} {scope:Scope} {f:Addr} {cd:Value} {A:Around} {outer:List Env} {s s1:Shared} {H:Hp} {E:XK} {us:List Value} {vs:List V}
   (S:FnScope N ps scope) (hd:A.handled=none) (e0:Env0 P w K mg base A outer s H) (hl:vs.length=ps.length) (r:Vals vs us)
   (x:InCallC s s.heap.objs.size (bindL (envOfC qual scope s.heap.objs.size f cd).kindOf (ps.zip us) fun _=>none) (cellsFrom (s.heap.objs.size+1) scope.names []) (bindC (envOfC qual scope s.heap.objs.size f cd).kindOf (ps.zip us) fun _=>none) s1) :
   Inv (cxOf CX P w K mg base N qual scope f cd A outer s H E) [] (start N vs) H s1:=by
 have hpl:ps.length≤N.length:=by have:=congrArg List.length S.pre;rw [List.length_take] at this;omega
 obtain ⟨h1,tk,rfl,hk⟩:=x.done;have noA:∀ b:Addr,b∉(cxOf CX P w K mg base N qual scope f cd A outer s H E).ex:=fun b z=>absurd (show b∈([]:List Addr) from z) (by simp)
 refine ⟨⟨e0.mod,S.kind,rfl,rfl,Nat.le_refl _,fun y z c h1 h2=>?_,fun y hy=>?_,fun y c _ h=>?_,fun _=>hd,Around.frames_deeper e0.frames,.inr ⟨rfl,rfl⟩,fun b z=>absurd z (noA b),e0.bs,e0.bsz,fun b _ _=>noA b,fun b z=>absurd z (noA b),e0.funs,e0.frf⟩,
   rfl,e0.bare,Un.kept hk,⟨_,x.toInCall.ns,fun i y v h1 h2 h3=>?_⟩,fun y c h=>⟨_,x.cell y c h⟩,e0.hok.fresh (Nat.le_refl _),fun y c h=>?_,fun p hp=>absurd (show p∈([]:List (Addr × Obj)) from hp) (by simp),e0.hok.kept hk,?_⟩
 · exact name_of_addr x.apart (PySem.mem_of_lookup h1) (PySem.mem_of_lookup h2)
 · have hy:scope.names.lookup y=some .cell∨scope.names.lookup y=some .free:=hy
   rcases hy with hy | hy
   · exact ZhO hy
   · exact absurd rfl (S.nofree _ (PySem.mem_of_lookup hy))
 · exact Nat.le_of_lt (x.above y c (PySem.mem_of_lookup h))
 · have hi:i<vs.length:=by
     unfold start at h2;by_cases hi:i<vs.length
     · exact hi
     · rw [List.getElem?_append_right (by simpa using hi)] at h2
       rw [List.getElem?_replicate] at h2;split at h2<;>cases h2
   have ha:vs[i]?=some v:=by
     unfold start at h2;rw [List.getElem?_append_left (by simpa using hi),List.getElem?_map] at h2;cases e:vs[i]? with
     | none=>rw [e] at h2;cases h2
     | some a=>rw [e] at h2;cases h2;rfl
   obtain ⟨u,hu,rv⟩:=r.get ha;have hp:ps[i]?=some y:=by rw [← S.pre,List.getElem?_take_of_lt (by omega)];exact h1
   have ndP:ps.Nodup:=by rw [← S.pre];exact S.nd.sublist (List.take_sublist _ _)
   refine ⟨u,rv,?_⟩;rcases S.par y (List.mem_of_getElem? hp) with k | k
   · exact .inl ⟨k,ZfD ndP hp hu k⟩
   · obtain ⟨c,e⟩:=ZhO (n:=s.heap.objs.size+1) k
     refine .inr ⟨.inl k,c,e,?_⟩;have q:=x.cell y c e;rw [ZfT ndP hp hu (by show scope.names.lookup y≠_;rw [k];decide)] at q;exact q
 · exact e0.hok.fresh (Nat.le_of_lt (x.above y c (PySem.mem_of_lookup h)))
 · unfold start
   show _=N.length;rw [List.length_append,List.length_map,List.length_replicate];omega
theorem fn_of {CX:CXT}{P:Program}{w:World}{K:PySem.W.Frag}{mg:Str→Option Value}{base:Heap}{k:Nat}{f:Addr}{name qual:Str}{params:Arguments}{body:List Stmt}{scope:Scope}{dV kV doc pm cdv ct oc:Value}{an od:Option Addr}
   {osl:Array (Option Value)} {N ps:List Str} {sp:Sp} (lk:K.lookup f=some ⟨oc,od,.func (PySem.W.fnOf name qual params body scope dV kV doc pm an cdv ct),osl⟩) (hcd:PySem.W.codeIn K cdv qual=true) (S:FnScope N ps scope)
   (len:∀ vs H Q E,sp vs H Q E→vs.length=ps.length)
   (hbody:∀ (A:Around) (outer:List Env) (s:Shared) (H:Hp) (vs:List V) (Q:VK) (E:XK),Room k (A.deeper (envOfC qual scope s.heap.objs.size f cdv))→sp vs H Q E →
     ∃ t,PSs (cxOf CX P w K mg base N qual scope f cdv A outer s H E) body t∧t { nx:=fun _ H'=>Q .non H',rt:=Q } (start N vs) H) :
   FnOk P w K mg base CX (k+1) f (PySem.W.fnOf name qual params body scope dV kV doc pm an cdv ct) ps sp:=by
 refine ⟨len,fun A outer s H args us vs Q E hr e0 hb r hsp=>?_⟩;have hl:=len _ _ _ _ hsp;have KX:K.In s.heap:=e0.mod.kin.keeps fun b o e=>(e0.bs b o e).1
 have lim:s.heap.NoLimit:=e0.mod.nolimit.keeps fun b o e=>(e0.bs b o e).1
 have hkind:∀ y∈ps.zip us,scope.names.lookup y.1=some .local∨(scope.names.lookup y.1=some .cell∧((cellsFrom (s.heap.objs.size+1) scope.names []).lookup y.1).isSome=true):=fun ⟨n,v⟩ hy=>by
   rcases S.par n (List.of_mem_zip hy).1 with q | q
   · exact .inl q
   · exact .inr ⟨q,PySem.W.cellsFrom_some _ _ _ (.inl q)⟩
 refine codeAny_call_function hr.depth (KX _ _ lk) rfl S.co S.gen rfl (PySem.W.codeRec_of KX hcd) (hb _ _ _ _ ?_);refine wpAny_newFunctionEnv_cells S.kind hkind fun env he s1 x=>?_
 subst he;refine ⟨lim.keeps x.toInCall.keep,codeAny_func ?_⟩;obtain ⟨t,ht,hq⟩:=hbody A outer s H vs Q E (hr.deeper _) hsp;have I:Inv (cxOf CX P w K mg base N qual scope f cdv A outer s H E) [] (start N vs) H s1:=Zkt S hr.hd e0 hl r x;refine wpAny_mono (ht [] s1 (start N vs) H _ I hq) (fun fl s' hs=>?_) fun e s' hs=>hs
 have fin:∀ {σ':St} {H':Hp} {v:V} {u:Value},Inv (cxOf CX P w K mg base N qual scope f cdv A outer s H E) [] σ' H' s'→RelV v u→Q v H'→CE outer P w H s Q u s' :=
   fun {σ' H' v u} J rv q=>⟨v,H',J.os,J.bare,J.base,J.hok,rv,q⟩
 cases fl with
 | ret u =>
   obtain ⟨v,σ',H',J,rv,q⟩:=hs;exact fin J rv q
 | next =>
   obtain ⟨σ',H',J,q⟩:=hs;exact fin (v:=V.non) (u:=Value.none) J rfl q
 | brk =>
   obtain ⟨_,_,_,q⟩:=hs;exact False.elim q
 | cont =>
   obtain ⟨_,_,_,q⟩:=hs;exact False.elim q
section
variable {X:Cx}{x:Str}{p pos:Pos}{e:Expr}{es:List Expr}{t:TA}{id T:String}{r:List V→Hp→VK→Prop}
def tCB (r:List V→Hp→VK→Prop)(t:TA):TE:=fun σ H Q=>t σ H fun vs H1=>r vs H1 Q
theorem Zas (hc:CallR X (.builtin id) r)(hg:Gl X x)(hm:X.mg x=none)(hv:bootBuiltins x=some (.builtin id))(ha:PA X (e::es) t)(hn:x≠"__name__":=by decide)(hdb:(x==("__debug__":Str))=false:=by decide)
   (he:starEach (e::es) X.env=(false,eval e X.env)::starEach es X.env:=by rfl) (hpl:(backTo pos (starEach es X.env)).any (·.1)=false:=by rfl):PE X (.Call (.Name x p) (e::es) [] pos) (tCB r t):=by
 intro pins s σ H Q I h;refine wpAny_Call_Name_kw (Zea I hg hm hv ?_ hn hdb);exact PyProof.Rows.callWith_builtin1 (thn (ha pos pins s σ H _ I h) fun us s1 ⟨vs,H1,I1,r1,q1⟩=>hc pins s1 σ H1 vs us Q I1 r1 q1) he hpl
theorem ZaK (hc:CallR X (.type T) r)(hg:Gl X x)(hm:X.mg x=none)(hv:bootBuiltins x=some (.type T))(ha:PA X (e::es) t)(hn:x≠"__name__":=by decide)(hdb:(x==("__debug__":Str))=false:=by decide)
   (he:starEach (e::es) X.env=(false,eval e X.env)::starEach es X.env:=by rfl) (hpl:(backTo pos (starEach es X.env)).any (·.1)=false:=by rfl):PE X (.Call (.Name x p) (e::es) [] pos) (tCB r t):=by
 intro pins s σ H Q I h;refine wpAny_Call_Name_kw (Zea I hg hm hv ?_ hn hdb);exact PyProof.Rows.callWith_type1 (thn (ha pos pins s σ H _ I h) fun us s1 ⟨vs,H1,I1,r1,q1⟩=>hc pins s1 σ H1 vs us Q I1 r1 q1) he hpl
end
end L2
namespace HT
open PySem PyProof.Rows
section
open PySem.SeqAt
open PySem.AutoSeq1 (wpAny_loadPart')
open PySem.MeetsSeq PySem.MeetsSeq2 PySem.MeetsSeq3
end
section
variable {prog:Program}{w:World}{A:Around}{E:Value→Shared→Prop}{s:Shared}
def sIx (n d:Nat):Option Int→Nat
 | none=>d
 | some v=>if v<0 then (v+(n:Int)).toNat else min v.toNat n
end
end HT
namespace L2
open PySem PySem.Spec PyProof.Rows
abbrev TO:=St→Hp→(Option Int→Hp→Prop)→Prop
def PO (X:Cx) (e:Option Expr) (t:TO):Prop :=
 ∀ (pins:List (Addr × Obj)) (s:Shared) (σ:St) (H:Hp) (Q:Option Int→Hp→Prop),Inv X pins σ H s→t σ H Q →
   wpAny (model X.prog X.w) X.A (evalPart e X.env) (fun u s'=>∃ o H',Inv X pins σ H' s'∧IsPart u o∧Q o H') X.xe s
def tNoPart:TO:=fun _ H Q=>Q none H
def tPart (t:TE):TO:=fun σ H Q=>t σ H fun x H1=>∃ i,x=.int i∧Q (some i) H1
section
variable {X:Cx}{e:Expr}{te:TE}{lo hi:Option Expr}{tl th:TO}{pos p2:Pos}
theorem Zgd:PO X none tNoPart:=by intro pins s σ H Q I h;rw [evalPart_none];exact wpAny_pure ⟨none,H,I,.none,h⟩
theorem ZdK (h:PE X e te):PO X (some e) (tPart te):=by
 intro pins s σ H Q I hw;rw [evalPart_some];refine thn (h pins s σ H _ I hw) fun u s1 ⟨x,H1,I1,r1,q1⟩=>?_
 obtain ⟨i,rfl,q⟩:=q1;obtain ⟨t,rfl⟩:=r1;exact ⟨some i,H1,I1,.int i t,q⟩
def SlR (X:Cx) (r:V→Option Int→Option Int→Hp→VK→Prop):Prop :=
 ∀ (pins:List (Addr × Obj)) (s:Shared) (σ:St) (H:Hp) (x:V) (v vl vu:Value) (lo hi:Option Int) (sl:Addr) (Q:VK),Inv X pins σ H s→RelV x v→s.heap.IsSliceOf sl vl vu .none→IsPart vl lo→IsPart vu hi→r x lo hi H Q →
   ∃ T id,typeLookup (.type T) "__getitem__"=pure (some (.builtin id))∧s.TypeIs v T∧wpAny (model X.prog X.w) X.A (getItem v (.ref sl)) (EP X pins σ Q) X.xe s
def tSl (r:V→Option Int→Option Int→Hp→VK→Prop)(te:TE)(tl th:TO):TE:=fun σ H Q=>te σ H fun x H1=>tl σ H1 fun l H2=>th σ H2 fun u H3=>r x l u H3 Q
theorem Zdo {r:V→Option Int→Option Int→Hp→VK→Prop}(hr:SlR X r)(he:PE X e te)(hl:PO X lo tl)(hu:PO X hi th):PE X (.Subscript e (.Slice lo hi none p2) pos) (tSl r te tl th):=by
 intro pins s σ H Q I h;refine Subscript_ (thn (he pins s σ H _ I h) fun v s1 ⟨x,H1,I1,r1,q1⟩=>?_);refine wpAny_Slice (thn (hl pins s1 σ H1 _ I1 q1) fun vl s2 ⟨l,H2,I2,pl,q2⟩=>thn (hu pins s2 σ H2 _ I2 q2) fun vu s3 ⟨u,H3,I3,pu,q3⟩=>?_);rw [evalPart_none];refine wpAny_pure ?_;have I4:Inv X pins σ H3 { s3 with heap:=s3.heap.push { cls:=.type "slice",data:=.fields #[vl,vu,.none] } }:=I3.kept (t':=s3.toks) fun b ob q=>Heap.get?_push_of_some _ q
 obtain ⟨T,id,hT,ht,hg⟩:=hr pins { s3 with heap:=s3.heap.push { cls:=.type "slice",data:=.fields #[vl,vu,.none] } } σ H3 x v vl vu l u s3.heap.objs.size Q I4 r1 (Heap.IsSliceOf.new ..) pl pu q3;show wpAny (model X.prog X.w) X.A (subscriptTail e (.Slice lo hi none p2) v (.ref s3.heap.objs.size)) (EP X pins σ Q) X.xe { s3 with heap:=s3.heap.push { cls:=.type "slice",data:=.fields #[vl,vu,.none] } };exact tail_any (ops:=[.ref s3.heap.objs.size,v]) ht hT hg (by with_unfolding_all rfl)
def cutV (xs:List V)(lo hi:Option Int):List V:=(xs.drop (HT.sIx xs.length 0 lo)).take (HT.sIx xs.length xs.length hi-HT.sIx xs.length 0 lo)
theorem Zhq (xs:List V)(lo hi:Option Int):(cutV xs lo hi).length≤xs.length:=by unfold cutV;rw [List.length_take,List.length_drop];omega
theorem Vals.nil_iff {xs:List V}{us:List Value}(r:Vals xs us):us=[]↔xs=[]:=by
 cases r with
 | nil=>simp
 | cons _ _=>simp
end
def ixN (n:Nat)(i:Int):Option Nat:=if 0≤i then (if i<n then some i.toNat else none) else if -(n:Int)≤i then some (i+n).toNat else none
def atI {α:Type}(xs:List α)(i:Int):Option α:=(ixN xs.length i).bind fun j=>xs[j]?
theorem Zjv {n:Nat}{i:Int}{j:Nat}(h:ixN n i=some j):seqIndex? i n=some j∧j<n∧-(n:Int)≤i∧i<n:=by
 unfold ixN at h;by_cases h0:0≤i
 · rw [if_pos h0] at h
   by_cases h1:i<n
   · rw [if_pos h1] at h
     have e:i.toNat=j:=Option.some.inj h;exact ⟨by rw [seqIndex_of h0 h1,e],by omega,by omega,h1⟩
   · rw [if_neg h1] at h;cases h
 · rw [if_neg h0] at h
   by_cases h1:-(n:Int)≤i
   · rw [if_pos h1] at h
     have e:(i+n).toNat=j:=Option.some.inj h;exact ⟨by rw [seqIndex_neg (by omega) h1,e],by omega,h1,by omega⟩
   · rw [if_neg h1] at h;cases h
theorem ZgB {α:Type}{xs:List α}{i:Int}{v:α}(h:atI xs i=some v):∃ j,seqIndex? i xs.length=some j∧xs[j]?=some v∧j<xs.length∧-(xs.length:Int)≤i∧i<xs.length:=by
 unfold atI at h;cases e:ixN xs.length i with
 | none=>rw [e] at h;cases h
 | some j =>
   rw [e] at h;obtain ⟨h1,h2,h3,h4⟩:=Zjv e;exact ⟨j,h1,h,h2,h3,h4⟩
theorem ZaI {α:Type}{xs:List α}{j:Nat}{v:α}(h:xs[j]?=some v):atI xs (j:Int)=some v:=by
 have hj:j<xs.length:=(List.getElem?_eq_some_iff.mp h).1;have e:ixN xs.length (j:Int)=some j:=by unfold ixN;rw [if_pos (by omega),if_pos (by omega)];simp
 unfold atI;rw [e];exact h
theorem ZcO {α:Type}(xs:List α)(v:α):atI (xs++[v]) (-1)=some v:=by
 have hl:(xs++[v]).length=xs.length+1:=by simp
 have e:ixN (xs++[v]).length (-1)=some xs.length:=by
   unfold ixN;rw [hl,if_neg (by decide),if_pos (by omega)];congr 1
   omega
 unfold atI;rw [e];show (xs++[v])[xs.length]?=some v;simp
def PlainIx (b:Expr):Prop:=∀ o i,subscripted b false o i=operate [o,i] (getItem o i)
def IxR (X:Cx) (r:R2):Prop :=
 ∀ (value slice:Expr) (pins:List (Addr × Obj)) (s:Shared) (σ:St) (H:Hp) (x y:V) (v u:Value) (Q:VK),Inv X pins σ H s→RelV x v→RelV y u→r x y H Q →
   subscripted slice false v u=operate [v,u] (getItem v u)→wpAny (model X.prog X.w) X.A (subscriptTail value slice v u) (EP X pins σ Q) X.xe s
def MtR (X:Cx) (id:String) (r:V→List V→Hp→VK→Prop):Prop :=
 ∀ (pins:List (Addr × Obj)) (s:Shared) (σ:St) (H:Hp) (x:V) (xs:List V) (v:Value) (us:List Value) (Q:VK),Inv X pins σ H s→RelV x v→Vals xs us→r x xs H Q →
   wpAny (model X.prog X.w) X.A (call (.builtin id) (v::us)) (EP X pins σ Q) X.xe s
section
variable {X:Cx}{a b:Expr}{ta tb:TE}{pos:Pos}
theorem Zav {r:R2}(hr:IxR X r)(ha:PE X a ta)(hb:PE X b tb)(hs:PlainIx b):PE X (.Subscript a b pos) (tOp r ta tb):=by intro pins s σ H Q I h;exact Subscript_ (binT ha hb I h fun v u s2 x y H2 I2 rx ry q=>hr a b pins s2 σ H2 x y v u Q I2 rx ry q (hs _ _))
def rIxL (K:PySem.W.Frag):R2:=fun x y H Q=>∃ p xs i v,x=.ref p∧y=.int i∧SqL K H p xs∧atI xs i=some v∧Q v H
def rIxT (K:PySem.W.Frag):R2:=fun x y H Q=>∃ p xs i v,x=.ref p∧y=.int i∧SqT K H p xs∧atI xs i=some v∧Q v H
def rIxS:R2:=fun x y H Q=>∃ z i c,x=.str z∧y=.int i∧z.length≤sizeLine∧atI z.cps.toList i=some c∧Q (.str ⟨#[c]⟩) H
theorem ix_list:IxR X (rIxL X.K):=by
 intro value slice pins s σ H x y v u Q I rx ry h hs;obtain ⟨p,xs,i,z,rfl,rfl,hq,he,q⟩:=h;cases rx;obtain ⟨t,rfl⟩:=ry;obtain ⟨its,r,pl,hz⟩:=I.list hq;obtain ⟨j,h1,h2,h3,h4,h5⟩:=ZgB he;obtain ⟨w,ew,rw'⟩:=r.get h2;have hl:=r.length;have hn:=line63;have fin:EP X pins σ Q w s:=⟨z,H,I,rw',q⟩
 by_cases h0:0≤i
 · have hj:i.toNat=j:=by
     rw [seqIndex_of h0 h5] at h1;exact Option.some.inj h1
   exact item_listR pl.isList h0 (by omega) (by rw [hj];simpa using ew) fin hs
 · have hj:(i+(its.toArray.size:Int)).toNat=j:=by
     rw [seqIndex_neg (by omega) h4] at h1;rw [List.size_toArray,← hl];exact Option.some.inj h1
   exact subscriptTail_builtinR (x:=w) pl.isList.typeIs slot_list_getitem.lookup
     (wpAny_getItem_list_neg (Q:=fun r s'=>r=w∧EP X pins σ Q r s') pl.isList (by omega) (by rw [List.size_toArray]<;>omega) (by omega) (by rw [hj];simpa using ew) ⟨rfl,fin⟩) hs
theorem ix_tup:IxR X (rIxT X.K):=by
 intro value slice pins s σ H x y v u Q I rx ry h hs;obtain ⟨p,xs,i,z,rfl,rfl,hq,he,q⟩:=h;cases rx;obtain ⟨t,rfl⟩:=ry;obtain ⟨its,r,pl,hz⟩:=I.tuple hq;obtain ⟨j,h1,h2,h3,h4,h5⟩:=ZgB he;obtain ⟨w,ew,rw'⟩:=r.get h2;have hl:=r.length;have hn:=line63;have fin:EP X pins σ Q w s:=⟨z,H,I,rw',q⟩
 exact subscriptTail_builtinR (x:=w) pl.typeIs slot_tuple_getitem.lookup
   (getItem_tuple (j:=j) (Q:=fun r s'=>r=w∧EP X pins σ Q r s') pl (by omega) (by omega) (by rw [List.size_toArray,← hl];exact h1) (by simpa using ew) ⟨rfl,fin⟩) hs
theorem Zda:IxR X rIxS:=by
 intro value slice pins s σ H x y v u Q I rx ry h hs;obtain ⟨z,i,c,rfl,rfl,hz,he,q⟩:=h;obtain ⟨t,rfl⟩:=rx;obtain ⟨t',rfl⟩:=ry;obtain ⟨j,h1,h2,h3,h4,h5⟩:=ZgB he;have hl:z.cps.toList.length=z.length:=by simp [Str.length]
 rw [hl] at h1 h4 h5;have hn:=line63;exact tail_any (typeIs_str s z t) slot_str_getitem.lookup (getItem_str (c:=c) (by
   have e1:decide (i < -(2^63:Int))=false:=decide_eq_false (by omega);have e2:decide (i≥2^63)=false:=decide_eq_false (by omega);rw [e1,e2,Bool.or_false]) (by rw [h1];simpa using h2) ⟨.str ⟨#[c]⟩,H,I.tok _,⟨_,rfl⟩,q⟩) hs
theorem Zij (its:List Value)(n j:Nat)(u:Value):Obj.mapSeq (·.setIfInBounds j u) { cls:=.type "list",data:=.seq its.toArray n }={ cls:=.type "list",data:=.seq (its.set j u).toArray n }:=by simp [Obj.mapSeq]
theorem Inv.lst {pins:List (Addr × Obj)}{σ:St}{H:Hp}{s:Shared}{p:Addr}{xs:List V}(I:Inv X pins σ H s)(h:H p=some (.lst xs)) :
   ∃ (its:List Value) (n:Nat),Vals xs its∧s.heap.get? p=some { cls:=.type "list",data:=.seq its.toArray n }∧xs.length≤sizeLine:=by
 obtain ⟨z,its,n,r,e⟩:=I.hok p _ h;exact ⟨its,n,r,e,z⟩
theorem Inv.lstUpd {pins:List (Addr × Obj)}{σ:St}{H:Hp}{s:Shared}{p:Addr}{xs ys:List V}{its its':List Value}{n n':Nat}{f:Obj→Obj}(I:Inv X pins σ H s)(h:H p=some (.lst xs))
   (ho:s.heap.get? p=some { cls:=.type "list",data:=.seq its.toArray n }) (hf:f { cls:=.type "list",data:=.seq its.toArray n }={ cls:=.type "list",data:=.seq its'.toArray n' }) (r:Vals ys its') (hz:ys.length≤sizeLine) (t:Nat) :
   Inv X pins σ (upd H p (.lst ys)) { s with heap:=s.heap.update p f,toks:=t }:=by
 have e:(s.heap.update p f).get? p=some { cls:=.type "list",data:=.seq its'.toArray n' }:=by rw [Heap.get?_update_self f ho (by rw [hf]<;>rfl),hf]
 refine I.write (x:=p) (e:=p) (by rw [h];trivial) (.inl rfl) (fun b u hb q=>(Heap.get?_update_other _ _ (Ne.symm hb)).trans q) ⟨_,e⟩ ?_;exact ⟨hz,its',n',r,e⟩
def rSetL:V→V→V→Hp→(Hp→Prop)→Prop:=fun o i v H Q=>∃ p xs k j,o=.ref p∧i=.int k∧H p=some (.lst xs)∧ixN xs.length k=some j∧Q (upd H p (.lst (xs.set j v)))
theorem Zha:PSet X rSetL:=by
 intro pins s σ H o i v ov iv u Q I ro ri rv h;obtain ⟨p,xs,k,j,rfl,rfl,hp,hj,q⟩:=h;cases ro;obtain ⟨t,rfl⟩:=ri;obtain ⟨its,n,r,ho,hz⟩:=I.lst hp;obtain ⟨h1,h2,h3,h4⟩:=Zjv hj;have hl:=r.length;have hn:=line63;have I':Inv X pins σ (upd H p (.lst (xs.set j v))) { s with heap:=s.heap.update p (Obj.mapSeq (·.setIfInBounds j u)) } :=
   I.lstUpd hp ho (Zij its n j u) (r.set rv j) (by rw [List.length_set];exact hz) s.toks
 by_cases h0:0≤k
 · have hk:k.toNat=j:=by
     rw [seqIndex_of h0 h4] at h1;exact Option.some.inj h1
   exact PySem.W.ki_setAt ho h0 (by omega) (by rw [List.size_toArray,← hl];exact h4) (by rw [hk];exact ⟨_,I',q⟩)
 · have hk:(k+(its.toArray.size:Int)).toNat=j:=by
     rw [seqIndex_neg (by omega) h3] at h1;rw [List.size_toArray,← hl];exact Option.some.inj h1
   exact PySem.W.ki_setBack ho (by omega) (by rw [List.size_toArray,← hl];exact h3) (by omega) (by rw [hk];exact ⟨_,I',q⟩)
theorem Zgm (lo hi:Option Int)(n:Nat):(sliceBounds lo hi none n).1=((HT.sIx n 0 lo:Nat):Int)∧(sliceBounds lo hi none n).2.1=((HT.sIx n n hi:Nat):Int)∧(sliceBounds lo hi none n).2.2=1:=by
 refine ⟨?_,?_,rfl⟩
 · cases lo with
   | none=>simp [sliceBounds,HT.sIx]
   | some i =>
     simp only [sliceBounds,HT.sIx,Option.getD_none,show (1:Int) > 0 by decide,if_true];by_cases h:i<0
     · simp only [h,if_true]<;>omega
     · simp only [h,if_false]<;>omega
 · cases hi with
   | none=>simp [sliceBounds,HT.sIx]
   | some i =>
     simp only [sliceBounds,HT.sIx,Option.getD_none,show (1:Int) > 0 by decide,if_true];by_cases h:i<0
     · simp only [h,if_true]<;>omega
     · simp only [h,if_false]<;>omega
theorem Zfv (its:List Value)(lo hi:Option Int):slicePick its.toArray lo hi none=((its.drop (HT.sIx its.length 0 lo)).take (HT.sIx its.length its.length hi-HT.sIx its.length 0 lo)).toArray:=by obtain ⟨h1,h2,h3⟩:=Zgm lo hi its.toArray.size;unfold slicePick;rw [h1,h2,h3];simp only [sliceRange_one,pick_run,List.size_toArray]<;>rfl
def rSlL (K:PySem.W.Frag):V→Option Int→Option Int→Hp→VK→Prop:=fun x lo hi H Q=>∃ a xs,x=.ref a∧SqL K H a xs∧∀ p,H p=none→Q (.ref p) (upd H p (.lst (cutV xs lo hi)))
theorem sl_list:SlR X (rSlL X.K):=by intro pins s σ H x v vl vu lo hi sl Q I rx hs pl pu h;obtain ⟨a,xs,rfl,hx,q⟩:=h;cases rx;obtain ⟨its,r,ht,hz⟩:=I.list hx;have hlen:=r.length;refine ⟨"list",_,slot_list_getitem.lookup,ht.isList.typeIs,?_⟩;refine wpAny_getItem_list_slice ht.isList hs pl pu .none (by simp) ?_ (by rw [List.size_toArray]<;>omega);rw [Zfv,← hlen];refine ⟨.ref s.heap.objs.size,_,I.laid (t':=s.toks) (o:=.lst (cutV xs lo hi)) (fun b ob q=>Heap.get?_push_of_some _ q) (Nat.le_refl _) ?_,rfl,q _ (I.hok.fresh (Nat.le_refl _))⟩;exact ⟨Nat.le_trans (Zhq xs lo hi) hz,_,0,(r.drop (HT.sIx xs.length 0 lo)).take (HT.sIx xs.length xs.length hi-HT.sIx xs.length 0 lo),Heap.get?_push_size _ rfl⟩
def flatV:V→Bool
 | .non=>true
 | .bl _=>true
 | .int _=>true
 | .str _=>true
 | _=>false
def eqV:V→V→Bool
 | .non,.non=>true
 | .bl a,.bl b=>a==b
 | .bl a,.int b=>(if a then 1 else 0)==b
 | .int a,.bl b=>a==(if b then 1 else 0)
 | .int a,.int b=>a==b
 | .str a,.str b=>a==b
 | _,_=>false
theorem eqAt_V {A:Around}{s:Shared}{y x:V}{u v:Value}(ry:RelV y u)(rx:RelV x v)(fy:flatV y=true)(fx:flatV x=true):SeqAt.EqAt A s u v (eqV y x):=by
 cases y with
 | non =>
   cases ry;cases x with
   | non=>cases rx;exact SeqAt.EqAt.same _
   | bl b=>cases rx;exact SeqAt.EqAt.none_bool b
   | int b=>obtain ⟨t,rfl⟩:=rx;exact SeqAt.EqAt.none_int b t
   | str b=>obtain ⟨t,rfl⟩:=rx;exact SeqAt.EqAt.none_str b t
   | _=>exact absurd (show false=true from fx) Bool.false_ne_true
 | bl a =>
   cases ry;cases x with
   | non=>cases rx;exact SeqAt.EqAt.bool_none a
   | bl b=>cases rx;exact SeqAt.EqAt.bool_bool a b
   | int b=>obtain ⟨t,rfl⟩:=rx;exact SeqAt.EqAt.bool_int a b t
   | str b=>obtain ⟨t,rfl⟩:=rx;exact SeqAt.EqAt.bool_str a b t
   | _=>exact absurd (show false=true from fx) Bool.false_ne_true
 | int a =>
   obtain ⟨t',rfl⟩:=ry;cases x with
   | non=>cases rx;exact SeqAt.EqAt.int_none a t'
   | bl b=>cases rx;exact SeqAt.EqAt.int_bool a t' b
   | int b=>obtain ⟨t,rfl⟩:=rx;exact SeqAt.EqAt.int_int a t' b t
   | str b=>obtain ⟨t,rfl⟩:=rx;exact SeqAt.EqAt.int_str a t' b t
   | _=>exact absurd (show false=true from fx) Bool.false_ne_true
 | str a =>
   obtain ⟨t',rfl⟩:=ry;cases x with
   | non=>cases rx;exact SeqAt.EqAt.str_none a t'
   | bl b=>cases rx;exact SeqAt.EqAt.str_bool a t' b
   | int b=>obtain ⟨t,rfl⟩:=rx;exact SeqAt.EqAt.str_int a t' b t
   | str b=>obtain ⟨t,rfl⟩:=rx;exact SeqAt.EqAt.str_str a t' b t
   | _=>exact absurd (show false=true from fx) Bool.false_ne_true
 | _=>exact absurd (show false=true from fy) Bool.false_ne_true
def eqU (x:V)(u:Value):Bool:=match u with
 | .none=>eqV .non x
 | .bool b=>eqV (.bl b) x
 | .int i _=>eqV (.int i) x
 | .str z _=>eqV (.str z) x
 | _=>false
theorem eqU_of {x y:V}{u:Value}(r:RelV y u)(f:flatV y=true):eqU x u=eqV y x:=by
 cases y with
 | non=>cases r;rfl
 | bl b=>cases r;rfl
 | int i=>obtain ⟨t,rfl⟩:=r;rfl
 | str z=>obtain ⟨t,rfl⟩:=r;rfl
 | _=>exact absurd (show false=true from f) Bool.false_ne_true
theorem Zdq {x:V}:∀ {xs:List V} {us:List Value},Vals xs us→xs.all flatV=true→us.any (eqU x)=xs.any fun y=>eqV y x
 | _,_,.nil,_=>rfl
 | y::xs,u::us,.cons r t,f=>by
   rw [List.all_cons,Bool.and_eq_true] at f;rw [List.any_cons,List.any_cons,eqU_of r f.1,Zdq t f.2]
theorem ZcK {A:Around}{s:Shared}{x:V}{v:Value}(rx:RelV x v)(fx:flatV x=true):∀ {xs:List V} {us:List Value},Vals xs us→xs.all flatV=true→∀ u∈us,SeqAt.EqAt A s u v (eqU x u)
 | _,_,.nil,_=>fun u hu=>by cases hu
 | y::xs,u::us,.cons r t,f=>fun u' hu=>by
   rw [List.all_cons,Bool.and_eq_true] at f;rcases List.mem_cons.mp hu with rfl | hu
   · rw [eqU_of r f.1];exact eqAt_V r rx f.1 fx
   · exact ZcK rx fx t f.2 u' hu
def inV (x:V)(xs:List V):Bool:=xs.any fun y=>eqV y x
def rIn (K:PySem.W.Frag)(neg:Bool):R2:=fun x y H Q=>∃ p xs,y=.ref p∧(SqL K H p xs∨SqT K H p xs)∧flatV x=true∧xs.all flatV=true∧Q (.bl (if neg then !inV x xs else inV x xs)) H
theorem Zkx:OpR X (compareOp .In) (rIn X.K false):=by
 intro pins s σ H x y v u Q I rx ry h;obtain ⟨p,xs,rfl,hq,fx,fs,q⟩:=h;cases ry;rcases hq with hq | hq
 · obtain ⟨its,r,pl,hz⟩:=I.list hq
   refine SeqAt.in_listAt (eqU x) pl.isList (fun w hw=>ZcK rx fx r fs w (by simpa using hw)) ⟨.bl _,H,I,rfl,?_⟩;rw [show its.toArray.any (eqU x)=its.any (eqU x) by simp,Zdq r fs];exact q
 · obtain ⟨its,r,pl,hz⟩:=I.tuple hq
   refine SeqAt.in_tupleAt (eqU x) pl (fun w hw=>ZcK rx fx r fs w (by simpa using hw)) ⟨.bl _,H,I,rfl,?_⟩;rw [show its.toArray.any (eqU x)=its.any (eqU x) by simp,Zdq r fs];exact q
theorem ZgF:OpR X (compareOp .NotIn) (rIn X.K true):=by
 intro pins s σ H x y v u Q I rx ry h;obtain ⟨p,xs,rfl,hq,fx,fs,q⟩:=h;cases ry;rcases hq with hq | hq
 · obtain ⟨its,r,pl,hz⟩:=I.list hq
   refine SeqAt.notIn_listAt (eqU x) pl.isList (fun w hw=>ZcK rx fx r fs w (by simpa using hw)) ⟨.bl _,H,I,rfl,?_⟩;rw [show its.toArray.any (eqU x)=its.any (eqU x) by simp,Zdq r fs];exact q
 · obtain ⟨its,r,pl,hz⟩:=I.tuple hq
   refine SeqAt.notIn_tupleAt (eqU x) pl (fun w hw=>ZcK rx fx r fs w (by simpa using hw)) ⟨.bl _,H,I,rfl,?_⟩;rw [show its.toArray.any (eqU x)=its.any (eqU x) by simp,Zdq r fs];exact q
theorem Zgr:CallR X (.builtin "len") (fun xs H Q=>∃ p ys,xs=[.ref p]∧(SqL X.K H p ys∨SqT X.K H p ys)∧Q (.int ys.length) H):=by
 intro pins s σ H xs us Q I r h;obtain ⟨p,ys,rfl,hq,q⟩:=h;obtain ⟨u,rfl,rx⟩:=vals1 r;cases rx;have hn:=line63;rcases hq with hq | hq
 · obtain ⟨its,r',pl,hz⟩:=I.list hq
   have hlen:=r'.length;exact Calls.call_len_list pl.isList (by simp only [List.size_toArray]<;>omega) ⟨.int ys.length,H,I.tok _,⟨s.toks+1,by rw [List.size_toArray,hlen]⟩,q⟩
 · obtain ⟨its,r',pl,hz⟩:=I.tuple hq
   have hlen:=r'.length;exact len_tuple pl (by simp only [List.size_toArray]<;>omega) ⟨.int ys.length,H,I.tok _,⟨s.toks+1,by rw [List.size_toArray,hlen]⟩,q⟩
theorem Zaw:CallR X (.builtin "len") (fun xs H Q=>∃ z,xs=[.str z]∧z.length≤sizeLine∧Q (.int z.length) H):=by intro pins s σ H xs us Q I r h;obtain ⟨z,rfl,hz,q⟩:=h;obtain ⟨u,rfl,t,rfl⟩:=vals1 r;have hn:=line63;exact len_str (by omega) ⟨.int z.length,H,I.tok _,⟨_,rfl⟩,q⟩
theorem ZgE:CallR X (.type "list") (fun xs H Q=>∃ p ys,xs=[.ref p]∧(SqL X.K H p ys∨SqT X.K H p ys)∧∀ l,H l=none→Q (.ref l) (upd H l (.lst ys))):=by
 intro pins s σ H xs us Q I r h;obtain ⟨p,ys,rfl,hq,q⟩:=h;obtain ⟨u,rfl,rx⟩:=vals1 r;cases rx;have fin:∀ (its:List Value),Vals ys its→ys.length≤sizeLine→∀ (h':Heap) (c':Nat),(∀ b o',s.heap.get? b=some o'→h'.get? b=some o') →
     h'.get? s.heap.objs.size=some { cls:=.type "list",dict:=none,data:=.seq its.toArray c',slots:=#[] }→EP X pins σ Q (.ref s.heap.objs.size) { s with heap:=h' }:=fun its r' hz h' c' kp e =>
   ⟨.ref s.heap.objs.size,_,I.laid (t':=s.toks) kp (Nat.le_refl _) (show ObjOk X.prog X.w _ h' _ (.lst ys) from ⟨hz,its,c',r',e⟩),rfl,q _ (I.hok.fresh (Nat.le_refl _))⟩
 rcases hq with hq | hq
 · obtain ⟨its,r',pl,hz⟩:=I.list hq
   have hlen:=r'.length;obtain ⟨o,ho,hc,n,hd⟩:=pl.isList;exact call_list_seq p (.inl rfl) ho hc hd (fun h' c' kp e=>fin its r' hz h' c' kp e) (by simp only [List.size_toArray]<;>omega)
 · obtain ⟨its,r',pl,hz⟩:=I.tuple hq
   have hlen:=r'.length;obtain ⟨o,ho,hc,n,hd⟩:=pl;exact call_list_seq p (.inr rfl) ho hc hd (fun h' c' kp e=>fin its r' hz h' c' kp e) (by simp only [List.size_toArray]<;>omega)
def tyV (K:PySem.W.Frag)(T:String)(x:V)(H:Hp):Prop:=match x with
 | .str _=>T="str"
 | .int _=>T="int"
 | .ref p=>(T="list"∧∃ xs,SqL K H p xs)∨(T="tuple"∧∃ o,K.lookup p=some o∧o.cls=.type "tuple"∧o.dict=none) ∨
     (T="dict"∧((∃ kvs,H p=some (.dK kvs))∨∃ kvs,H p=some (.dT kvs)))∨(T="set"∧∃ S n,H p=some (.set S n))
 | _=>False
theorem tyV_is {pins:List (Addr × Obj)} {σ:St} {H:Hp} {s:Shared} {T:String} {x:V} {v:Value} (I:Inv X pins σ H s) (r:RelV x v) (ty:tyV X.K T x H) :
   s.TypeIs v T∧∀ a,v=.ref a→∃ ob,s.heap.get? a=some ob∧ob.dict=none:=by
 cases x with
 | str z =>
   obtain ⟨t,rfl⟩:=r;cases (show T="str" from ty);exact ⟨typeIs_str s z t,fun _ e=>nomatch e⟩
 | int i =>
   obtain ⟨t,rfl⟩:=r;cases (show T="int" from ty);exact ⟨typeIs_int s i t,fun _ e=>nomatch e⟩
 | ref p =>
   cases r;rcases ty with ⟨rfl,xs,hq⟩ | ⟨rfl,o,hk,hc,hd⟩ | ⟨rfl,hk⟩ | ⟨rfl,S,n,hk⟩
   · obtain ⟨its,_,pl,_⟩:=I.list hq
     refine ⟨pl.isList.typeIs,fun a e=>?_⟩;cases e;obtain ⟨o,n,e,c,hd,_⟩:=pl;exact ⟨o,e,hd⟩
   · refine ⟨⟨o,I.kIn p o hk,hc⟩,fun a e=>?_⟩
     cases e;exact ⟨o,I.kIn _ o hk,hd⟩
   · have z:∃ o,s.heap.get? p=some o∧o.ExactDict:=by
       rcases hk with ⟨kvs,hk⟩ | ⟨kvs,hk⟩
       · obtain ⟨_,_,_,_,o,_,_,e,ex,_⟩:=I.hok p _ hk
         exact ⟨o,e,ex⟩
       · obtain ⟨_,_,_,_,o,_,_,e,ex,_⟩:=I.hok p _ hk
         exact ⟨o,e,ex⟩
     obtain ⟨o,e,ex⟩:=z;refine ⟨⟨o,e,ex.1⟩,fun a e2=>?_⟩;cases e2;exact ⟨o,e,ex.2.1⟩
   · obtain ⟨o,_,_,_,e,ex,_⟩:=I.hok p _ hk
     refine ⟨⟨o,e,ex.1⟩,fun a e2=>?_⟩;cases e2;exact ⟨o,e,ex.2.1⟩
 | _=>exact False.elim ty
def tBM0 (K:PySem.W.Frag)(T:String)(r:V→List V→Hp→VK→Prop)(to:TE):TE:=fun σ H Q=>to σ H fun x H1=>tyV K T x H1∧r x [] H1 Q
def tBM (K:PySem.W.Frag)(T:String)(r:V→List V→Hp→VK→Prop)(to:TE)(t:TA):TE:=fun σ H Q=>to σ H fun x H1=>tyV K T x H1∧t σ H1 fun xs H2=>r x xs H2 Q
variable {o e:Expr}{es:List Expr}{to:TE}{t:TA}{name:Str}{apos cpos:Pos}{T id:String}{r:V→List V→Hp→VK→Prop}
theorem pe_bm0 (pa:PlainAttrs T)(slot:Slot T name id)(hty:typeOf (.builtin id)=pure (.type "method_descriptor"))(hm:MtR X id r)(ho:PE X o to)
   (hbase:attributeBase o name X.env (eval o X.env)=eval o X.env:=by rfl) (hline:(apos.endLine==cpos.line)=true:=by rfl):PE X (.Call (.Attribute o name apos) [] [] cpos) (tBM0 X.K T r to):=by
 intro pins s σ H Q I h;refine wpAny_Call_method0_late hbase hline (thn (ho pins s σ H _ I h) fun v s1 ⟨x,H1,I1,r1,ty,q1⟩=>?_);obtain ⟨h1,h2⟩:=tyV_is I1 r1 ty;exact ⟨T,id,pa,slot,hty,h1,h2,Calls.callWith_builtin rfl (PySem.evalArgs_none (hm pins s1 σ H1 x [] v [] Q I1 r1 .nil q1))⟩
theorem pe_bm (pa:PlainAttrs T)(slot:Slot T name id)(hty:typeOf (.builtin id)=pure (.type "method_descriptor"))(hm:MtR X id r)(ho:PE X o to)(ha:PA X (e::es) t)
   (hbase:attributeBase o name X.env (eval o X.env)=eval o X.env:=by rfl)
   (hfew:((backTo cpos (starEach (e::es) X.env)).all (fun x=>!x.1)&&(backToKw cpos (keywordEach [] X.env)).all (fun x=>x.1.isSome)
     && decide ((e::es).length+([]:List Keyword).length+(if ([]:List Keyword).isEmpty then 0 else 1)<30))=true:=by rfl)
   (hline:(apos.endLine==cpos.line)=true:=by rfl) (hs:starEach (e::es) X.env=(false,eval e X.env)::starEach es X.env:=by rfl) (hplain:(backTo cpos (starEach es X.env)).any (·.1)=false:=by rfl) :
   PE X (.Call (.Attribute o name apos) (e::es) [] cpos) (tBM X.K T r to t):=by
 intro pins s σ H Q I h;refine wpAny_Call_method_late hbase hfew hline rfl (thn (ho pins s σ H _ I h) fun v s1 ⟨x,H1,I1,r1,ty,q1⟩=>?_);obtain ⟨h1,h2⟩:=tyV_is I1 r1 ty;refine ⟨T,id,pa,slot,hty,h1,h2,?_⟩;have hA:=ha cpos pins s1 σ H1 _ I1 q1;rw [hs] at hA ⊢;refine Calls.callWith_builtin (by show (false||(backTo cpos (starEach es X.env)).any (·.1))=false;rw [hplain]<;>rfl) (Calls.evalArgs_plain ?_);exact thn hA fun us s2 ⟨vs,H2,I2,r2,q2⟩=>hm pins s2 σ H2 x vs v us Q I2 r1 r2 q2
end
def MtM (X:Cx) (id:String) (r:V→List V→Hp→VK→Prop):Prop :=
 ∀ (pins:List (Addr × Obj)) (s:Shared) (σ:St) (H:Hp) (x:V) (xs:List V) (v:Value) (us:List Value) (Q:VK),Inv X pins σ H s→RelV x v→Vals xs us→r x xs H Q →
   wpAny (model X.prog X.w) X.A (call (.builtin id) (v::us)) (EP X pins σ Q) X.xe s
theorem Vals.one:∀ {x:V} {us:List Value},Vals [x] us→∃ u,us=[u]∧RelV x u
 | _,_,.cons r .nil=>⟨_,rfl,r⟩
theorem Vals.two:∀ {x y:V} {us:List Value},Vals [x,y] us→∃ u v,us=[u,v]∧RelV x u∧RelV y v:=by
 intro x y us h;cases h with
 | cons r t =>
   cases t with
   | cons q t2 =>
     cases t2;exact ⟨_,_,rfl,r,q⟩
theorem Vals.zero:∀ {us:List Value},Vals [] us→us=[]
 | _,.nil=>rfl
theorem Vals.dropLast {xs:List V}{us:List Value}(h:Vals xs us):Vals xs.dropLast us.dropLast:=by
 induction h with
 | nil=>exact .nil
 | cons r t ih =>
   cases t with
   | nil=>exact .nil
   | cons q t'=>exact .cons r ih
theorem Vals.rep {xs:List V}{us:List Value}(h:Vals xs us):∀ k:Nat,Vals (List.replicate k xs).flatten (List.replicate k us).flatten
 | 0=>.nil
 | k+1=>by
   rw [List.replicate_succ,List.replicate_succ,List.flatten_cons,List.flatten_cons];exact Vals.append h (Vals.rep h k)
theorem ZhW {α:Type} (l:List α):l.eraseIdx (l.length-1)=l.dropLast:=by
 induction l with
 | nil=>rfl
 | cons a r ih =>
   cases r with
   | nil=>rfl
   | cons b r =>
     have e:(a::b::r).length-1=((b::r).length-1)+1:=by have h1:(a::b::r).length=r.length+2:=rfl;have h2:(b::r).length=r.length+1:=rfl;omega
     rw [e,List.eraseIdx_cons_succ,ih]
     all_goals rfl
theorem ZfO (its:List Value):∀ (k:Nat) (acc:List Value),
   List.foldl (fun x1 x2=>x1++x2) acc.toArray (List.replicate k its.toArray)=(acc++(List.replicate k its).flatten).toArray
 | 0,acc=>by simp
 | k + 1,acc=>by
   have e:acc.toArray++its.toArray=(acc++its).toArray:=by simp
   have e2:(acc++its)++(List.replicate k its).flatten=acc++(List.replicate (k+1) its).flatten:=by rw [List.replicate_succ,List.flatten_cons,List.append_assoc]
   rw [← e2,← ZfO its k (acc++its),← e,List.replicate_succ,List.foldl_cons]
section
variable {X:Cx}{pins:List (Addr × Obj)}{σ:St}{H:Hp}{s:Shared}{l b:Addr}{xs ys zs:List V}
theorem Inv.lset {its its':List Value}{n:Nat}{f:Array Value→Array Value}{t':Nat}(I:Inv X pins σ H s)(hH:H l=some (.lst xs))
   (e:s.heap.get? l=some { cls:=.type "list",data:=.seq its.toArray n }) (hf:f its.toArray=its'.toArray) (hv:Vals ys its') (hz:ys.length≤sizeLine) :
   Inv X pins σ (upd H l (.lst ys)) { s with heap:=s.heap.update l (Obj.mapSeq f),toks:=t' }:=by
 have q:=PySem.IsL.update e f;rw [hf] at q;refine I.write (x:=l) (e:=l) (by rw [hH];exact trivial) (.inl rfl) (fun b' u hb hu=>(Heap.get?_update_other s.heap (Obj.mapSeq f) (Ne.symm hb)).trans hu) ⟨_,q⟩ ?_;exact ⟨hz,its',_,hv,q⟩
theorem Inv.lnew {its:List Value}{t':Nat}(I:Inv X pins σ H s)(hv:Vals ys its)(hz:ys.length≤sizeLine) :
   Inv X pins σ (upd H s.heap.objs.size (.lst ys)) { s with heap:=s.heap.push { cls:=.type "list",data:=.seq its.toArray },toks:=t' } :=
 I.laid (fun _ _ q=>Heap.get?_push_of_some _ q) (Nat.le_refl _) ⟨hz,its,0,hv,Heap.get?_push_size _ rfl⟩
theorem Inv.fresh (I:Inv X pins σ H s):H s.heap.objs.size=none:=I.hok.fresh (Nat.le_refl _)
theorem Inv.lstM (I:Inv X pins σ H s)(hH:H l=some (.lst xs)):xs.length≤sizeLine∧∃ (its:List Value) (n:Nat),Vals xs its∧xs.length=its.length∧s.heap.get? l=some { cls:=.type "list",data:=.seq its.toArray n }:=by obtain ⟨z,its,n,r,e⟩:=I.hok l _ hH;exact ⟨z,its,n,r,r.length,e⟩
theorem notLongL {n:Nat}(h:n≤sizeLine):Builtin.List.listTooLong n=false:=by unfold Builtin.List.listTooLong;exact decide_eq_false (by omega)
end
section
variable {X:Cx}
def rAppend:V→List V→Hp→VK→Prop:=fun x vs H Q=>∃ l xs y,x=.ref l∧vs=[y]∧H l=some (.lst xs)∧xs.length<sizeLine∧Q .non (upd H l (.lst (xs++[y])))
theorem ZaL:MtM X "list.append" rAppend:=by intro pins s σ H x vs v us Q I rx rv h;obtain ⟨l,xs,y,rfl,rfl,hH,hz,q⟩:=h;cases rx;obtain ⟨u,rfl,ru⟩:=rv.one;obtain ⟨z,its,n,r,hl,e⟩:=I.lstM hH;refine call_meets F.slot_list_append ⟨_,e,rfl⟩ F.entry_list_append (F.args_list_append_2 _ _) (PySem.list_append l its.toArray n u (by rw [List.size_toArray];omega)) ⟨e,?_⟩;refine ⟨.non,_,I.lset (its':=its++[u]) hH e (by simp) (r.append (.cons ru .nil)) ?_,rfl,q⟩;rw [List.length_append,List.length_singleton];omega
def rExtend:V→List V→Hp→VK→Prop:=fun x vs H Q=>∃ l b xs zs,x=.ref l∧vs=[.ref b]∧H l=some (.lst xs)∧H b=some (.lst zs)∧xs.length+zs.length≤sizeLine∧Q .non (upd H l (.lst (xs++zs)))
theorem Zkb:MtM X "list.extend" rExtend:=by
 intro pins s σ H x vs v us Q I rx rv h;obtain ⟨l,b,xs,zs,rfl,rfl,hH,hB,hz,q⟩:=h;cases rx;obtain ⟨u,rfl,ru⟩:=rv.one;cases ru;obtain ⟨z,its,n,r,hl,e⟩:=I.lstM hH;obtain ⟨z2,its2,n2,r2,hl2,e2⟩:=I.lstM hB;have hsz:its.toArray.size+its2.toArray.size≤sizeLine:=by rw [List.size_toArray,List.size_toArray];omega
 have hlong:¬ (!its.toArray.isEmpty&&Builtin.List.listTooLong (its.toArray.size+its2.toArray.size))=true:=by rw [notLongL hsz,Bool.and_false];exact Bool.false_ne_true
 refine call_meets F.slot_list_extend ⟨_,e,rfl⟩ F.entry_list_extend (F.args_list_extend_2 _ _)
   (AutoSeq1.list_extend_list_list_0 l its.toArray n b its2.toArray n2 hlong (by rw [List.size_toArray];omega) (by omega)) ⟨e,e2,?_⟩
 refine ⟨.non,_,I.lset (its':=its++its2) hH e (by simp) (r.append r2) ?_,rfl,q⟩;rw [List.length_append];omega
def rPop:V→List V→Hp→VK→Prop:=fun x vs H Q=>∃ l xs y,x=.ref l∧vs=[]∧H l=some (.lst xs)∧xs[xs.length-1]?=some y∧Q y (upd H l (.lst xs.dropLast))
theorem Zfc:MtM X "list.pop" rPop:=by
 intro pins s σ H x vs v us Q I rx rv h;obtain ⟨l,xs,y,rfl,rfl,hH,hy,q⟩:=h;cases rx;have hus:=rv.zero;subst hus;obtain ⟨z,its,n,r,hl,e⟩:=I.lstM hH;obtain ⟨u,hu,ru⟩:=r.get hy;have hy':its.toArray[its.toArray.size-1]?=some u:=by show its.toArray[its.length-1]?=some u;rw [← Array.getElem?_toList,← hl];exact hu
 refine call_meets F.slot_list_pop ⟨_,e,rfl⟩ F.entry_list_pop (F.args_list_pop_1 _) (MeetsSeq.list_pop_last l its.toArray n u hy' (by rw [List.size_toArray];omega)) ⟨e,?_⟩;refine ⟨y,_,I.lset (its':=its.dropLast) hH e ?_ r.dropLast ?_,ru,q⟩
 · show its.toArray.eraseIdxIfInBounds (its.toArray.size-1)=its.dropLast.toArray
   rw [List.size_toArray,List.eraseIdxIfInBounds_toArray,ZhW]
 · rw [List.length_dropLast]
   omega
def rCat:R2:=fun x y H Q=>∃ l b xs zs,x=.ref l∧y=.ref b∧H l=some (.lst xs)∧H b=some (.lst zs)∧xs.length+zs.length≤sizeLine∧∀ p,H p=none→Q (.ref p) (upd H p (.lst (xs++zs)))
theorem Zc9:OpR X (binaryOp .Add) rCat:=by
 intro pins s σ H x y v u Q I rx ry h;obtain ⟨l,b,xs,zs,rfl,rfl,hH,hB,hz,q⟩:=h;cases rx;cases ry;obtain ⟨z,its,n,r,hl,e⟩:=I.lstM hH;obtain ⟨z2,its2,n2,r2,hl2,e2⟩:=I.lstM hB;refine PySem.P.add_list e e2 ?_ (by rw [List.size_toArray,List.size_toArray];omega);have ea:its.toArray++its2.toArray=(its++its2).toArray:=by simp
 rw [ea];exact ⟨.ref _,_,I.lnew (t':=s.toks) (r.append r2) (by rw [List.length_append];omega),rfl,q _ I.fresh⟩
def rRep:R2:=fun x y H Q=>∃ l k xs,x=.ref l∧y=.int k∧H l=some (.lst xs)∧-(2^63)≤k∧k<2^63∧xs.length*k.toNat≤sizeLine ∧
 ∀ p,H p=none→Q (.ref p) (upd H p (.lst (List.replicate k.toNat xs).flatten))
theorem len_rep {α:Type}(xs:List α)(k:Nat):(List.replicate k xs).flatten.length=k*xs.length:=by
 induction k with
 | zero=>simp
 | succ k ih=>rw [List.replicate_succ,List.flatten_cons,List.length_append,ih,Nat.succ_mul,Nat.add_comm]
theorem op_rep:OpR X (binaryOp .Mult) rRep:=by
 intro pins s σ H x y v u Q I rx ry h;obtain ⟨l,k,xs,rfl,rfl,hH,h1,h2,hz,q⟩:=h;cases rx;obtain ⟨t,rfl⟩:=ry;obtain ⟨z,its,n,r,hl,e⟩:=I.lstM hH;have hlen:its.toArray.size*k.toNat≤sizeLine:=by rw [List.size_toArray,← hl];exact hz
 have hcap:¬ its.toArray.size*k.toNat > (2^63-1)/8:=by
   have:(sizeLine:Nat)≤(2^63-1)/8:=by decide
   omega
 have hfit:¬ (!Builtin.List.listFitsIndex k)=true:=by rw [fitsIndex_both h1 h2];exact Bool.false_ne_true
 have hlong:¬ Builtin.List.listTooLong (its.toArray.size*k.toNat)=true:=by rw [notLongL hlen];exact Bool.false_ne_true
 have hnew:List.foldl (fun x1 x2=>x1++x2) #[] (List.replicate (if its.toArray.isEmpty=true then 0 else k.toNat) its.toArray)=(List.replicate k.toNat its).flatten.toArray:=by
   have f0:∀ m:Nat,List.foldl (fun x1 x2=>x1++x2) #[] (List.replicate m its.toArray)=(List.replicate m its).flatten.toArray:=fun m=>by
     have:=ZfO its m [];rw [List.nil_append] at this;exact this
   rw [f0];cases its with
   | nil=>simp
   | cons a r'=>rw [if_neg (by simp)]
 refine wpAny_binaryOp_repeat_ref (T:="list") (U:="int") (by decide) ⟨_,e,rfl⟩ (fun s'=>typeIs_int s' k t) noFill_list_mul F.fills_int_mul F.slot_int_rmul repeat_list F.slot_int_index.lookup
   (call_meets F.slot_int_rmul (typeIs_int s k t) F.entry_int_rmul (F.args_int_rmul_2 _ _) (int___rmul___int_list k t l its.toArray n)
     ⟨e,rfl,⟨_,e,rfl⟩,call_meets F.slot_list_mul ⟨_,e,rfl⟩ F.entry_list_mul (F.args_list_mul_2 _ _) (AutoListH.list___mul___list_int_3 l its.toArray n k t hfit hcap hlong) ⟨e,?_⟩⟩)
 rw [hnew];exact ⟨.ref _,_,I.lnew (t':=s.toks) (r.rep k.toNat) (by rw [len_rep,Nat.mul_comm];exact hz),rfl,q _ I.fresh⟩
end
section
variable {prog:Program}{w:World}{A:Around}{E:Value→Shared→Prop}{s:Shared}
set_option maxRecDepth 100000 in
end
section
variable {X:Cx}
end
end L2
namespace Att
open PySem PySem.W PySem.Calls PyProof.Rows
theorem Zer {P:Params}{h:Heap}:∀ (ns:List Int) (vs:List Value),WellAll P h vs (ns.map WData.int)→IntsAre vs ns:=by
 intro ns;induction ns with
 | nil =>
   intro vs w;rw [List.map_nil] at w;cases w;exact .nil
 | cons n ns ih =>
   intro vs w;rw [List.map_cons] at w;cases w with
   | cons a b =>
     cases a;exact .cons _ _ (ih _ b)
theorem Zkf {l:OpenLaw}{n:Nat}(hn:l.most=some n){P:Params}{h:Heap}{args:List WData}{vals:List Value}
   (hpre:l.row.toRowW.claim.pre args=true) (hwl:WellAll P h vals args) :
   ∃ a vs ns,vals=[Value.ref a]∧args=[WData.list (ns.map WData.int)]∧h.get? a=some { cls:=.type "list",data:=.seq vs.toArray }∧IntsAre vs ns∧ns.length≤n:=by
 have hsh:WShape.hasAll [] args [.list .int]=true:=(pre_splitW hpre).1;have hc:l.pre.holds [] { args:=args }=true:=(pre_splitW hpre).2;obtain ⟨d,r,rfl,h1,h2⟩:=hasAllW_cons hsh;obtain rfl:=hasAllW_nil h2;obtain ⟨xs,rfl,h3⟩:=hasW_list h1;obtain ⟨ns,rfl⟩:=items_int h3;have hlen:ns.length≤n:=by
   unfold OpenLaw.pre at hc;have h4:(WTm.not (.lt (.lit (.int (n:Int))) (.len (.arg 0)))).holds [] { args:=[.list (ns.map .int)] }=true:=by have h4:=(holds_andW hc).1;rw [hn] at h4;exact h4
   have h5:=condW_of h4 (w_not (w_lt w_lit (w_len_list (w_arg rfl))));rw [List.length_map] at h5;refine Nat.le_of_not_lt fun q=>?_
   have q':(n:Int)<((ns.length:Nat):Int):=by omega
   first
     | (rw [decide_eq_true q'] at h5;exact absurd h5 (by decide))
     | (simp at h5;omega)
 cases hwl with
 | cons w1 w2 =>
   cases w2;cases w1 with
   | list ho hall=>exact ⟨_,_,ns,rfl,rfl,ho,Zer ns _ hall,hlen⟩
theorem ZkL (l:OpenLaw)(args:List WData):l.row.toRowW.claim.post args (.bool true) args=true :=
 postW_of (r:=l.row.toRowW) (X:=(true==true))
   (show WShape.has [] (.bool true) .bool=true by first | rfl | decide | simp [WShape.has,WShape.arms,WShape.armsAll])
   (show (WTm.eq .res (.lit (.bool true))).value [] { args:=args,res:=some (.bool true),after:=args }=some (.bool (true==true)) from w_eq_bool (w_res rfl) w_lit) rfl
theorem attach_call {l:OpenLaw}{n:Nat}{q:Program}{loose:List Str}{XP:(Str→Option Value)→Heap→Prop}{YP:World→Heap→Prop}{d:DefRec}
   (hn:l.most=some n) (hdf:d.params.defaults=[])
   (call:∀ (w:World) (s₀ s₁:Shared) (mg mb:Str→Option Value) (fa:Addr) (o:Obj) (pm cd doc:Value) (a:Addr) (vs:List Value) (ns:List Int),
     Ground q loose [] XP w s₀ mg mb s₁.heap→YP w s₁.heap →
     s₁.heap.get? fa=some o→o.data=.func (docDef d.name d.params d.body d.scope pm cd doc)→s₁.heap.CodeRec cd d.name→mg d.name=some (.ref fa) →
     s₁.heap.get? a=some { cls:=.type "list",data:=.seq vs.toArray }→IntsAre vs ns→ns.length≤n→s₁.gens=#[] →
     codeAny (model l.prog w) callerA (.call (.ref fa) ⟨[.ref a],[]⟩) (fun r s'=>r=.ok (.ret (.bool true))∧OldK s₁.heap s'.heap∧s'.os=s₁.os∧AllBare s'.gens) s₁) :
   WalkO q loose XP YP l.row.toRowW d [] (fun f vs=>PySem.call f vs):=by
 intro w s₀ s₁ mg mb G Y fa o pm cd doc dV kV ho hd hcd hD hmg hg args vals as hpre hlay hrd hwl hlo;obtain rfl:dV=.none:=Dflts.none hD hdf;obtain rfl:kV=.none:=Dflts.noKw hD;obtain ⟨a,vs,ns,rfl,rfl,hobj,hints,hlen⟩:=Zkf hn hpre hwl;refine enter_call (codeAny_mono (call w s₀ s₁ mg mb fa o pm cd doc a vs ns G Y ho (fd_plain hd) hcd hmg hobj hints hlen hg) fun r s' hq=>?_);obtain ⟨rfl,h2,h3,h4⟩:=hq;exact ⟨.inl ⟨.bool true,.bool true,[],rfl,fun _=>rfl,.bool true,ZkL l _,fun _=>⟨List.Pairwise.nil,fun _ hm=>(nomatch hm)⟩⟩,h2,h3,h4⟩
section
variable {prog:Program}{w:World}{A:Around}{E:Value→Shared→Prop}{s:Shared}{K:Frag}
end
end Att
namespace L2
open PySem PySem.Spec PyProof.Rows
theorem ZfH:∀ {vs:List Value} {ns:List Int},IntsAre vs ns→Vals (ns.map V.int) vs
 | _,_,.nil=>.nil
 | _,_,.cons n t h=>.cons ⟨t,rfl⟩ (ZfH h)
def Only (H:Hp):Prop:=∀ b,H b=none∨∃ o xs,H b=some (.frz o (.lst xs))
theorem law_call {P:Program} {w:World} {K:PySem.W.Frag} {mg mb:Str→Option Value} {CX:CXT} {k:Nat} {fa a:Addr} {fd:FuncData} {x:Str} {sp:Sp} {s₁:Shared} {vs:List Value} {ns:List Int}
   (KX:K.In s₁.heap) (hns:s₁.heap.Ns mainGlobals mg) (hb:s₁.heap.Ns builtinsNs mb) (hbb:∀ x:Str,x≠"__name__"→mb x=bootBuiltins x) (hlim:s₁.heap.NoLimit) (hg:s₁.gens=#[])
   (ha:s₁.heap.get? a=some { cls:=.type "list",data:=.seq vs.toArray }) (hi:IntsAre vs ns) (hl:ns.length≤sizeLine) (hr:Room k callerA)
   (F:∀ base:Heap,K.In base→base.Ns mainGlobals mg→FnOk P w K mg base CX k fa fd [x] sp) (hbind:∀ (s:Shared) (u:Value),BindsTo s fd ⟨[u],[]⟩ [(x,u)])
   (hsp:∀ H:Hp,Only H→SqL K H a (ns.map V.int)→sp [.ref a] H (fun v _=>v=.bl true) fun _ _ _=>False)
   (hCX:∀ H e s',CX [] H s₁ (fun _ _ _=>False) e s'→False) :
   codeAny (model P w) callerA (.call (.ref fa) ⟨[.ref a],[]⟩) (fun r s'=>r=.ok (.ret (.bool true))∧OldK s₁.heap s'.heap∧s'.os=s₁.os∧AllBare s'.gens) s₁:=by
 have rv:=ZfH hi;have lenV:=hi.length
 have core : ∀ H:Hp,Only H→SqL K H a (ns.map V.int)→HOk P w H s₁.heap→(∀ b,H b≠none→b=a)→(H a≠none→K.lookup a=none) →
     codeAny (model P w) callerA (.call (.ref fa) ⟨[.ref a],[]⟩) (fun r s'=>r=.ok (.ret (.bool true))∧OldK s₁.heap s'.heap∧s'.os=s₁.os∧AllBare s'.gens) s₁:=by
   intro H hO hS hok hA hK;have base_of:∀ {b:Addr} {o:Obj},s₁.heap.get? b=some o→H b=none→(hidT s₁.heap H).get? b=some o:=fun e n=>hidT_get e n
   have noA:∀ {b:Addr} {o:Obj} {es:Array DictEntry} {ep:Nat},s₁.heap.get? b=some o→o.data=.dict es ep→H b=none:=fun {b o es ep} e d=>by
     cases q:H b with
     | none=>rfl
     | some u =>
       have e':b=a:=hA b (by rw [q];simp);subst e';rw [ha] at e;cases e;have d':Data.seq vs.toArray _=Data.dict es ep:=d;cases d'
   have nsK:∀ {b:Addr} {m:Str→Option Value},s₁.heap.Ns b m→(hidT s₁.heap H).Ns b m:=fun {b m} ⟨o,es,ep,e,d,r⟩=>⟨o,es,ep,base_of e (noA e d),d,r⟩
   have hKb:K.In (hidT s₁.heap H):=fun b o e=>base_of (KX b o e) (by
     cases q:H b with
     | none=>rfl
     | some u =>
       have e':b=a:=hA b (by rw [q];simp);subst e';rw [hK (by rw [q];simp)] at e;cases e)
   have hM:Mod K mg (hidT s₁.heap H):=⟨hKb,nsK hns,⟨mb,nsK hb,hbb⟩,let ⟨mc,h1,h2⟩:=hlim;⟨mc,nsK h1,h2⟩⟩
   have e0:Env0 P w K mg (hidT s₁.heap H) callerA [] s₁ H:=⟨rfl,hM,fun b o e=>of_hidT e,Nat.le_of_eq (Zkl _ _),trivial,fun b hb=>absurd (show b∈([]:List Addr) from hb) (by simp),hok,.of_eq hg⟩
   refine codeAny_mono ((F _ hKb (nsK hns)).run callerA [] s₁ H ⟨[.ref a],[]⟩ [.ref a] [.ref a] _ _ hr e0 (hbind s₁ (.ref a)) (.cons rfl .nil) (hsp H hO hS)) fun r s' h=>?_
   cases r with
   | error e=>exact (hCX H e s' h).elim
   | ok fl =>
     cases fl with
     | next=>exact False.elim h
     | brk=>exact False.elim h
     | cont=>exact False.elim h
     | ret u =>
       obtain ⟨v,H',os,bare,un,hok',r',q⟩:=h;have q':v=.bl true:=q;subst q';obtain rfl:u=Value.bool true:=r';refine ⟨rfl,OldK.of_keep fun b o e=>?_,os,bare⟩;cases q:H b with
       | none=>exact un.keep b o e q (by intro z;exact absurd (show b∈([]:List Addr) from z) (by simp)) (by simp)
       | some u =>
         rcases hO b with z | ⟨ob,xs,z⟩
         · rw [q] at z;cases z
         · have z2:=un.frzs b ob _ z
           obtain ⟨e1,_⟩:=hok b _ z;obtain ⟨e2,_⟩:=hok' b _ z2;rw [e] at e1;cases e1;exact e2
 cases hk:K.lookup a with
 | some o =>
   have e:=KX a o hk;rw [ha] at e;cases e;refine core (fun _=>none) (fun _=>.inl rfl) (.inr ⟨_,vs.toArray,_,hk,rfl,rfl,rfl,by rw [List.size_toArray,lenV];exact hl,by simpa using rv⟩) (fun b u z=>by have z':(none:Option HO)=some u:=z;cases z') (fun b z=>absurd rfl z) fun z=>absurd rfl z
 | none =>
   refine core (fun b=>if b=a then some (.frz { cls:=.type "list",data:=.seq vs.toArray } (.lst (ns.map V.int))) else none) (fun b=>?_) (.inl (.inr ⟨{ cls:=.type "list",data:=.seq vs.toArray },if_pos rfl⟩)) (fun b u z=>?_) (fun b z=>?_) fun _=>hk
   · by_cases hb:b=a
     · exact .inr ⟨_,_,if_pos hb⟩
     · exact .inl (if_neg hb)
   · by_cases hb:b=a
     · have z':=(if_pos hb).symm.trans z
       cases z';subst hb;exact ⟨ha,by rw [List.length_map];exact hl,vs,_,rv,ha⟩
     · have z':=(if_neg hb).symm.trans z
       cases z'
   · by_cases hb:b=a
     · exact hb
     · exact absurd (if_neg hb) z
abbrev KOf {K:PySem.W.Frag}{h:Heap}(_:K.In h):PySem.W.Frag:=K
theorem walk_of {l:PySem.W.OpenLaw} {n k:Nat} {q:Program} {loose:List Str} {XP:(Str→Option Value)→Heap→Prop} {YP:World→Heap→Prop} {d:DefRec} {K:Params→PySem.W.Frag} {CX:World→CXT} {sp:World→Sp} {x:Str}
   (hn:l.most=some n) (hn2:n≤sizeLine) (hdf:d.params.defaults=[]) (hr:Room k callerA)
   (hY:∀ (w:World) (h:Heap),YP w h→(K w.params).In h)
   (F:∀ (w:World) (mg:Str→Option Value) (fa:Addr) (h:Heap),(K w.params).In h→h.Ns mainGlobals mg→mg d.name=some (.ref fa) →
     ∃ fd:FuncData,(∀ (s:Shared) (u:Value),BindsTo s fd ⟨[u],[]⟩ [(x,u)]) ∧
       ∀ base:Heap,(K w.params).In base→base.Ns mainGlobals mg→FnOk l.prog w (K w.params) mg base (CX w) k fa fd [x] (sp w))
   (hsp:∀ (w:World) (H:Hp) (a:Addr) (ns:List Int),ns.length≤n→Only H→SqL (K w.params) H a (ns.map V.int)→sp w [.ref a] H (fun v _=>v=.bl true) fun _ _ _=>False)
   (hCX:∀ (w:World) (H:Hp) (s:Shared) (e:Value) (s':Shared),CX w [] H s (fun _ _ _=>False) e s'→False) :
   PySem.W.WalkO q loose XP YP l.row.toRowW d [] (fun f vs=>PySem.call f vs):=by
 refine Att.attach_call hn hdf fun w s₀ s₁ mg mb fa o pm cd doc a vs ns G Y ho hd hcd hmg hobj hints hlen hg=>?_
 have KX:=hY w _ Y;obtain ⟨fd,hb,hF⟩:=F w mg fa _ KX G.T.g hmg;exact law_call KX G.T.g G.T.b G.T.builtins G.T.nolimit hg hobj hints (Nat.le_trans hlen hn2) hr hF hb (fun H hO hS=>hsp w H a ns hlen hO hS) fun H e s'=>hCX w H s₁ e s'
def inClass (s:Stmt)(j:Nat):Stmt:=match s with
 | .ClassDef _ _ _ body _ _ _ _ _ _ _=>body.getD j (.Pass ⟨0,0,0,0⟩)
 | _=>.Pass ⟨0,0,0,0⟩
def defArgs (s:Stmt):Arguments:=match s with
 | .FunctionDef _ a _ _ _ _ _ _ _ _=>a
 | _=>{ posonlyargs:=[],args:=[],vararg:=none,kwonlyargs:=[],kw_defaults:=[],kwarg:=none,defaults:=[] }
def defBody (s:Stmt):List Stmt:=match s with
 | .FunctionDef _ _ b _ _ _ _ _ _ _=>b
 | _=>[]
def defScope (s:Stmt):Scope:=match s with
 | .FunctionDef _ _ _ _ _ _ sc _ _ _=>sc
 | _=>{ kind:=.function,names:=[],isGenerator:=false,isCoroutine:=false }
abbrev CX0:CXT:=fun _ _ _ _ _ _=>False
abbrev E0:XK:=fun _ _ _=>False
theorem pass0 {X:Cx}:Passes CX0 X E0:=fun _ _ _ _ _ _ _ h=>h.elim
structure Fun (K:PySem.W.Frag)(x qual:Str)(st:Stmt)(f:Addr)(fd:FuncData):Prop where
 ex:∃ (oc:Value) (od:Option Addr) (kV doc pm:Value) (an:Option Addr) (cdv ct:Value) (osl:Array (Option Value)),
   fd=PySem.W.fnOf x qual (defArgs st) (defBody st) (defScope st) .none kV doc pm an cdv ct∧K.lookup f=some ⟨oc,od,.func fd,osl⟩∧PySem.W.codeIn K cdv qual=true
 kp:PySem.W.keepIn K (.ref f)=true
section
variable {P:Program}{w:World}{K:PySem.W.Frag}{mg:Str→Option Value}{base:Heap}
theorem Fun.ok {x qual:Str}{st:Stmt}{f:Addr}{fd:FuncData}{N ps:List Str}{k:Nat}{sp:Sp}(F:Fun K x qual st f fd)(S:FnScope N ps (defScope st))(len:∀ vs H Q E,sp vs H Q E→vs.length=ps.length)
   (hbody:∀ (cdv:Value) (A:Around) (outer:List Env) (s:Shared) (H:Hp) (vs:List V) (Q:VK) (E:XK),Room k (A.deeper (envOfC qual (defScope st) s.heap.objs.size f cdv))→sp vs H Q E →
     ∃ t,PSs (cxOf CX0 P w K mg base N qual (defScope st) f cdv A outer s H E).nox (defBody st) t∧t { nx:=fun _ H'=>Q .non H',rt:=Q } (start N vs) H):FnOk P w K mg base CX0 (k+1) f fd ps sp:=by
 obtain ⟨oc,od,kV,doc,pm,an,cdv,ct,osl,rfl,lk,hcd⟩:=F.ex;refine fn_of lk hcd S len fun A outer s H vs Q E hr hsp=>?_
 obtain ⟨t,h,q⟩:=hbody cdv A outer s H vs Q E hr hsp;exact ⟨t,h.nox,q⟩
theorem Fun.binds {x qual:Str}{st:Stmt}{f:Addr}{fd:FuncData}{ps:List Str}(F:Fun K x qual st f fd)
   (h:∀ (kV doc pm:Value) (an:Option Addr) (cdv ct:Value) (us:List Value),us.length=ps.length→bindArgs (PySem.W.fnOf x qual (defArgs st) (defBody st) (defScope st) .none kV doc pm an cdv ct) ⟨us,[]⟩=pure (ps.zip us)):Binds K fd ps []:=by
 obtain ⟨oc,od,kV,doc,pm,an,cdv,ct,osl,rfl,lk,hcd⟩:=F.ex;exact .all (h kV doc pm an cdv ct)
theorem Zci {x qual:Str}{st:Stmt}{f:Addr}{oc:Value}{od an:Option Addr}{osl:Array (Option Value)}{kV doc pm cdv ct:Value}(l:K.lookup f=some ⟨oc,od,.func (PySem.W.fnOf x qual (defArgs st) (defBody st) (defScope st) .none kV doc pm an cdv ct),osl⟩)
   (c:PySem.W.codeIn K cdv qual=true) (k:PySem.W.keepIn K (.ref f)=true):Fun K x qual st f (PySem.W.fnOf x qual (defArgs st) (defBody st) (defScope st) .none kV doc pm an cdv ct):=⟨⟨oc,od,kV,doc,pm,an,cdv,ct,osl,rfl,l,c⟩,k⟩
end
section
variable {X:Cx}
theorem pv (i:Nat){x:Str}{pos:Pos}(hN:X.N[i]?=some x:=by rfl)(hv:Vis X.env.scope x:=by first | exact Or.inl rfl | exact Or.inr (Or.inl rfl) | exact Or.inr (Or.inr rfl))(hd:(x==("__debug__":Str))=false:=by decide)
   (hcd:(x==("__classdict__":Str))=false:=by decide):PE X (.Name x pos) (tVar i):=pe_var hN hv hd hcd
end
def Same (H H':Hp):Prop:=∀ b o,H b=some o→H' b=some o
theorem Same.refl (H:Hp):Same H H:=fun _ _ h=>h
theorem Same.trans {H H1 H2:Hp}(a:Same H H1)(b:Same H1 H2):Same H H2:=fun c o h=>b c o (a c o h)
theorem Same.seq {K:PySem.W.Frag}{H H':Hp}{a:Addr}{xs:List V}(e:Same H H')(h:SqL K H a xs):SqL K H' a xs:=by
 rcases h with (h | ⟨o,h⟩) | h
 · exact .inl (.inl (e _ _ h))
 · exact .inl (.inr ⟨o,e _ _ h⟩)
 · exact .inr h
end L2
namespace L2
open PySem PySem.Spec PyProof.Rows
section
variable {κ:Type}[DecidableEq κ]
def valV (kvs:List (κ × V))(k:κ):Option V:=(kvs.find? fun kv=>decide (kv.1=k)).map (·.2)
def putK (kvs:List (κ × V))(k:κ)(v:V):List (κ × V) :=
 if (kvs.any fun kv=>decide (kv.1=k))=true then kvs.map (fun kv=>if kv.1=k then (kv.1,v) else kv) else kvs++[(k,v)]
theorem Za1 {p:κ × V}{r:List (κ × V)}{k:κ}(e:p.1=k):valV (p::r) k=some p.2:=by simp [valV,List.find?_cons,e]
theorem Za3 {p:κ × V}{r:List (κ × V)}{k:κ}(e:¬ p.1=k):valV (p::r) k=valV r k:=by simp [valV,List.find?_cons,e]
theorem Zdt (k:κ):∀ kvs:List (κ × V),(kvs.any fun kv=>decide (kv.1=k))=(valV kvs k).isSome
 | []=>rfl
 | p::r=>by
   rw [List.any_cons];by_cases e:p.1=k
   · simp only [Za1 e,decide_eq_true e,Bool.true_or,Option.isSome_some]
   · rw [Za3 e,decide_eq_false e,Bool.false_or];exact Zdt k r
theorem Zg5 (k j:κ)(y:V):∀ kvs:List (κ × V),valV (kvs.map fun kv=>if kv.1=k then (kv.1,y) else kv) j=(valV kvs j).map fun x=>if j=k then y else x
 | []=>rfl
 | p :: r=>by
   have ih:=Zg5 k j y r;rw [List.map_cons];by_cases h:p.1=k
   · rw [if_pos h]
     by_cases e:p.1=j
     · rw [Za1 (p:=(p.1,y)) e,Za1 e,Option.map_some,if_pos (e.symm.trans h)]
     · rw [Za3 (p:=(p.1,y)) e,Za3 e,ih]
   · rw [if_neg h]
     by_cases e:p.1=j
     · rw [Za1 (p:=p) e,Za1 e,Option.map_some,if_neg (fun z=>h (e.trans z))]
     · rw [Za3 (p:=p) e,Za3 e,ih]
theorem Zfw (k j:κ)(y:V):∀ kvs:List (κ × V),valV kvs k=none→valV (kvs++[(k,y)]) j=if j=k then some y else valV kvs j
 | [],_=>by
   by_cases e:k=j
   · rw [if_pos e.symm];exact Za1 (p:=(k,y)) e
   · rw [if_neg (fun z=>e z.symm)];exact Za3 (p:=(k,y)) e
 | p::r,hn=>by
   rw [List.cons_append];have hk:¬ p.1=k:=fun z=>by rw [Za1 z] at hn;cases hn
   rw [Za3 hk] at hn;have ih:=Zfw k j y r hn;by_cases e:p.1=j
   · rw [Za1 e,Za1 e,if_neg (fun z=>hk (e.trans z))]
   · rw [Za3 e,Za3 e,ih]
theorem Zdj (kvs:List (κ × V))(k j:κ)(y:V):valV (putK kvs k y) j=if j=k then some y else valV kvs j:=by
 unfold putK;by_cases a:(kvs.any fun kv=>decide (kv.1=k))=true
 · rw [if_pos a,Zg5]
   rw [Zdt] at a;by_cases e:j=k
   · obtain ⟨x,hx⟩:=Option.isSome_iff_exists.mp a
     rw [if_pos e,e,hx,Option.map_some,if_pos rfl]
   · rw [if_neg e]
     cases valV kvs j with
     | none=>rfl
     | some x=>rw [Option.map_some,if_neg e]
 · rw [if_neg a]
   refine Zfw k j y kvs ?_;rw [Zdt] at a;cases q:valV kvs k with
   | none=>rfl
   | some x=>rw [q] at a;exact (a rfl).elim
theorem Zcr (kvs:List (κ × V))(k:κ)(v:V):(putK kvs k v).length≤kvs.length+1:=by
 unfold putK;split
 · rw [List.length_map];omega
 · rw [List.length_append,List.length_cons,List.length_nil];omega
theorem RelO.isSome_eq {o:Option V}{u:Option Value}(r:RelO o u):o.isSome=u.isSome:=by
 cases o with
 | none=>cases u with
   | none=>rfl
   | some _=>exact (show False from r).elim
 | some _=>cases u with
   | none=>exact (show False from r).elim
   | some _=>rfl
theorem KV.val {kvs:List (κ × V)}{vs:List (κ × Value)}(r:KV kvs vs)(k:κ):RelO (valV kvs k) (valueAt vs k):=by
 unfold KV at r;induction r with
 | nil=>exact True.intro
 | @cons p q ps qs h t ih =>
   obtain ⟨h1,h2⟩:=h;by_cases e:p.1=k
   · have e':q.1=k:=h1.symm.trans e
     have b:valueAt (q::qs) k=some q.2:=by simp [valueAt,List.find?_cons,e']
     rw [Za1 e,b];exact h2
   · have e':¬ q.1=k:=fun z=>e (h1.trans z)
     have b:valueAt (q::qs) k=valueAt qs k:=by simp [valueAt,List.find?_cons,e']
     rw [Za3 e,b];exact ih
theorem KV.any {kvs:List (κ × V)}{vs:List (κ × Value)}(r:KV kvs vs)(k:κ):(kvs.any fun kv=>decide (kv.1=k))=vs.any fun kv=>decide (kv.1=k):=by
 unfold KV at r;induction r with
 | nil=>rfl
 | cons h t ih=>rw [List.any_cons,List.any_cons,ih,h.1]
theorem KV.repl {kvs:List (κ × V)}{vs:List (κ × Value)}(r:KV kvs vs)(k:κ){y:V}{u:Value}(ry:RelV y u) :
   KV (kvs.map fun kv=>if kv.1=k then (kv.1,y) else kv) (vs.map fun kv=>if kv.1=k then (kv.1,u) else kv):=by
 unfold KV at r ⊢;induction r with
 | nil=>exact .nil
 | @cons p q ps qs h t ih =>
   rw [List.map_cons,List.map_cons];refine .cons ?_ ih;obtain ⟨h1,h2⟩:=h;by_cases e:p.1=k
   · rw [if_pos e,if_pos (h1.symm.trans e)];exact ⟨h1,ry⟩
   · rw [if_neg e,if_neg (fun z=>e (h1.trans z))];exact ⟨h1,h2⟩
theorem KV.put {kvs:List (κ × V)}{vs:List (κ × Value)}(r:KV kvs vs)(k:κ){y:V}{u:Value}(ry:RelV y u):KV (putK kvs k y) (stored vs k u):=by
 unfold putK stored;rw [r.any k];by_cases e:(vs.any fun kv=>decide (kv.1=k))=true
 · rw [if_pos e,if_pos e];exact r.repl k ry
 · rw [if_neg e,if_neg e];exact Paired.snoc r ⟨rfl,ry⟩
theorem KV.length {kvs:List (κ × V)}{vs:List (κ × Value)}(r:KV kvs vs):kvs.length=vs.length:=Paired.length r
end
theorem kV_is {P:Program}{w:World}{k:Key}{u:Value}(r:RelV (kV k) u):(mixKind P w).is k u=true:=by
 cases k with
 | inl i=>obtain ⟨t,e⟩:=(show ∃ t,u=Value.int i t from r);subst e;exact Zhx P w i t
 | inr x=>obtain ⟨t,e⟩:=(show ∃ t,u=Value.str x t from r);subst e;exact Zeo P w x t
theorem Zf0 {P:Program}{w:World}:∀ {ks:List Key} {us:List Value},Vals (ks.map kV) us→ItemsAre (mixKind P w) ks us
 | [],_,r=>by rw [List.map_nil] at r;cases r;exact .nil
 | k::ks,_,r=>by
   rw [List.map_cons] at r;cases r with
   | cons h t=>exact .cons (kV_is h) (Zf0 t)
abbrev KT (H:Hp):List (List Key × V)→List (List Key × Addr × Value)→Prop:=Paired fun p q=>p.1=q.1∧H q.2.1=some (.tup (p.1.map kV))∧RelV p.2 q.2.2
theorem KT.val {H:Hp}{kvs:List (List Key × V)}{xs:List (List Key × Addr × Value)}(r:KT H kvs xs)(k:List Key):RelO (valV kvs k) ((atKey xs k).map (·.2)):=by
 induction r with
 | nil=>exact True.intro
 | @cons p q ps qs h t ih =>
   obtain ⟨h1,_,h2⟩:=h;by_cases e:p.1=k
   · have e':q.1=k:=h1.symm.trans e
     have b:atKey (q::qs) k=some q.2:=by simp [atKey,List.find?_cons,e']
     rw [Za1 e,b];exact h2
   · have e':¬ q.1=k:=fun z=>e (h1.trans z)
     have b:atKey (q::qs) k=atKey qs k:=by simp [atKey,List.find?_cons,e']
     rw [Za3 e,b];exact ih
theorem KT.repl {H:Hp}{kvs:List (List Key × V)}{xs:List (List Key × Addr × Value)}(r:KT H kvs xs)(k:List Key){y:V}{u:Value}(ry:RelV y u) :
   KT H (kvs.map fun kv=>if kv.1=k then (kv.1,y) else kv) (xs.map (putAt k u)):=by
 induction r with
 | nil=>exact .nil
 | @cons p q ps qs h t ih =>
   rw [List.map_cons,List.map_cons];refine .cons ?_ ih;obtain ⟨h1,h2,h3⟩:=h;unfold putAt;by_cases e:p.1=k
   · rw [if_pos e,if_pos (h1.symm.trans e)];exact ⟨h1,h2,ry⟩
   · rw [if_neg e,if_neg (fun z=>e (h1.trans z))];exact ⟨h1,h2,h3⟩
theorem KT.put {H:Hp}{kvs:List (List Key × V)}{xs:List (List Key × Addr × Value)}(r:KT H kvs xs)(k:List Key){b:Addr}{y:V}{u:Value}(hb:H b=some (.tup (k.map kV)))(ry:RelV y u) :
   KT H (putK kvs k y) (storedH xs k b u):=by
 have e:(kvs.any fun kv=>decide (kv.1=k))=(atKey xs k).isSome:=by rw [Zdt,(r.val k).isSome_eq,Option.isSome_map]
 unfold putK storedH;rw [e];by_cases q:(atKey xs k).isSome=true
 · rw [if_pos q,if_pos q];exact r.repl k ry
 · rw [if_neg q,if_neg q];exact Paired.snoc r ⟨rfl,hb,ry⟩
theorem KT.keeps {H H':Hp}{kvs:List (List Key × V)}{xs:List (List Key × Addr × Value)}(r:KT H kvs xs)(ht:∀ b ys,H b=some (.tup ys)→H' b=some (.tup ys)):KT H' kvs xs :=
 Paired.mapP r fun _ _ z=>⟨z.1,ht _ _ z.2.1,z.2.2⟩
section
variable {P:Program}{w:World}{H:Hp}{h:Heap}{a:Addr}
theorem rd_of {u:HO}(ok:HOk P w H h)(e:Rd H a u):ObjOk P w H h a u:=e.ok ok
theorem dk_rd {kvs:List (Key × V)}(ok:HOk P w H h)(e:Rd H a (.dK kvs)):kvs.length≤sizeLine∧(a==sysModules)=false∧∃ vs,KV kvs vs∧h.DictOf (mixKind P w) a vs :=
 show ObjOk P w H h a (.dK kvs) from rd_of ok e
theorem dk_of {kvs:List (Key × V)}(ok:HOk P w H h)(e:H a=some (.dK kvs)):kvs.length≤sizeLine∧(a==sysModules)=false∧∃ vs,KV kvs vs∧h.DictOf (mixKind P w) a vs:=dk_rd ok (.inl e)
theorem Zf7 {ks:List Key}(ok:HOk P w H h)(e:H a=some (.tup (ks.map kV))):(tupleKind (mixKind P w)).is h ks a:=by
 obtain ⟨_,its,r,o,h1,h2,n,h3⟩:=(show ObjOk P w H h a (.tup (ks.map kV)) from ok a _ e)
 exact ⟨o,its.toArray,n,h1,h2,h3,by simpa using Zf0 r⟩
theorem dt_rd {kvs:List (List Key × V)} (ok:HOk P w H h) (e:Rd H a (.dT kvs)):kvs.length≤sizeLine∧(a==sysModules)=false ∧
   ∃ xs,KT H kvs xs∧h.DictOfH (tupleKind (mixKind P w)) a xs:=by
 obtain ⟨z,y,xs,r,o,es,ep,h1,h2,h3,h4,h5⟩:=(show ObjOk P w H h a (.dT kvs) from rd_of ok e)
 refine ⟨z,y,xs,r,o,es,ep,h1,h2,h3,h4,fun x hx=>?_,h5⟩;have all:∀ {l:List (List Key × V)} {m:List (List Key × Addr × Value)},KT H l m→∀ x∈m,(tupleKind (mixKind P w)).is h x.1 x.2.1:=by
   intro l m q;induction q with
   | nil=>intro x hx;exact nomatch hx
   | @cons p q ps qs hq t ih =>
     intro x hx;rcases List.mem_cons.mp hx with e | hx
     · subst e
       exact Zf7 ok (by rw [← hq.1];exact hq.2.1)
     · exact ih x hx
 exact all r x hx
theorem dt_of {kvs:List (List Key × V)}(ok:HOk P w H h)(e:H a=some (.dT kvs)):kvs.length≤sizeLine∧(a==sysModules)=false ∧
   ∃ xs,KT H kvs xs∧h.DictOfH (tupleKind (mixKind P w)) a xs:=dt_rd ok (.inl e)
end
def DGet (H:Hp)(a:Addr)(y:V)(r:Option V):Prop :=
 (∃ kvs k,Rd H a (.dK kvs)∧y=kV k∧r=valV kvs k)∨∃ kvs k b,Rd H a (.dT kvs)∧y=.ref b∧H b=some (.tup (k.map kV))∧r=valV kvs k
def DPut (H:Hp)(a:Addr)(y v:V)(H':Hp):Prop :=
 (∃ kvs k,H a=some (.dK kvs)∧y=kV k∧kvs.length<sizeLine∧H'=upd H a (.dK (putK kvs k v))) ∨
 ∃ kvs k b,H a=some (.dT kvs)∧y=.ref b∧H b=some (.tup (k.map kV))∧kvs.length<sizeLine∧H'=upd H a (.dT (putK kvs k v))
theorem DPut.k {H:Hp}{a:Addr}{kvs:List (Key × V)}{k:Key}{v:V}(e:H a=some (.dK kvs))(hl:kvs.length<sizeLine):DPut H a (kV k) v (upd H a (.dK (putK kvs k v))):=.inl ⟨kvs,k,e,rfl,hl,rfl⟩
section
variable {X:Cx}{pins:List (Addr × Obj)}{σ:St}{H:Hp}{s:Shared}{a:Addr}{y v:V}{u r:Value}{o:Option V}{A:Around}{E:Value→Shared→Prop}
theorem Inv.big (I:Inv X pins σ H s):sysModules<s.heap.objs.size:=by have h:mainGlobals<s.heap.objs.size:=(I.mod.glob.keeps I.bk).lt;exact Nat.lt_trans (by decide) h
theorem Zkr {Q:Value→Shared→Prop}(hu:A.units+1<cLine)(I:Inv X pins σ H s)(g:DGet H a y (some v))(ry:RelV y u)(h:∀ w' s',Inv X pins σ H s'→RelV v w'→Q w' s') :
   wpAny (model X.prog X.w) A (getItem (.ref a) u) Q E s:=by
 rcases g with ⟨kvs,k,e,ey,l⟩ | ⟨kvs,k,b,e,ey,eb,l⟩
 · subst ey
   obtain ⟨z,hd,vs,rel,dd⟩:=dk_rd I.hok e;obtain ⟨w',hw,rw'⟩:=RelO.some_of (v:=v) (o:=valueAt vs k) (by rw [l];exact rel.val k);exact wpAny_getItem_of (kV_is ry) dd.mapOf hw (h w' _ (I.tok _) rw')
 · subst ey
   cases (show u=Value.ref b from ry);obtain ⟨z,hd,xs,rel,dd⟩:=dt_rd I.hok e;obtain ⟨w',hw,rw'⟩:=RelO.some_of (v:=v) (o:=(atKey xs k).map (·.2)) (by rw [l];exact rel.val k);obtain ⟨p,hp,hp2⟩:=Option.map_eq_some_iff.mp hw;refine wpAny_getItem_heap (tupleKind_room_in1 hu) (Zf7 I.hok eb) dd hp ?_;rw [hp2];exact h w' _ (I.tok _) rw'
theorem d_in {Q:Value→Shared→Prop}(hu:A.units+1<cLine)(I:Inv X pins σ H s)(g:DGet H a y o)(ry:RelV y u)(h:∀ s',Inv X pins σ H s'→Q (.bool o.isSome) s') :
   wpAny (model X.prog X.w) A (compareOp .In u (.ref a)) Q E s:=by
 rcases g with ⟨kvs,k,e,ey,l⟩ | ⟨kvs,k,b,e,ey,eb,l⟩
 · subst ey
   obtain ⟨z,hd,vs,rel,dd⟩:=dk_rd I.hok e;refine wpAny_in_of (kV_is ry) hd dd.mapOf ?_;rw [← (rel.val k).isSome_eq,← l];exact h _ (I.tok _)
 · subst ey
   cases (show u=Value.ref b from ry);obtain ⟨z,hd,xs,rel,dd⟩:=dt_rd I.hok e;refine wpAny_in_heap (tupleKind_room_in1 hu) (Zf7 I.hok eb) hd dd ?_;have q:=(rel.val k).isSome_eq;rw [Option.isSome_map] at q;rw [← q,← l];exact h _ (I.tok _)
theorem Zjf {h':Heap}{t':Nat}{ob:HO}(I:Inv X pins σ H s)(mu:Mut (H a))(hs:Heap.SameBut a s.heap h')(he:∃ q,h'.get? a=some q)(new:ObjOk X.prog X.w (upd H a ob) h' a ob) :
   Inv X pins σ (upd H a ob) { s with heap:=h',toks:=t' } :=
 I.write (x:=a) (e:=a) mu (.inl rfl) (fun b q hb z=>(hs.2 b hb).trans z) he new
theorem dk_new {P:Program}{w:World}{H':Hp}{h':Heap}{kvs:List (Key × V)}{vs:List (Key × Value)}(z:kvs.length≤sizeLine)(hd:(a==sysModules)=false)(rel:KV kvs vs)(dd:h'.DictOf (mixKind P w) a vs) :
   ObjOk P w H' h' a (.dK kvs):=⟨z,hd,vs,rel,dd⟩
theorem ZkE {H':Hp}{Q:Unit→Shared→Prop}(hu:A.units+1<cLine)(I:Inv X pins σ H s)(g:DPut H a y v H')(ry:RelV y u)(rv:RelV v r)(h:∀ s',Inv X pins σ H' s'→Q () s') :
   wpAny (model X.prog X.w) A (setItem (.ref a) u r) Q E s:=by
 rcases g with ⟨kvs,k,e,ey,l,eH⟩ | ⟨kvs,k,b,e,ey,eb,l,eH⟩
 · subst ey eH
   obtain ⟨z,hd,vs,rel,dd⟩:=dk_of I.hok e;have hz:vs.length≤sizeLine:=by rw [← rel.length];exact z
   have hl:(putK kvs k v).length≤sizeLine:=by have:=Zcr kvs k v;omega
   refine wpAny_setItem_pairs (hsz:=hz) (kV_is ry) dd fun h' dd' hs=>h _ ?_
   have he:∃ q,h'.get? a=some q:=let ⟨q,_,_,hq,_⟩:=dd';⟨q,hq⟩
   exact Zjf I (by rw [e];exact True.intro) hs he (dk_new hl hd (rel.put k rv) dd')
 · subst ey eH
   cases (show u=Value.ref b from ry);obtain ⟨z,hd,xs,rel,dd⟩:=dt_of I.hok e;have hz:xs.length≤sizeLine:=by rw [← Paired.length rel];exact z
   have hl:(putK kvs k v).length≤sizeLine:=by have:=Zcr kvs k v;omega
   refine wpAny_setItem_heap (hsz:=hz) (tupleKind_room_in1 hu) (Zf7 I.hok eb) dd fun h' dd' hs=>h _ ?_
   obtain ⟨q,es,ep,hq,h2,h3,h4,_,h5⟩:=dd';refine Zjf I (by rw [e];exact True.intro) hs ⟨q,hq⟩ ⟨hl,hd,_,(rel.put k eb rv).keeps fun c ys ec=>?_,q,es,ep,hq,h2,h3,h4,h5⟩;rw [Zah (ne_of ec e (fun z=>nomatch z))];exact ec
end
section
variable {X:Cx}{pins:List (Addr × Obj)}{σ:St}{H:Hp}{s:Shared}{a:Addr}{kvs:List (Key × V)}{k:Key}{u:Value}{A:Around}{E:Value→Shared→Prop}
end
def NoSl (i:Expr):Prop:=∀ ov iv,subscripted i false ov iv=operate [ov,iv] (getItem ov iv)
theorem subD_of {prog:Program}{w:World}{A:Around}{E:Value→Shared→Prop}{s:Shared}{env:Env}{value slice:Expr}{pos:Pos}{T id:String}{Q:Value→Shared→Prop}
   (hl:typeLookup (.type T) "__getitem__"=pure (some (.builtin id))) (hs:NoSl slice)
   (h:wpAny (model prog w) A (eval value env) (fun o s₁=>wpAny (model prog w) A (eval slice env) (fun i s₂=>s₂.TypeIs o T∧wpAny (model prog w) A (getItem o i) Q E s₂) E s₁) E s) :
   wpAny (model prog w) A (eval (.Subscript value slice pos) env) Q E s:=by
 refine Subscript_ (wpAny_mono h (fun o s₁ h₁=>wpAny_mono h₁ (fun i s₂ h₂=>?_) fun _ _ x=>x) fun _ _ x=>x);obtain ⟨hT,h₂⟩:=h₂;unfold subscriptTail;refine wpAny_bind ?_;rw [getitemInPython_of_ne hT.not_modules];refine wpAny_bind (wpAny_specialOf hT hl ?_);have fin:wpAny (model prog w) A (subscripted slice false o i) (fun r s₃=>wpAny (model prog w) A (letTemporaryGo value o r >>= fun _=>pure r) Q E s₃) E s₂:=by rw [hs o i];exact wpAny_operating (wpAny_mono h₂ (fun r s₃ h₃=>wpAny_bind (wpAny_letTemporaryGo (wpAny_pure h₃))) fun _ _ x=>x)
 first
   | exact wpAny_pure (wpAny_bind fin)
   | exact wpAny_bind (wpAny_pure (wpAny_bind fin))
   | exact wpAny_bind fin
theorem ZgN {X:Cx}{pins:List (Addr × Obj)}{σ:St}{H:Hp}{s:Shared}{a:Addr}{y:V}{o:Option V}(I:Inv X pins σ H s)(g:DGet H a y o):s.TypeIs (.ref a) "dict":=by
 rcases g with ⟨kvs,k,e,_,_⟩ | ⟨kvs,k,b,e,_,_,_⟩
 · obtain ⟨_,_,vs,_,dd⟩:=dk_rd I.hok e
   exact dd.typeIs
 · obtain ⟨_,_,xs,_,dd⟩:=dt_rd I.hok e
   exact dd.typeIs
def tDGet (td ty:TE):TE:=fun σ H Q=>td σ H fun x H1=>ty σ H1 fun y H2=>∃ a v,x=.ref a∧DGet H2 a y (some v)∧Q v H2
def tDIn (ty td:TE):TE:=fun σ H Q=>ty σ H fun y H1=>td σ H1 fun x H2=>∃ a o,x=.ref a∧DGet H2 a y o∧Q (.bl o.isSome) H2
def sDPut (td ty tv:TE):TS:=fun D σ H=>tv σ H fun v H1=>td σ H1 fun x H2=>ty σ H2 fun y H3=>∃ a H4,x=.ref a∧DPut H3 a y v H4∧D.nx σ H4
section
variable {X:Cx}{o i e value:Expr}{pos pos' tpos:Pos}{td ty tv:TE}
theorem Zgw (hu:X.A.units+1<cLine)(ho:PE X o td)(hi:PE X i ty)(hs:NoSl i):PE X (.Subscript o i pos) (tDGet td ty):=by intro pins s σ H Q I h;refine subD_of PySem.F.slot_dict_getitem.lookup hs (thn (ho pins s σ H _ I h) fun u s1 ⟨x,H1,I1,rx,q1⟩=>thn (hi pins s1 σ H1 _ I1 q1) fun iv s2 ⟨y,H2,I2,ry,a,v,ex,g,q2⟩=>?_);subst ex;obtain rfl:u=Value.ref a:=rx;exact ⟨ZgN I2 g,Zkr hu I2 g ry fun w' s3 I3 rw'=>⟨v,H2,I3,rw',q2⟩⟩
theorem pc_din (hu:X.A.units+1<cLine)(hi:PE X i ty)(ho:PE X o td):PC X .In i o (tDIn ty td):=by
 intro pins s σ H Q I h;refine thn (hi pins s σ H _ I h) fun iv s1 ⟨y,H1,I1,ry,q1⟩=>thn (ho pins s1 σ H1 _ I1 q1) fun u s2 ⟨x,H2,I2,rx,a,ov,ex,g,q2⟩=>?_
 subst ex;obtain rfl:u=Value.ref a:=rx;exact d_in hu I2 g ry fun s3 I3=>⟨.bl ov.isSome,H2,I3,rfl,q2⟩
theorem ps_dput (hu:X.A.units+1<cLine)(ho:PE X o td)(hi:PE X i ty)(hv:PE X value tv)(hs:swapsWith value (some (.Subscript o i pos')) pos.line X.env=pure false) :
   PS X (.Assign [.Subscript o i pos'] value pos) (sDPut td ty tv):=by
 intro pins s σ H D I h;refine wpAny_Assign_Subscript (thn (hv pins s σ H _ I h) fun r s1 ⟨v,H1,I1,rv,q1⟩=>thn (ho pins s1 σ H1 _ I1 q1) fun u s2 ⟨x,H2,I2,rx,q2⟩=>thn (hi pins s2 σ H2 _ I2 q2) fun iv s3 ⟨y,H3,I3,ry,a,H4,ex,g,q3⟩=>?_) hs;subst ex;obtain rfl:u=Value.ref a:=rx;exact ZkE hu I3 g ry rv fun s4 I4=>⟨σ,H4,I4,q3⟩
end
section
variable {X:Cx}{pos:Pos}
end
structure M1 (X:Cx)(o:Expr)(m:Str)(apos:Pos)(e:Expr)(cpos:Pos):Prop where
 base:attributeBase o m X.env (eval o X.env)=eval o X.env
 few:((backTo cpos (starEach [e] X.env)).all (fun x=>!x.1)&&(backToKw cpos (keywordEach [] X.env)).all (fun x=>x.1.isSome)
   && decide (([e]:List Expr).length+([]:List Keyword).length+(if ([]:List Keyword).isEmpty then 0 else 1)<30))=true
 line:(apos.endLine==cpos.line)=true
 trees:backTo cpos (starEach [e] X.env)=[(false,eval e X.env)]
structure M2 (X:Cx)(o:Expr)(m:Str)(apos:Pos)(e f:Expr)(cpos:Pos):Prop where
 base:attributeBase o m X.env (eval o X.env)=eval o X.env
 few:((backTo cpos (starEach [e,f] X.env)).all (fun x=>!x.1)&&(backToKw cpos (keywordEach [] X.env)).all (fun x=>x.1.isSome)
   && decide (([e,f]:List Expr).length+([]:List Keyword).length+(if ([]:List Keyword).isEmpty then 0 else 1)<30))=true
 line:(apos.endLine==cpos.line)=true
 trees:backTo cpos (starEach [e,f] X.env)=[(false,eval e X.env),(false,eval f X.env)]
section
variable {X:Cx}{pins:List (Addr × Obj)}{σ:St}{H:Hp}{s:Shared}{a:Addr}{y d:V}{u r:Value}{o:Option V}{A:Around}{E:Value→Shared→Prop}
end
section
variable {X:Cx}{o e f:Expr}{apos cpos:Pos}{td ty tx:TE}
end
section
variable {X:Cx}{pins:List (Addr × Obj)}{σ:St}{H:Hp}{s:Shared}{a:Addr}{kvs:List (Key × V)}{A:Around}{E:Value→Shared→Prop}
end
section
variable {X:Cx}{pins:List (Addr × Obj)}{σ:St}{H:Hp}{s:Shared}{a:Addr}{y:V}{u:Value}{A:Around}{E:Value→Shared→Prop}
end
section
variable {X:Cx}
end
section
variable {κ:Type}[DecidableEq κ]
end
end L2
namespace BM
open PySem L2 PyProof.Rows
def wd:List Nat→Nat
 | []=>0
 | p::r=>2^p+wd r
def Up:Nat→List Nat→Prop
 | _,[]=>True
 | a,p::r=>a≤p∧Up (p+1) r
def pl (n w:Nat):List Nat:=(List.range n).filter w.testBit
def cov (rs:List (Nat × Nat))(i:Nat):Prop:=∃ r∈rs,r.1≤i∧i≤r.2
inductive Dec:List Nat→List (Nat × Nat)→Prop
 | nil:Dec [] []
 | cons {p n:Nat} {rest:List Nat} {rs:List (Nat × Nat)} (u:Up (p+n+2) rest) (h:Dec rest rs):Dec (List.range' p (n+1)++rest) ((p,p+n)::rs)
end BM
namespace L2
open PySem PySem.Spec PyProof.Rows
section
variable {prog:Program}{w:World}{A:Around}{R:Result→Shared→Prop}{s:Shared}
theorem Zf5 {elt target iter:Expr}{ifs:List Expr}{scope:Scope}{pos:Pos}{it acc:Value}{env:Env}(I:Nat→Shared→Prop)
   (turn : ∀ n s,I n s→wpAny (model prog w) A (pyNext it) (fun r s₁=>match r with
     | none=>R (.ok .next) s₁
     | some v=>wpAny (model prog w) A (letOwnedTupleGo target it v) (fun _ s₀=>wpAny (model prog w) A (assign target env v) (fun _ s₂ =>
         wpAny (model prog w) A (forIn ifs true fun c r=>if r=true then do let ok ← isTrue c env (eval c env);pure (ForInStep.yield ok) else pure (ForInStep.yield r)) (fun ok s₃ =>
           if ok=true then wpAny (model prog w) A (eval elt env) (fun x s₄ =>
             wpAny (model prog w) A (call (.builtin "list.append") [acc,x]) (fun _ s₅=>∃ m,m<n∧I m s₅) (fun _ _=>False) s₄) (fun _ _=>False) s₃
           else ∃ m,m<n∧I m s₃) (fun _ _=>False) s₂) (fun _ _=>False) s₀) (fun _ _=>False) s₁) (fun _ _=>False) s)
   (n:Nat) (h:I n s) :
   codeAny (model prog w) A (.compLoop (.ListComp elt [⟨target,iter,ifs,0⟩] scope pos) 0 it acc env) R s:=by
 refine codeAny_loop rfl I (fun n s hI=>?_) n h;show wpAny _ A ((compTurn (.ListComp elt [⟨target,iter,ifs,0⟩] scope pos) 0 it acc env).onRaise (fun x=>do noteFrame x env;theTreesLotGoes x)) _ _ s;refine wpAny_noted ?_;rw [compTurn_list];refine wpAny_bind (wpAny_standAt (wpAny_bind (wpAny_mono (turn n s hI) (fun r s₁ h₁=>?_) fun _ _ h'=>h'.elim)));cases r with
 | none=>exact wpAny_pure h₁
 | some v =>
   refine wpAny_bind (wpAny_mono h₁ (fun _ s₀ h₀=>?_) fun _ _ h'=>h'.elim);refine wpAny_bind (wpAny_mono h₀ (fun _ s₂ h₂=>wpAny_bind (wpAny_mono h₂ (fun ok s₃ h₃=>?_) fun _ _ h'=>h'.elim)) fun _ _ h'=>h'.elim);cases ok with
   | false=>exact wpAny_pure ⟨rfl,h₃⟩
   | true =>
     exact wpAny_bind (wpAny_bind (wpAny_mono h₃ (fun x s₄ h₄=>wpAny_bind (wpAny_mono h₄ (fun _ s₅ h₅=>wpAny_pure (wpAny_pure ⟨rfl,h₅⟩)) fun _ _ h'=>h'.elim)) fun _ _ h'=>h'.elim))
end
theorem Zco {env:Env}:∀ (names:List (Str × NameKind)) (acc:List (Str × Addr)),(∀ z∈names,z.2=.free→∃ c,env.cells.lookup z.1=some c) →
   ∃ cl,(forIn names acc fun x r=>if (x.2==NameKind.free)=true then do let a ← cellOf env x.1;pure (ForInStep.yield ((x.1,a)::r)) else pure (ForInStep.yield r):Sem (List (Str × Addr)))=pure cl ∧
     (∀ y c,cl.lookup y=some c→acc.lookup y=some c∨env.cells.lookup y=some c)∧(∀ y,((∃ c,acc.lookup y=some c)∨(y,NameKind.free)∈names)→∃ c,cl.lookup y=some c)
 | [],acc,_=>⟨acc,by rw [List.forIn_nil],fun _ _ h=>.inl h,fun y h=>by
     rcases h with h | h
     · exact h
     · simp at h⟩
 | (n, k)::r,acc,h=>by
   have hr:∀ z∈r,z.2=.free→∃ c,env.cells.lookup z.1=some c:=fun z hz=>h z (List.mem_cons_of_mem _ hz)
   by_cases hk:k=.free
   · subst hk
     obtain ⟨c,hc⟩:=h (n,.free) List.mem_cons_self rfl;obtain ⟨cl,e,h1,h2⟩:=Zco r ((n,c)::acc) hr;refine ⟨cl,?_,fun y d hd=>?_,fun y hy=>?_⟩
     · rw [List.forIn_cons]
       have e1:cellOf env n=pure c:=by unfold cellOf;rw [hc]
       simp only [beq_self_eq_true,if_true,e1,pure_bind];exact e
     · rcases h1 y d hd with z | z
       · rw [List.lookup_cons] at z
         cases hy:y==n with
         | true =>
           rw [hy] at z;have:y=n:=by simpa using hy
           subst this;cases z;exact .inr hc
         | false=>rw [hy] at z;exact .inl z
       · exact .inr z
     · refine h2 y ?_
       rcases hy with ⟨d,hd⟩ | hy
       · cases q:y==n with
         | true=>exact .inl ⟨c,by rw [List.lookup_cons,q]⟩
         | false=>exact .inl ⟨d,by rw [List.lookup_cons,q];exact hd⟩
       · rcases List.mem_cons.mp hy with z | z
         · cases z
           exact .inl ⟨c,by rw [List.lookup_cons,beq_self_eq_true]⟩
         · exact .inr z
   · obtain ⟨cl,e,h1,h2⟩:=Zco r acc hr
     refine ⟨cl,?_,h1,fun y hy=>h2 y ?_⟩
     · rw [List.forIn_cons]
       have:(k==NameKind.free)=false:=by simpa using hk
       simp only [this,Bool.false_eq_true,if_false,pure_bind];exact e
     · rcases hy with z | z
       · exact .inl z
       · rcases List.mem_cons.mp z with q | q
         · cases q
           exact absurd rfl hk
         · exact .inr q
theorem Zik {scope:Scope}{env:Env}(h:∀ z∈scope.names,z.2=.free→∃ c,env.cells.lookup z.1=some c) :
   ∃ cl,closureFor scope env=pure cl∧(∀ y c,cl.lookup y=some c→env.cells.lookup y=some c)∧∀ y,(y,NameKind.free)∈scope.names→∃ c,cl.lookup y=some c:=by
 obtain ⟨cl,e,h1,h2⟩:=Zco (env:=env) scope.names [] h;refine ⟨cl,?_,fun y c hc=>?_,fun y hy=>h2 y (.inr hy)⟩
 · unfold closureFor
   exact (congrArg (fun m:Sem (List (Str × Addr))=>m >>= fun cs=>pure cs) e).trans (pure_bind _ _)
 · rcases h1 y c hc with z | z
   · cases z
   · exact z
def compX (X:Cx)(scope:Scope)(own:List Str)(caps:List Nat)(cl:List (Str × Addr))(C:Addr)(s₃:Shared)(H₃:Hp)(fp:List Addr):Cx :=
 { X with env:=compEnvC scope cl C X.env,N:=own++caps.map fun j=>X.N.getD j Str.empty,s₀:=s₃,H₀:=H₃,outer:=X.stack,stack:=X.stack,ex:=fp,fn:=fun _=>false,pn:=[],xe:=fun _ _=>False }
def capSt (n:Nat)(caps:List Nat)(σ:St):St:=List.replicate n none++caps.map fun j=>σ.getD j none
def compOk (sc osc:Scope):Bool :=
 (sc.kind==.function)&&sc.names.all fun z=>match z.2 with
   | .cell=>false
   | .local=>sc.names.lookup z.1==some .local
   | .free=>osc.names.lookup z.1==some .cell||osc.names.lookup z.1==some .free
   | _=>true
def capOk (X:Cx)(sc:Scope):List Nat→Prop
 | []=>True
 | j::r=>(∃ y,X.N[j]?=some y∧sc.names.lookup y=some .free∧(X.env.scope.names.lookup y=some .cell∨X.env.scope.names.lookup y=some .free))∧capOk X sc r
def gOwn (n:Nat)(g:TG):Prop:=∀ v σ H Q,g v σ H Q→g v σ H fun σ' H'=>(σ'.length=σ.length∧σ'.drop n=σ.drop n)∧Q σ' H'
theorem ZaO:gOwn 1 (gName 0):=fun v σ H Q h=>⟨⟨by simp,by cases σ<;>simp⟩,h⟩
def tNoTest:TT:=fun _ H Q=>Q true H
def tComp (n:Nat) (caps:List Nat) (wi:TI) (g:TG) (tt:TT) (te:TE):TE:=fun σ H Q=>wi σ H fun J H1=>∀ D,H1 D=none→∃ W:Nat→Nat→Hp→Prop,(∃ m,W 0 m (upd H1 D (.lst [])))∧∀ i m H2,W i m H2 →
 (J.stop i H2∧Q (.ref D) H2)∨(J.go i H2∧∀ x H3,J.yld i H2 x H3→g x (capSt n caps σ) H3 fun σ4 H4=>tt σ4 H4 fun b H5 =>
   if b=true then te σ4 H5 fun y H6=>∃ xs,H6 D=some (.lst xs)∧xs.length<sizeLine∧∃ m',m'<m∧W (i+1) m' (upd H6 D (.lst (xs++[y]))) else ∃ m',m'<m∧W (i+1) m' H5)
def PTs (X:Cx) (ifs:List Expr) (t:TT):Prop :=
 ∀ (pins:List (Addr × Obj)) (s:Shared) (σ:St) (H:Hp) (Q:Bool→Hp→Prop),Inv X pins σ H s→t σ H Q →
   wpAny (model X.prog X.w) X.A (forIn ifs true fun c r=>if r=true then do let ok ← isTrue c X.env (eval c X.env);pure (ForInStep.yield ok) else pure (ForInStep.yield r)) (TP X pins σ Q) X.xe s
theorem ZbR {X:Cx}:PTs X [] tNoTest:=fun _ _ _ H _ I h=>wpAny_tests_nil ⟨H,I,h⟩
theorem Zdx {X:Cx}{c:Expr}{t:TT}(h:PT X c t):PTs X [c] t:=fun pins s σ H Q I q=>wpAny_tests_one (h pins s σ H Q I q)
theorem Zbv {env:Env}:∀ {names:List (Str × NameKind)} {x:Str} {k:NameKind},names.lookup x=some k →
   (names.map fun (n,k)=>if (k==NameKind.free&&env.scope.kind==.function&&env.kindOf n==some .cell) then (n,NameKind.cell) else (n,k)).lookup x=some (if (k==NameKind.free&&env.scope.kind==.function&&env.kindOf x==some .cell) then NameKind.cell else k)
 | [],_,_,h=>by simp at h
 | (n,k')::r,x,k,h=>by
   have ih:=@Zbv env r x k;show List.lookup x ((if (k'==NameKind.free&&env.scope.kind==.function&&env.kindOf n==some .cell)=true then (n,NameKind.cell) else (n,k'))::_)=_;cases hx:x==n with
   | true =>
     simp only [List.lookup_cons,hx] at h;cases h;have:x=n:=by simpa using hx
     subst this;split<;>simp [List.lookup_cons]
   | false =>
     simp only [List.lookup_cons,hx] at h;split
     · simp only [List.lookup_cons,hx];exact ih h
     · simp only [List.lookup_cons,hx];exact ih h
theorem Zbd {env:Env}:∀ {names:List (Str × NameKind)} {x:Str} {k:NameKind},
   (names.map fun (n,k)=>if (k==NameKind.free&&env.scope.kind==.function&&env.kindOf n==some .cell) then (n,NameKind.cell) else (n,k)).lookup x=some k →
   ∃ k',(x,k')∈names∧(k=k'∨(k'=.free∧k=.cell))
 | [],_,_,h=>by simp at h
 | (n, k')::r,x,k,h=>by
   have ih:=@Zbd env r x k;rw [List.map_cons] at h;cases hc:(k'==NameKind.free&&env.scope.kind==.function&&env.kindOf n==some .cell) with
   | true =>
     simp only [hc,if_true,List.lookup_cons] at h;cases hx:x==n with
     | true =>
       simp only [hx,Option.some.injEq] at h;have e:x=n:=by simpa using hx
       have:k'=.free:=by simp only [Bool.and_eq_true,beq_iff_eq] at hc;exact hc.1.1
       exact ⟨.free,by rw [e,← this];exact List.mem_cons_self,.inr ⟨rfl,h.symm⟩⟩
     | false =>
       simp only [hx] at h;obtain ⟨q,m,z⟩:=ih h;exact ⟨q,List.mem_cons_of_mem _ m,z⟩
   | false =>
     simp only [hc,Bool.false_eq_true,if_false,List.lookup_cons] at h;cases hx:x==n with
     | true =>
       simp only [hx,Option.some.injEq] at h;have e:x=n:=by simpa using hx
       exact ⟨k',by rw [e];exact List.mem_cons_self,.inl h.symm⟩
     | false =>
       simp only [hx] at h;obtain ⟨q,m,z⟩:=ih h;exact ⟨q,List.mem_cons_of_mem _ m,z⟩
theorem Zdr {sc osc:Scope}(h:compOk sc osc=true):sc.kind=.function:=by unfold compOk at h;simp only [Bool.and_eq_true,beq_iff_eq] at h;exact h.1
theorem Zgq {sc osc:Scope}(h:compOk sc osc=true):∀ z∈sc.names,(match z.2 with
   | .cell=>false
   | .local=>sc.names.lookup z.1==some .local
   | .free=>osc.names.lookup z.1==some .cell||osc.names.lookup z.1==some .free
   | _=>true)=true:=by
 unfold compOk at h;simp only [Bool.and_eq_true] at h;exact List.all_eq_true.mp h.2
theorem ZhP {sc osc:Scope}(h:compOk sc osc=true):∀ z∈sc.names,z.2≠.cell:=fun z hz e=>by
 have:=Zgq h z hz;rw [e] at this;cases this
theorem ZjG {sc osc:Scope}(h:compOk sc osc=true):∀ z∈sc.names,z.2=.local→sc.names.lookup z.1=some .local:=fun z hz e=>by
 have:=Zgq h z hz;rw [e] at this;simpa using this
theorem cok_free {sc osc:Scope}(h:compOk sc osc=true):∀ z∈sc.names,z.2=.free→osc.names.lookup z.1=some .cell∨osc.names.lookup z.1=some .free:=fun z hz e=>by
 have:=Zgq h z hz;rw [e] at this;simpa using this
theorem capOk.get {X:Cx}{sc:Scope}:∀ {caps:List Nat} {j:Nat},capOk X sc caps→j∈caps→∃ y,X.N[j]?=some y∧sc.names.lookup y=some .free∧(X.env.scope.names.lookup y=some .cell∨X.env.scope.names.lookup y=some .free)
 | [],_,_,h=>by simp at h
 | i::r,j,h,hj=>by
   rcases List.mem_cons.mp hj with e | e
   · subst e;exact h.1
   · exact h.2.get e
theorem ZcB {x:Str}{k:NameKind}:∀ {l:List (Str × NameKind)},l.lookup x=some k→(x,k)∈l
 | [],h=>by simp at h
 | (n,k')::r,h=>by
   rw [List.lookup_cons] at h;cases hx:x==n with
   | true =>
     simp only [hx,Option.some.injEq] at h;have e:x=n:=by simpa using hx
     rw [e,h];exact List.mem_cons_self
   | false =>
     simp only [hx] at h;exact List.mem_cons_of_mem _ (ZcB h)
section
variable {X:Cx}{pins:List (Addr × Obj)}{σ:St}{H2:Hp}{s2:Shared}{scope:Scope}{own:List Str}{caps:List Nat}
theorem Zf2 {n:Nat}{caps:List Nat}{σ:St}{i:Nat}{v:V}(h:(capSt n caps σ)[i]?=some (some v)):n≤i∧∃ j,caps[i-n]?=some j∧σ[j]?=some (some v):=by
 unfold capSt at h;rw [List.getElem?_append] at h;split at h
 · rename_i hl
   rw [List.length_replicate] at hl;rw [List.getElem?_replicate,if_pos hl] at h;cases h
 · rename_i hl
   rw [List.length_replicate] at h hl;refine ⟨by omega,?_⟩;rw [List.getElem?_map] at h;cases q:caps[i-n]? with
   | none=>rw [q] at h;cases h
   | some j =>
     rw [q] at h;refine ⟨j,rfl,?_⟩;have h:σ.getD j none=some v:=Option.some.inj h;rw [List.getD_eq_getElem?_getD] at h;cases z:σ[j]? with
     | none=>rw [z] at h;cases h
     | some o=>rw [z] at h;exact congrArg some h
theorem Inv.comp {n:Nat} {fp:List Addr} {cl:List (Str × Addr)} {C:Addr} {h4:Heap} {tk:Nat}
   (I2:Inv X pins σ H2 s2) (hok:compOk scope X.env.scope=true) (hcap:capOk X scope caps) (hown:own.length=n)
   (cl1:∀ y c,cl.lookup y=some c→X.env.cells.lookup y=some c) (cl2:∀ y,(y,NameKind.free)∈scope.names→∃ c,cl.lookup y=some c)
   (hfp:∀ b∈fp,FpOk X pins H2 b) (hobj:∀ b∈fp,b<s2.heap.objs.size) (hC:C=s2.heap.objs.size) (hn:h4.Ns C fun _=>none)
   (hsb:∀ b o,s2.heap.get? b=some o→h4.get? b=some o) :
   Inv (compX X scope own caps cl C s2 H2 fp) [] (capSt n caps σ) H2 { s2 with heap:=h4,toks:=tk }:=by
 have hkind:=Zdr hok;have ok':(compX X scope own caps cl C s2 H2 fp).Ok:=by
   refine ⟨I2.ok.mod,hkind,I2.ok.glob,I2.ok.blt,by rw [hC];exact Nat.le_refl _,fun x y c h1 h2=>I2.ok.inj x y c (cl1 x c h1) (cl1 y c h2),fun x hx=>?_,fun x c h=>(by cases h),I2.ok.hd,I2.ok.frames,.inl rfl,fun b hb=>⟨?_,fun x c h=>(hfp b hb).2.2.2.2.1 x c (cl1 x c h)⟩,I2.bs,?_,fun b o e hb=>?_,fun b hb hf=>?_,I2.stack,I2.stkFree⟩
   · have:∃ k',(x,k')∈scope.names∧(k'=.cell∨k'=.free):=by
       rcases hx with hx | hx
       · obtain ⟨k',m,z⟩:=Zbd (env:=X.env) (names:=scope.names) (x:=x) (k:=.cell) hx
         rcases z with z | z
         · exact ⟨k',m,.inl z.symm⟩
         · exact ⟨k',m,.inr z.1⟩
       · obtain ⟨k',m,z⟩:=Zbd (env:=X.env) (names:=scope.names) (x:=x) (k:=.free) hx
         rcases z with z | z
         · exact ⟨k',m,.inr z.symm⟩
         · cases z.2
     obtain ⟨k',m,z | z⟩:=this
     · subst z;exact absurd rfl (ZhP hok _ m)
     · subst z;exact cl2 x m
   · show b≠C
     rw [hC];exact Nat.ne_of_lt (hobj b hb)
   · exact Nat.le_trans I2.ok.bsz (Nat.le_trans I2.ok.above (Nat.le_of_lt I2.lt))
   · rcases (hfp b hb).2.2.2.1 with z | z
     · exact I2.ok.noex b o e z
     · exact absurd (Nat.lt_of_lt_of_le (Heap.lt_size e) (Nat.le_trans I2.ok.bsz z)) (Nat.lt_irrefl _)
   · rcases List.mem_cons.mp (I2.stkSub b hf) with z | z
     · exact (hfp b hb).2.1 z
     · exact (hfp b hb).2.2.1 z
 have hCn:H2 C=none:=I2.hok.fresh (by rw [hC];exact Nat.le_refl _);refine ⟨ok',rfl,I2.bare,Un.kept hsb,⟨_,hn,fun i x v e1 e2 e3=>?_⟩,fun x c e=>?_,hCn,fun x c e=>I2.freeC x c (cl1 x c e),fun p hp=>(by cases hp),I2.hok.kept hsb,?_⟩
 · obtain ⟨hi,j,hj,hv⟩:=Zf2 e2
   have e1:(own++caps.map fun j=>X.N.getD j Str.empty)[i]?=some x:=e1;rw [List.getElem?_append_right (by rw [hown];exact hi),List.getElem?_map,hown,hj] at e1;have e1:X.N.getD j Str.empty=x:=Option.some.inj e1;obtain ⟨y,hy,hfree,hout⟩:=hcap.get (List.mem_of_getElem? hj);rw [List.getD_eq_getElem?_getD,hy] at e1;have e1:y=x:=e1;subst e1;obtain ⟨m,hm,hl⟩:=I2.loc;obtain ⟨u,r,l⟩:=hl j y v hy hv (.inr hout);refine ⟨u,r,.inr ⟨?_,?_⟩⟩
   · have:=Zbv (env:=X.env) hfree
     show (relabel scope X.env).names.lookup y=some .cell∨(relabel scope X.env).names.lookup y=some .free;unfold relabel;rw [this];split
     · exact .inl rfl
     · exact .inr rfl
   · obtain ⟨c,hc⟩:=cl2 y (ZcB hfree)
     refine ⟨c,hc,?_⟩;rcases l with ⟨k,_⟩ | ⟨_,c',hc',hcell⟩
     · have k:X.env.scope.names.lookup y=some .local:=k
       rcases hout with z | z<;>(rw [k] at z;cases z)
     · rw [cl1 y c hc] at hc'
       cases hc';obtain ⟨o,ho,hd⟩:=hcell;exact ⟨o,hsb _ _ ho,hd⟩
 · obtain ⟨v,o,ho,hd⟩:=I2.cell x c (cl1 x c e)
   exact ⟨v,o,hsb _ _ ho,hd⟩
 · show (capSt n caps σ).length=(own++caps.map fun j=>X.N.getD j Str.empty).length
   unfold capSt;rw [List.length_append,List.length_append,List.length_replicate,List.length_map,List.length_map,hown]
theorem ZfC {n:Nat} {tg iter elt:Expr} {ifs:List Expr} {pos:Pos} {it:Addr} {fp:List Addr} {tn:Nat→Heap→Prop} {J:It} {cl:List (Str × Addr)} {g:TG} {tt:TT} {te:TE} {E:Value→Shared→Prop} {RR:Value→Addr→Result→Shared→Prop} {Q:VK}
   (hc:X.calm=true) (I2:Inv X pins σ H2 s2) (T:Turn X.prog X.w X.K tg J fp it tn) (st2:tn 0 s2.heap) (f2:∀ b∈fp,FpOk X pins H2 b)
   (hok:compOk scope X.env.scope=true) (hcap:capOk X scope caps) (hown:own.length=n) (hgo:gOwn n g)
   (cl1:∀ y c,cl.lookup y=some c→X.env.cells.lookup y=some c) (cl2:∀ y,(y,NameKind.free)∈scope.names→∃ c,cl.lookup y=some c)
   (hg:∀ C s₃ H₃,PG (compX X scope own caps cl C s₃ H₃ fp) tg g) (ht:∀ C s₃ H₃,PTs (compX X scope own caps cl C s₃ H₃ fp) ifs tt) (he:∀ C s₃ H₃,PE (compX X scope own caps cl C s₃ H₃ fp) elt te)
   (h:∀ D,H2 D=none→∃ W:Nat→Nat→Hp→Prop,(∃ m,W 0 m (upd H2 D (.lst [])))∧∀ i m H2,W i m H2 →
     (J.stop i H2∧Q (.ref D) H2)∨(J.go i H2∧∀ x H3,J.yld i H2 x H3→g x (capSt n caps σ) H3 fun σ4 H4=>tt σ4 H4 fun b H5 =>
       if b=true then te σ4 H5 fun y H6=>∃ xs,H6 D=some (.lst xs)∧xs.length<sizeLine∧∃ m',m'<m∧W (i+1) m' (upd H6 D (.lst (xs++[y]))) else ∃ m',m'<m∧W (i+1) m' H5))
   (hRR:∀ D C s' H' m,s'.heap.Ns C m→Inv X pins σ H' s'→FpOk X pins H' C→Q (.ref D) H'→RR (.ref D) C (.ok .next) s') :
   wpAny (model X.prog X.w) X.A (newList []) (fun acc s₃=>wpAny (model X.prog X.w) X.A (newFunctionEnv scope X.env.globals cl [] X.env.qual none .none (some X.env)) (fun cenv s₄ =>
     codeAny (model X.prog X.w) X.A (.compStart (.ListComp elt [⟨tg,iter,ifs,0⟩] scope pos) 0 (.ref it) acc { cenv with scope:=relabel scope X.env }) (RR acc cenv.locals) s₄) E s₃) E s2:=by
 refine wpAny_newList (items:=[]) (wpAny_newFunctionEnv (ZhP hok) (by intro y hy;simp at hy) (fun h₁ hns₁ hsb₁=>?_) (Zdr hok)) (by show 0≤sizeLine;decide);obtain ⟨W,⟨m0,w0⟩,turn⟩:=h s2.heap.objs.size I2.fresh;have I3:Inv X pins σ (upd H2 s2.heap.objs.size (.lst [])) { s2 with heap:=s2.heap.push { cls:=.type "list",data:=.seq ([]:List Value).toArray } }:=I2.lnew (t':=s2.toks) .nil (by show 0≤sizeLine;decide);generalize hs3:({ s2 with heap:=s2.heap.push { cls:=.type "list",data:=.seq ([]:List Value).toArray } }:Shared)=s₃ at *;have e3:s₃.heap.objs.size=s2.heap.objs.size+1:=by rw [← hs3];exact Heap.size_push _ _
 have k23:∀ b o,s2.heap.get? b=some o→s₃.heap.get? b=some o:=fun b o e=>by rw [← hs3];exact Heap.get?_push_of_some _ e
 have hold:∀ b o,s₃.heap.get? b=some o→h₁.get? b=some o:=fun b o e=>(hsb₁.2 b (Nat.ne_of_lt (Heap.lt_size e))).trans (Heap.get?_push_of_some _ e)
 have lt2:∀ b∈fp,b<s2.heap.objs.size:=fun b hb=>by
   obtain ⟨o,e,_⟩:=T.obj _ _ st2 b hb;exact Heap.lt_size e
 have f3:∀ b∈fp,FpOk X pins (upd H2 s2.heap.objs.size (.lst [])) b:=fun b hb=>by
   obtain ⟨z,r⟩:=f2 b hb;exact ⟨by rw [Zah (Nat.ne_of_lt (lt2 b hb))];exact z,r⟩
 have tn1:tn 0 h₁:=T.keep _ _ _ st2 fun b hb o e=>hold b o (k23 b o e)
 have I4:=Inv.comp (own:=own) (caps:=caps) (n:=n) (fp:=fp) (cl:=cl) (h4:=h₁) (tk:=s₃.toks+([]:List (Str × Value)).length) I3 hok hcap hown cl1 cl2 f3 (fun b hb=>by rw [e3];exact Nat.lt_succ_of_lt (lt2 b hb)) rfl (by simpa using hns₁) hold;have hXok:=I4.ok;have loop:codeAny (model X.prog X.w) X.A (.compLoop (.ListComp elt [⟨tg,iter,ifs,0⟩] scope pos) 0 (.ref it) (.ref s2.heap.objs.size) (compEnvC scope cl s₃.heap.objs.size X.env)) (RR (.ref s2.heap.objs.size) s₃.heap.objs.size) { s₃ with heap:=h₁,toks:=s₃.toks+([]:List (Str × Value)).length }:=by
   generalize hX:compX X scope own caps cl s₃.heap.objs.size s₃ (upd H2 s2.heap.objs.size (.lst [])) fp=X' at I4 hXok;have eP:X'.prog=X.prog:=by rw [← hX];rfl
   have eW:X'.w=X.w:=by rw [← hX];rfl
   have eK:X'.K=X.K:=by rw [← hX];rfl
   have eA:X'.A=X.A:=by rw [← hX];rfl
   have eC:X'.calm=true:=by rw [← hX];exact hc
   have eE:X'.env=compEnvC scope cl s₃.heap.objs.size X.env:=by rw [← hX];rfl
   have eL:X'.env.locals=s₃.heap.objs.size:=by rw [eE];rfl
   have eX:X'.xe=fun _ _=>False:=by rw [← hX];rfl
   have ePn:X'.pn=[]:=by rw [← hX];rfl
   have eEx:X'.ex=fp:=by rw [← hX];rfl
   have eFs:X'.fs=frs X.stack:=by rw [← hX];rfl
   have hg':=hg s₃.heap.objs.size s₃ (upd H2 s2.heap.objs.size (.lst []));have ht':=ht s₃.heap.objs.size s₃ (upd H2 s2.heap.objs.size (.lst []));have he':=he s₃.heap.objs.size s₃ (upd H2 s2.heap.objs.size (.lst []));have eS0:X'.s₀=s₃:=by rw [← hX];rfl
   have eH0:X'.H₀=upd H2 s2.heap.objs.size (.lst []):=by rw [← hX];rfl
   rw [hX] at hg' ht' he';have fpOk:∀ {H':Hp} (b:Addr),b∈fp→H' b=none→FpOk X' [] H' b:=fun b hb hn=>by
     refine ⟨hn,(hXok.exf b (eEx ▸ hb)).1,hXok.exfs b (eEx ▸ hb),.inl (eEx ▸ hb),(hXok.exf b (eEx ▸ hb)).2,fun p hp=>?_⟩;rw [ePn] at hp;cases hp
   rw [← eP,← eW,← eA,← eE];refine Zf5 (fun n' s'=>∃ i H',Inv X' [] (capSt n caps σ) H' s'∧tn i s'.heap∧(∀ b∈fp,H' b=none)∧W i n' H') ?_ m0 ⟨0,_,I4,tn1,fun b hb=>(f3 b hb).1,w0⟩;rintro k s5 ⟨i,H5,I5,t5,fr5,w5⟩;have weaken:∀ {σ':St} {H':Hp} {s':Shared} {pl:List (Addr × Obj)},Inv X' pl σ' H' s'→σ'.length=(capSt n caps σ).length→σ'.drop n=(capSt n caps σ).drop n→Inv X' [] (capSt n caps σ) H' s':=fun {σ' H' s' pl} I' hl hd=>by
     have I'':Inv X' [] σ' H' s':=I'.pins_of fun p hp=>by cases hp
     refine I''.weak hl.symm fun j v e=>?_
     have hj:=(Zf2 e).1;have q1:(σ'.drop n)[j-n]?=σ'[j]?:=by rw [List.getElem?_drop];congr 1;omega
     have q2:((capSt n caps σ).drop n)[j-n]?=(capSt n caps σ)[j]?:=by rw [List.getElem?_drop];congr 1;omega
     rw [← q1,hd,q2];exact e
   rcases turn i k H5 w5 with ⟨stop,qn⟩ | ⟨go,step⟩
   · have z:=T.done X' eP eW eK eC i [] s5 (capSt n caps σ) H5 (fun _ _=>False) I5 (fun b hb=>fpOk b hb (fr5 b hb)) t5 stop
     rw [← eP,← eW] at z;refine thn z fun r s6 ⟨hr,I6⟩=>?_
     subst hr;obtain ⟨m,hm,_⟩:=I6.loc;have ub:Un (frs X.stack) fp (upd H2 s2.heap.objs.size (.lst [])) H5 s₃.heap s6.heap:=by have z:=I6.base;rw [eFs,eEx,eS0,eH0] at z;exact z
     have u23:Un (frs X.stack) fp H2 (upd H2 s2.heap.objs.size (.lst [])) s2.heap s₃.heap:=Un.laid k23 (Nat.le_refl _) I2.fresh;have os6:s6.os=s2.os:=by rw [I6.os,eS0,← hs3]
     have hokk:HOk X.prog X.w H5 s6.heap:=by have z:=I6.hok;rw [eP,eW] at z;exact z
     have Iend:Inv X pins σ H5 s6:=I2.call' os6 (u23.trans ub) hokk I6.bare fun b hb=>⟨(f2 b hb).2.2.2.1,(f2 b hb).2.1,(f2 b hb).2.2.2.2.1,(f2 b hb).2.2.2.2.2⟩
     have hCn:H5 s₃.heap.objs.size=none:=by have z:=I6.free;rw [eL] at z;exact z
     rw [eL] at hm;exact hRR _ _ s6 H5 m hm Iend (I3.fpOk (Nat.le_refl _) hCn) qn
   · have z:=T.item X' eP eW eK eC i [] s5 (capSt n caps σ) H5 (fun _ _=>False) I5 (fun b hb=>fpOk b hb (fr5 b hb)) t5 go
     rw [← eP,← eW] at z;refine thn z fun r s6 ⟨u,hr,h6⟩=>?_
     subst hr;refine thn h6 fun _ s7 ⟨x,H7,I7,r7,y7,t7,fr7⟩=>?_
     have I7':=I7.pinned (fun b hb=>fpOk b hb (fr7 b hb)) (T.obj _ _ t7);have pinD:∀ {σ':St} {H':Hp} {s':Shared},Inv X' ([]++pinsAt fp s7.heap) σ' H' s'→tn (i+1) s'.heap∧∀ b∈fp,H' b=none:=fun {σ' H' s'} I'=>by
       have pin:∀ b∈fp,∀ o,s7.heap.get? b=some o→s'.heap.get? b=some o∧H' b=none:=fun b hb o e=>by
         have z:=I'.pin (b,o) (List.mem_append_right _ (List.mem_append_right _ (Zde hb e)));exact ⟨z.1,z.2.1⟩
       refine ⟨T.keep _ _ _ t7 fun b hb o e=>(pin b hb o e).1,fun b hb=>?_⟩;obtain ⟨o,e,_⟩:=T.obj _ _ t7 b hb;exact (pin b hb o e).2
     have xf:∀ {α:Type} {t:Sem α} {Q':α→Shared→Prop} {s':Shared},wpAny (model X'.prog X'.w) X'.A t Q' X'.xe s'→wpAny (model X'.prog X'.w) X'.A t Q' (fun _ _=>False) s':=fun z=>by rw [eX] at z;exact z
     refine thn (xf (hg' _ s7 (capSt n caps σ) H7 x u _ I7' r7 (hgo _ _ _ _ (step x H7 y7)))) fun _ s8 ⟨σ8,H8,I8,⟨l8,d8⟩,q8⟩=>?_
     refine thn (xf (ht' _ s8 σ8 H8 _ I8 q8)) fun b s9 ⟨H9,I9,q9⟩=>?_
     cases b with
     | false =>
       rw [if_neg Bool.false_ne_true];obtain ⟨m',hm,w9⟩:=(show ∃ m',m'<k∧W (i+1) m' H9 by simpa using q9)
       obtain ⟨t9,fr9⟩:=pinD I9;exact ⟨m',hm,i+1,H9,weaken I9 l8 d8,t9,fr9,w9⟩
     | true =>
       rw [if_pos rfl];rw [if_pos rfl] at q9;refine thn (xf (he' _ s9 σ8 H9 _ I9 q9)) fun v s10 ⟨y,H10,I10,r10,xs,hD,hlen,m',hm,w10⟩=>?_
       refine thn (xf (ZaL _ s10 σ8 H10 (.ref s2.heap.objs.size) [y] (.ref s2.heap.objs.size) [v] (fun _ H'=>H'=upd H10 s2.heap.objs.size (.lst (xs++[y]))) I10 rfl (.cons r10 .nil) ⟨_,xs,y,rfl,rfl,hD,hlen,rfl⟩)) fun _ s11 ⟨_,H11,I11,_,e11⟩=>?_
       subst e11;obtain ⟨t11,fr11⟩:=pinD I11;exact ⟨m',hm,i+1,_,weaken I11 l8 d8,t11,fr11,w10⟩
 exact codeAny_compStart_list loop (T.self _ 0 _ _ _ tn1 loop)
theorem Inv.closure (I:Inv X pins σ H2 s2)(hok:compOk scope X.env.scope=true):∃ cl,closureFor scope X.env=pure cl∧(∀ y c,cl.lookup y=some c→X.env.cells.lookup y=some c)∧∀ y,(y,NameKind.free)∈scope.names→∃ c,cl.lookup y=some c :=
 Zik fun z hz e=>I.ok.has z.1 (cok_free hok z hz e)
end
section
variable {X:Cx}{tg iter elt:Expr}{ifs:List Expr}{scope:Scope}{pos:Pos}{wi:TI}{g:TG}{tt:TT}{te:TE}{n:Nat}
theorem Zbh (own:List Str)(caps:List Nat)(hc:X.calm=true)(hi:PI X tg iter wi)(hg:∀ cl C s₃ H₃ fp,PG (compX X scope own caps cl C s₃ H₃ fp) tg g)(ht:∀ cl C s₃ H₃ fp,PTs (compX X scope own caps cl C s₃ H₃ fp) ifs tt)
   (he:∀ cl C s₃ H₃ fp,PE (compX X scope own caps cl C s₃ H₃ fp) elt te) (hcap:capOk X scope caps) (hgo:gOwn own.length g) (hok:compOk scope X.env.scope=true:=by rfl)
   (hs:∀ x,foldedSetIterable iter X.env x=pure x:=by intro _;rfl):PE X (.ListComp elt [⟨tg,iter,ifs,0⟩] scope pos) (tComp own.length caps wi g tt te):=by
 intro pins s σ H Q I h;obtain ⟨cl,hcl,cl1,cl2⟩:=I.closure hok;rw [eval_ListComp];refine wpAny_comprehension_free (use:=none) rfl hs hcl (Zdr hok) (ZjG hok) (thn (hi pins s σ H _ I h) fun v s1 h1=>thn h1 fun itv s2 h2=>?_);obtain ⟨it,fp,tn,J,H2,e,I2,T,st2,f2,h3⟩:=h2;subst e;refine ZfC (RR:=fun acc C=>compPost (model X.prog X.w) X.A X.xe none (EP X pins σ Q) acc C) (own:=own) (caps:=caps) (n:=own.length) (Q:=Q) hc I2 T st2 f2 hok hcap rfl hgo cl1 cl2 (fun C s₃ H₃=>hg cl C s₃ H₃ fp) (fun C s₃ H₃=>ht cl C s₃ H₃ fp) (fun C s₃ H₃=>he cl C s₃ H₃ fp) h3 ?_;intro D C s' H' m hm I' hC q;refine ⟨m,hm,fun h' hsb=>⟨.ref D,H',?_,rfl,q⟩⟩;exact I'.turned (it:=C) (t':=s'.toks) (fun b o hb e=>(hsb.2 b hb).trans e) hC.1 hC.2.1 hC.2.2.2.1 hC.2.2.2.2.1 hC.2.2.2.2.2
theorem Ze4 {i:Nat}{x:Str}{pos' spos:Pos}(own:List Str)(caps:List Nat)(hN:X.N.Nodup)(hx0:X.N[i]?=some x)(hx:Loc X.env.scope x)(hc:X.calm=true)(hi:PI X tg iter wi)(hg:∀ cl C s₃ H₃ fp,PG (compX X scope own caps cl C s₃ H₃ fp) tg g)(ht:∀ cl C s₃ H₃ fp,PTs (compX X scope own caps cl C s₃ H₃ fp) ifs tt)
   (he:∀ cl C s₃ H₃ fp,PE (compX X scope own caps cl C s₃ H₃ fp) elt te) (hcap:capOk X scope caps) (hgo:gOwn own.length g) (hok:compOk scope X.env.scope=true:=by rfl)
   (hs:∀ x,foldedSetIterable iter X.env x=pure x:=by intro _;rfl) (hsw:swapsWith (.ListComp elt [⟨tg,iter,ifs,0⟩] scope pos) (some (.Name x pos')) spos.line X.env=pure true:=by rfl)
   (hf:X.fn x=true∨X.env.scope.names.lookup x=some .local:=by first | exact .inl rfl | exact .inr rfl | assumption):PS X (.Assign [.Name x pos'] (.ListComp elt [⟨tg,iter,ifs,0⟩] scope pos) spos) (tAsg (tComp own.length caps wi g tt te) (gName i)):=by
 intro pins s σ H D I h;obtain ⟨cl,hcl,cl1,cl2⟩:=I.closure hok;rw [exec_Assign_Name_used _ _ _ _ hsw];refine wpAny_bind (wpAny_standAt (wpAny_bind ?_));show wpAny _ _ (do let _ ← comprehension (.ListComp elt [⟨tg,iter,ifs,0⟩] scope pos) scope X.env _ (newList []) false (eval iter X.env) (some (assign (.Name x pos') X.env))) _ _ s;refine wpAny_bind (wpAny_mono (wpAny_comprehension_free (use:=some (assign (.Name x pos') X.env)) (Q:=fun _ s'=>SP X pins D .next s') rfl hs hcl (Zdr hok) (ZjG hok)
   (thn (hi pins s σ H _ I h) fun v s1 h1=>thn h1 fun itv s2 h2=>?_)) (fun _ s' hq=>wpAny_pure (wpAny_pure hq)) fun _ _ e=>e)
 obtain ⟨it,fp,tn,J,H2,e,I2,T,st2,f2,h3⟩:=h2;subst e;refine ZfC (RR:=fun acc C=>compPost (model X.prog X.w) X.A X.xe (some (assign (.Name x pos') X.env)) (fun _ s'=>SP X pins D .next s') acc C) (own:=own) (caps:=caps) (n:=own.length) (Q:=fun x H1=>gName i x σ H1 D.nx) hc I2 T st2 f2 hok hcap rfl hgo cl1 cl2 (fun C s₃ H₃=>hg cl C s₃ H₃ fp) (fun C s₃ H₃=>ht cl C s₃ H₃ fp) (fun C s₃ H₃=>he cl C s₃ H₃ fp) h3 ?_;intro A' C s' H' m hm I' hC q;obtain ⟨o,es,ep,ho,hd,r⟩:=id hm;have I'':Inv X (pins++[(C,o)]) σ H' s':=I'.pins_of fun p hp=>by
   rcases List.mem_append.mp hp with z | z
   · exact I'.pin p (List.mem_append_right _ z)
   · have e:p=(C,o):=by simpa using z
     subst e;exact ⟨ho,hC.1,hC.2.1,hC.2.2.1,fun v e=>by rw [hd] at e;cases e⟩
 refine thn (ZaB hN hx0 hx hf _ s' σ H' (.ref A') (.ref A') _ I'' rfl q) fun _ s2' ⟨σ2,H3',I3,q3⟩=>?_
 have p3:=I3.pin (C,o) (List.mem_append_right _ (List.mem_append_right _ (by simp)));refine ⟨m,⟨o,es,ep,p3.1,hd,r⟩,fun h' hsb=>⟨σ2,H3',?_,q3⟩⟩;exact (I3.unpinned (pl:=[(C,o)])).turned (it:=C) (t':=s2'.toks) (fun b o hb e=>(hsb.2 b hb).trans e) p3.2.1 p3.2.2.1 hC.2.2.2.1 hC.2.2.2.2.1 hC.2.2.2.2.2
end
end L2
namespace L2
open PySem PySem.Spec PyProof.Rows
theorem ZcE:bootBuiltins "isinstance"=some (.builtin "isinstance"):=by decide +kernel
theorem ZfQ:bootBuiltins "max"=some (.builtin "max"):=by decide +kernel
section
variable {X:Cx}
def vOf:V→Option Value
 | .ty n=>some (.type n)
 | .ref a=>some (.ref a)
 | _=>none
def rIsi (K:PySem.W.Frag):List V→Hp→VK→Prop:=fun xs H Q=>∃ x y c t b,xs=[x,y]∧vOf y=some c∧TyOf K H x t∧PySem.W.kitOne K t c=some b∧Q (.bl b) H
theorem call_isi:CallR X (.builtin "isinstance") (rIsi X.K):=by
 intro pins s σ H xs us Q I r h;obtain ⟨x,y,c,t,b,rfl,hy,ht,hk,q⟩:=h;obtain ⟨u,v,rfl,ru,rv⟩:=r.two;have ev:v=c:=by
   cases y with
   | ty n=>cases (show v=Value.type n from rv);exact Option.some.inj hy
   | ref a=>cases (show v=Value.ref a from rv);exact Option.some.inj hy
   | _=>cases hy
 subst ev;exact Zkv I ru ht hk fun tk=>⟨.bl b,H,I.tok _,rfl,q⟩
def CShl (i j:Int):Prop:=0≤j∧j≤1000000∧i.natAbs<2^1000
end
def LoopJ (J:It)(g:TG)(tb:TS)(D:Ends)(σ:St)(H:Hp):Prop:=∃ W:Nat→Nat→St→Hp→Prop,(∃ m,W 0 m σ H)∧∀ i m σ H,W i m σ H →
 (J.stop i H∧D.nx σ H)∨(J.go i H∧∃ N:St→Hp→Prop,(∀ σ' H',N σ' H'→∃ m',m'<m∧W (i+1) m' σ' H')∧∀ x H',J.yld i H x H'→g x σ H' fun σ2 H2=>tb { D with nx:=N,ct:=N,bk:=D.nx } σ2 H2)
theorem Zjh {wi:TI}{g:TG}{tb:TS}{D:Ends}{σ:St}{H:Hp}:tFor wi g tb D σ H=wi σ H fun J H1=>LoopJ J g tb D σ H1:=rfl
theorem loopR {lo:Int}{n:Nat}{g:TG}{tb:TS}{D:Ends}{σ:St}{H:Hp}(Pv:Nat→St→Hp→Prop)(h0:Pv 0 σ H)
   (hs:∀ i σ H,i<n→Pv i σ H→g (.int (lo+i)) σ H fun σ2 H2=>tb { D with nx:=Pv (i+1),ct:=Pv (i+1),bk:=D.nx } σ2 H2) (hd:∀ σ H,Pv n σ H→D.nx σ H):LoopJ (Itr lo n) g tb D σ H:=Zks Pv h0 hs hd
theorem loopL {K:PySem.W.Frag}{a:Addr}{xs:List V}{g:TG}{tb:TS}{D:Ends}{σ:St}{H:Hp}(Pv:Nat→St→Hp→Prop)(h0:Pv 0 σ H)(hl:∀ i σ H,i≤xs.length→Pv i σ H→SqL K H a xs)
   (hs:∀ i x σ H,xs[i]?=some x→Pv i σ H→g x σ H fun σ2 H2=>tb { D with nx:=Pv (i+1),ct:=Pv (i+1),bk:=D.nx } σ2 H2) (hd:∀ σ H,Pv xs.length σ H→D.nx σ H):LoopJ (Itl K a) g tb D σ H:=for_list Pv h0 hl hs hd
def CompJ (J:It) (n:Nat) (caps:List Nat) (g:TG) (tt:TT) (te:TE) (σ:St) (H1:Hp) (Q:VK):Prop:=∀ D,H1 D=none→∃ W:Nat→Nat→Hp→Prop,(∃ m,W 0 m (upd H1 D (.lst [])))∧∀ i m H2,W i m H2 →
 (J.stop i H2∧Q (.ref D) H2)∨(J.go i H2∧∀ x H3,J.yld i H2 x H3→g x (capSt n caps σ) H3 fun σ4 H4=>tt σ4 H4 fun b H5 =>
   if b=true then te σ4 H5 fun y H6=>∃ xs,H6 D=some (.lst xs)∧xs.length<sizeLine∧∃ m',m'<m∧W (i+1) m' (upd H6 D (.lst (xs++[y]))) else ∃ m',m'<m∧W (i+1) m' H5)
theorem ZgZ {n:Nat}{caps:List Nat}{wi:TI}{g:TG}{tt:TT}{te:TE}{σ:St}{H:Hp}{Q:VK}:tComp n caps wi g tt te σ H Q=wi σ H fun J H1=>CompJ J n caps g tt te σ H1 Q:=rfl
theorem compPure {J:It} {m n:Nat} {caps:List Nat} {g:TG} {tt:TT} {te:TE} {σ:St} {H1:Hp} {Q:VK} (x:Nat→V) (p:Nat→Bool) (f:Nat→V) (hn:n≤1000000)
   (hstop:∀ H2,Same H1 H2→J.stop n H2) (hgo:∀ i H2,i<n→Same H1 H2→J.go i H2) (hy:∀ i H2 v H3,i<n→Same H1 H2→J.yld i H2 v H3→v=x i∧H3=H2)
   (hg:∀ i H2 R,i<n→Same H1 H2→(∀ σ4,σ4=(capSt m caps σ).set 0 (some (x i))→R σ4 H2)→g (x i) (capSt m caps σ) H2 R)
   (ht:∀ i H2 R,i<n→Same H1 H2→R (p i) H2→tt ((capSt m caps σ).set 0 (some (x i))) H2 R)
   (he:∀ i H2 R,i<n→p i=true→Same H1 H2→R (f i) H2→te ((capSt m caps σ).set 0 (some (x i))) H2 R)
   (hq:∀ D,H1 D=none→Q (.ref D) (upd H1 D (.lst (((List.range n).filter p).map f)))):CompJ J m caps g tt te σ H1 Q:=by
 intro D hD;have same:∀ l,Same H1 (upd H1 D (.lst l)):=fun l b o e=>by rw [Zah (Zaj e hD)];exact e
 refine ⟨fun i k H2=>k=n-i∧i≤n∧H2=upd H1 D (.lst (((List.range i).filter p).map f)),⟨n,rfl,Nat.zero_le _,rfl⟩,?_⟩;rintro i k H2 ⟨rfl,hi,rfl⟩;by_cases hlt:i<n
 · refine .inr ⟨hgo i _ hlt (same _),fun v H3 y=>?_⟩
   obtain ⟨rfl,rfl⟩:=hy i _ v H3 hlt (same _) y;refine hg i _ _ hlt (same _) fun σ4 e4=>?_
   subst e4;refine ht i _ _ hlt (same _) ?_;have step:(List.range (i+1)).filter p=(List.range i).filter p++if p i=true then [i] else []:=by
     rw [List.range_succ,List.filter_append];congr 1
     cases hp:p i<;>simp [hp]
   cases hp:p i with
   | true =>
     rw [if_pos rfl];refine he i _ _ hlt hp (same _) ⟨_,Zad,?_,n-(i+1),by omega,rfl,hlt,?_⟩
     · rw [List.length_map]
       refine Nat.lt_of_le_of_lt (List.length_filter_le _ _) ?_;rw [List.length_range,sizeLine_eq];omega
     · rw [upd_upd,step,hp,if_pos rfl,List.map_append]
       rfl
   | false =>
     rw [if_neg Bool.false_ne_true];refine ⟨n-(i+1),by omega,rfl,hlt,?_⟩;rw [step,hp,if_neg Bool.false_ne_true,List.append_nil]
 · have e:i=n:=by omega
   subst e;exact .inl ⟨hstop _ (same _),hq D hD⟩
theorem Zb2 {α β:Type}(p:α→Bool)(f:α→β):∀ (xs:List α) (P:Nat→Bool) (F:Nat→β),(∀ i x,xs[i]?=some x→P i=p x∧F i=f x)→((List.range xs.length).filter P).map F=(xs.filter p).map f
 | [],_,_,_=>rfl
 | x::r,P,F,h=>by
   have e:List.range (x::r).length=0::(List.range r.length).map Nat.succ:=by rw [List.length_cons,List.range_succ_eq_map]
   have ih:=Zb2 p f r (P ∘ Nat.succ) (F ∘ Nat.succ) fun i y hy=>h (i+1) y (by simpa using hy)
   obtain ⟨h1,h2⟩:=h 0 x rfl;rw [e,List.filter_cons,List.filter_cons,h1,List.filter_map];split
   · rw [List.map_cons,List.map_cons,h2,List.map_map,ih]
   · rw [List.map_map,ih]
theorem compL {K:PySem.W.Frag}{a:Addr}{xs:List V}{m:Nat}{caps:List Nat}{tt:TT}{te:TE}{σ:St}{H1:Hp}{Q:VK}(p:V→Bool)(f:V→V)(hS:SqL K H1 a xs)(hn:xs.length≤1000000)
   (ht:∀ x H2 R,x∈xs→Same H1 H2→R (p x) H2→tt ((capSt m caps σ).set 0 (some x)) H2 R)
   (he:∀ x H2 R,x∈xs→p x=true→Same H1 H2→R (f x) H2→te ((capSt m caps σ).set 0 (some x)) H2 R)
   (hq:∀ D,H1 D=none→Q (.ref D) (upd H1 D (.lst ((xs.filter p).map f)))):CompJ (Itl K a) m caps (gName 0) tt te σ H1 Q:=by
 have get:∀ i,i<xs.length→xs[i]?=some (xs.getD i .non):=fun i hi=>by rw [List.getD_eq_getElem?_getD,List.getElem?_eq_getElem hi];rfl
 have mem:∀ i,i<xs.length→xs.getD i .non∈xs:=fun i hi=>List.mem_of_getElem? (get i hi)
 refine compPure (fun i=>xs.getD i .non) (fun i=>p (xs.getD i .non)) (fun i=>f (xs.getD i .non)) hn (fun H2 s=>⟨xs,s.seq hS,Nat.le_refl _⟩) (fun i H2 hi s=>⟨xs,_,s.seq hS,get i hi⟩)
   (fun i H2 v H3 hi s y=>⟨?_,y.1⟩) (fun i H2 R hi _ h=>h _ rfl) (fun i H2 R hi s h=>ht _ H2 R (mem i hi) s h) (fun i H2 R hi hp s h=>he _ H2 R (mem i hi) hp s h) (fun D hD=>?_)
 · have:=y.2 xs (s.seq hS)
   rw [get i hi] at this;exact (Option.some.inj this).symm
 · have:=Zb2 p f xs (fun i=>p (xs.getD i .non)) (fun i=>f (xs.getD i .non)) fun i x hx=>by
     have:xs.getD i .non=x:=by rw [List.getD_eq_getElem?_getD,hx];rfl
     rw [this];exact ⟨rfl,rfl⟩
   rw [this];exact hq D hD
section
variable {D:Ends}{σ:St}{H:Hp}{Q:VK}{QT:Bool→Hp→Prop}{QA:List V→Hp→Prop}{ta tb tc:TE}{t u:TS}{tA tB':TT}{te:TE}{tl:TA}{r r':R2}
theorem ZiT:tSeq t u D σ H=t { D with nx:=u D } σ H:=rfl
theorem Zg2:tNext D σ H=D.nx σ H:=rfl
theorem ZfP:tBreak D σ H=D.bk σ H:=rfl
theorem Zhm:tCont D σ H=D.ct σ H:=rfl
theorem ZiR {g:TG}:tAsg te g D σ H=te σ H fun x H1=>g x σ H1 D.nx:=rfl
theorem Zba {i:Nat}{v:V}{R:St→Hp→Prop}:gName i v σ H R=R (σ.set i (some v)) H:=rfl
theorem Zjq {i:Nat}:tVar i σ H Q=∃ v,σ[i]?=some (some v)∧Q v H:=rfl
theorem tC_ap {v:V}:tC v σ H Q=Q v H:=rfl
theorem tOp_ap:tOp r ta tb σ H Q=ta σ H fun x H1=>tb σ H1 fun y H2=>r x y H2 Q:=rfl
theorem tUn_ap {r:V→Hp→VK→Prop}:tUn r ta σ H Q=ta σ H fun x H1=>r x H1 Q:=rfl
theorem rI_ap {C:Int→Int→Prop}{g:Int→Int→V}{x y:V}:rI C g x y H Q=∃ i j,x=.int i∧y=.int j∧C i j∧Q (g i j) H:=rfl
theorem rI0_ap {g:Int→Int→V}{x y:V}:rI0 g x y H Q=∃ i j,x=.int i∧y=.int j∧Q (g i j) H:=rfl
theorem rU_ap {g:Int→V}{x:V}:rU g x H Q=∃ i,x=.int i∧Q (g i) H:=rfl
theorem rEq_ap {x y:V}:rEq x y H Q=(scal x y=true∧Q (.bl (decide (x=y))) H):=rfl
theorem rNe_ap {x y:V}:rNe x y H Q=(scal x y=true∧Q (.bl (!decide (x=y))) H):=rfl
theorem scal_ii {i j:Int}:scal (.int i) (.int j)=true:=rfl
theorem scal_bb {i j:Bool}:scal (.bl i) (.bl j)=true:=rfl
theorem scal_ss {i j:Str}:scal (.str i) (.str j)=true:=rfl
theorem Zjb:tRet te D σ H=te σ H D.rt:=rfl
theorem ZhM:tDrop te D σ H=te σ H fun _ H1=>D.nx σ H1:=rfl
theorem ZiP:tIfS tA t u D σ H=tA σ H fun b H1=>if b=true then t D σ H1 else u D σ H1:=rfl
theorem Zhe:tTest te σ H QT=te σ H fun x H'=>∃ k,x=.bl k∧QT k H':=rfl
theorem tB_ap:tB te σ H QT=te σ H fun x H1=>∃ c,x=.bl c∧QT c H1:=rfl
theorem ZjA:tAnd tA tB' σ H QT=tA σ H fun c H1=>if c=true then tB' σ H1 QT else QT false H1:=rfl
theorem tOr_ap:tOr tA tB' σ H QT=tA σ H fun c H1=>if c=true then QT true H1 else tB' σ H1 QT:=rfl
theorem ZjF:tNot tA σ H QT=tA σ H fun c H1=>QT (!c) H1:=rfl
theorem Zhb:tAndV ta tb σ H Q=ta σ H fun x H1=>∃ c,x=.bl c∧if c=true then tb σ H1 Q else Q (.bl false) H1:=rfl
theorem Zjo:tOrV ta tb σ H Q=ta σ H fun x H1=>∃ c,x=.bl c∧if c=true then Q (.bl true) H1 else tb σ H1 Q:=rfl
theorem Zg8:tNotV ta σ H Q=ta σ H fun x H1=>∃ c,x=.bl c∧Q (.bl (!c)) H1:=rfl
theorem tIf_ap:tIf tA ta tb σ H Q=tA σ H fun c H1=>if c=true then ta σ H1 Q else tb σ H1 Q:=rfl
theorem Zhz {sp:Sp}{dvs:List V}{E:XK}:tCall sp dvs E tl σ H Q=tl σ H fun vs H1=>sp (vs++dvs) H1 Q E:=rfl
theorem ZjO:tNil σ H QA=QA [] H:=rfl
theorem Zhc:tCons ta tl σ H QA=ta σ H fun x H1=>tl σ H1 fun xs H2=>QA (x::xs) H2:=rfl
theorem ZiV:tTup tl σ H Q=tl σ H fun xs H1=>xs.length≤sizeLine∧∀ p,H1 p=none→Q (.ref p) (upd H1 p (.tup xs)):=rfl
theorem Zi5:tLst tl σ H Q=tl σ H fun xs H1=>xs.length≤sizeLine∧∀ p,H1 p=none→Q (.ref p) (upd H1 p (.lst xs)):=rfl
theorem tCB_ap {r:List V→Hp→VK→Prop}:tCB r tl σ H Q=tl σ H fun vs H1=>r vs H1 Q:=rfl
theorem tBM_ap {K:PySem.W.Frag}{T:String}{r:V→List V→Hp→VK→Prop}:tBM K T r te tl σ H Q=te σ H fun x H1=>tyV K T x H1∧tl σ H1 fun xs H2=>r x xs H2 Q:=rfl
theorem ZiX {K:PySem.W.Frag}{T:String}{r:V→List V→Hp→VK→Prop}:tBM0 K T r te σ H Q=te σ H fun x H1=>tyV K T x H1∧r x [] H1 Q:=rfl
theorem tyV_int {K:PySem.W.Frag}{i:Int}:tyV K "int" (.int i) H:=rfl
theorem tyV_list {K:PySem.W.Frag}{p:Addr}:tyV K "list" (.ref p) H↔∃ xs,SqL K H p xs:=by unfold tyV;simp
theorem ZjV {K:PySem.W.Frag}{x y:V}:rIxL K x y H Q=∃ p xs i v,x=.ref p∧y=.int i∧SqL K H p xs∧atI xs i=some v∧Q v H:=rfl
theorem ZjR {K:PySem.W.Frag}{x y:V}:rIxT K x y H Q=∃ p xs i v,x=.ref p∧y=.int i∧SqT K H p xs∧atI xs i=some v∧Q v H:=rfl
theorem Zjg {x y:V}:rIxS x y H Q=∃ z i c,x=.str z∧y=.int i∧z.length≤sizeLine∧atI z.cps.toList i=some c∧Q (.str ⟨#[c]⟩) H:=rfl
theorem ZiG {to ti:TE}{s:TSet}{v:V}{R:St→Hp→Prop}:gSub to ti s v σ H R=to σ H fun o H1=>ti σ H1 fun i H2=>s o i v H2 fun H3=>R σ H3:=rfl
theorem Zhj {o i v:V}{R:Hp→Prop}:rSetL o i v H R=∃ p xs k j,o=.ref p∧i=.int k∧H p=some (.lst xs)∧ixN xs.length k=some j∧R (upd H p (.lst (xs.set j v))):=rfl
theorem ZeS {x:V}{vs:List V}:rAppend x vs H Q=∃ l xs y,x=.ref l∧vs=[y]∧H l=some (.lst xs)∧xs.length<sizeLine∧Q .non (upd H l (.lst (xs++[y]))):=rfl
theorem ZjT {x y:V}:rCat x y H Q=∃ l b xs zs,x=.ref l∧y=.ref b∧H l=some (.lst xs)∧H b=some (.lst zs)∧xs.length+zs.length≤sizeLine∧∀ p,H p=none→Q (.ref p) (upd H p (.lst (xs++zs))):=rfl
theorem Zju {x y:V}:rRep x y H Q=∃ l k xs,x=.ref l∧y=.int k∧H l=some (.lst xs)∧-(2^63)≤k∧k<2^63∧xs.length*k.toNat≤sizeLine∧∀ p,H p=none→Q (.ref p) (upd H p (.lst (List.replicate k.toNat xs).flatten)):=rfl
theorem Zhp {R:It→Hp→Prop}:iRng1 tl σ H R=tl σ H fun vs H1=>∃ j:Int,vs=[.int j]∧-(2^62)≤j∧j<2^62∧R (Itr 0 j.toNat) H1:=rfl
theorem ZgU {K:PySem.W.Frag}{R:It→Hp→Prop}:iList K te σ H R=te σ H fun x H1=>∃ a,x=.ref a∧(∃ xs,SqL K H1 a xs)∧R (Itl K a) H1:=rfl
theorem Zc7:tNoTest σ H QT=QT true H:=rfl
theorem rIsi_int {K:PySem.W.Frag}{i:Int}:rIsi K [.int i,.ty "int"] H Q↔Q (.bl true) H :=
 ⟨fun ⟨x,y,c,t,b,e,hy,ht,hk,q⟩=>by
   cases e;cases hy;cases ht;cases hk;exact q,fun q=>⟨_,_,_,_,true,rfl,rfl,.int i,rfl,q⟩⟩
theorem Zkc {K:PySem.W.Frag}{i:Int}:rIsi K [.int i,.ty "bool"] H Q↔Q (.bl false) H :=
 ⟨fun ⟨x,y,c,t,b,e,hy,ht,hk,q⟩=>by
   cases e;cases hy;cases ht;cases hk;exact q,fun q=>⟨_,_,_,_,false,rfl,rfl,.int i,rfl,q⟩⟩
end
end L2
namespace L2
open PySem PySem.Spec PyProof.Rows
def FnAt (P:Program)(w:World)(K:PySem.W.Frag)(mg:Str→Option Value)(base:Heap)(x:Str)(ps:List Str)(k:Nat)(sp:Sp):Prop :=
 ∃ f fd,FnOk P w K mg base CX0 k f fd ps sp∧mg x=some (.ref f)∧PySem.W.keepIn K (.ref f)=true∧Binds K fd ps []
def DefAt (K:PySem.W.Frag)(mg:Str→Option Value)(x:Str)(st:Stmt)(ps:List Str):Prop:=∃ f fd,Fun K x x st f fd∧mg x=some (.ref f)∧Binds K fd ps []
section
variable {P:Program}{w:World}{K:PySem.W.Frag}{mg:Str→Option Value}{base:Heap}
theorem FnAt.of {x:Str}{st:Stmt}{N ps:List Str}{k:Nat}{sp:Sp}(d:DefAt K mg x st ps)(S:FnScope N ps (defScope st))(len:∀ vs H Q E,sp vs H Q E→vs.length=ps.length)
   (hbody:∀ (f:Addr) (cdv:Value) (A:Around) (outer:List Env) (s:Shared) (H:Hp) (vs:List V) (Q:VK) (E:XK),Room k (A.deeper (envOfC x (defScope st) s.heap.objs.size f cdv))→sp vs H Q E →
     ∃ t,PSs (cxOf CX0 P w K mg base N x (defScope st) f cdv A outer s H E).nox (defBody st) t∧t { nx:=fun _ H'=>Q .non H',rt:=Q } (start N vs) H):FnAt P w K mg base x ps (k+1) sp:=by
 obtain ⟨f,fd,F,m,b⟩:=d;exact ⟨f,fd,F.ok S len (hbody f),m,F.kp,b⟩
theorem ZdP {h:Heap}{x:Str}{st:Stmt}{ps:List Str}{f:Addr}{oc:Value}{od an:Option Addr}{osl:Array (Option Value)}{kV doc pm cdv ct:Value}(X:K.In h)(G:h.Ns mainGlobals mg)(a:PySem.W.nsIn K mainGlobals x=some (some (.ref f)))
   (l:K.lookup f=some ⟨oc,od,.func (PySem.W.fnOf x x (defArgs st) (defBody st) (defScope st) .none kV doc pm an cdv ct),osl⟩) (c:PySem.W.codeIn K cdv x=true) (k:PySem.W.keepIn K (.ref f)=true)
   (hb:∀ (kV doc pm:Value) (an:Option Addr) (cdv ct:Value) (us:List Value),us.length=ps.length→bindArgs (PySem.W.fnOf x x (defArgs st) (defBody st) (defScope st) .none kV doc pm an cdv ct) ⟨us,[]⟩=pure (ps.zip us)):DefAt K mg x st ps :=
 ⟨f,_,Zci l c k,PySem.W.mg_of X G a,(Zci l c k).binds hb⟩
end
section
variable {X:Cx}{x:Str}{ps:List Str}{k:Nat}{sp:Sp}{e:Expr}{es:List Expr}{t:TA}{p pos:Pos}
theorem Zaq (F:FnAt X.prog X.w X.K X.mg X.base x ps k sp)(hr:Room k X.A)(hg:Gl X x)(ha:PA X (e::es) t)
   (he:starEach (e::es) X.env=(false,eval e X.env)::starEach es X.env:=by rfl) (hdb:(x==("__debug__":Str))=false:=by decide) (hpl:(backTo pos (starEach es X.env)).any (·.1)=false:=by rfl):PE X (.Call (.Name x p) (e::es) [] pos) (tCall sp [] E0 t):=by
 obtain ⟨f,fd,G,m,kp,b⟩:=F;exact ZiY G hr hg m kp b .nil pass0 ha hdb he hpl
end
section
variable {X:Cx}
def rLen (K:PySem.W.Frag):List V→Hp→VK→Prop:=fun xs H Q=>∃ p ys,xs=[.ref p]∧(SqL K H p ys∨SqT K H p ys)∧Q (.int ys.length) H
def rListOf (K:PySem.W.Frag):List V→Hp→VK→Prop:=fun xs H Q=>∃ p ys,xs=[.ref p]∧(SqL K H p ys∨SqT K H p ys)∧∀ l,H l=none→Q (.ref l) (upd H l (.lst ys))
theorem Zan (K:PySem.W.Frag)(h:X.K=K:=by rfl):IxR X (rIxL K):=h ▸ ix_list
theorem Zgi (K:PySem.W.Frag)(h:X.K=K:=by rfl):IxR X (rIxT K):=h ▸ ix_tup
theorem ZdR (K:PySem.W.Frag)(h:X.K=K:=by rfl):CallR X (.builtin "isinstance") (rIsi K):=h ▸ call_isi
theorem ZaW (K:PySem.W.Frag)(h:X.K=K:=by rfl):CallR X (.builtin "len") (rLen K):=by subst h;exact Zgr
theorem Zca (K:PySem.W.Frag)(h:X.K=K:=by rfl):CallR X (.type "list") (rListOf K):=by subst h;exact ZgE
theorem Zgg (K:PySem.W.Frag)(h:X.K=K:=by rfl):OpR X (compareOp .In) (rIn K false):=h ▸ Zkx
theorem Zfx (K:PySem.W.Frag)(h:X.K=K:=by rfl):OpR X (compareOp .NotIn) (rIn K true):=h ▸ ZgF
theorem ZjU {K:PySem.W.Frag}{xs:List V}{H:Hp}{Q:VK}:rLen K xs H Q=∃ p ys,xs=[.ref p]∧(SqL K H p ys∨SqT K H p ys)∧Q (.int ys.length) H:=rfl
theorem Ze7 {K:PySem.W.Frag}{xs:List V}{H:Hp}{Q:VK}:rListOf K xs H Q=∃ p ys,xs=[.ref p]∧(SqL K H p ys∨SqT K H p ys)∧∀ l,H l=none→Q (.ref l) (upd H l (.lst ys)):=rfl
theorem rIn_ap {K:PySem.W.Frag}{neg:Bool}{x y:V}{H:Hp}{Q:VK}:rIn K neg x y H Q=∃ p xs,y=.ref p∧(SqL K H p xs∨SqT K H p xs)∧flatV x=true∧xs.all flatV=true∧Q (.bl (if neg then !inV x xs else inV x xs)) H:=rfl
end
section
variable {X:Cx}{tg l o e:Expr}{es:List Expr}{tl to:TE}{t:TA}{name:Str}{apos cpos:Pos}{T id:String}{r:V→List V→Hp→VK→Prop}
theorem ZaS (K:PySem.W.Frag)(hl:PE X l tl)(h:X.K=K:=by rfl):PI X tg l (iList K tl):=h ▸ pi_list hl
theorem ZaZ (K:PySem.W.Frag)(pa:PlainAttrs T)(slot:Slot T name id)(hty:typeOf (.builtin id)=pure (.type "method_descriptor"))(hm:MtR X id r)(ho:PE X o to)(ha:PA X (e::es) t)(hK:X.K=K:=by rfl)
   (hbase:attributeBase o name X.env (eval o X.env)=eval o X.env:=by rfl)
   (hfew:((backTo cpos (starEach (e::es) X.env)).all (fun x=>!x.1)&&(backToKw cpos (keywordEach [] X.env)).all (fun x=>x.1.isSome)
     && decide ((e::es).length+([]:List Keyword).length+(if ([]:List Keyword).isEmpty then 0 else 1)<30))=true:=by rfl)
   (hline:(apos.endLine==cpos.line)=true:=by rfl) (hs:starEach (e::es) X.env=(false,eval e X.env)::starEach es X.env:=by rfl) (hplain:(backTo cpos (starEach es X.env)).any (·.1)=false:=by rfl) :
   PE X (.Call (.Attribute o name apos) (e::es) [] cpos) (tBM K T r to t):=hK ▸ pe_bm pa slot hty hm ho ha hbase hfew hline hs hplain
theorem ZdG (K:PySem.W.Frag)(pa:PlainAttrs T)(slot:Slot T name id)(hty:typeOf (.builtin id)=pure (.type "method_descriptor"))(hm:MtR X id r)(ho:PE X o to)(hK:X.K=K:=by rfl)
   (hbase:attributeBase o name X.env (eval o X.env)=eval o X.env:=by rfl) (hline:(apos.endLine==cpos.line)=true:=by rfl):PE X (.Call (.Attribute o name apos) [] [] cpos) (tBM0 K T r to):=hK ▸ pe_bm0 pa slot hty hm ho hbase hline
end
section
variable {X:Cx}{st:Stmt}{rest:List Stmt}{t u:TS}
end
theorem rep0:List.replicate 0 (none:Option V)=[]:=rfl
theorem rep1:List.replicate 1 (none:Option V)=[none]:=rfl
theorem rep2:List.replicate 2 (none:Option V)=[none,none]:=rfl
theorem rep3:List.replicate 3 (none:Option V)=[none,none,none]:=rfl
theorem rep4:List.replicate 4 (none:Option V)=[none,none,none,none]:=rfl
theorem rep5:List.replicate 5 (none:Option V)=[none,none,none,none,none]:=rfl
theorem rep6:List.replicate 6 (none:Option V)=[none,none,none,none,none,none]:=rfl
theorem rep7:List.replicate 7 (none:Option V)=[none,none,none,none,none,none,none]:=rfl
theorem rep8:List.replicate 8 (none:Option V)=[none,none,none,none,none,none,none,none]:=rfl
theorem rep9:List.replicate 9 (none:Option V)=[none,none,none,none,none,none,none,none,none]:=rfl
theorem rep10:List.replicate 10 (none:Option V)=[none,none,none,none,none,none,none,none,none,none]:=rfl
theorem rep11:List.replicate 11 (none:Option V)=[none,none,none,none,none,none,none,none,none,none,none]:=rfl
end L2
namespace L2
open PySem PySem.Spec PyProof.Rows
mutual
inductive RdD (K:PySem.W.Frag) (H:Hp):V→PyData→Prop
 | non:RdD K H .non .none
 | bl (b:Bool):RdD K H (.bl b) (.bool b)
 | int (i:Int):RdD K H (.int i) (.int i)
 | str (x:Str):RdD K H (.str x) (.str x)
 | lst {a:Addr} {xs:List V} {ds:List PyData} (h:SqL K H a xs) (r:RdDs K H xs ds):RdD K H (.ref a) (.list ds)
 | tup {a:Addr} {xs:List V} {ds:List PyData} (h:SqT K H a xs) (r:RdDs K H xs ds):RdD K H (.ref a) (.tuple ds)
inductive RdDs (K:PySem.W.Frag) (H:Hp):List V→List PyData→Prop
 | nil:RdDs K H [] []
 | cons {x:V} {d:PyData} {xs:List V} {ds:List PyData} (h:RdD K H x d) (r:RdDs K H xs ds):RdDs K H (x::xs) (d::ds)
end
section
variable {X:Cx}{pins:List (Addr × Obj)}{σ:St}{H:Hp}{s:Shared}
mutual
theorem Inv.rd (I:Inv X pins σ H s):∀ {x:V} {d:PyData},RdD X.K H x d→∀ {u:Value},RelV x u→∃ as,Reads s.heap u d as
 | _,_,.non,_,r=>by cases r;exact ⟨_,.none⟩
 | _,_,.bl b,_,r=>by cases r;exact ⟨_,.bool b⟩
 | _,_,.int i,_,r=>by obtain ⟨t,rfl⟩:=r;exact ⟨_,.int i t⟩
 | _,_,.str x,_,r=>by obtain ⟨t,rfl⟩:=r;exact ⟨_,.str x t⟩
 | _,_,.lst h rs,_,r=>by
   cases r;obtain ⟨its,rv,pl,_⟩:=I.list h;obtain ⟨as,q⟩:=Inv.rds I rs rv;obtain ⟨o,ho,hc,n,hd⟩:=pl.isList;exact ⟨_,.list ho hc hd (by simpa using q)⟩
 | _,_,.tup h rs,_,r=>by
   cases r;obtain ⟨its,rv,pl,_⟩:=I.tuple h;obtain ⟨as,q⟩:=Inv.rds I rs rv;obtain ⟨o,ho,hc,n,hd⟩:=pl;exact ⟨_,.tuple ho hc hd (by simpa using q)⟩
theorem Inv.rds (I:Inv X pins σ H s):∀ {xs:List V} {ds:List PyData},RdDs X.K H xs ds→∀ {us:List Value},Vals xs us→∃ as,ReadsAll s.heap us ds as
 | _,_,.nil,_,r=>by cases r;exact ⟨_,.nil⟩
 | _,_,.cons h t,_,r=>by
   cases r with
   | cons r1 r2 =>
     obtain ⟨as,q⟩:=Inv.rd I h r1;obtain ⟨bs,p⟩:=Inv.rds I t r2;exact ⟨_,.cons q p⟩
end
end
section
variable {X:Cx}
def rEqD (K:PySem.W.Frag):R2:=fun x y H Q=>∃ d e,RdD K H x d∧RdD K H y e∧SeqAt.shaped d=true∧SeqAt.shaped e=true∧SeqAt.noMix d e=true∧Q (.bl (PySem.Spec.same d e)) H
def rNeD (K:PySem.W.Frag):R2:=fun x y H Q=>∃ d e,RdD K H x d∧RdD K H y e∧SeqAt.shaped d=true∧SeqAt.shaped e=true∧SeqAt.noMix d e=true∧Q (.bl (!PySem.Spec.same d e)) H
theorem op_eqD (K:PySem.W.Frag)(hu:X.A.units+64<cLine)(h:X.K=K:=by rfl):OpR X (compareOp .Eq) (rEqD K):=by subst h;intro pins s σ H x y v u Q I rx ry h;obtain ⟨d,e,h1,h2,s1,s2,nm,q⟩:=h;obtain ⟨as,r1⟩:=I.rd h1 rx;obtain ⟨bs,r2⟩:=I.rd h2 ry;exact eq_dataH_same r1 r2 s1 s2 hu nm ⟨.bl _,H,I,rfl,q⟩
theorem Zgl (K:PySem.W.Frag)(hu:X.A.units+64<cLine)(h:X.K=K:=by rfl):OpR X (compareOp .NotEq) (rNeD K):=by subst h;intro pins s σ H x y v u Q I rx ry h;obtain ⟨d,e,h1,h2,s1,s2,nm,q⟩:=h;obtain ⟨as,r1⟩:=I.rd h1 rx;obtain ⟨bs,r2⟩:=I.rd h2 ry;exact ne_dataH_same r1 r2 s1 s2 hu nm ⟨.bl _,H,I,rfl,q⟩
theorem hu64 {A:Around}{k:Nat}(hr:Room k A):A.units+64<cLine:=Nat.lt_of_le_of_lt (by omega) hr.un
end
section
variable {K:PySem.W.Frag}{H:Hp}{Q:VK}{a b:Addr}
end
section
variable {K:PySem.W.Frag}{H:Hp}{Q:VK}{a b:Addr}
end
section
variable {X:Cx}
end
section
variable {K:PySem.W.Frag}{H:Hp}{Q:VK}{p:Addr}{xs:List V}
end
end L2
namespace BM
open PySem L2 PyProof.Rows
end BM
namespace L2
open PySem PySem.Spec PyProof.Rows
def Itf (x:Nat→V)(n:Nat):It:=⟨fun i _=>i<n,fun i H v H'=>H'=H∧v=x i,fun i _=>i=n⟩
theorem Zkj {P:Program}{w:World}{K:PySem.W.Frag}{tg:Expr}{it:Addr}{n:Nat}{Pv:Nat→Value→Prop}{St:Nat→Heap→Prop}{x:Nat→V}{ty:String}
   (hty:["enumerate","zip","dict_itemiterator","dict_reverseitemiterator","odict_iterator","itertools.zip_longest","itertools.pairwise"].contains ty=false)
   (W:∀ A:Around,A.handled=none→Walks P w A it [it] [it] n Pv St) (ob:∀ i h,St i h→∃ o vs,h.get? it=some o∧o.cls=.type ty∧o.data=.fields vs)
   (self:∀ (A:Around) (i:Nat) (s:Shared) (Q:Value→Shared→Prop) (E:Value→Shared→Prop),St i s.heap→Q (.ref it) s→wpAny (model P w) A (pyIter (.ref it)) Q E s)
   (val:∀ i v,i<n→Pv i v→RelV (x i) v) (fr:∀ i h h',St i h→(∀ b∈[it],∀ o,h.get? b=some o→h'.get? b=some o)→St i h'):Turn P w K tg (Itf x n) [it] it St where
 mem:=by simp
 obj:=fun i h st b hb=>by
   have e:b=it:=by simpa using hb
   subst e;obtain ⟨o,vs,e,c,d⟩:=ob i h st;exact ⟨o,e,fun v z=>by rw [d] at z;cases z⟩
 keep:=fr
 item:=by
   intro X hP hw hK hc i pins s σ H E I hf st hg;subst hP hw hK;obtain ⟨f0,f1,f2,f3,f4,f5⟩:=hf it (by simp);refine (W X.A (I.ok.hd hc)).item i s _ _ hg st fun v h' tk hv st' kk=>?_
   have I1:Inv X pins σ H { s with heap:=h',toks:=tk }:=I.turned (fun b o hb e=>kk b o (by simpa using hb) e) f0 f1 f3 f4 f5;obtain ⟨o,vs,e,c,d⟩:=ob _ _ st';exact ⟨v,rfl,go_of (s:={ s with heap:=h',toks:=tk }) e c d hty ⟨x i,H,I1,val i v hg hv,⟨rfl,rfl⟩,st',fun b hb=>(hf b hb).1⟩⟩
 done:=by intro X hP hw hK hc i pins s σ H E I hf st hg;subst hP hw hK;have hg:i=n:=hg;subst hg;obtain ⟨f0,f1,f2,f3,f4,f5⟩:=hf it (by simp);refine (W X.A (I.ok.hd hc)).done s _ _ st fun h' tk kk=>⟨rfl,I.turned (fun b o hb e=>kk b o (by simpa using hb) e) f0 f1 f3 f4 f5⟩
 self:=self
section
variable {X:Cx}{tg:Expr}
def sgn (z:Str)(i:Nat):V:=.str ⟨#[z.cps.getD i 0]⟩
def iStr (te:TE):TI:=fun σ H R=>te σ H fun v H1=>∃ z,v=.str z∧R (Itf (sgn z) z.cps.size) H1
theorem sgn_at {z:Str}{i:Nat}{v:Value}(h:SignAt z i v):RelV (sgn z i) v:=by
 obtain ⟨c,u,e,rfl⟩:=h;refine ⟨u,?_⟩;have:z.cps.getD i 0=c:=by rw [Array.getD_eq_getD_getElem?,e];rfl
 rw [this]
theorem Zh9 {l:Expr}{tl:TE}(hl:PE X l tl):PI X tg l (iStr tl):=by
 intro pins s σ H R I h;refine thn (hl pins s σ H _ I h) fun v s1 ⟨y,H1,I1,r1,z,e,q⟩=>?_
 subst e;obtain ⟨t,rfl⟩:=r1;have fin:∀ (ty:String),["enumerate","zip","dict_itemiterator","dict_reverseitemiterator","odict_iterator","itertools.zip_longest","itertools.pairwise"].contains ty=false →
     (∀ (it:Addr) (A:Around),A.handled=none→Walks X.prog X.w A it [it] [it] z.cps.size (SignAt z) (fun i h=>h.IsStrIter it ty z t i)) →
     (∀ (it:Addr) (A:Around) (i:Nat) (s:Shared) (Q:Value→Shared→Prop) (E:Value→Shared→Prop),s.heap.IsStrIter it ty z t i→Q (.ref it) s→wpAny (model X.prog X.w) A (pyIter (.ref it)) Q E s) →
     PIE X pins σ tg R (.ref s1.heap.objs.size) { s1 with heap:=s1.heap.push { cls:=.type ty,data:=.fields #[.str z t,.int 0 0] } }:=fun ty hty W self=>by
   refine ⟨s1.heap.objs.size,[s1.heap.objs.size],_,_,H1,rfl,I1.kept (t':=s1.toks) fun b o e=>Heap.get?_push_of_some _ e,
     Zkj hty (W _) (fun i h st=>let ⟨o,e,c,d⟩:=st;⟨o,_,e,c,d⟩) (self _) (fun i v _ hv=>sgn_at hv) (fun i h h' st k=>let ⟨o,ho,r⟩:=st;⟨o,k _ (by simp) o ho,r⟩),⟨_,Heap.get?_push_size _ rfl,rfl,rfl⟩,fun b hb=>?_,q⟩
   have e:b=s1.heap.objs.size:=by simpa using hb
   subst e;exact I1.fpOk (Nat.le_refl _) (I1.hok.fresh (Nat.le_refl _))
 cases ha:z.cps.all (·<128)
 · exact wpAny_pyIter_wide ha (fin _ (by decide) (fun it A hA=>Walks.strWide hA it z t) fun it A i s Q E st h=>wpAny_pyIter_striter_wide st h)
 · exact wpAny_pyIter_ascii ha (fin _ (by decide) (fun it A hA=>Walks.strAscii hA it z t) fun it A i s Q E st h=>wpAny_pyIter_striter_ascii st h)
theorem ZjM {te:TE}{σ:St}{H:Hp}{R:It→Hp→Prop}:iStr te σ H R=te σ H fun v H1=>∃ z,v=.str z∧R (Itf (sgn z) z.cps.size) H1:=rfl
end
theorem compF {x:Nat→V}{m n:Nat}{caps:List Nat}{tt:TT}{te:TE}{σ:St}{H1:Hp}{Q:VK}(p:Nat→Bool)(f:Nat→V)(hn:n≤1000000)
   (ht:∀ i H2 R,i<n→Same H1 H2→R (p i) H2→tt ((capSt m caps σ).set 0 (some (x i))) H2 R)
   (he:∀ i H2 R,i<n→p i=true→Same H1 H2→R (f i) H2→te ((capSt m caps σ).set 0 (some (x i))) H2 R)
   (hq:∀ D,H1 D=none→Q (.ref D) (upd H1 D (.lst (((List.range n).filter p).map f)))):CompJ (Itf x n) m caps (gName 0) tt te σ H1 Q :=
 compPure x p f hn (fun _ _=>rfl) (fun _ _ h _=>h) (fun _ _ _ _ _ _ h=>⟨h.2,h.1⟩) (fun _ _ _ _ _ h=>h _ rfl) ht he hq
theorem ZeR:∀ {xs:List Str} {us:List Value},Vals (xs.map V.str) us→StrsAre us xs
 | [],_,.nil=>.nil
 | _::_,_,.cons ⟨_,e⟩ r=>by subst e;exact .cons _ _ (ZeR r)
section
variable {X:Cx}
def rJoin (K:PySem.W.Frag):V→List V→Hp→VK→Prop:=fun x vs H Q=>∃ z p ys,x=.str z∧vs=[.ref p]∧SqL K H p (ys.map V.str)∧(ys.map (·.length)).sum+ys.length*z.length≤16777216∧Q (.str (Txt.join z ys)) H
theorem ZiN (K:PySem.W.Frag)(h:X.K=K:=by rfl):MtR X "str.join" (rJoin K):=by subst h;intro pins s σ H x vs v us Q I rx rv h;obtain ⟨z,p,ys,rfl,rfl,hp,hz,q⟩:=h;obtain ⟨t,rfl⟩:=rx;obtain ⟨u,rfl,ru⟩:=rv.one;cases ru;obtain ⟨its,r,pl,_⟩:=I.list hp;exact join_list pl.isList (by simpa using ZeR r) hz fun t' k=>⟨.str _,H,I.tok _,⟨_,rfl⟩,q⟩
theorem ZhC {K:PySem.W.Frag}{x:V}{vs:List V}{H:Hp}{Q:VK}:rJoin K x vs H Q=∃ z p ys,x=.str z∧vs=[.ref p]∧SqL K H p (ys.map V.str)∧(ys.map (·.length)).sum+ys.length*z.length≤16777216∧Q (.str (Txt.join z ys)) H:=rfl
theorem tyV_str {K:PySem.W.Frag}{z:Str}{H:Hp}:tyV K "str" (.str z) H:=rfl
end
theorem int_mk {K:PySem.W.Frag}{h:Heap}{mg:Str→Option Value}{x:Str}{n:Int}{t:Tok}(X:K.In h)(G:h.Ns mainGlobals mg)(a:PySem.W.nsIn K mainGlobals x=some (some (.int n t))):∃ t,mg x=some (.int n t):=⟨t,PySem.W.mg_of X G a⟩
end L2
namespace L2
open PySem PySem.Spec PyProof.Rows
def MethAt (P:Program)(w:World)(K:PySem.W.Frag)(mg:Str→Option Value)(base:Heap)(C:Addr)(m:Str)(ps:List Str)(k:Nat)(sp:Sp):Prop :=
 Cls K C∧∃ f fd,Meth K C m f∧FnOk P w K mg base CX0 k f fd ps sp∧Binds K fd ps []
def MDefAt (K:PySem.W.Frag)(C:Addr)(m qual:Str)(st:Stmt)(ps:List Str):Prop:=∃ f fd,Fun K m qual st f fd∧Meth K C m f∧Binds K fd ps []
def MakeAt (P:Program)(w:World)(K:PySem.W.Frag)(mg:Str→Option Value)(base:Heap)(x:Str)(C:Addr)(ps:List Str)(k:Nat)(sp:Sp):Prop :=
 mg x=some (.ref C)∧∃ f fd,Mk K C f∧FnOk P w K mg base CX0 k f fd ps sp∧Binds K fd ps []
def MakerAt (K:PySem.W.Frag)(C:Addr)(qual:Str)(st:Stmt)(ps:List Str):Prop:=∃ f fd,Fun K "__init__" qual st f fd∧Mk K C f∧Binds K fd ps []
section
variable {P:Program}{w:World}{K:PySem.W.Frag}{mg:Str→Option Value}{base:Heap}
theorem MethAt.of {C:Addr}{m qual:Str}{st:Stmt}{N ps:List Str}{k:Nat}{sp:Sp}(c:Cls K C)(d:MDefAt K C m qual st ps)(S:FnScope N ps (defScope st))(len:∀ vs H Q E,sp vs H Q E→vs.length=ps.length)
   (hbody:∀ (f:Addr) (cdv:Value) (A:Around) (outer:List Env) (s:Shared) (H:Hp) (vs:List V) (Q:VK) (E:XK),Room k (A.deeper (envOfC qual (defScope st) s.heap.objs.size f cdv))→sp vs H Q E →
     ∃ t,PSs (cxOf CX0 P w K mg base N qual (defScope st) f cdv A outer s H E).nox (defBody st) t∧t { nx:=fun _ H'=>Q .non H',rt:=Q } (start N vs) H):MethAt P w K mg base C m ps (k+1) sp:=by
 obtain ⟨f,fd,F,m,b⟩:=d;exact ⟨c,f,fd,m,F.ok S len (hbody f),b⟩
theorem MakeAt.of {x:Str}{C:Addr}{qual:Str}{st:Stmt}{N ps:List Str}{k:Nat}{sp:Sp}(hx:mg x=some (.ref C))(d:MakerAt K C qual st ps)(S:FnScope N ps (defScope st))(len:∀ vs H Q E,sp vs H Q E→vs.length=ps.length)
   (hbody:∀ (f:Addr) (cdv:Value) (A:Around) (outer:List Env) (s:Shared) (H:Hp) (vs:List V) (Q:VK) (E:XK),Room k (A.deeper (envOfC qual (defScope st) s.heap.objs.size f cdv))→sp vs H Q E →
     ∃ t,PSs (cxOf CX0 P w K mg base N qual (defScope st) f cdv A outer s H E).nox (defBody st) t∧t { nx:=fun _ H'=>Q .non H',rt:=Q } (start N vs) H):MakeAt P w K mg base x C ps (k+1) sp:=by
 obtain ⟨f,fd,F,m,b⟩:=d;exact ⟨hx,f,fd,m,F.ok S len (hbody f),b⟩
theorem Zi9 {C:Addr}{m qual:Str}{st:Stmt}{ps:List Str}{f:Addr}{oc:Value}{od an:Option Addr}{osl:Array (Option Value)}{kV doc pm cdv ct:Value}(a:PySem.W.findIn K (.ref C) m=some (some (.ref f)))
   (l:K.lookup f=some ⟨oc,od,.func (PySem.W.fnOf m qual (defArgs st) (defBody st) (defScope st) .none kV doc pm an cdv ct),osl⟩) (c:PySem.W.codeIn K cdv qual=true) (k:PySem.W.keepIn K (.ref f)=true) (fn:PySem.W.isFn K (.ref f)=true)
   (hb:∀ (kV doc pm:Value) (an:Option Addr) (cdv ct:Value) (us:List Value),us.length=ps.length→bindArgs (PySem.W.fnOf m qual (defArgs st) (defBody st) (defScope st) .none kV doc pm an cdv ct) ⟨us,[]⟩=pure (ps.zip us)):MDefAt K C m qual st ps :=
 ⟨f,_,Zci l c k,⟨a,fn,k⟩,(Zci l c k).binds hb⟩
theorem Zg4 {C:Addr}{qual:Str}{st:Stmt}{ps:List Str}{f:Addr}{oc:Value}{od an:Option Addr}{osl:Array (Option Value)}{kV doc pm cdv ct:Value}(a:PySem.W.findIn K (.ref C) "__init__"=some (some (.ref f)))
   (l:K.lookup f=some ⟨oc,od,.func (PySem.W.fnOf "__init__" qual (defArgs st) (defBody st) (defScope st) .none kV doc pm an cdv ct),osl⟩) (c:PySem.W.codeIn K cdv qual=true) (k:PySem.W.keepIn K (.ref f)=true) (fn:PySem.W.isFn K (.ref f)=true)
   (mk:PySem.W.makesIn K C=true) (kC:PySem.W.keepIn K (.ref C)=true)
   (hb:∀ (kV doc pm:Value) (an:Option Addr) (cdv ct:Value) (us:List Value),us.length=ps.length→bindArgs (PySem.W.fnOf "__init__" qual (defArgs st) (defBody st) (defScope st) .none kV doc pm an cdv ct) ⟨us,[]⟩=pure (ps.zip us)):MakerAt K C qual st ps :=
 ⟨f,_,Zci l c k,⟨mk,a,fn,kC⟩,(Zci l c k).binds hb⟩
theorem ex_cls {h:Heap}{x:Str}{C:Addr}{R:Addr→Prop}(X:K.In h)(G:h.Ns mainGlobals mg)(a:PySem.W.nsIn K mainGlobals x=some (some (.ref C)))(r:R C):∃ C,mg x=some (.ref C)∧R C:=⟨C,PySem.W.mg_of X G a,r⟩
end
def tMeD (P:Program)(w:World)(K:PySem.W.Frag)(mg:Str→Option Value)(base:Heap)(k0:Nat)(m:Str)(ta:TE)(t:TA):TE:=fun σ H Q=>ta σ H fun x H1=>∃ a C dx fs ps sp,x=.ref a∧H1 a=some (.ins C dx fs)∧fs.lookup m=none ∧
 MethAt P w K mg base C m ps k0 sp∧t σ H1 fun vs H2=>sp (x::vs) H2 Q E0
section
variable {X:Cx}{k0:Nat}{x m:Str}{p pos apos:Pos}{e o:Expr}{es:List Expr}{ta:TE}{t:TA}{P:Program}{w:World}{K:PySem.W.Frag}{mg:Str→Option Value}{base:Heap}
theorem Zfg (k0:Nat){pl:Sem Bool}(hr:Room k0 X.A)(he:PE X o ta)(ha:PA X (e::es) t)(hP:X.prog=P:=by rfl)(hw:X.w=w:=by rfl)(hK:X.K=K:=by rfl)(hmg:X.mg=mg:=by rfl)(hbs:X.base=base:=by rfl)
   (hst:starEach (e::es) X.env=(false,eval e X.env)::starEach es X.env:=by rfl) (hpl:(backTo pos (starEach es X.env)).any (·.1)=false:=by rfl)
   (ht:eval (.Call (.Attribute o m apos) (e::es) [] pos) X.env=(do
     let ov ← eval o X.env
     standAt apos.atName
     let (f,first) ← holding [ov] (getMethod ov m pl)
     callWith pos f first (backTo pos (starEach (e::es) X.env)) (backToKw pos (keywordEach [] X.env))):=by rfl) :
   PE X (.Call (.Attribute o m apos) (e::es) [] pos) (tMeD P w K mg base k0 m ta t):=by
 subst hP hw hK hmg hbs;intro pins s σ H Q I h;refine PySem.W.methodCall_KW (pl:=pl) (thn (he pins s σ H _ I h) fun u s1 hz=>?_) ht;obtain ⟨x,H1,I1,rx,a,C,dx,fs,ps,sp,ex,ea,l,⟨c,f,fd,me,F,b⟩,q⟩:=hz;subst ex;obtain rfl:u=Value.ref a:=rx;refine Zce I1 ea c me l ?_;refine PySem.W.callWith_K (first:=[.ref a]) (h₀:=X.base) I.ok.mod.kin me.kp (thn (ha pos pins s1 σ H1 _ I1 q) fun us s2 ⟨vs,H2,I2,r,q2⟩=>⟨I2.kIn,?_⟩) hst hpl;exact ZeW (us:=.ref a::us) (vs:=.ref a::vs) (dvs:=[]) F hr b .nil pass0 I2 (.cons rfl r) (by rw [List.append_nil];exact q2)
theorem Zax (k0:Nat){pl:Sem Bool}(hr:Room k0 X.A)(he:PE X o ta)(hP:X.prog=P:=by rfl)(hw:X.w=w:=by rfl)(hK:X.K=K:=by rfl)(hmg:X.mg=mg:=by rfl)(hbs:X.base=base:=by rfl)
   (ht:eval (.Call (.Attribute o m apos) [] [] pos) X.env=(do
     let ov ← eval o X.env
     standAt apos.atName
     let (f,first) ← holding [ov] (getMethod ov m pl)
     callWith pos f first (backTo pos (starEach [] X.env)) (backToKw pos (keywordEach [] X.env))):=by rfl) :
   PE X (.Call (.Attribute o m apos) [] [] pos) (tMeD P w K mg base k0 m ta tNil):=by
 subst hP hw hK hmg hbs;intro pins s σ H Q I h;refine PySem.W.methodCall_KW (pl:=pl) (thn (he pins s σ H _ I h) fun u s1 hz=>?_) ht;obtain ⟨x,H1,I1,rx,a,C,dx,fs,ps,sp,ex,ea,l,⟨c,f,fd,me,F,b⟩,q⟩:=hz;subst ex;obtain rfl:u=Value.ref a:=rx;refine Zce I1 ea c me l ?_;exact PySem.W.callWith_K0 (first:=[.ref a]) I1.kIn me.kp (ZeW (us:=[.ref a]) (vs:=[.ref a]) (dvs:=[]) F hr b .nil pass0 I1 (.cons rfl .nil) q)
theorem Zb5 {C:Addr}{ps:List Str}{k:Nat}{sp:Sp}(F:MakeAt X.prog X.w X.K X.mg X.base x C ps k sp)(hr:Room (k+1) X.A)(hg:Gl X x)(ha:PA X (e::es) t)
   (hdb:(x==("__debug__":Str))=false:=by decide) (he:starEach (e::es) X.env=(false,eval e X.env)::starEach es X.env:=by rfl) (hpl:(backTo pos (starEach es X.env)).any (·.1)=false:=by rfl) :
   PE X (.Call (.Name x p) (e::es) [] pos) (tMake C sp [] E0 t):=by
 obtain ⟨hm,f,fd,M,F,b⟩:=F;exact pe_make M F hr hg hm b .nil pass0 ha hdb he hpl
theorem ZbA (K:PySem.W.Frag){value:Expr}{f:Str}{tv:TE}{pos':Pos}(ha:PE X o ta)(hv:PE X value tv)(hs:swapsWith value (some (.Attribute o f pos')) pos.line X.env=pure false:=by rfl)(h:X.K=K:=by rfl):PS X (.Assign [.Attribute o f pos'] value pos) (sFld K ta tv f):=h ▸ ps_fld ha hv hs
theorem ZaG (K:PySem.W.Frag){f:Str}(he:PE X e ta)(h:X.K=K:=by rfl)(hb:attributeBase e f X.env (eval e X.env)=eval e X.env:=by rfl):PE X (.Attribute e f pos) (tFld K ta f):=h ▸ pe_fld he hb
end
section
variable {P:Program}{w:World}{K:PySem.W.Frag}{mg:Str→Option Value}{base:Heap}{k0:Nat}{m f:Str}{ta tv:TE}{t:TA}{σ:St}{H:Hp}{Q:VK}{C:Addr}{sp:Sp}{dvs:List V}{E:XK}{D:Ends}
theorem ZiS:tMeD P w K mg base k0 m ta t σ H Q=ta σ H fun x H1=>∃ a C dx fs ps sp,x=.ref a∧H1 a=some (.ins C dx fs)∧fs.lookup m=none∧MethAt P w K mg base C m ps k0 sp∧t σ H1 fun vs H2=>sp (x::vs) H2 Q E0:=rfl
theorem Zg6:tMake C sp dvs E t σ H Q=t σ H fun vs H1=>∀ x dx,H1 x=none→H1 dx=none→dx≠x→sp (.ref x::(vs++dvs)) (upd (upd H1 dx (.own x)) x (.ins C dx [])) (fun v H2=>v=.non∧Q (.ref x) H2) E:=rfl
theorem Zi4:tFld K ta f σ H Q=ta σ H fun x H1=>∃ a C dx fs v,x=.ref a∧H1 a=some (.ins C dx fs)∧Cls K C∧NoAttr K C f∧fs.lookup f=some v∧Q v H1:=rfl
theorem ZjY:sFld K ta tv f D σ H=tv σ H fun y H1=>ta σ H1 fun x H2=>∃ a C dx fs,x=.ref a∧H2 a=some (.ins C dx fs)∧Cls K C∧NoAttr K C f∧fs.length<1000∧D.nx σ (upd H2 a (.ins C dx (putF f y fs))):=rfl
theorem Zi7 {n:Nat}{t:TGs}{v:V}{R:St→Hp→Prop}:gTup K n t v σ H R=∃ a xs,v=.ref a∧SqT K H a xs∧xs.length=n∧t xs σ H R:=rfl
theorem Zhs {t:TG}{u:TGs}{vs:List V}{R:St→Hp→Prop}:gCons t u vs σ H R=∃ v r,vs=v::r∧t v σ H fun σ' H'=>u r σ' H' R:=rfl
theorem ZjX {vs:List V}{R:St→Hp→Prop}:gNil vs σ H R=(vs=[]∧R σ H):=rfl
theorem tSl_ap {r:V→Option Int→Option Int→Hp→VK→Prop}{te:TE}{tl th:TO}:tSl r te tl th σ H Q=te σ H fun x H1=>tl σ H1 fun l H2=>th σ H2 fun u H3=>r x l u H3 Q:=rfl
theorem Zfd {R:Option Int→Hp→Prop}:tNoPart σ H R=R none H:=rfl
theorem ZhR {R:Option Int→Hp→Prop}:tPart ta σ H R=ta σ H fun x H1=>∃ i,x=.int i∧R (some i) H1:=rfl
theorem ZjS {x:V}{lo hi:Option Int}:rSlL K x lo hi H Q=∃ a xs,x=.ref a∧SqL K H a xs∧∀ p,H p=none→Q (.ref p) (upd H p (.lst (cutV xs lo hi))):=rfl
theorem sl_listK {X:Cx}(K:PySem.W.Frag)(h:X.K=K:=by rfl):SlR X (rSlL K):=h ▸ sl_list
theorem Zjt {X:Cx}(K:PySem.W.Frag){pos:Pos}{es:List Expr}{k:Nat}{t:TGs}{n:Nat}(hc:X.calm=true)(h:PGs X es t)(hK:X.K=K:=by rfl)
   (hn:(assignEach es X.env).length=n:=by rfl) (hst:(assignEach es X.env).findIdx? (·.1)=none:=by rfl):PG X (.Tuple es k pos) (gTup K n t):=hK ▸ pg_tup hc h hn hst
end
def CompYes (n i:Nat)(D:Addr)(I:Nat→List V→Hp→Prop)(y:V)(H6:Hp):Prop:=∃ xs,H6 D=some (.lst xs)∧xs.length<sizeLine∧∃ m',m'<n-i∧m'=n-(i+1)∧∃ ys,I (i+1) ys (upd H6 D (.lst (xs++[y])))
def CompNo (n i:Nat)(I:Nat→List V→Hp→Prop)(H5:Hp):Prop:=∃ m',m'<n-i∧m'=n-(i+1)∧∃ ys,I (i+1) ys H5
theorem compYes {n i:Nat}{D:Addr}{I:Nat→List V→Hp→Prop}{y:V}{H6:Hp}{ys:List V}(hn:n≤1000000)(hi:i<n)(hl:ys.length≤i)(h:H6 D=some (.lst ys))(q:I (i+1) (ys++[y]) (upd H6 D (.lst (ys++[y])))):CompYes n i D I y H6 :=
 ⟨ys,h,by rw [sizeLine_eq];omega,n-(i+1),by omega,rfl,_,q⟩
theorem compG {J:It}{m n:Nat}{caps:List Nat}{g:TG}{tt:TT}{te:TE}{σ:St}{H1:Hp}{Q:VK}(I:Addr→Nat→List V→Hp→Prop)
   (h0:∀ D,H1 D=none→I D 0 [] (upd H1 D (.lst []))) (hl:∀ D i ys H2,I D i ys H2→i≤n)
   (hstop:∀ D ys H2,H1 D=none→I D n ys H2→J.stop n H2) (hgo:∀ D i ys H2,H1 D=none→i<n→I D i ys H2→J.go i H2)
   (turn:∀ D i ys H2 x H3,H1 D=none→i<n→I D i ys H2→J.yld i H2 x H3→g x (capSt m caps σ) H3 fun σ4 H4=>tt σ4 H4 fun b H5=>if b=true then te σ4 H5 fun y H6=>CompYes n i D (I D) y H6 else CompNo n i (I D) H5)
   (hq:∀ D ys H2,H1 D=none→I D n ys H2→Q (.ref D) H2):CompJ J m caps g tt te σ H1 Q:=by
 intro D hD;refine ⟨fun i k H2=>k=n-i∧∃ ys,I D i ys H2,⟨n,rfl,[],h0 D hD⟩,?_⟩;rintro i k H2 ⟨rfl,ys,hI⟩;have h1:=hl D i ys H2 hI;by_cases hlt:i<n
 · exact .inr ⟨hgo D i ys H2 hD hlt hI,fun x H3 y=>turn D i ys H2 x H3 hD hlt hI y⟩
 · have e:i=n:=by omega
   subst e;exact .inl ⟨hstop D ys H2 hD hI,hq D ys H2 hD hI⟩
theorem Same.put {H H':Hp}{a:Addr}{o:HO}(s:Same H H')(h:H a=none):Same H (upd H' a o):=fun b u e=>by rw [Zah (Zaj e h)];exact s b u e
theorem Same.new {H:Hp}{a:Addr}{o:HO}(h:H a=none):Same H (upd H a o):=(Same.refl H).put h
end L2
namespace L2
open PySem PySem.Spec PyProof.Rows
section
variable {prog:Program}{w:World}{A:Around}{E:Value→Shared→Prop}{s:Shared}
end
section
variable {X:Cx}{e:Expr}{te:TE}{p p' pos pos':Pos}
end
theorem ZeV {x:V}{vs:List V}{H:Hp}{Q:VK}:rExtend x vs H Q=∃ l b xs zs,x=.ref l∧vs=[.ref b]∧H l=some (.lst xs)∧H b=some (.lst zs)∧xs.length+zs.length≤sizeLine∧Q .non (upd H l (.lst (xs++zs))):=rfl
end L2
namespace L2
open PySem PySem.Spec PyProof.Rows
section
variable {prog:Program}{w:World}{A:Around}{E:Value→Shared→Prop}
end
structure TyIns (K:PySem.W.Frag)(C:Addr):Prop where
 a:PySem.W.findIn K (.ref C) "__class__"=some (some (.builtin "object.__class__"))
 b:PySem.W.specialIn K (.builtin "object.__class__") "__get__"=some (some (.builtin "getset_descriptor.__get__"))
 c:PySem.W.takesIn K (.builtin "object.__class__")=some true
 d:PySem.W.mroIn K C (.type "object")=some true
def IsiTo (K:PySem.W.Frag)(mg:Str→Option Value)(C:Addr)(x:Str)(b:Bool):Prop:=∀ S,mg x=some (.ref S)→PySem.W.kitOne K (.ref C) (.ref S)=some b
theorem isi_to {K:PySem.W.Frag}{h:Heap}{mg:Str→Option Value}{x:Str}{C S:Addr}{b:Bool}(X:K.In h)(G:h.Ns mainGlobals mg)(a:PySem.W.nsIn K mainGlobals x=some (some (.ref S)))(r:PySem.W.kitOne K (.ref C) (.ref S)=some b):IsiTo K mg C x b:=fun T e=>by
 rw [PySem.W.mg_of X G a] at e;cases e;exact r
theorem rIsi_ins {K:PySem.W.Frag}{H:Hp}{Q:VK}{mg:Str→Option Value}{a C S dx:Addr}{fs:List (Str × V)}{x:Str}{b:Bool}(ha:H a=some (.ins C dx fs))(c:Cls K C)(t:TyIns K C)(i:IsiTo K mg C x b)(hS:mg x=some (.ref S))(q:Q (.bl b) H):rIsi K [.ref a,.ref S] H Q :=
 ⟨_,_,_,_,b,rfl,rfl,.ins ha c t.a t.b t.c t.d,i S hS,q⟩
theorem all1 {α:Type}{p:List α→Prop}(h:∀ a,p [a]):∀ us:List α,us.length=1→p us
 | [a],_=>h a
theorem all2 {α:Type}{p:List α→Prop}(h:∀ a b,p [a,b]):∀ us:List α,us.length=2→p us
 | [a,b],_=>h a b
theorem all3 {α:Type}{p:List α→Prop}(h:∀ a b c,p [a,b,c]):∀ us:List α,us.length=3→p us
 | [a,b,c],_=>h a b c
theorem all4 {α:Type}{p:List α→Prop}(h:∀ a b c d,p [a,b,c,d]):∀ us:List α,us.length=4→p us
 | [a,b,c,d],_=>h a b c d
end L2
namespace BM
open PySem L2 PyProof.Rows
def fs (k:Nat):Nat→Nat→Nat
 | 0,_=>0
 | n+1,w=>w%2^k+fs k n (w/2^k)
end BM
namespace L2
open PySem PySem.Spec PyProof.Rows
section
variable {X:Cx}{pins:List (Addr × Obj)}{σ:St}{H:Hp}{s:Shared}{h':Heap}
theorem Inv.turnedNew {t':Nat} {ch:List Addr} {T:Addr} {o:HO} (I:Inv X pins σ H s) (hf:∀ b∈ch,FpOk X pins H b) (k:∀ b u,b∉ch→s.heap.get? b=some u→h'.get? b=some u) (hT:s.heap.objs.size≤T)
   (new:ObjOk X.prog X.w (upd H T o) h' T o):Inv X pins σ (upd H T o) { s with heap:=h',toks:=t' }:=by
 have nT:H T=none:=I.hok.fresh hT;have nch:∀ b u,H b=some u→b∉ch:=fun b u e z=>by
   rw [(hf b z).1] at e;cases e
 have neT:∀ b u,s.heap.get? b=some u→b≠T:=fun b u e z=>absurd (Nat.lt_of_lt_of_le (Heap.lt_size e) (by rw [z];exact hT)) (Nat.lt_irrefl _)
 have lch:X.env.locals∉ch:=fun z=>(hf _ z).2.1 rfl
 refine I.step (g':=s.gens) (d':=s.drawn) (ch:=ch) (fun b hb=>?_) (fun b u _ _ hc e _=>k b u hc e) (fun b u _ _ hc e _=>⟨u.slots,k b u hc e⟩) (fun b u _ e n=>?_) (fun b u hc e=>⟨u,k b u hc e⟩) (fun b xs e=>?_) (fun b u v e=>?_) (fun b ps e=>⟨#[],?_⟩) (fun m hm=>?_) (fun b u e=>?_) I.bare
 · obtain ⟨_,f1,_,f3,f4,f5⟩:=hf b hb
   exact ⟨f3,f1,f4,f5⟩
 · rw [Zah (neT b u e)]
   exact n
 · rw [Zah (Zaj e nT)]
   exact e
 · rw [Zah (Zaj e nT)]
   exact e
 · rw [Zah (Zaj e nT),e]
   simp
 · obtain ⟨u,es,ep,ho,r⟩:=hm
   exact ⟨u,es,ep,k _ u lch ho,r⟩
 · by_cases hb:b=T
   · subst hb
     rw [Zad] at e;cases e;exact new
   · rw [Zah hb] at e
     refine (I.hok b u e).stay (fun c v hc q=>k c v ?_ q) (fun c q=>?_) fun c xs q=>?_
     · rcases hc with z | z
       · rw [z];exact nch b u e
       · exact nch c _ z
     · rw [Zah (Zaj q nT)]
       exact q
     · rw [Zah (Zaj q nT)]
       exact q
theorem Inv.turnedL {t':Nat}{ch:List Addr}(I:Inv X pins σ H s)(hf:∀ b∈ch,FpOk X pins H b)(k:∀ b u,b∉ch→s.heap.get? b=some u→h'.get? b=some u):Inv X pins σ H { s with heap:=h',toks:=t' }:=by
 have nch:∀ b u,H b=some u→b∉ch:=fun b u e z=>by
   rw [(hf b z).1] at e;cases e
 have lch:X.env.locals∉ch:=fun z=>(hf _ z).2.1 rfl
 refine I.step (g':=s.gens) (d':=s.drawn) (ch:=ch) (fun b hb=>?_) (fun b u _ _ hc e _=>k b u hc e) (fun b u _ _ hc e _=>⟨u.slots,k b u hc e⟩) (fun _ _ _ _ n=>n) (fun b u hc e=>⟨u,k b u hc e⟩) (fun _ _ e=>e) (fun _ _ _ e=>e) (fun b ps e=>⟨#[],by rw [e];simp⟩) (fun m hm=>?_) (fun b u e=>?_) I.bare
 · obtain ⟨_,f1,_,f3,f4,f5⟩:=hf b hb
   exact ⟨f3,f1,f4,f5⟩
 · obtain ⟨u,es,ep,ho,r⟩:=hm
   exact ⟨u,es,ep,k _ u lch ho,r⟩
 · refine (I.hok b u e).stay (fun c v hc q=>k c v ?_ q) (fun _ q=>q) fun _ _ q=>q
   rcases hc with z | z
   · rw [z];exact nch b u e
   · exact nch c _ z
end
structure ZipTn (z TI TO i1 i2 a b:Addr)(i:Nat)(h:Heap):Prop where
 z:IsZip h z TI TO .none
 ti:IsPair h TI (.ref i1) (.ref i2)
 to:∃ x y,IsPair h TO x y
 i1:h.IsListIter i1 a i
 i2:h.IsListIter i2 b i
theorem ZfG {r r':R2}{ta tb tc:TE}{σ:St}{H:Hp}{Q:VK}:tChain r r' ta tb tc σ H Q=ta σ H fun x H1=>tb σ H1 fun y H2=>r x y H2 fun z H3=>∃ k,z=.bl k∧(if k=true then tc σ H3 fun w' H4=>r' y w' H4 Q else Q (.bl false) H3):=rfl
end L2
namespace L2
open PySem PySem.Spec PyProof.Rows
section
variable {x:V}{vs:List V}{H:Hp}{Q:VK}
end
end L2
namespace ZT
open PySem PySem.Spec PyProof.Rows
section
variable {prog:Program}{w:World}{A:Around}{E:Value→Shared→Prop}{s:Shared}
end
section
variable {prog:Program}{w:World}{A:Around}{E:Value→Shared→Prop}{s:Shared}
end
def zh (h:Heap)(t1 t2:Addr):Heap :=
 ((((h.push { cls:=.type "tuple_iterator",data:=.fields #[.ref t1,.int 0 0] }).push { cls:=.type "tuple_iterator",data:=.fields #[.ref t2,.int 0 0] }).push { cls:=.type "tuple",data:=.seq #[.ref h.objs.size,.ref (h.objs.size+1)] }).push { cls:=.type "tuple",data:=.seq #[.none,.none] }).push { cls:=.type "zip",data:=.fields #[.none,.bool false,.bool false,.ref (h.objs.size+2),.ref (h.objs.size+3)] }
section
variable {prog:Program}{w:World}{A:Around}{E:Value→Shared→Prop}{s:Shared}
end
end ZT
namespace L2
open PySem PySem.Spec PyProof.Rows
structure ZipTt (z TI TO i1 i2 a b:Addr)(i:Nat)(h:Heap):Prop where
 z:IsZip h z TI TO .none
 ti:IsPair h TI (.ref i1) (.ref i2)
 to:∃ x y,IsPair h TO x y
 i1:IsTupIter h i1 a i
 i2:IsTupIter h i2 b i
end L2
namespace Srt
open PySem PyProof.Rows
structure Cmp (M:Model)(A:Around)(E:Value→Shared→Prop)(s:Shared)(kd:SortKind)(S:Keyed→Prop)(L:Keyed→Keyed→Bool):Prop where
 lt:∀ (x y:Keyed) (st:SortSt) (Q:Option Bool→SortSt→Prop),S x→S y→kindOf st=kd→Q (some (L x y)) st→wpS M A E s (lt' x y) Q st
 asym:∀ x y,L x y=true→L y x=false
 neg:∀ x y z,S x→S y→S z→L x z=true→L x y=true∨L y z=true
section
variable {M:Model}{A:Around}{E:Value→Shared→Prop}{s:Shared}{kd:SortKind}{S:Keyed→Prop}{L:Keyed→Keyed→Bool}
def pb (L:Keyed→Keyed→Bool)(left:Bool)(key:Keyed)(arr:Array Keyed)(base i:Nat):Bool:=match arr[base+i]? with
 | some x=>if left then L x key else !L key x
 | none=>false
end
end Srt
namespace Srt
open PySem PyProof.Rows
structure Ord (S:Keyed→Prop)(L:Keyed→Keyed→Bool):Prop where
 asym:∀ x y,L x y=true→L y x=false
 neg:∀ x y z,S x→S y→S z→L x z=true→L x y=true∨L y z=true
abbrev Rise (L:Keyed→Keyed→Bool)(l:List Keyed):Prop:=l.Pairwise fun x y=>L y x=false
section
variable {S:Keyed→Prop}{L:Keyed→Keyed→Bool}
structure MI (L:Keyed→Keyed→Bool)(al bl ol:List Keyed)(ia ib:Nat):Prop where
 perm:ol.Perm (al.take ia++bl.take ib)
 rise:Rise L ol
 lea:∀ x∈ol,∀ y∈al.drop ia,L y x=false
 leb:∀ x∈ol,∀ y∈bl.drop ib,L y x=false
 ha:ia≤al.length
 hb:ib≤bl.length
end
structure Sm (st st':SortSt):Prop where
 kind:kindOf st'=kindOf st
 arr:arrOf st'=arrOf st
 pend:pendingOf st'=pendingOf st
 failed:failedOf st'=failedOf st
section
variable {M:Model}{A:Around}{E:Value→Shared→Prop}{s:Shared}{kd:SortKind}{S:Keyed→Prop}{L:Keyed→Keyed→Bool}
variable {a b out:Array Keyed}{ia ib k:Nat}
structure MS (L:Keyed→Keyed→Bool)(st:SortSt)(a b out:Array Keyed)(ia ib:Nat)(st':SortSt):Prop where
 sm:Sm st st'
 mi:MI L a.toList b.toList out.toList ia ib
 ha:ia+1<a.size
 hb:ib<b.size
end
end Srt
namespace Srt
open PySem PyProof.Rows
section
variable {S:Keyed→Prop}{L:Keyed→Keyed→Bool}
structure MH (L:Keyed→Keyed→Bool)(al bl ol:List Keyed)(na nb:Nat):Prop where
 perm:ol.Perm (al.drop na++bl.drop nb)
 rise:Rise L ol
 lea:∀ x∈ol,∀ y∈al.take na,L x y=false
 leb:∀ x∈ol,∀ y∈bl.take nb,L x y=false
 ha:na≤al.length
 hb:nb≤bl.length
variable {a b out:Array Keyed}{na nb k:Nat}
end
section
variable {M:Model}{A:Around}{E:Value→Shared→Prop}{s:Shared}{kd:SortKind}{S:Keyed→Prop}{L:Keyed→Keyed→Bool}
structure MHS (L:Keyed→Keyed→Bool)(st:SortSt)(a b out:Array Keyed)(na nb:Nat)(st':SortSt):Prop where
 sm:Sm st st'
 mi:MH L a.toList b.toList out.reverse.toList na nb
 ha:0<na
 hb:1<nb
variable {a b out:Array Keyed}{na nb k:Nat}
end
end Srt
namespace Srt
open PySem PyProof.Rows
section
variable {S:Keyed→Prop}{L:Keyed→Keyed→Bool}
end
structure Two (L:Keyed→Keyed→Bool)(st:SortSt)(i:Nat)(pre A B post:List Keyed):Prop where
 arr:(arrOf st).toList=pre++(A++(B++post))
 pa:∃ pw,(pendingOf st)[i]?=some (pre.length,A.length,pw)
 pb:∃ pw,(pendingOf st)[i+1]?=some (pre.length+A.length,B.length,pw)
 rA:Rise L A
 rB:Rise L B
 nA:0<A.length
 nB:0<B.length
section
variable {M:Model}{Ar:Around}{E:Value→Shared→Prop}{s:Shared}{kd:SortKind}{S:Keyed→Prop}{L:Keyed→Keyed→Bool}
end
end Srt
namespace Srt
open PySem PyProof.Rows
structure Sa (st st':SortSt):Prop where
 kind:kindOf st'=kindOf st
 pend:pendingOf st'=pendingOf st
 failed:failedOf st'=failedOf st
section
variable {M:Model}{Ar:Around}{E:Value→Shared→Prop}{s:Shared}{kd:SortKind}{S:Keyed→Prop}{L:Keyed→Keyed→Bool}
end
end Srt
namespace Srt
open PySem PyProof.Rows
abbrev Fall (L:Keyed→Keyed→Bool)(l:List Keyed):Prop:=l.Pairwise fun x y=>L x y=false
structure CR (st st':SortSt)(pre all D T:List Keyed):Prop where
 sa:Sa st st'
 arr:(arrOf st').toList=pre++(D++T)
 perm:(D++T).Perm all
section
variable {M:Model}{Ar:Around}{E:Value→Shared→Prop}{s:Shared}{kd:SortKind}{S:Keyed→Prop}{L:Keyed→Keyed→Bool}
structure Dn (L:Keyed→Keyed→Bool)(D:List Keyed)(neq:Nat):Prop where
 fall:Fall L D
 lt:neq<D.length
 same:∀ x∈D.drop (D.length-(neq+1)),∀ y∈D.drop (D.length-(neq+1)),L x y=false
end
end Srt
namespace Srt
open PySem PyProof.Rows
def Pd (L:Keyed→Keyed→Bool):Nat→List (Nat × Nat × Nat)→List (List Keyed)→Prop
 | _,[],[]=>True
 | off,p::ps,R::rs=>p.1=off∧p.2.1=R.length∧0<R.length∧Rise L R∧Pd L (off+R.length) ps rs
 | _,_,_=>False
section
variable {S:Keyed→Prop}{L:Keyed→Keyed→Bool}
structure SI (L:Keyed→Keyed→Bool)(kd:SortKind)(all:List Keyed)(st:SortSt)(runs:List (List Keyed))(T:List Keyed):Prop where
 arr:(arrOf st).toList=runs.flatten++T
 perm:(runs.flatten++T).Perm all
 pend:Pd L 0 (pendingOf st).toList runs
 kind:kindOf st=kd
 failed:failedOf st=none
end
section
variable {M:Model}{Ar:Around}{E:Value→Shared→Prop}{s:Shared}{kd:SortKind}{S:Keyed→Prop}{L:Keyed→Keyed→Bool}
end
end Srt
namespace L2
open PySem PySem.Spec PyProof.Rows
abbrev bmVal:List Value:=[.type "ValueError",.type "Exception",.type "BaseException",.type "object"]
def excO (e C:Addr):HO:=.ext fun h=>∃ t,h.get? e=some { cls:=.ref C,data:=.fields #[.ref t,.none,.none,.none,.bool false,.none] }
theorem ZiJ {P:Program}{w:World}{H:Hp}{h:Heap}{e C t:Addr}(q:h.get? e=some { cls:=.ref C,data:=.fields #[.ref t,.none,.none,.none,.bool false,.none] }):ObjOk P w H h e (excO e C) :=
 ⟨⟨t,q⟩,⟨_,q⟩,fun h1 h2 ⟨t1,e1⟩ k=>⟨t1,k _ e1⟩⟩
structure XCls (K:PySem.W.Frag)(C:Addr):Prop where
 q:PySem.W.excIn K C bmVal "ValueError.__new__"=true
 kp:PySem.W.keepIn K (.ref C)=true
section
variable {K:PySem.W.Frag}{h:Heap}{C:Addr}
theorem XCls.obj (c:XCls K C) (X:K.In h):∃ (nm qn:Str) (N:Addr) (bs bm:List Value) (hd:Bool) (sn:List Str) (sub:List Value) (ab:Bool) (col:Option Bool) (dd:Option Addr) (k0 k1 k2 k3 k5:Option Value) (mN:Str→Option Value),
   h.get? C=some (excClassObj nm qn C N bs bm hd sn sub ab col dd k0 k1 k2 k3 k5 "ValueError.__new__")∧h.Ns N mN∧mN "__init__"=none∧OwnTail h bmVal bm:=by
 have q:=c.q;unfold PySem.W.excIn at q;split at q
 next dd cd sl ho =>
   split at q
   next C' bm k0 k1 k2 k3 n k5 hm hs =>
     simp only [Bool.and_eq_true,beq_iff_eq,Bool.not_eq_true'] at q;obtain ⟨⟨⟨⟨⟨e1,e2⟩,hdel⟩,ht⟩,hok⟩,hni⟩:=q;subst e1 e2;obtain ⟨nm,bs,mro,ns,qn,hd,sn,sub,ab,col,del⟩:=cd;dsimp only at hm hdel hok hni;subst hm hdel;have hsl:sl=#[k0,k1,k2,k3,some (.builtin "ValueError.__new__"),k5]:=by obtain ⟨l⟩:=sl;simp only at hs;rw [hs]
     subst hsl;exact ⟨nm,qn,ns,bs,bm,hd,sn,sub,ab,col,dd,k0,k1,k2,k3,k5,_,X _ _ ho,.of_isNs (PySem.W.isNs_of_in X hok),PySem.W.nsMap_none_of_in X hok hni,PySem.W.tail_of_in X ht⟩
   next=>cases q
 next=>cases q
end
section
variable {P:Program}{w:World}{H:Hp}{h h':Heap}{a:Addr}{o:HO}
theorem ObjOk.got:∀ {o:HO},ObjOk P w H h a o→∃ u,h.get? a=some u
 | .lst _,x=>let ⟨_,_,_,_,e⟩:=x;⟨_,e⟩
 | .tup _,x=>let ⟨_,_,_,p⟩:=x;let ⟨_,e,_⟩:=p;⟨_,e⟩
 | .dK _,x=>let ⟨_,_,_,_,_,_,_,e,_⟩:=x;⟨_,e⟩
 | .dT _,x=>let ⟨_,_,_,_,_,_,_,e,_⟩:=x;⟨_,e⟩
 | .set _ _,x=>let ⟨_,_,_,_,e,_⟩:=x;⟨_,e⟩
 | .ins _ _ _,x=>let ⟨_,_,_,e,_⟩:=x;⟨_,e⟩
 | .own _,x=>x
 | .xd _,x=>let ⟨_,⟨_,_,_,e,_⟩,_⟩:=x;⟨_,e⟩
 | .rng _ _,x=>let ⟨_,_,_,e⟩:=x;⟨_,e⟩
 | .frz _ _,x=>⟨_,x.1⟩
 | .tbl _,x=>⟨_,x⟩
 | .met _ _,x=>⟨_,x⟩
 | .ext _,x=>x.2.1
theorem HOk.free (x:HOk P w H h)(e:h.get? a=none):H a=none:=by
 cases q:H a with
 | none=>rfl
 | some u =>
   obtain ⟨_,z⟩:=(x a u q).got;rw [e] at z;cases z
theorem HOk.laid0 (x:HOk P w H h)(k:∀ b u,h.get? b=some u→h'.get? b=some u)(e0:h.get? a=none)(new:ObjOk P w (upd H a o) h' a o):HOk P w (upd H a o) h':=by
 intro b u e;have nn:=x.free e0;by_cases hb:b=a
 · subst hb
   rw [Zad] at e;cases e;exact new
 · rw [Zah hb] at e
   refine (x b u e).stay (fun c v _ q=>k c v q) (fun c q=>?_) (fun c xs q=>?_)
   · rw [Zah (Zaj q nn)]
     exact q
   · rw [Zah (Zaj q nn)]
     exact q
theorem Un.laid0 {fs ex:List Addr}(k:∀ b u,h.get? b=some u→h'.get? b=some u)(e0:h.get? a=none)(nn:H a=none):Un fs ex H (upd H a o) h h':=by
 have ne:∀ b u,h.get? b=some u→b≠a:=fun b u q z=>by
   rw [z,e0] at q;cases q
 refine ⟨fun b u q _ _ _=>k b u q,fun b u q _ _ _=>⟨u.slots,k b u q⟩,fun b u q n _=>?_,fun b u q _=>⟨u,k b u q⟩,fun b xs q=>?_,fun b u xs q=>?_,fun b ps q=>⟨#[],?_⟩⟩
 · rw [Zah (ne b u q)]
   exact n
 · rw [Zah (Zaj q nn)]
   exact q
 · rw [Zah (Zaj q nn)]
   exact q
 · rw [Zah (Zaj q nn),q]
   simp
end
section
variable {X:Cx}{C:Addr}
theorem Inv.laid0 {pins:List (Addr × Obj)}{σ:St}{H:Hp}{s:Shared}{h':Heap}{a:Addr}{o:HO}{t':Nat}(I:Inv X pins σ H s)(k:∀ b u,s.heap.get? b=some u→h'.get? b=some u)(e0:s.heap.get? a=none)(new:ObjOk X.prog X.w (upd H a o) h' a o) :
   Inv X pins σ (upd H a o) { s with heap:=h',toks:=t' }:=I.un (Un.laid0 k e0 (I.hok.free e0)) (I.hok.laid0 k e0 new)
end
end L2
namespace Srt
open PySem PyProof.Rows
section
variable {prog:Program}{w:World}{Ar:Around}{E:Value→Shared→Prop}{s:Shared}
end
end Srt
namespace L2
open PySem PySem.Spec PyProof.Rows
section
variable {X:Cx}
end
end L2
namespace Srt
open PySem PyProof.Rows PySem.W
section
variable {prog:Program}{w:World}{Ar:Around}{E:Value→Shared→Prop}{s:Shared}
end
end Srt
namespace L2
open PySem PySem.Spec PyProof.Rows
section
variable {X:Cx}
end
end L2
namespace SG
open PySem PySem.Spec PyProof.Rows
def Ris (xs:Array Nat):Prop:=∀ i j (hj:j<xs.size) (h:i<j),xs[i]<xs[j]
theorem Ris.le {xs:Array Nat}(r:Ris xs){i j:Nat}(hj:j<xs.size)(h:i≤j):xs[i]≤xs[j]:=by
 rcases Nat.lt_or_ge i j with q | q
 · exact Nat.le_of_lt (r i j hj q)
 · have:i=j:=Nat.le_antisymm h q
   subst this;exact Nat.le_refl _
theorem go_ok {xs:Array Nat} (r:Ris xs) (j:Nat):∀ (n lo hi:Nat),hi-lo≤n→lo≤hi→hi≤xs.size→(∀ i (h:i<xs.size),i<lo→xs[i]<j)→(∀ i (h:i<xs.size),hi≤i→j≤xs[i]) →
   (∀ i (h:i<xs.size),i<SetTable.below.go xs j n lo hi→xs[i]<j)∧(∀ i (h:i<xs.size),SetTable.below.go xs j n lo hi≤i→j≤xs[i])∧SetTable.below.go xs j n lo hi≤xs.size
 | 0,lo,hi,hn,h1,h2,a,b=>by
   have e:lo=hi:=by omega
   subst e;unfold SetTable.below.go;exact ⟨a,b,h2⟩
 | n + 1,lo,hi,hn,h1,h2,a,b=>by
   unfold SetTable.below.go;by_cases q:lo<hi
   · rw [if_pos q]
     have hm:(lo+hi)/2<xs.size:=by omega
     have eg:xs.getD ((lo+hi)/2) j=xs[(lo+hi)/2]:=by simp [Array.getD,hm]
     dsimp only;rw [eg];by_cases c:xs[(lo+hi)/2]<j
     · rw [if_pos c]
       refine go_ok r j n ((lo+hi)/2+1) hi (by omega) (by omega) h2 (fun i h hi'=>?_) b;exact Nat.lt_of_le_of_lt (r.le hm (by omega)) c
     · rw [if_neg c]
       refine go_ok r j n lo ((lo+hi)/2) (by omega) (by omega) (by omega) a (fun i h hi'=>?_);exact Nat.le_trans (Nat.le_of_not_lt c) (r.le h hi')
   · rw [if_neg q]
     have e:lo=hi:=by omega
     subst e;exact ⟨a,b,h2⟩
theorem below_ok {xs:Array Nat}(r:Ris xs)(j:Nat):(∀ i (h:i<xs.size),i<SetTable.below xs j→xs[i]<j)∧(∀ i (h:i<xs.size),SetTable.below xs j≤i→j≤xs[i])∧SetTable.below xs j≤xs.size:=by unfold SetTable.below;exact go_ok r j xs.size 0 xs.size (by omega) (by omega) (Nat.le_refl _) (fun i h z=>absurd z (Nat.not_lt_zero _)) (fun i h z=>absurd h (by omega))
theorem ZiE {xs:Array Nat}:Ris xs↔xs.toList.Pairwise (·<·):=by
 rw [List.pairwise_iff_getElem];constructor
 · intro r i j hi hj h
   have:=r i j (by simpa using hj) h;simpa using this
 · intro r i j hj h
   have:=r i j (by simp;omega) (by simpa using hj) h;simpa using this
theorem ris_put {xs:Array Nat}(r:Ris xs){j:Nat}(n:xs[SetTable.below xs j]?≠some j):Ris (SetTable.insertAt xs (SetTable.below xs j) j):=by
 obtain ⟨a,b,c⟩:=below_ok r j;have b':∀ i (h:i<xs.size),SetTable.below xs j≤i→j<xs[i]:=by
   intro i h q;have h1:=b i h q;rcases Nat.lt_or_ge j xs[i] with z | z
   · exact z
   · exfalso
     have e:xs[i]=j:=Nat.le_antisymm z h1;have hp:SetTable.below xs j<xs.size:=by omega
     have e2:xs[SetTable.below xs j]=j:=Nat.le_antisymm (by have:=r.le h q;omega) (b _ hp (Nat.le_refl _));apply n
     rw [Array.getElem?_eq_getElem hp,e2]
 generalize SetTable.below xs j=p at a b' c;rw [ZiE] at r ⊢;unfold SetTable.insertAt;have e:((xs.extract 0 p).push j++xs.extract p xs.size).toList=xs.toList.take p++j::xs.toList.drop p:=by simp [Array.toList_extract,List.extract];exact List.take_of_length_le (by rw [List.length_drop,Array.length_toList];exact Nat.le_refl _)
 rw [e,List.pairwise_append];refine ⟨r.sublist (List.take_sublist _ _),?_,?_⟩
 · rw [List.pairwise_cons]
   refine ⟨fun y hy=>?_,r.sublist (List.drop_sublist _ _)⟩;obtain ⟨i,hi,rfl⟩:=List.mem_iff_getElem.mp hy;rw [List.getElem_drop];have hl:p+i<xs.size:=by rw [List.length_drop,Array.length_toList] at hi;omega
   have:=b' (p+i) hl (by omega);simpa using this
 · intro y hy z hz
   have hy1:y<j:=by
     obtain ⟨i,hi,rfl⟩:=List.mem_iff_getElem.mp hy;rw [List.getElem_take];have hl:i<p:=by rw [List.length_take] at hi;omega
     have:=a i (by rw [List.length_take,Array.length_toList] at hi;omega) hl;simpa using this
   rcases List.mem_cons.mp hz with rfl | hz
   · exact hy1
   · obtain ⟨i,hi,rfl⟩:=List.mem_iff_getElem.mp hz
     rw [List.getElem_drop];have hl:p+i<xs.size:=by rw [List.length_drop,Array.length_toList] at hi;omega
     have:=b' (p+i) hl (by omega);have:j<xs.toList[p+i]'(by simpa using hl):=by simpa using this
     omega
theorem Zdb {t:SetTable} {f:Nat→Int} {h:Int}:∀ (n:Nat) (p:SetTable.Probe) (j:Nat) (d:Option Nat),(∀ x,p.dummy=some x→t.slot x=.dummy)→SetTable.probe.go t f h n p=some (.empty j d)→(t.slot j=.empty)∧∀ x,d=some x→t.slot x=.dummy
 | 0,p,j,d,hd,e=>by unfold SetTable.probe.go at e;cases e
 | n + 1,p,j,d,hd,e=>by
   unfold SetTable.probe.go at e;have adv:∀ q:SetTable.Probe,(t.advance q).dummy=q.dummy:=by intro q;unfold SetTable.advance;split<;>rfl
   split at e
   · rename_i hs
     cases e;exact ⟨hs,hd⟩
   · rename_i hs
     refine Zdb n _ j d (fun x hx=>?_) e;rw [adv] at hx;cases hx;exact hs
   · split at e
     · cases e
     · refine Zdb n _ j d (fun x hx=>?_) e
       rw [adv] at hx;exact hd x hx
theorem ZgT {t:SetTable}{j:Nat}(h:t.slot j=.empty∨t.slot j=.dummy):t.place[SetTable.below t.place j]?≠some j:=by intro e;unfold SetTable.slot at h;simp only [e,beq_self_eq_true,if_true] at h;rcases h with h | h<;>cases h
theorem free_not {t:SetTable}{h:Int}{j:Nat}{b:Bool}(e:t.freeSlot h=some (j,b)):t.place[SetTable.below t.place j]?≠some j:=by
 unfold SetTable.freeSlot at e;split at e
 · rename_i j0 d hp
   unfold SetTable.probe at hp;obtain ⟨h1,h2⟩:=Zdb _ _ _ _ (fun x hx=>by cases hx) hp;cases e;cases d with
   | none=>exact ZgT (.inl h1)
   | some x=>exact ZgT (.inr (h2 x rfl))
 · cases e
structure Good (bt:Bool)(t:SetTable):Prop where
 led:t.led=!bt
 ris:t.plain=true→Ris t.place
theorem Good.standIn {bt:Bool}{t:SetTable}(g:Good bt t)(n:Nat):Good bt (t.standIn n):=⟨g.led,fun h=>by cases h⟩
theorem Good.layNew {bt:Bool}{t:SetTable}(g:Good bt t)(es:Array (Int × Value))(h:Int)(x:Value):Good bt (layNew t es h x).2.1:=by
 unfold PySem.layNew;split
 · rename_i j b e
   show Good bt ((t.put j).1.orStandIn _);have gp:Good bt (t.put j).1:=⟨g.led,fun hp=>ris_put (g.ris hp) (free_not e)⟩
   unfold SetTable.orStandIn;split
   · exact gp
   · exact gp.standIn _
 · exact g.standIn _
theorem Good.relayAll {bt:Bool}{t:SetTable}(g:Good bt t)(es:Array (Int × Value))(n:Nat):Good bt (relayAll t es n).2.1:=by
 unfold PySem.relayAll;split
 · rename_i t' ord e
   have gt:Good bt t':=by unfold SetTable.relaid SetTable.laid at e;simp only [Option.bind_eq_bind,Option.bind_eq_some_iff,Option.pure_def] at e;obtain ⟨ow,_,e⟩:=e;cases e;refine ⟨g.led,fun _=>?_⟩;rw [ZiE];show (List.map _ _).Pairwise _;rw [List.pairwise_map];refine List.Pairwise.filterMap (R:=(·<·)) _ (fun a a' haa b hb c hc=>?_) List.pairwise_lt_range;simp only [Option.map_eq_some_iff] at hb hc;obtain ⟨_,_,rfl⟩:=hb;obtain ⟨_,_,rfl⟩:=hc;exact haa
   dsimp only;split
   · exact gt
   · exact g.standIn _
 · exact g.standIn _
end SG
namespace SG
open PySem PySem.Spec PyProof.Rows
def iv:Value→Int
 | .int k _=>k
 | _=>0
def bt (w:World):Bool:=w.params.followText "set-order"
def ST (prog:Program)(w:World)(h:Heap)(a:Addr)(ks:List Int):Prop :=
 ∃ o es ep t,h.get? a=some o∧o.ExactSet∧o.data=.set es ep t∧ElemsOf (intKind prog w) es.toList∧es.size<scanBound∧t.fits es.size=true∧Good (bt w) t∧(es.toList.map fun e=>iv e.2)=ks∧ks.Nodup
section
variable {prog:Program}{w:World}{A:Around}{E:Value→Shared→Prop}{s:Shared}
theorem ZgX {k:Int}{e:Int × Value}{es:List (Int × Value)}(el:ElemsOf (intKind prog w) es)(he:e∈es):(intKind prog w).is k e.2=true↔iv e.2=k:=by
 obtain ⟨⟨k',h1,_⟩,_⟩:=el e he;obtain ⟨t,e2⟩:=Value.isInt_shape h1;rw [e2];constructor
 · intro h
   exact (intKind prog w).inj _ _ _ (intKind_is prog w k' t) h
 · intro h
   have h:k'=k:=h;subst h;exact intKind_is prog w k' t
theorem put_at {h:Heap}{a:Addr}{o:Obj}{es:Array (Int × Value)}{ep:Nat}{t:SetTable}(ho:h.get? a=some o)(hd:o.data=.set es ep t)(es':Array (Int × Value))(t':SetTable) :
   (h.update a (Obj.putSet es' t')).get? a=some { o with data:=.set es' (ep+1) t' }:=by
 have q:=Heap.get?_update_self (Obj.putSet es' t') ho (by rw [putSet_of es' t' hd];rfl);rw [putSet_of es' t' hd] at q;exact q
theorem Zj6 {es es':Array (Int × Value)}(p:es'.toList.Perm es.toList):es'.size=es.size:=by rw [← Array.length_toList,p.length_eq,Array.length_toList]
theorem Zhv {g:Bool→Sem Unit}(hg:∀ (b:Bool) (s1:Shared) (Q':Unit→Shared→Prop),Q' () s1→wpAny (model prog w) A (g b) Q' E s1){a:Addr}{o:Obj}{es:Array (Int × Value)}{ep:Nat}{t:SetTable}(ho:s.heap.get? a=some o)(hx:o.ExactSet)(hd:o.data=.set es ep t)
   {es1:Array (Int × Value)} {t2:SetTable} {wd:Bool} {R:Option Bool→Shared→Prop} (el:ElemsOf (intKind prog w) es1.toList) (hb:es1.size<scanBound) (hf:t2.fits es1.size=true) (gd:Good (bt w) t2) (nd:(es1.toList.map fun e=>iv e.2).Nodup)
   (q:∀ h' ks',Heap.SameBut a s.heap h'→ST prog w h' a ks'→ks'.Perm (es1.toList.map fun e=>iv e.2)→R (some true) { s with heap:=h' }) :
   wpAny (model prog w) A (do storeSet a es1 t2;if (!wd&&t2.tooFull)=true then (do g (relayAll t2 es1 (SetTable.grown es1.size)).2.2;storeSet a (relayAll t2 es1 (SetTable.grown es1.size)).1 (relayAll t2 es1 (SetTable.grown es1.size)).2.1;pure (some true)) else pure (some true)) R E s:=by
 refine wpAny_bind (wpAny_storeSet_of ho hd ?_ (fits_of_scanBound hb));have ho1:=put_at ho hd es1 t2;have sb:=Heap.SameBut.update s.heap a (Obj.putSet es1 t2);split
 · have pp:=relayAll_perm t2 es1 (SetTable.grown es1.size)
   have pf:=relayAll_fits t2 es1 (SetTable.grown es1.size);have pg:=gd.relayAll es1 (SetTable.grown es1.size);generalize relayAll t2 es1 (SetTable.grown es1.size)=Z at pp pf pg ⊢;obtain ⟨es2,t3,gv⟩:=Z;have pp:es2.toList.Perm es1.toList:=pp;have hb2:es2.size<scanBound:=by rw [Zj6 pp];exact hb
   refine wpAny_bind (hg _ _ _ (wpAny_bind (wpAny_storeSet_of ho1 rfl ?_ (fits_of_scanBound hb2))));refine wpAny_pure (q _ _ (sb.trans (Heap.SameBut.update _ a _)) ⟨_,es2,_,t3,put_at ho1 rfl es2 t3,hx,rfl,el.perm pp,hb2,pf,pg,rfl,?_⟩ (pp.map _));exact (pp.map fun e=>iv e.2).nodup_iff.mpr nd
 · exact wpAny_pure (q _ _ sb ⟨_,es1,_,t2,ho1,hx,rfl,el,hb,hf,gd,rfl,nd⟩ (.refl _))
theorem add_int {a:Addr} {ks:List Int} {k:Int} {tk:Tok} {Q:Bool→Shared→Prop} (hS:ST prog w s.heap a ks) (room:ks.length+1<scanBound)
   (q:∀ b h' ks',Heap.SameBut a s.heap h'→ST prog w h' a ks'→(∀ y,y∈ks'↔y∈ks∨y=k)→ks'.length≤ks.length+1→Q b { s with heap:=h' }):wpAny (model prog w) A (setAddHashed a (.int k tk) ((intKind prog w).hash k)) Q E s:=by
 obtain ⟨o,es,ep,t,ho,hx,hd,el,hb,hf,gd,rfl,nd⟩:=hS;have hk:=intKind_is prog w k tk;have lz:(es.toList.map fun e=>iv e.2).length=es.size:=by rw [List.length_map,Array.length_toList]
 unfold setAddHashed;unfold setAddHashedIn;refine wpAny_holding (wpAny_bind (wpAny_setState_of ho hd hf ?_));dsimp only;rw [byScan_of (x:=Value.int k tk) rfl hb el,if_pos rfl];unfold setAddByScan;refine wpAny_bind (wpAny_bind (wpAny_rule (wpAny_bind (wpAny_setScan_of hk ho hd hf el ?_))));cases hr:List.findIdx? (fun e=>(intKind prog w).is k e.2) es.toList with
 | some j =>
   dsimp only;obtain ⟨hj,pj,_⟩:=List.findIdx?_eq_some_iff_getElem.mp hr;have hm:k∈es.toList.map fun e=>iv e.2:=List.mem_map.mpr ⟨_,List.getElem_mem hj,(ZgX el (List.getElem_mem hj)).mp pj⟩
   refine wpAny_pure (wpAny_pure ?_);have:=q false s.heap _ (Heap.SameBut.refl a s.heap) ⟨o,es,ep,t,ho,hx,hd,el,hb,hf,gd,rfl,nd⟩ (fun y=>⟨.inl,fun z=>z.elim id fun e=>e ▸ hm⟩) (Nat.le_succ _);exact this
 | none =>
   dsimp only;have hm:k∉es.toList.map fun e=>iv e.2:=by intro z;obtain ⟨e,he,e1⟩:=List.mem_map.mp z;have:=List.findIdx?_eq_none_iff.mp hr e he;rw [(ZgX el he).mpr e1] at this;cases this
   have gw:∀ (b:Bool) (s1:Shared) (Q':Unit→Shared→Prop),Q' () s1→wpAny (model prog w) A (match b with | true=>rule "set.scan.the-table-gave-way" | false=>pure ()) Q' E s1:=fun b s1 Q' z=>by
     cases b
     · exact wpAny_pure z
     · exact wpAny_rule z
   have lp:=layNew_perm t es ((intKind prog w).hash k) (.int k tk);have lf:=layNew_fits t es ((intKind prog w).hash k) (.int k tk);have lg:=gd.layNew es ((intKind prog w).hash k) (.int k tk);generalize layNew t es ((intKind prog w).hash k) (.int k tk)=Z at lp lf lg ⊢;obtain ⟨es1,t1,wd,gv⟩:=Z;have lf:t1.fits es1.size=true:=lf;have lg:Good (bt w) t1:=lg;have lp:es1.toList.Perm (es.toList++[((intKind prog w).hash k,.int k tk)]):=by
     have:=lp
     rwa [Array.toList_push] at this
   have el1:ElemsOf (intKind prog w) es1.toList:=(el.push hk rfl).perm lp;have l1:es1.size=es.size+1:=by have:=lp.length_eq;rw [List.length_append,Array.length_toList,Array.length_toList] at this;exact this
   have hb1:es1.size<scanBound:=by rw [l1];rw [lz] at room;exact room
   have pm:(es1.toList.map fun e=>iv e.2).Perm ((es.toList.map fun e=>iv e.2)++[k]):=by
     have:=lp.map fun e=>iv e.2
     rwa [List.map_append] at this
   have nd1:(es1.toList.map fun e=>iv e.2).Nodup:=by rw [pm.nodup_iff,List.nodup_append];exact ⟨nd,(by simp),fun x hx y hy e=>hm (by rw [List.mem_singleton.mp hy] at e;rw [← e];exact hx)⟩
   have fin:∀ h' ks',Heap.SameBut a s.heap h'→ST prog w h' a ks'→ks'.Perm (es1.toList.map fun e=>iv e.2)→Q true { s with heap:=h' }:=fun h' ks' sb st p=>by
     refine q true h' ks' sb st (fun y=>?_) ?_
     · rw [p.mem_iff,pm.mem_iff,List.mem_append,List.mem_singleton]
     · rw [p.length_eq,List.length_map,Array.length_toList,l1,lz]
       exact Nat.le_refl _
   dsimp only;refine wpAny_bind (gw _ _ _ ?_);split
   · refine wpAny_bind ?_
     rw [hashByValue_scannable 8 (x:=Value.int k tk) rfl];refine wpAny_pure (Zhv (fun b s1 Q' z=>gw b s1 Q' z) ho hx hd el1 hb1 ?_ ?_ nd1 fun h' ks' sb st p=>wpAny_pure (fin h' ks' sb st p))
     · exact lf
     · exact lg
   · refine wpAny_bind (wpAny_pure (Zhv (fun b s1 Q' z=>gw b s1 Q' z) ho hx hd el1 hb1 ?_ ?_ nd1 fun h' ks' sb st p=>wpAny_pure (fin h' ks' sb st p)))
     · exact lf
     · exact lg
set_option maxHeartbeats 3200000 in
end
end SG
namespace SG
open PySem PySem.Spec PyProof.Rows
section
variable {prog:Program}{w:World}{A:Around}{E:Value→Shared→Prop}{s:Shared}{a:Addr}{o:Obj}{es:Array (Int × Value)}{ep:Nat}{t:SetTable}
end
end SG
namespace SG
open PySem PySem.Spec PyProof.Rows
section
variable {prog:Program}{w:World}{A:Around}{E:Value→Shared→Prop}{s:Shared}{a I:Addr}{o:Obj}{es:Array (Int × Value)}{ep:Nat}{t:SetTable}
end
end SG
namespace SG
open PySem PySem.Spec PyProof.Rows
structure Wk (prog:Program)(w:World)(h0 h2:Heap)(a:Addr)(ks:List Int)(I:Addr):Prop where
 ex:∃ (fp wr:List Addr) (vs:List Value) (ks':List Int) (St:Nat→Heap→Prop),(∀ A:Around,A.handled=none→Walks prog w A I fp wr vs.length (fun i v=>vs[i]?=some v) St)∧St 0 h2∧(∀ b∈fp,b<h2.objs.size)∧I∈fp∧(∀ b∈wr,h0.get? b=none)∧IntsAre vs ks'∧ks'.Perm ks∧(∀ b∈fp,b=a∨h0.get? b=none)
 old:∀ b o,h0.get? b=some o→h2.get? b=some o
section
variable {prog:Program}{w:World}{A:Around}{E:Value→Shared→Prop}{s:Shared}{a I:Addr}{o:Obj}{es:Array (Int × Value)}{ep:Nat}{t:SetTable}
end
end SG
namespace SG
open PySem PySem.Spec PyProof.Rows
section
variable {prog:Program}{w:World}{A:Around}{E:Value→Shared→Prop}{s:Shared}{a:Addr}
end
end SG
namespace SG
open PySem PySem.Spec PyProof.Rows Srt
section
variable {prog:Program}{w:World}{Ar:Around}{E:Value→Shared→Prop}{s:Shared}{a:Addr}
end
end SG
namespace L2
open PySem PySem.Spec PyProof.Rows
section
variable {X:Cx}{pins:List (Addr × Obj)}{σ:St}{H:Hp}{s:Shared}
end
section
variable {X:Cx}{e:Expr}{te:TE}{p p' pos pos':Pos}
end
end L2
namespace L2
open PySem PySem.Spec PyProof.Rows Srt SG
theorem hu1 {A:Around}{k:Nat}(hr:Room k A):A.units+1<cLine:=Nat.lt_of_le_of_lt (by omega) (hu64 hr)
section
variable {td ty tx tv:TE}{σ:St}{H:Hp}{Q:VK}{D:Ends}
theorem ZgW:tDGet td ty σ H Q=td σ H fun x H1=>ty σ H1 fun y H2=>∃ a v,x=.ref a∧DGet H2 a y (some v)∧Q v H2:=rfl
theorem ZhG:sDPut td ty tv D σ H=tv σ H fun v H1=>td σ H1 fun x H2=>ty σ H2 fun y H3=>∃ a H4,x=.ref a∧DPut H3 a y v H4∧D.nx σ H4:=rfl
end
section
variable {X:Cx}{x:Str}{p pos:Pos}
end
section
variable {X:Cx}
end
end L2
namespace ZL
open PySem
abbrev ZipH (h:Heap)(z TI TO T:Addr)(b:Bool):Prop :=
 h.get? z=some { cls:=.type "zip",dict:=none,data:=.fields #[rawInt T,.bool b,.bool false,.ref TI,.ref TO],slots:=#[] }
section
variable {prog:Program}{w:World}{A:Around}{E:Value→Shared→Prop}{s:Shared}
theorem alive {M:Model}{a:Addr}{Q:Option Obj→Shared→Prop}(h:Q (s.heap.get? a) s):wpAny M A (loadIfAlive a) Q E s:=fun _ _ _=>h
structure ZI (z TI TO i1 i2 l1 l2:Addr)(xs ys:Array Value)(m i:Nat)(Ts:List Addr)(h:Heap):Prop where
 zz:(i=0∧IsZip h z TI TO .none∧∃ a b,IsPair h TO a b)∨(∃ T0 b,Ts[0]?=some T0∧ZipH h z TI TO T0 b)
 ti:IsPair h TI (.ref i1) (.ref i2)
 it1:h.IsListIter i1 l1 i
 it2:h.IsListIter i2 l2 i
 li1:h.IsList l1 xs
 li2:h.IsList l2 ys
 len:Ts.length=i
 nd:Ts.Nodup
 new:∀ T∈Ts,m≤T
 tup:∀ (j:Nat) (T:Addr),Ts[j]?=some T→∃ x y,xs[j]?=some x∧ys[j]?=some y∧IsPair h T x y
end
end ZL
namespace L2
open PySem PySem.Spec PyProof.Rows
section
variable {X:Cx}{pins:List (Addr × Obj)}{σ:St}{H:Hp}{s:Shared}{h':Heap}
end
def lay (L:List (Addr × HO))(H:Hp):Hp:=fun b=>match L.lookup b with
 | some o=>some o
 | none=>H b
theorem lay_cons {L:List (Addr × HO)}{H:Hp}{b:Addr}{o:HO}:lay ((b,o)::L) H b=some o:=by unfold lay;rw [List.lookup_cons,BEq.rfl]
section
variable {X:Cx}{a b:Expr}{ta:TA}{p p' pos pos':Pos}
end
end L2
namespace L2
open PySem PySem.Spec PyProof.Rows
section
variable {X:Cx}
theorem Zj4:bootBuiltins "sum"=some (.builtin "sum"):=by decide +kernel
def rSum (K:PySem.W.Frag):List V→Hp→VK→Prop:=fun xs H Q=>∃ (p:Addr) (ns:List Int),xs=[.ref p]∧SqL K H p (ns.map V.int)∧Q (.int ns.sum) H
theorem Zi1 {K:PySem.W.Frag}{xs:List V}{H:Hp}{Q:VK}:rSum K xs H Q=∃ (p:Addr) (ns:List Int),xs=[.ref p]∧SqL K H p (ns.map V.int)∧Q (.int ns.sum) H:=rfl
theorem ZgY (ns:List Int):∀ j,j≤ns.length→preSum (fun i=>ns.getD i 0) j=(ns.take j).sum
 | 0,_=>rfl
 | j+1,h=>by
   have hj:j<ns.length:=by omega
   show preSum _ j+ns.getD j 0=_;rw [ZgY ns j (by omega),List.take_succ,List.getElem?_eq_getElem hj,List.sum_append,List.getD_eq_getElem?_getD,List.getElem?_eq_getElem hj];simp
theorem Zky (K:PySem.W.Frag)(hK:X.K=K:=by rfl)(hc:X.calm=true:=by rfl):CallR X (.builtin "sum") (rSum K):=by
 subst hK;intro pins s σ H xs us Q I r h;obtain ⟨p,ns,rfl,hS,q⟩:=h;obtain ⟨u,rfl,ru⟩:=r.one;cases (show u=Value.ref p from ru);obtain ⟨its,vi,pl,hz⟩:=I.list hS;have ne:p≠s.heap.objs.size:=by obtain ⟨o,e,_⟩:=pl.isList;exact Nat.ne_of_lt (Heap.lt_size e)
 have hl:its.length=ns.length:=by have:=vi.length;rw [List.length_map] at this;exact this.symm
 have hb:∀ (i:Nat) (v:Value),its.toArray[i]?=some v→∃ t,v=.int (ns.getD i 0) t:=fun i v e=>by
   have e2:its[i]?=some v:=by simpa using e
   have hi:i<ns.length:=by have:=(List.getElem?_eq_some_iff.mp e2).1;omega
   obtain ⟨u,hu,ru⟩:=vi.get (i:=i) (x:=.int (ns.getD i 0)) (by rw [List.getElem?_map,List.getElem?_eq_getElem hi,List.getD_eq_getElem?_getD,List.getElem?_eq_getElem hi];rfl);rw [hu] at e2;cases e2;exact ru
 refine call_sum_walkG (wpAny_pyIter_list pl.isList ?_);refine ⟨s.heap.objs.size,_,_,_,_,_,fun i=>ns.getD i 0,rfl,Walks.list (A:=X.A.in1) (show X.A.in1.handled=none from I.ok.hd hc) s.heap.objs.size p ne its.toArray,⟨⟨_,Heap.get?_push_size _ rfl,rfl,rfl⟩,pl.isList.push _⟩,fun b hb=>?_,hb,fun h' tk t' hk=>?_⟩
 · obtain ⟨o,e,_⟩:=pl.isList
   have lp:=Heap.lt_size e;have:b=s.heap.objs.size∨b=p:=by simpa using hb
   show b<(s.heap.push _).objs.size;rw [size_push'];rcases this with rfl | rfl
   · exact Nat.lt_succ_self _
   · exact Nat.lt_succ_of_lt lp
 · have e:preSum (fun i=>ns.getD i 0) its.toArray.size=ns.sum:=by
     rw [List.size_toArray,hl,ZgY ns _ (Nat.le_refl _),List.take_length]
   rw [e];refine ⟨.int ns.sum,H,?_,⟨t',rfl⟩,q⟩;exact I.kept (t':=tk) fun b o q2=>hk b o (by
     intro z;have:b=s.heap.objs.size:=by simpa using z
     exact absurd (Heap.lt_size q2) (by rw [this];exact Nat.lt_irrefl _)) (Heap.get?_push_of_some _ q2)
end
end L2
namespace L2
open PySem PySem.Spec PyProof.Rows
section
variable {td ty tx:TE}{σ:St}{H:Hp}{Q:VK}
theorem ZjK:tDIn ty td σ H Q=ty σ H fun y H1=>td σ H1 fun x H2=>∃ a o,x=.ref a∧DGet H2 a y o∧Q (.bl o.isSome) H2:=rfl
end
end L2
namespace L2
open PySem PySem.Spec PyProof.Rows
section
variable {X:Cx}{o e f:Expr}{apos cpos:Pos}{td ty tx:TE}
end
end L2
namespace L2
open PySem PySem.Spec PyProof.Rows
section
variable {X:Cx}
def rSlS:V→Option Int→Option Int→Hp→VK→Prop:=fun x lo hi H Q=>∃ z,x=.str z∧z.length≤sizeLine∧Q (.str (Txt.slice z lo hi)) H
theorem Zh7:SlR X rSlS:=by
 intro pins s σ H x v vl vu lo hi sl Q I rx hs pl pu h;obtain ⟨z,rfl,hz,q⟩:=h;obtain ⟨t,rfl⟩:=rx;have fin:∀ t' k,EP X pins σ Q (.str (Txt.slice z lo hi) t') { s with toks:=k }:=fun t' k=>⟨.str (Txt.slice z lo hi),H,I.tok _,⟨_,rfl⟩,q⟩
 have le:=Nat.le_trans (Txt.slice_le z lo hi) hz;refine ⟨"str",_,PySem.F.slot_str_getitem.lookup,typeIs_str _ _ _,?_⟩;cases pl with
 | none =>
   cases pu with
   | none=>exact wpAny_getItem_str_slice (l:=none) (u:=none) (st:=none) hs rfl (post_val_or_str ⟨le,fin⟩)
   | int j uj=>exact wpAny_getItem_str_slice (l:=none) (u:=some (j,uj)) (st:=none) hs rfl (post_val_or_str ⟨le,fin⟩)
 | int i ui =>
   cases pu with
   | none=>exact wpAny_getItem_str_slice (l:=some (i,ui)) (u:=none) (st:=none) hs rfl (post_val_or_str ⟨le,fin⟩)
   | int j uj=>exact wpAny_getItem_str_slice (l:=some (i,ui)) (u:=some (j,uj)) (st:=none) hs rfl (post_val_or_str ⟨le,fin⟩)
theorem Zjl {x:V}{lo hi:Option Int}{H:Hp}{Q:VK}:rSlS x lo hi H Q=∃ z,x=.str z∧z.length≤sizeLine∧Q (.str (Txt.slice z lo hi)) H:=rfl
def rIntS:List V→Hp→VK→Prop:=fun xs H Q=>∃ x n,xs=[.str x]∧x.length≤640∧PySem.intText? x=some n∧Q (.int n) H
theorem Zb0:CallR X (.type "int") rIntS:=by intro pins s σ H xs us Q I r h;obtain ⟨x,n,rfl,hl,hn,q⟩:=h;obtain ⟨u,rfl,t,rfl⟩:=vals1 r;exact PySem.W.KIN.call_text hn hl ⟨.int n,H,I.tok _,⟨_,rfl⟩,q⟩
theorem Zhf {xs:List V}{H:Hp}{Q:VK}:rIntS xs H Q=∃ x n,xs=[.str x]∧x.length≤640∧PySem.intText? x=some n∧Q (.int n) H:=rfl
theorem ZfN:bootBuiltins "all"=some (.builtin "all"):=by decide +kernel
def rAll (K:PySem.W.Frag):List V→Hp→VK→Prop:=fun xs H Q=>∃ (p:Addr) (bs:List Bool),xs=[.ref p]∧SqL K H p (bs.map V.bl)∧Q (.bl (bs.all id)) H
theorem ZfW (K:PySem.W.Frag) (hK:X.K=K:=by rfl) (hc:X.calm=true:=by rfl):CallR X (.builtin "all") (rAll K):=by
 subst hK;intro pins s σ H xs us Q I r h;obtain ⟨p,bs,rfl,hS,q⟩:=h;obtain ⟨u,rfl,ru⟩:=r.one;cases (show u=Value.ref p from ru);obtain ⟨its,vi,pl,hz⟩:=I.list hS;have ne:p≠s.heap.objs.size:=by obtain ⟨o,e,_⟩:=pl.isList;exact Nat.ne_of_lt (Heap.lt_size e)
 have hb:∀ (i:Nat) (v:Value),its.toArray[i]?=some v→v=.bool (bs.getD i false):=fun i v e=>by
   have e2:its[i]?=some v:=by simpa using e
   have hi:i<bs.length:=by have:=(List.getElem?_eq_some_iff.mp e2).1;have:=vi.length;rw [List.length_map] at this;omega
   obtain ⟨u,hu,ru⟩:=vi.get (i:=i) (x:=.bl (bs.getD i false)) (by rw [List.getElem?_map,List.getElem?_eq_getElem hi,List.getD_eq_getElem?_getD,List.getElem?_eq_getElem hi];rfl);rw [hu] at e2;cases e2;exact ru
 refine call_all_walk (wpAny_pyIter_list pl.isList ?_);refine ⟨s.heap.objs.size,_,_,_,_,_,fun i=>bs.getD i false,rfl,Walks.list (A:=X.A.in1) (show X.A.in1.handled=none from I.ok.hd hc) s.heap.objs.size p ne its.toArray,⟨⟨_,Heap.get?_push_size _ rfl,rfl,rfl⟩,pl.isList.push _⟩,fun i v s2 Q2 E2 hP hQ=>?_,fun h' tk hk=>?_⟩
 · rw [hb i v hP]
   exact wpAny_truthy_bool hQ
 · have e:(List.range its.toArray.size).all (fun i=>bs.getD i false)=bs.all id:=by
     have hl:its.toArray.size=bs.length:=by have:=vi.length;rw [List.length_map] at this;simpa using this.symm
     rw [hl,Bool.eq_iff_iff,List.all_eq_true,List.all_eq_true];constructor
     · intro w b hbm
       obtain ⟨i,hi,rfl⟩:=List.mem_iff_getElem.mp hbm;have:=w i (List.mem_range.mpr hi);rw [List.getD_eq_getElem?_getD,List.getElem?_eq_getElem hi] at this;exact this
     · intro w i hi
       have hi:=List.mem_range.mp hi;rw [List.getD_eq_getElem?_getD,List.getElem?_eq_getElem hi];exact w _ (List.getElem_mem hi)
   rw [e];refine ⟨.bl (bs.all id),H,?_,rfl,q⟩;exact I.kept (t':=tk) fun b o q2=>hk b o (by
     intro z;have:b=s.heap.objs.size:=by simpa using z
     exact absurd (Heap.lt_size q2) (by rw [this];exact Nat.lt_irrefl _)) (Heap.get?_push_of_some _ q2)
theorem Zje {K:PySem.W.Frag}{xs:List V}{H:Hp}{Q:VK}:rAll K xs H Q=∃ (p:Addr) (bs:List Bool),xs=[.ref p]∧SqL K H p (bs.map V.bl)∧Q (.bl (bs.all id)) H:=rfl
end
theorem str_mk {K:PySem.W.Frag}{h:Heap}{mg:Str→Option Value}{x:Str}{z:Str}{t:Tok}(X:K.In h)(G:h.Ns mainGlobals mg)(a:PySem.W.nsIn K mainGlobals x=some (some (.str z t))):∃ t,mg x=some (.str z t):=⟨t,PySem.W.mg_of X G a⟩
theorem tup_mk {K:PySem.W.Frag}{h:Heap}{mg:Str→Option Value}{x:Str}{a:Addr}{c:Value}{d:Option Addr}{its:Array Value}{n:Nat}{sl:Array (Option Value)}{xs:List V}(X:K.In h)(G:h.Ns mainGlobals mg)(e:PySem.W.nsIn K mainGlobals x=some (some (.ref a)))
   (l:K.lookup a=some ⟨c,d,.seq its n,sl⟩) (hc:c=.type "tuple") (hz:its.size≤sizeLine) (r:Vals xs its.toList):∃ a,mg x=some (.ref a)∧∀ H,SqT K H a xs :=
 ⟨a,PySem.W.mg_of X G e,fun H=>.inr ⟨_,its,n,l,hc,rfl,hz,r⟩⟩
theorem Zgh (c:Nat)(x:Str):(!(Builtin.Str.occurrences x ⟨#[c]⟩ 0 x.length 1).isEmpty)=decide (c∈x.cps.toList):=PySem.StrLaws.found_one x c
end L2
namespace L2
open PySem PySem.Spec PyProof.Rows
section
variable {X:Cx}
theorem ZkG:bootBuiltins "any"=some (.builtin "any"):=by decide +kernel
def rAny (K:PySem.W.Frag):List V→Hp→VK→Prop:=fun xs H Q=>∃ (p:Addr) (bs:List Bool),xs=[.ref p]∧SqL K H p (bs.map V.bl)∧Q (.bl (bs.any id)) H
theorem ZiU {K:PySem.W.Frag}{xs:List V}{H:Hp}{Q:VK}:rAny K xs H Q=∃ (p:Addr) (bs:List Bool),xs=[.ref p]∧SqL K H p (bs.map V.bl)∧Q (.bl (bs.any id)) H:=rfl
theorem ZhY (bs:List Bool):(List.range bs.length).map (fun i=>bs.getD i false)=bs:=by
 refine List.ext_getElem (by rw [List.length_map,List.length_range]) fun i h1 h2=>?_
 rw [List.getElem_map,List.getElem_range,List.getD_eq_getElem?_getD,List.getElem?_eq_getElem h2];rfl
theorem Zkq (K:PySem.W.Frag)(hK:X.K=K:=by rfl)(hc:X.calm=true:=by rfl):CallR X (.builtin "any") (rAny K):=by
 subst hK;intro pins s σ H xs us Q I r h;obtain ⟨p,bs,rfl,hS,q⟩:=h;obtain ⟨u,rfl,ru⟩:=r.one;cases (show u=Value.ref p from ru);obtain ⟨its,vi,pl,hz⟩:=I.list hS;have ll:its.length=bs.length:=by have:=vi.length;rw [List.length_map] at this;exact this.symm
 have lt:p<s.heap.objs.size:=by obtain ⟨o,e,_⟩:=pl.isList;exact Heap.lt_size e
 refine call_any_walk (wpAny_pyIter_list pl.isList ⟨s.heap.objs.size,_,_,_,_,_,fun i=>bs.getD i false,rfl,Walks.list (A:=X.A.in1) (I.ok.hd hc) s.heap.objs.size p (Nat.ne_of_lt lt) its.toArray,⟨⟨_,Heap.get?_push_size _ rfl,rfl,rfl⟩,pl.isList.push _⟩,fun i v s2 Q2 E2 hP hQ=>?_,fun h' tk hk=>⟨.bl (bs.any id),H,I.kept (t':=tk) fun b o q2=>hk b o (fun z=>?_) (Heap.get?_push_of_some _ q2),?_,q⟩⟩)
 · have hP:its[i]?=some v:=by simpa using hP
   have hi:i<bs.length:=by have:=(List.getElem?_eq_some_iff.mp hP).1;omega
   obtain ⟨y,hy,ry⟩:=vi.get (i:=i) (x:=.bl (bs.getD i false)) (by rw [List.getElem?_map,List.getElem?_eq_getElem hi,List.getD_eq_getElem?_getD,List.getElem?_eq_getElem hi];rfl);cases hP.symm.trans hy;cases ry;exact wpAny_truthy_bool hQ
 · have z:b=s.heap.objs.size:=by simpa using z
   exact Nat.lt_irrefl _ (z ▸ Heap.lt_size q2)
 · show Value.bool _=Value.bool _
   rw [List.size_toArray,ll];congr 1
   have:=ZhY bs
   conv=>rhs;rw [← this,List.any_map]
   rfl
theorem ZjH:∀ {kvs:List (Key × V)} {k:Key} {v:V},(kvs.map (·.1)).Nodup→(k,v)∈kvs→valV kvs k=some v
 | [],_,_,_,h=>nomatch h
 | (k',v')::r,k,v,nd,h=>by
   obtain ⟨n1,n2⟩:=List.nodup_cons.mp nd;unfold valV;rw [List.find?_cons];rcases List.mem_cons.mp h with e | e
   · cases e
     simp
   · have ne:k'≠k:=fun z=>n1 (z ▸ List.mem_map.mpr ⟨_,e,rfl⟩)
     simp only [ne,decide_false];exact ZjH n2 e
theorem ZfE {A:Around}{s:Shared}{kvs:List (Key × V)}{vb:List (Key × Value)}(nd:(kvs.map (·.1)).Nodup)(hi:∀ kv∈kvs,∃ i,kv.2=.int i)(rb:KV kvs vb):∀ {ks:List (Key × V)} {va:List (Key × Value)},(∀ x∈ks,x∈kvs)→KV ks va→PySem.W.KeqHits A s vb va true
 | [],_,_,.nil=>.nil
 | (k,v)::r,(k',v')::q,hs,.cons h t=>by
   obtain ⟨ek,rv⟩:=h;have ek:k'=k:=by first | exact ek | exact ek.symm
   subst ek;obtain ⟨i,e⟩:=hi _ (hs _ (.head _));have e:v=.int i:=e;subst e;have y:=rb.val k';rw [ZjH nd (hs _ (.head _))] at y;cases z:valueAt vb k' with
   | none=>rw [z] at y;exact absurd y (by intro q;cases q)
   | some u =>
     rw [z] at y;obtain ⟨t1,rfl⟩:=(show RelV (.int i) v' from rv)
     obtain ⟨t2,rfl⟩:=(show RelV (.int i) u from y)
     have eq:=PySem.W.keq_flat (A:=A) (s:=s) (v:=.int i t1) (y:=.int i t2) (d:=.int i) (e:=.int i) (fun _=>.int ..) (fun _=>.int ..)
     have h3:=PySem.W.KeqHits.hit (A:=A) (s:=s) z eq (ZfE nd hi rb (fun x hx=>hs x (.tail _ hx)) t);have e1:(PyData.eqv (.int i) (.int i)&&true)=true:=by simp [PyData.eqv]
     rw [e1] at h3;exact h3
end
end L2
namespace L2
open PySem PySem.Spec PyProof.Rows
def Top (f:Nat→Int)(d m:Int)(j:Nat):Prop:=(j=0→m=d)∧(0<j→(∃ i,i<j∧f i=m)∧∀ i,i<j→f i≤m)
theorem Top.more {f:Nat→Int}{d m:Int}{j:Nat}(h:Top f d m j)(hj:0<j)(hm:f j≤m):Top f d m (j+1):=by
 obtain ⟨⟨i,hi,e⟩,a⟩:=h.2 hj;refine ⟨fun z=>by omega,fun _=>⟨⟨i,by omega,e⟩,fun x hx=>?_⟩⟩;by_cases z:x=j
 · rw [z];exact hm
 · exact a x (by omega)
theorem Top.new {f:Nat→Int}{d m:Int}{j:Nat}(h:Top f d m j)(hm:0<j→m<f j):Top f d (f j) (j+1):=by
 refine ⟨fun z=>by omega,fun _=>⟨⟨j,by omega,rfl⟩,fun x hx=>?_⟩⟩;by_cases z:x=j
 · rw [z];exact Int.le_refl _
 · have:=(h.2 (by omega)).2 x (by omega)
   have:=hm (by omega);omega
section
variable {prog:Program}{w:World}{A:Around}{R:Result→Shared→Prop}{I S:Addr}{fp wr:List Addr}{n:Nat}{P:Nat→Value→Prop}{St:Nat→Heap→Prop}
theorem mx_loop (W:Walks prog w A.in1 I fp wr n P St) {f:Nat→Int} (hP:∀ i v,P i v→∃ t,v=.int (f i) t) (hS:S∉fp) {d:Int} {kn:Str} {td:Tok}:∀ (k j:Nat) (s:Shared) (m:Int) (vs:Array Value) (c:Nat),j+k=n→St j s.heap→Top f d m j →
   (j=0→vs=#[])→(0<j→∃ t,vs=#[.int m t,.int m t])→s.heap.get? S=some { cls:=.type "list",data:=.seq vs c } →
   (∀ m t h' tk,Top f d m n→(∀ b o,b∉wr→b≠S→s.heap.get? b=some o→h'.get? b=some o)→R (.ok (.ret (.int m t))) { s with heap:=h',toks:=tk }) →
   codeAny (model prog w) A (.builtin "max.loop" ⟨[.ref I,.none,.ref S],[(kn,.int d td)]⟩) R s:=by
 have nw:S∉wr:=fun h=>hS (W.sub _ h)
 have nm:(toString "max"++toString ".loop":String)="max.loop":=by decide
 intro k;induction k with
 | zero =>
   intro j s m vs c ek hst top h0 h1 ho r;have ej:j=n:=by omega
   subst ej;refine codeAny_builtin F.entry_max_loop ?_;rw [Around.under_plainId F.plain_max_loop _];refine wpAny_bind (m:=seqItems? (.ref S)) (wpAny_seqItems ho rfl ?_);refine wpAny_bind (wpAny_tryCatch (W.done s _ _ hst fun h' tk hk=>?_));rcases Nat.eq_zero_or_pos j with z | z
   · cases h0 z
     refine wpAny_bind (wpAny_rule (wpAny_pure ?_));cases top.1 z;exact r d td h' tk top fun b o hb _ e=>hk b o hb e
   · obtain ⟨t,rfl⟩:=h1 z
     refine wpAny_bind (m:=updateSeq S fun _=>#[]) (wpAny_updateSeq (hk S _ nw ho) rfl (wpAny_bind (wpAny_letGo (wpAny_pure ?_))));exact r m t _ tk top fun b o hb n e=>(Heap.get?_update_other _ _ (Ne.symm n)).trans (hk b o hb e)
 | succ k ih =>
   intro j s m vs c ek hst top h0 h1 ho r;refine codeAny_builtin F.entry_max_loop ?_;rw [Around.under_plainId F.plain_max_loop _];refine wpAny_bind (m:=seqItems? (.ref S)) (wpAny_seqItems ho rfl ?_);refine wpAny_bind (wpAny_tryCatch (W.item j s _ _ (by omega) hst fun v h' tk pv hst' hk=>?_));obtain ⟨tv,rfl⟩:=hP j v pv;have ho':=hk S _ nw ho;rcases Nat.eq_zero_or_pos j with z | z
   · cases h0 z
     refine wpAny_bind (m:=updateSeq S fun _=>#[.int (f j) tv,.int (f j) tv]) (wpAny_updateSeq ho' rfl ?_);rw [nm];refine wpAny_pure ⟨plainId_quiet F.plain_max_loop _,ih (j+1) _ (f j) _ _ (by omega) (W.frame _ _ _ hst' fun b hb o e=>?_) (top.new fun q=>by omega) (fun q=>by omega) (fun _=>⟨tv,rfl⟩) (Heap.get?_update_self _ ho' rfl) fun m' t' h'' tk' tp hk'=>?_⟩
     · exact (Heap.get?_update_other _ _ (fun h:S=b=>hS (by rw [h];exact hb))).trans e
     · exact r m' t' h'' tk' tp fun b o hb n e=>hk' b o hb n ((Heap.get?_update_other _ _ (Ne.symm n)).trans (hk b o hb e))
   · obtain ⟨t,rfl⟩:=h1 z
     have cm:=CmpOf.ints_gt (prog:=prog) (w:=w) (A:=A.in1) (P:=fun i v=>∃ t,v=.int (if i=0 then f j else m) t) (fun i=>if i=0 then f j else m) (fun _ _ h=>h);show wpAny _ A.in1 (tryCatch (holding [.int (f j) tv,.int (f j) tv] (richCompare .Gt (.int (f j) tv) (.int m t) >>= _)) _ >>= _) _ _ _;refine wpAny_bind (wpAny_tryCatch (wpAny_holding (wpAny_bind (cm 0 1 (.int (f j) tv) (.int m t) _ _ _ ⟨tv,rfl⟩ ⟨t,rfl⟩ ?_))));refine wpAny_bind (wpAny_holding (wpAny_truthy_bool ?_));refine wpAny_bind (wpAny_letGo (wpAny_pure ?_));by_cases g:f j > m
     · have:decide ((if (0:Nat)=0 then f j else m) > if (1:Nat)=0 then f j else m)=true:=by simpa using g
       rw [if_pos this];refine wpAny_bind ?_;refine wpAny_updateSeq ho' rfl (wpAny_bind (wpAny_letGo ?_));rw [nm];refine wpAny_pure ⟨plainId_quiet F.plain_max_loop _,ih (j+1) _ (f j) _ _ (by omega) (W.frame _ _ _ hst' fun b hb o e=>?_) (top.new fun q=>g) (fun q=>by omega) (fun _=>⟨tv,rfl⟩) (Heap.get?_update_self _ ho' rfl) fun m' t' h'' tk' tp hk'=>?_⟩
       · exact (Heap.get?_update_other _ _ (fun h:S=b=>hS (by rw [h];exact hb))).trans e
       · exact r m' t' h'' tk' tp fun b o hb n e=>hk' b o hb n ((Heap.get?_update_other _ _ (Ne.symm n)).trans (hk b o hb e))
     · have:decide ((if (0:Nat)=0 then f j else m) > if (1:Nat)=0 then f j else m)=false:=by simpa using g
       rw [if_neg (fun h=>Bool.noConfusion (this.symm.trans h))];refine wpAny_bind (wpAny_letGo ?_);rw [nm];refine wpAny_pure ⟨plainId_quiet F.plain_max_loop _,ih (j+1) _ m _ _ (by omega) hst' (top.more z (by omega)) (fun q=>by omega) (fun _=>⟨t,rfl⟩) ho' fun m' t' h'' tk' tp hk'=>?_⟩;exact r m' t' h'' tk' tp fun b o hb n e=>hk' b o hb n (hk b o hb e)
end
theorem mx_args (a v:Value):argsOk "max" ⟨[a],[(Str.ofString "default",v)]⟩:=by unfold argsOk;kernel_rfl
section
variable {prog:Program}{w:World}{A:Around}{E:Value→Shared→Prop}{s:Shared}
theorem ZkM {x:Value}{d:Int}{td:Tok}{Q:Value→Shared→Prop}
   (h:wpAny (model prog w) A.in1 (pyIter x) (fun it s₂=>∃ I fp wr n P St f,it=.ref I∧Walks prog w A.in1 I fp wr n P St∧St 0 s₂.heap∧(∀ b∈fp,b<s₂.heap.objs.size)∧(∀ i v,P i v→∃ t,v=.int (f i) t) ∧
     ∀ m t h' tk,Top f d m n→(∀ b o,b∉wr→s₂.heap.get? b=some o→h'.get? b=some o)→Q (.int m t) { s₂ with heap:=h',toks:=tk }) E s) :
   wpAny (model prog w) A (call (.builtin "max") [x] [(Str.ofString "default",.int d td)]) Q E s:=by
 have nm:(toString "max"++toString ".loop":String)="max.loop":=by decide
 refine kmb_tree F.kind_max F.plain_max F.entry_max (mx_args _ _) ?_;show wpAny _ A.in1 (Builtin.Builtins.bindParams "max" ["key","default"] 0 ⟨[],[(Str.ofString "default",.int d td)]⟩ >>= _) _ _ s;refine wpAny_bind (wpAny_of_eq (show Builtin.Builtins.bindParams "max" ["key","default"] 0 ⟨[],[(Str.ofString "default",.int d td)]⟩=pure [none,some (.int d td)] from rfl) ?_);refine wpAny_bind (wpAny_pure ?_);refine wpAny_bind (wpAny_mono h (fun it s₂ h₂=>?_) fun _ _ e=>e);obtain ⟨I,fp,wr,n,P,St,f,rfl,W,hst,hfp,hP,hQ⟩:=h₂;refine wpAny_bind (wpAny_newObj_type ?_);have hSf:s₂.heap.objs.size∉fp:=fun hm=>Nat.lt_irrefl _ (hfp _ hm)
 rw [nm];refine wpAny_pure ⟨plainId_quiet F.plain_max_loop _,mx_loop W hP hSf n 0 _ d _ _ (by omega) (W.frame _ _ _ hst fun b _ o e=>Heap.get?_push_of_some _ e) ⟨fun _=>rfl,fun q=>absurd q (Nat.lt_irrefl _)⟩ (fun _=>rfl) (fun q=>absurd q (Nat.lt_irrefl _)) (Heap.get?_push_size _ rfl) fun m t h' tk tp hk=>?_⟩;exact hQ m t h' tk tp fun b o hbw e=>hk b o hbw (Nat.ne_of_lt (Heap.lt_size e)) (Heap.get?_push_of_some _ e)
theorem Top.list {ns:List Int} {d m:Int} (h:Top (fun i=>ns.getD i 0) d m ns.length):m=ns.max?.getD d:=by
 cases ns with
 | nil=>exact h.1 rfl
 | cons a r =>
   obtain ⟨⟨i,hi,e⟩,q⟩:=h.2 (Nat.succ_pos _);have:(a::r).max?=some m:=by
     refine List.max?_eq_some_iff.mpr ⟨?_,fun b hb=>?_⟩
     · rw [← e]
       show (a::r).getD i 0∈_;rw [List.getD_eq_getElem?_getD,List.getElem?_eq_getElem hi];exact List.getElem_mem hi
     · obtain ⟨j,hj,rfl⟩:=List.mem_iff_getElem.mp hb
       have:(a::r).getD j 0≤m:=q j hj;rw [List.getD_eq_getElem?_getD,List.getElem?_eq_getElem hj] at this;exact this
   rw [this];rfl
end
section
variable {X:Cx}{x:Str}{p pos:Pos}{e:Expr}{es:List Expr}{kws:List Keyword}{ks:List Str}{t tk:TA}{id:String}{r:List V→List V→Hp→VK→Prop}
def CallRK (X:Cx) (f:Value) (ks:List Str) (r:List V→List V→Hp→VK→Prop):Prop :=
 ∀ (pins:List (Addr × Obj)) (s:Shared) (σ:St) (H:Hp) (xs zs:List V) (us ws:List Value) (Q:VK),Inv X pins σ H s→Vals xs us→Vals zs ws→r xs zs H Q →
   wpAny (model X.prog X.w) X.A (call f us (ks.zip ws)) (EP X pins σ Q) X.xe s
def tCBK (r:List V→List V→Hp→VK→Prop)(t tk:TA):TE:=fun σ H Q=>t σ H fun vs H1=>tk σ H1 fun zs H2=>r vs zs H2 Q
theorem Zku (hc:CallRK X (.builtin id) ks r)(hg:Gl X x)(hm:X.mg x=none)(hv:bootBuiltins x=some (.builtin id))(ha:PA X (e::es) t)(hkw:PK X kws tk)
   (hks:(backToKw pos (keywordEach kws X.env)).filterMap (·.1)=ks:=by rfl) (hn:x≠"__name__":=by decide) (hdb:(x==("__debug__":Str))=false:=by decide)
   (he:backTo pos (starEach (e::es) X.env)=(false,eval e X.env)::backTo pos (starEach es X.env):=by rfl)
   (hpl:(backTo pos (starEach (e::es) X.env)).any (·.1)=false:=by rfl)
   (hall:(backToKw pos (keywordEach kws X.env)).all (·.1.isSome)=true:=by rfl)
   (hno:(backToKw pos (keywordEach kws X.env)).any (·.1.isNone)=false:=by rfl):PE X (.Call (.Name x p) (e::es) kws pos) (tCBK r t tk):=by
 intro pins s σ H Q I h;refine wpAny_Call_Name_kw (Zea I hg hm hv ?_ hn hdb);refine callWith_kw (thn (ha pos pins s σ H _ I h) fun us s1 ⟨vs,H1,I1,r1,q1⟩=>?_) he hpl hall hno;refine thn (hkw pos pins s1 σ H1 _ I1 q1) fun ws s2 ⟨zs,H2,I2,rz,q2⟩=>?_
 rw [hks];exact hc pins s2 σ H2 vs zs us ws Q I2 r1 rz q2
def rMaxD (K:PySem.W.Frag):List V→List V→Hp→VK→Prop:=fun xs zs H Q=>∃ (p:Addr) (ns:List Int) (d:Int),xs=[.ref p]∧zs=[.int d]∧SqL K H p (ns.map V.int)∧Q (.int (ns.max?.getD d)) H
theorem Zh3 (K:PySem.W.Frag)(hK:X.K=K:=by rfl)(hc:X.calm=true:=by rfl):CallRK X (.builtin "max") [Str.ofString "default"] (rMaxD K):=by
 subst hK;intro pins s σ H xs zs us ws Q I r rz h;obtain ⟨p,ns,d,rfl,rfl,hS,q⟩:=h;obtain ⟨u,rfl,ru⟩:=r.one;cases (show u=Value.ref p from ru);obtain ⟨u,rfl,ru⟩:=rz.one;obtain ⟨td,rfl⟩:∃ t,u=Value.int d t:=ru;obtain ⟨its,vi,pl,hz⟩:=I.list hS;have ne:p≠s.heap.objs.size:=by obtain ⟨o,e,_⟩:=pl.isList;exact Nat.ne_of_lt (Heap.lt_size e)
 have hl:its.length=ns.length:=by have:=vi.length;rw [List.length_map] at this;exact this.symm
 have hb:∀ (i:Nat) (v:Value),its.toArray[i]?=some v→∃ t,v=.int (ns.getD i 0) t:=fun i v e=>by
   have e2:its[i]?=some v:=by simpa using e
   have hi:i<ns.length:=by have:=(List.getElem?_eq_some_iff.mp e2).1;omega
   obtain ⟨u,hu,ru⟩:=vi.get (i:=i) (x:=.int (ns.getD i 0)) (by rw [List.getElem?_map,List.getElem?_eq_getElem hi,List.getD_eq_getElem?_getD,List.getElem?_eq_getElem hi];rfl);rw [hu] at e2;cases e2;exact ru
 refine ZkM (wpAny_pyIter_list pl.isList ?_);refine ⟨s.heap.objs.size,_,_,_,_,_,fun i=>ns.getD i 0,rfl,Walks.list (A:=X.A.in1) (show X.A.in1.handled=none from I.ok.hd hc) s.heap.objs.size p ne its.toArray,⟨⟨_,Heap.get?_push_size _ rfl,rfl,rfl⟩,pl.isList.push _⟩,fun b hb=>?_,hb,fun m t h' tk tp hk=>?_⟩
 · obtain ⟨o,e,_⟩:=pl.isList
   have lp:=Heap.lt_size e;have:b=s.heap.objs.size∨b=p:=by simpa using hb
   show b<(s.heap.push _).objs.size;rw [size_push'];rcases this with rfl | rfl
   · exact Nat.lt_succ_self _
   · exact Nat.lt_succ_of_lt lp
 · rw [List.size_toArray,hl] at tp
   cases tp.list;refine ⟨.int _,H,?_,⟨t,rfl⟩,q⟩;exact I.kept (t':=tk) fun b o q2=>hk b o (by
     intro z;have:b=s.heap.objs.size:=by simpa using z
     exact absurd (Heap.lt_size q2) (by rw [this];exact Nat.lt_irrefl _)) (Heap.get?_push_of_some _ q2)
end
end L2
namespace L2
open PySem PySem.Spec PyProof.Rows
def del (H:Hp)(p:Addr):Hp:=fun b=>if b=p then none else H b
theorem ZhT {H:Hp}{p:Addr}:del H p p=none:=by unfold del;rw [if_pos rfl]
theorem Zbn {H:Hp}{p b:Addr}(h:b≠p):del H p b=H b:=by unfold del;rw [if_neg h]
theorem Zbi {H:Hp}{p b:Addr}{o:HO}(h:del H p b=some o):b≠p∧H b=some o:=by
 have n:b≠p:=fun z=>by rw [z,ZhT] at h;cases h
 rw [Zbn n] at h;exact ⟨n,h⟩
theorem Zdm {H:Hp}{p b:Addr}(h:H b=none):del H p b=none:=by
 by_cases n:b=p
 · rw [n];exact ZhT
 · rw [Zbn n];exact h
section
variable {X:Cx}{pins:List (Addr × Obj)}{σ:St}{H H':Hp}{s:Shared}{p:Addr}{xs:List V}
end
section
variable {X:Cx}{P:Program}{w:World}{K:PySem.W.Frag}{mg:Str→Option Value}{base:Heap}{o e:Expr}{es:List Expr}{m:Str}{ta:TE}{t:TA}{apos pos:Pos}
end
end L2
namespace L2
open PySem PySem.Spec PyProof.Rows
structure MkN (K:PySem.W.Frag)(C:Addr):Prop where
 makes:PySem.W.makesIn K C=true
 init:PySem.W.findIn K (.ref C) "__init__"=some (some (.builtin "object.__init__"))
 kp:PySem.W.keepIn K (.ref C)=true
def tNew (C:Addr):TE:=fun _ H Q=>∀ x dx,H x=none→H dx=none→dx≠x→Q (.ref x) (upd (upd H dx (.own x)) x (.ins C dx []))
theorem ZjW {C:Addr}{σ:St}{H:Hp}{Q:VK}:tNew C σ H Q=∀ x dx,H x=none→H dx=none→dx≠x→Q (.ref x) (upd (upd H dx (.own x)) x (.ins C dx [])):=rfl
section
variable {X:Cx}{C:Addr}{x:Str}{p pos:Pos}
theorem run_new {pins:List (Addr × Obj)}{σ:St}{H:Hp}{s:Shared}{Q:VK}(M:MkN X.K C)(I:Inv X pins σ H s)
   (h:∀ x dx,H x=none→H dx=none→dx≠x→Q (.ref x) (upd (upd H dx (.own x)) x (.ins C dx []))) :
   wpAny (model X.prog X.w) X.A (call (.ref C) []) (EP X pins σ Q) X.xe s:=by
 have hq:=h (s.heap.objs.size+1) s.heap.objs.size (I.hok.fresh (Nat.le_succ _)) (I.hok.fresh (Nat.le_refl _)) (Nat.ne_of_lt (Nat.lt_succ_self _));have I2:=Inv.made (C:=C) I;obtain ⟨hh,g,d,t,os⟩:=s;dsimp only at I2 hq;have Y:=PySem.W.makes_of (M:=model X.prog X.w) I.kIn M.makes;refine wpAny_call (PySem.W.make_core Y (PySem.W.looks_findIn I.kIn M.init) (fun self=>PySem.W.Looks.of_pure (PySem.W.oi_bind self)) (.inr ⟨rfl,rfl⟩) ?_);have g1:((hh.push PySem.W.emptyDict).push (PySem.W.instObj C hh.objs.size)).get? (hh.objs.size+1)=some (PySem.W.instObj C hh.objs.size):=by have:=Heap.get?_push_size (hh.push PySem.W.emptyDict) (o:=PySem.W.instObj C hh.objs.size) rfl;rw [Heap.size_push] at this;exact this
 have t1:PySem.W.Looks (model X.prog X.w) ((hh.push PySem.W.emptyDict).push (PySem.W.instObj C hh.objs.size)) (typeOf (.ref (hh.objs.size+1))) (.ref C):=PySem.W.Looks.andThen (PySem.W.Looks.ld g1) PySem.W.Looks.now;have t2:PySem.W.Looks (model X.prog X.w) ((hh.push PySem.W.emptyDict).push (PySem.W.instObj C hh.objs.size)) (isInstance (.ref (hh.objs.size+1)) (.type "object")) true:=PySem.W.Looks.andThen t1 (PySem.W.Looks.keeps (h:=hh) Y.top fun b o e=>Heap.get?_push_of_some (PySem.W.instObj C hh.objs.size) (Heap.get?_push_of_some PySem.W.emptyDict e));refine codeAny_call_builtin PySem.W.oi_plain PySem.W.entry_oi ?_;have z:=@PySem.W.check_slot (model X.prog X.w) (X.A.under (.builtin "type.__call__" ⟨[.ref C],[]⟩)).in1;have z:=@z (fun e s'=>PySem.W.InitBack (hh.objs.size+1) (fun r s₁=>match r with | .ok (.ret v)=>EP X pins σ Q v s₁ | .ok _=>False | .error e=>X.xe e s₁) (.error e) s') { heap:=(hh.push PySem.W.emptyDict).push (PySem.W.instObj C hh.objs.size),gens:=g,drawn:=d,toks:=t,os:=os } "object.__init__" "object" "__init__" (.ref (hh.objs.size+1)) [] [];have z:=fun Q=>@z Q PySem.W.oi_kind PySem.W.oi_split t2 (PySem.W.oi_args _)
 refine z _ ?_;rw [PySem.W.oi_run];exact wpAny_pure ⟨rfl,V.ref (hh.objs.size+1),_,I2,rfl,hq⟩
theorem pe_new (M:MkN X.K C)(hg:Gl X x)(hm:X.mg x=some (.ref C))(hdb:(x==("__debug__":Str))=false:=by decide):PE X (.Call (.Name x p) [] [] pos) (tNew C):=by intro pins s σ H Q I h;refine wpAny_Call_Name_kw (ZbI I hg hm ?_ hdb);exact PySem.W.callWith_K0 I.kIn M.kp (run_new M I h)
end
def New (H H':Hp):Hp:=fun a=>match H a with | none=>H' a | some _=>none
theorem New.of {H H':Hp}{a:Addr}{o:HO}(h:H a=none)(e:H' a=some o):New H H' a=some o:=by unfold New;rw [h];exact e
theorem New.some {H H':Hp}{a:Addr}{o:HO}(h:New H H' a=some o):H a=none∧H' a=some o:=by
 unfold New at h;split at h
 · rename_i e
   exact ⟨e,h⟩
 · cases h
theorem New.same {H H' H'':Hp}(s:Same H' H''):Same (New H H') (New H H''):=fun a o h=>by
 obtain ⟨h1,h2⟩:=New.some h;exact New.of h1 (s _ _ h2)
theorem New.sub {H H':Hp}:Same (New H H') H':=fun a o h=>(New.some h).2
section
variable {K:PySem.W.Frag}{a:Addr}{xs:List V}{m:Nat}{caps:List Nat}{tt:TT}{te:TE}{σ:St}{H1:Hp}{Q:VK}
theorem compA (Rl:Nat→V→Hp→Prop)(mono:∀ i y H H',Same H H'→Rl i y H→Rl i y H')(hS:SqL K H1 a xs)(hn:xs.length≤1000000)
   (he:∀ i x H2 (R:VK),xs[i]?=some x→Same H1 H2→(∀ y H3,Same H2 H3→Rl i y (New H2 H3)→R y H3)→te ((capSt m caps σ).set 0 (some x)) H2 R)
   (hq:∀ D ys H2,H1 D=none→Same H1 H2→H2 D=some (.lst ys)→ys.length=xs.length→(∀ j y,ys[j]?=some y→Rl j y (del (New H1 H2) D))→Q (.ref D) H2):CompJ (Itl K a) m caps (gName 0) tNoTest te σ H1 Q:=by
 refine compG (n:=xs.length) (fun D i ys H2=>i≤xs.length∧Same H1 H2∧H2 D=some (.lst ys)∧ys.length=i∧∀ j y,ys[j]?=some y→Rl j y (del (New H1 H2) D)) (fun D hD=>⟨Nat.zero_le _,Same.new hD,Zad,rfl,fun j y h=>by cases h⟩) (fun D i ys H2 h=>h.1)
   (fun D ys H2 hD h=>⟨xs,h.2.1.seq hS,Nat.le_refl _⟩) (fun D i ys H2 hD hi h=>⟨xs,_,h.2.1.seq hS,List.getElem?_eq_getElem hi⟩) ?_ (fun D ys H2 hD h=>hq D ys H2 hD h.2.1 h.2.2.1 h.2.2.2.1 h.2.2.2.2)
 rintro D i ys H2 x H3 hD hi ⟨_,s2,h2,rfl,h3⟩ ⟨rfl,y⟩;have hx:=y xs (s2.seq hS);rw [Zba,Zc7];rw [if_pos rfl];refine he _ x H3 _ hx s2 fun z H4 s4 rz=>compYes hn hi (Nat.le_refl _) (s4 _ _ h2) ⟨hi,(s2.trans s4).put hD,Zad,by rw [List.length_append];rfl,fun j y hj=>?_⟩
 by_cases hl:j<ys.length
 · rw [List.getElem?_append_left hl] at hj
   refine mono _ _ _ _ (fun b o hb=>?_) (h3 j y hj);obtain ⟨n1,e1⟩:=Zbi hb;obtain ⟨e1,e2⟩:=New.some e1;rw [Zbn n1];refine New.of e1 ?_;rw [Zah n1];exact s4 _ _ e2
 · rw [List.getElem?_append_right (by omega)] at hj
   have e0:j-ys.length=0:=by have:=(List.getElem?_eq_some_iff.mp hj).1;simp at this;omega
   rw [e0] at hj;cases hj;have e1:j=ys.length:=by omega
   subst e1;refine mono _ _ _ _ (fun b o hb=>?_) rz;obtain ⟨e1,e2⟩:=New.some hb;have n1:b≠D:=fun z=>by rw [z,h2] at e1;cases e1
   rw [Zbn n1];refine New.of ?_ ?_
   · cases e:H1 b with
     | none=>rfl
     | some o=>rw [s2 _ _ e] at e1;cases e1
   · rw [Zah n1]
     exact e2
end
end L2
namespace L2
open PySem PySem.Spec PyProof.Rows
section
variable {X:Cx}{pins:List (Addr × Obj)}{σ:St}{H:Hp}{s:Shared}{p:Addr}{kvs:List (Key × V)}{o:Obj}
end
end L2
namespace L2
open PySem PySem.Spec PyProof.Rows
end L2
namespace L2
open PySem PySem.Spec PyProof.Rows
section
variable {P:Program}{w:World}{l b p:Addr}{us vs:Array Value}{n m:Nat}{d1 d2:Option Addr}{z1 z2:Array (Option Value)}{s:Shared}{A:Around}{R:Result→Shared→Prop}
open MeetsSeq MeetsSeq2 MeetsSeq3 in
def EqW (P:Program)(w:World)(A:Around)(s:Shared)(u v:Value):Prop:=∀ (E:Value→Shared→Prop) (Q:Bool→Shared→Prop),Q true s→wpAny (model P w) A (eqBool u v) Q E s
abbrev FinW (P:Program)(w:World)(A:Around)(R:Result→Shared→Prop):Fin→Shared→Prop:=fun x s'=>match x with | .done f=>R (.ok f) s' | .again q=>q.quiet=true∧codeAny (model P w) A q R s'
abbrev LsAt (s:Shared)(l:Addr)(us:Array Value)(n:Nat)(d1:Option Addr)(z1:Array (Option Value)):Prop:=s.heap.get? l=some { cls:=.type "list",dict:=d1,data:=.seq us n,slots:=z1 }
abbrev TpAt (s:Shared)(l:Addr)(us:Array Value)(n:Nat)(d1:Option Addr)(z1:Array (Option Value)):Prop:=s.heap.get? l=some { cls:=.type "tuple",dict:=d1,data:=.seq us n,slots:=z1 }
open MeetsSeq MeetsSeq2 MeetsSeq3 AutoSeq1 in
theorem loopW (hs:us.size=vs.size){c:Int}{t:Bool}(hc:(c=2∧t=true)∨(c=3∧t=false)):∀ (k i:Nat),us.size-i=k→∀ {s:Shared},LsAt s l us n d1 z1→LsAt s b vs m d2 z2→(∀ (j:Nat) (h1:j<us.size) (h2:j<vs.size),EqW P w A.in1 s us[j] vs[j])→R (.ok (.ret (.bool t))) s →
   wpAny (model P w) A.in1 (Builtin.«list.__eq__.loop» ⟨[.ref l,.ref b,rawInt i,rawInt c],[]⟩) (FinW P w A R) (fun e s'=>R (.error e) s') s:=by
 intro k;induction k with
 | zero =>
   rintro i hk ⟨hp,g,d,tk,oz⟩ hL hB he h;have q1:us[((i:Nat):Int).toNat]?=none:=by simp;omega
   have q2:vs[((i:Nat):Int).toNat]?=none:=by simp;omega
   rcases hc with ⟨rfl,rfl⟩ | ⟨rfl,rfl⟩
   · wp_walk using wpAny_loadPart' hL,wpAny_loadPart' hB
     rw [q1,q2]
     wp_walk using wpAny_loadPart' hL,wpAny_loadPart' hB
     show R (.ok (.ret (.bool (us.size==vs.size)))) _;rw [hs];simpa using h
   · wp_walk using wpAny_loadPart' hL,wpAny_loadPart' hB
     rw [q1,q2]
     wp_walk using wpAny_loadPart' hL,wpAny_loadPart' hB
     show R (.ok (.ret (.bool (us.size != vs.size)))) _;rw [hs];simpa using h
 | succ k ih =>
   rintro i hk ⟨hp,g,d,tk,oz⟩ hL hB he h;have l1:i<us.size:=by omega
   have l2:i<vs.size:=by omega
   have q1:us[((i:Nat):Int).toNat]?=some us[i]:=by simp [l1]
   have q2:vs[((i:Nat):Int).toNat]?=some vs[i]:=by simp [l2]
   have nx:((i:Int)+1)=((i+1:Nat):Int):=by push_cast;rfl
   have hc':=hc;rcases hc with ⟨rfl,rfl⟩ | ⟨rfl,rfl⟩ <;>
   · wp_walk using wpAny_loadPart' hL,wpAny_loadPart' hB
     rw [q1,q2];refine wpAny_bind (he i l1 l2 _ _ ?_)
     wp_walk
     rw [nx];refine ⟨plainId_quiet plain_eq_loop _,codeAny_builtin entry_eq_loop ?_⟩;rw [Around.under_plainId plain_eq_loop];exact ih (i+1) (by omega) hL hB he h
open MeetsSeq MeetsSeq2 MeetsSeq3 AutoSeq1 in
theorem ZkH (hs:us.size=vs.size)(hL:LsAt s l us n d1 z1)(hB:LsAt s b vs m d2 z2)(he:∀ (j:Nat) (h1:j<us.size) (h2:j<vs.size),EqW P w A.in1 s us[j] vs[j])(h:R (.ok (.ret (.bool true))) s) :
   wpAny (model P w) A.in1 (Builtin.«list.__eq__» ⟨[.ref l,.ref b],[]⟩) (FinW P w A R) (fun e s'=>R (.error e) s') s:=by
 obtain ⟨hp,g,d,tk,oz⟩:=s;have fL:=AutoSeq1.sub_list_list;have hne:¬ (us.size != vs.size)=true:=by simp [hs]
 wp_walk using wpAny_loadPart' hL,wpAny_loadPart' hB
 refine ⟨plainId_quiet plain_eq_loop _,codeAny_builtin entry_eq_loop ?_⟩;rw [Around.under_plainId plain_eq_loop];exact loopW hs (.inl ⟨rfl,rfl⟩) _ 0 rfl hL hB he h
open MeetsSeq MeetsSeq2 MeetsSeq3 AutoSeq1 in
open MeetsSeq MeetsSeq2 MeetsSeq3 AutoSeq1 in
theorem tups_eqW (hs:us.size=vs.size) (hL:TpAt s l us n d1 z1) (hB:TpAt s b vs m d2 z2) (he:∀ (j:Nat) (h1:j<us.size) (h2:j<vs.size),EqW P w A.in1 s us[j] vs[j]) (h:R (.ok (.ret (.bool true))) s) :
   wpAny (model P w) A.in1 (Builtin.«tuple.__eq__» ⟨[.ref l,.ref b],[]⟩) (FinW P w A R) (fun e s'=>R (.error e) s') s:=by
 refine wpAny_mono (Q:=fun fin s'=>∃ v,fin=.done (.ret v)∧R (.ok (.ret v)) s') ?_ (fun fin s' h'=>by obtain ⟨v,rfl,hv⟩:=h';exact hv) fun _ _ x=>x
 obtain ⟨hp,g,d,tk,oz⟩:=s;have fT:=AutoSeq1.sub_tuple_tuple;have zl:(us.toList.zip vs.toList).length=us.size:=by simp [hs]
 wp_walk using wpAny_loadPart' hL,wpAny_loadPart' hB,wpAny_forIn_list _ (fun rest b s'=>b.1=none∧s'=⟨hp,g,d,tk,oz⟩∧∃ i,rest=(us.toList.zip vs.toList).drop i) _
 case turn =>
   rintro ⟨y,x⟩ rest b s' ⟨hB',rfl,i,hz⟩;have lt:i<(us.toList.zip vs.toList).length:=by
     rcases Nat.lt_or_ge i (us.toList.zip vs.toList).length with z | z
     · exact z
     · rw [List.drop_of_length_le z] at hz
       cases hz
   rw [List.drop_eq_getElem_cons lt] at hz;injection hz with e1 e2
   have l1:i<us.size:=by omega
   have l2:i<vs.size:=by omega
   have a1:y=us[i]:=by have:=congrArg Prod.fst e1;simpa using this
   have a2:x=vs[i]:=by have:=congrArg Prod.snd e1;simpa using this
   subst a1 a2;refine wpAny_bind (he i l1 l2 _ _ ?_)
   wp_walk
   exact ⟨rfl,rfl,i+1,e2⟩
 case fin =>
   rintro ⟨b1,b2⟩ s' ⟨hB',rfl,i,hz⟩;simp only at hB';subst hB'
   wp_walk
   exact ⟨_,rfl,by simpa [Builtin.Tuple.tupleCompareSizes,hs] using h⟩
 case h=>exact ⟨rfl,rfl,0,rfl⟩
theorem EqW.refs {u v:Addr}(hne:u≠v)(h:∀ (E:Value→Shared→Prop) (Q:Value→Shared→Prop),Q (.bool true) s→wpAny (model P w) A (richCompare .Eq (.ref u) (.ref v)) Q E s):EqW P w A s (.ref u) (.ref v):=fun E Q hq=>by
 unfold eqBool;refine wpAny_holding ?_;refine wpAny_ite_split (fun z=>absurd (by have e:=eq_of_beq z;injection e) hne) fun _=>?_
 exact wpAny_bind (h E _ (wpAny_truthy_bool hq))
theorem EqW.of {u v:Value}(h:SeqAt.EqAt A s u v true):EqW P w A s u v:=fun E Q hq=>h P w E Q hq
theorem EqW.lists {u v:Addr}(hne:u≠v)(hl:s.heap.IsList u us)(hb:s.heap.IsList v vs)(hs:us.size=vs.size)(hu:A.units<cLine)(he:∀ (j:Nat) (h1:j<us.size) (h2:j<vs.size),EqW P w A.in1 s us[j] vs[j]):EqW P w A s (.ref u) (.ref v):=by
 refine .refs hne fun E Q q=>?_
 obtain ⟨⟨c1,d1,e1,z1⟩,ho,hc,n,hd⟩:=id hl;obtain ⟨⟨c2,d2,e2,z2⟩,ho2,hc2,m,hd2⟩:=id hb;simp only at hc hd hc2 hd2;subst hc hd hc2 hd2;have hT:s.TypeIs (.ref u) "list":=⟨_,ho,rfl⟩
 exact wpAny_richCompare_same_room (op:=.Eq) hT ⟨_,ho2,rfl⟩ F.slot_list_eq (wpAny_call (codeAny_call_builtin F.slot_list_eq.plain F.entry_list_eq (F.slot_list_eq.check _ _ _ _ _ _ _ _ hT (F.args_list_eq_2 _ _) (ZkH (R:=wants (fun v s1=>v≠.notImplemented∧Q v s1) E) hs ho ho2 he ⟨(fun x=>nomatch x),q⟩)))) hu
theorem EqW.tups {u v:Addr}(hne:u≠v)(hl:s.heap.IsTuple u us)(hb:s.heap.IsTuple v vs)(hs:us.size=vs.size)(hu:A.units<cLine)(he:∀ (j:Nat) (h1:j<us.size) (h2:j<vs.size),EqW P w A.in1 s us[j] vs[j]):EqW P w A s (.ref u) (.ref v):=by
 refine .refs hne fun E Q q=>?_
 obtain ⟨⟨c1,d1,e1,z1⟩,ho,hc,n,hd⟩:=id hl;obtain ⟨⟨c2,d2,e2,z2⟩,ho2,hc2,m,hd2⟩:=id hb;simp only at hc hd hc2 hd2;subst hc hd hc2 hd2;have hT:s.TypeIs (.ref u) "tuple":=⟨_,ho,rfl⟩
 exact wpAny_richCompare_same_room (op:=.Eq) hT ⟨_,ho2,rfl⟩ F.slot_tuple_eq (wpAny_call (codeAny_call_builtin F.slot_tuple_eq.plain F.entry_tuple_eq (F.slot_tuple_eq.check _ _ _ _ _ _ _ _ hT (F.args_tuple_eq_2 _ _) (tups_eqW (R:=wants (fun v s1=>v≠.notImplemented∧Q v s1) E) hs ho ho2 he ⟨(fun x=>nomatch x),q⟩)))) hu
end
mutual
inductive Twn (K:PySem.W.Frag) (H:Hp):Nat→V→V→Prop
 | int {n:Nat} (i:Int):Twn K H n (.int i) (.int i)
 | str {n:Nat} (x:Str):Twn K H n (.str x) (.str x)
 | lst {n:Nat} {a b:Addr} {xs ys:List V} (ha:SqL K H a xs) (hb:SqL K H b ys) (r:Twns K H n xs ys):Twn K H (n+1) (.ref a) (.ref b)
 | tup {n:Nat} {a b:Addr} {xs ys:List V} (ha:SqT K H a xs) (hb:SqT K H b ys) (r:Twns K H n xs ys):Twn K H (n+1) (.ref a) (.ref b)
 | dic {n:Nat} {a b:Addr} {kvs:List (Key × V)} (ha:H a=some (.dK kvs)) (hb:H b=some (.dK kvs)) (nd:(kvs.map (·.1)).Nodup) (hi:∀ kv∈kvs,∃ i,kv.2=.int i):Twn K H (n+1) (.ref a) (.ref b)
inductive Twns (K:PySem.W.Frag) (H:Hp):Nat→List V→List V→Prop
 | nil {n:Nat}:Twns K H n [] []
 | cons {n:Nat} {x y:V} {xs ys:List V} (h:Twn K H n x y) (r:Twns K H n xs ys):Twns K H n (x::xs) (y::ys)
end
section
variable {X:Cx}{pins:List (Addr × Obj)}{σ:St}{H:Hp}{s:Shared}
mutual
theorem Inv.twn (I:Inv X pins σ H s):∀ {n:Nat} {x y:V},Twn X.K H n x y→∀ {u v:Value} {A:Around},RelV x u→RelV y v→A.units+n≤cLine→EqW X.prog X.w A s u v
 | _,_,_,.int i,u,v,A,ru,rv,_=>by
   obtain ⟨t,rfl⟩:=ru;obtain ⟨t',rfl⟩:=rv;have:=PySem.W.keq_flat (A:=A) (s:=s) (v:=.int i t) (y:=.int i t') (d:=.int i) (e:=.int i) (fun _=>.int ..) (fun _=>.int ..)
   rw [show PyData.eqv (.int i) (.int i)=true by simp [PyData.eqv]] at this;exact .of this
 | _,_,_,.str x,u,v,A,ru,rv,_=>by
   obtain ⟨t,rfl⟩:=ru;obtain ⟨t',rfl⟩:=rv;have:=PySem.W.keq_flat (A:=A) (s:=s) (v:=.str x t) (y:=.str x t') (d:=.str x) (e:=.str x) (fun _=>.str ..) (fun _=>.str ..)
   rw [show PyData.eqv (.str x) (.str x)=true by simp [PyData.eqv]] at this;exact .of this
 | _,_,_,.lst (n:=n) (a:=a) (b:=b) ha hb r,u,v,A,ru,rv,hu=>by
   cases ru;cases rv;by_cases hab:a=b
   · subst hab
     exact .of (SeqAt.EqAt.same _)
   obtain ⟨is1,r1,p1,_⟩:=I.list ha;obtain ⟨is2,r2,p2,_⟩:=I.list hb;obtain ⟨hl,he⟩:=Inv.twns I r r1 r2 (A:=A.in1) (by rw [Around.in1_units];omega);exact .lists hab p1.isList p2.isList (by simpa using hl) (by omega) fun j h1 h2=>by simpa using he j (by simpa using h1) (by simpa using h2)
 | _,_,_,.tup (n:=n) (a:=a) (b:=b) ha hb r,u,v,A,ru,rv,hu=>by
   cases ru;cases rv;by_cases hab:a=b
   · subst hab
     exact .of (SeqAt.EqAt.same _)
   obtain ⟨is1,r1,p1,_⟩:=I.tuple ha;obtain ⟨is2,r2,p2,_⟩:=I.tuple hb;obtain ⟨hl,he⟩:=Inv.twns I r r1 r2 (A:=A.in1) (by rw [Around.in1_units];omega);exact .tups hab p1 p2 (by simpa using hl) (by omega) fun j h1 h2=>by simpa using he j (by simpa using h1) (by simpa using h2)
 | _,_,_,.dic (n:=n) (a:=a) (b:=b) ha hb nd hi,u,v,A,ru,rv,hu=>by
   cases ru;cases rv;by_cases hab:a=b
   · subst hab
     exact .of (SeqAt.EqAt.same _)
   obtain ⟨z1,d1,va,r1,e1⟩:=dk_of I.hok ha;obtain ⟨z2,d2,vb,r2,e2⟩:=dk_of I.hok hb;refine .refs hab fun E Q h=>PySem.W.keq_eq (r:=true) d1 d2 e1 e2 (by omega) (fun _=>ZfE nd hi r2 (fun _ h=>h) r1) ?_
   rw [← r1.length,← r2.length];simpa using h
theorem Inv.twns (I:Inv X pins σ H s):∀ {n:Nat} {xs ys:List V},Twns X.K H n xs ys→∀ {us vs:List Value} {A:Around},Vals xs us→Vals ys vs→A.units+n≤cLine→us.length=vs.length∧∀ (j:Nat) (h1:j<us.length) (h2:j<vs.length),EqW X.prog X.w A s us[j] vs[j]
 | _,_,_,.nil,us,vs,A,ru,rv,_=>by
   cases ru;cases rv;exact ⟨rfl,fun j h1=>absurd h1 (by simp)⟩
 | _,_,_,.cons h r,us,vs,A,ru,rv,hu=>by
   cases ru with
   | cons a1 a2 =>
     cases rv with
     | cons b1 b2 =>
       obtain ⟨l,q⟩:=Inv.twns I r a2 b2 hu;refine ⟨by simp [l],fun j h1 h2=>?_⟩;cases j with
       | zero=>exact Inv.twn I h a1 b1 hu
       | succ j=>exact q j (by simpa using h1) (by simpa using h2)
end
end
section
variable {a:Addr}{o:Obj}{kvs:List (Key × V)}{m:Nat}{caps:List Nat}{tt:TT}{te:TE}{σ:St}{H1:Hp}{Q:VK}
end
end L2
namespace L2
open PySem
end L2
namespace L2
open PySem PySem.Spec PyProof.Rows
end L2
namespace L2
open PySem PySem.Spec PyProof.Rows
theorem ObjOk.there {P:Program}{w:World}{H:Hp}{h:Heap}{a:Addr}{o:HO}(x:ObjOk P w H h a o):∃ u,h.get? a=some u:=by
 cases o with
 | lst xs=>obtain ⟨_,_,_,_,e⟩:=x;exact ⟨_,e⟩
 | tup xs=>obtain ⟨_,_,_,o,e,_⟩:=x;exact ⟨_,e⟩
 | dK kvs=>obtain ⟨_,_,_,_,o,_,_,e,_⟩:=x;exact ⟨_,e⟩
 | dT kvs=>obtain ⟨_,_,_,_,o,_,_,e,_⟩:=x;exact ⟨_,e⟩
 | set S n=>obtain ⟨o,_,_,_,e,_⟩:=x;exact ⟨_,e⟩
 | ins C dx fs=>obtain ⟨_,_,_,e,_⟩:=x;exact ⟨_,e⟩
 | own y=>obtain ⟨_,e⟩:=x;exact ⟨_,e⟩
 | xd fs=>obtain ⟨_,⟨_,_,_,e,_⟩,_⟩:=x;exact ⟨_,e⟩
 | rng lo hi=>obtain ⟨_,_,_,e⟩:=x;exact ⟨_,e⟩
 | frz ob u=>obtain ⟨e,_⟩:=x;exact ⟨_,e⟩
 | tbl ps=>exact ⟨_,show h.get? a=some _ from x⟩
 | met f y=>exact ⟨_,show h.get? a=some _ from x⟩
 | ext φ=>obtain ⟨_,⟨_,e⟩,_⟩:=x;exact ⟨_,e⟩
structure Cov (l:List Env)(h:Heap)(H:Hp)(B:Heap):Prop where
 old:∀ b o,h.get? b=some o→b∉frs l→∃ u,B.get? b=some u
 trk:∀ b u,H b=some u→∃ o,B.get? b=some o
section
variable {X:Cx}{pins:List (Addr × Obj)}{σ:St}{H:Hp}{s:Shared}
theorem Inv.frStack (I:Inv X pins σ H s){b:Addr}{o:Obj}(e:X.s₀.heap.get? b=some o)(f:b∉X.fs):b∉frs X.stack:=fun hb=>by
 rcases List.mem_cons.mp (I.stkSub b hb) with z | z
 · exact absurd (Heap.lt_size e) (Nat.not_lt.mpr (by rw [z];exact I.ok.above))
 · exact f z
theorem Inv.landed {B h':Heap}(I:Inv X pins σ H s)(hex:X.ex=[])(hB:B.StaysIn h')(hs:B.StaysIn s.heap)(c:Cov X.stack X.s₀.heap H B)(us:s.heap.UpToSlots h'):Un X.fs [] X.H₀ H X.s₀.heap h'∧HOk X.prog X.w H h':=by
 have same:∀ b o,s.heap.get? b=some o→(∃ u,B.get? b=some u)→h'.get? b=some o:=fun b o e ⟨u,hu⟩=>by
   have:=hs b u hu;rw [e] at this;cases this;exact hB b _ hu
 have nx:∀ b:Addr,b∉X.ex:=fun b hb=>by rw [hex] at hb;cases hb
 refine ⟨⟨fun b o e n f _=>same b o (I.base.keep b o e n f (nx b)) (c.old b o e (I.frStack e f)),fun b o e n f _=>?_,fun b o e n _=>I.base.free b o e n (nx b),fun b o e _=>?_,I.base.tups,I.base.frzs,I.base.tbls⟩,fun a o e=>?_⟩
 · obtain ⟨sl,h1⟩:=I.base.slot b o e n f (nx b)
   obtain ⟨_,o',ho',hd⟩:=I.funs.mem f;rw [h1] at ho';cases ho';obtain ⟨sl2,h2⟩:=us b _ h1 hd;exact ⟨sl2,h2⟩
 · by_cases f:b∈X.fs
   · obtain ⟨_,o',ho',hd⟩:=I.funs.mem f
     obtain ⟨sl,h2⟩:=us b o' ho' hd;exact ⟨_,h2⟩
   · obtain ⟨u,hu⟩:=c.old b o e (I.frStack e f)
     exact ⟨u,hB b u hu⟩
 · exact (I.hok a o e).stay (fun b u hb q=>same b u q (hb.elim (fun z=>by rw [z];exact c.trk a o e) fun z=>c.trk b _ z)) (fun _ q=>q) fun _ _ q=>q
end
section
variable {P:Program}{w:World}{K:PySem.W.Frag}{mg:Str→Option Value}{base:Heap}{N:List Str}{qual:Str}{scope:Scope}{f:Addr}{cd:Value}{A:Around}{outer:List Env}{s0:Shared}{H0:Hp}{E:XK}
end
end L2
namespace L2
open PySem PySem.Spec PyProof.Rows
section
variable {P:Program}{w:World}{K:PySem.W.Frag}{mg:Str→Option Value}{base:Heap}{N:List Str}{qual:Str}{scope:Scope}{f:Addr}{cd:Value}{A:Around}{outer:List Env}{s0:Shared}{H0:Hp}{E:XK}
end
def XP (X:Cx)(pins:List (Addr × Obj))(σ:St)(W:Addr→Hp→Prop)(e:Value)(s':Shared):Prop:=∃ (ea C:Addr) (a0:Value) (B:Heap) (H':Hp),
 e=.ref ea∧Inv X pins σ H' s'∧Heap.FlyingW B X.stack ea (.ref C) a0 s'.heap∧Cov X.stack X.s₀.heap H' B∧(∀ p∈X.pn++pins,∃ o,B.get? p.1=some o)∧W C H'
section
variable {X:Cx}{pins:List (Addr × Obj)}{σ:St}{H:Hp}{s:Shared}
theorem Inv.landed2 {B h':Heap}(I:Inv X pins σ H s)(hex:X.ex=[])(hB:B.StaysIn h')(hs:B.StaysIn s.heap)(c:Cov X.stack X.s₀.heap H B)(hp:∀ p∈X.pn++pins,∃ o,B.get? p.1=some o)(us:s.heap.UpToSlots h'):Inv X pins σ H { s with heap:=h' }:=by
 obtain ⟨un,hok⟩:=I.landed hex hB hs c us;have cl:∀ {c:Addr} {v:Option Value},s.heap.IsCell c v→h'.IsCell c v:=fun {c v} ⟨o,ho,hd⟩=>by
   obtain ⟨sl,e⟩:=us c o ho fun vs q=>by rw [hd] at q;cases q
   exact ⟨_,e,hd⟩
 refine ⟨I.ok,I.os,I.bare,by rw [hex];exact un,?_,fun x c h=>let ⟨v,q⟩:=I.cell x c h;⟨v,cl q⟩,I.free,I.freeC,fun p q=>?_,hok,I.len⟩
 · obtain ⟨m,hn,hl⟩:=I.loc
   refine ⟨m,us.ns hn,fun i x v e1 e2 e3=>?_⟩;obtain ⟨u,r,l⟩:=hl i x v e1 e2 e3;exact ⟨u,r,l.elim (fun z=>.inl z) fun ⟨k,c,hc,q⟩=>.inr ⟨k,c,hc,cl q⟩⟩
 · obtain ⟨e1,r⟩:=I.pin p q
   obtain ⟨o,ho⟩:=hp p q;have:=hs _ _ ho;rw [e1] at this;cases this;exact ⟨hB _ _ ho,r⟩
end
abbrev TX:=(Addr→St→Hp→Prop)→TS
section
variable {X:Cx}{st:Stmt}{sts rest:List Stmt}{t u:TX}{pos:Pos}
end
end L2
namespace L2
open PySem PySem.Spec PyProof.Rows
def inEx (X:Cx)(ea:Addr)(oe:Obj):Cx:={ X with A:=X.A.mark (some (.ref ea)),calm:=false,pn:=(ea,oe)::X.pn,xe:=fun _ _=>False }
section
variable {X:Cx}{pins:List (Addr × Obj)}{σ:St}{H:Hp}{s:Shared}{ea:Addr}{oe:Obj}
theorem Inv.inExc (I:Inv X pins σ H s)(e1:s.heap.get? ea=some oe)(e2:H ea=none)(n1:ea≠X.env.locals)(n2:ea∉X.fs)(n3:∀ v,oe.data≠.cell v):Inv (inEx X ea oe) pins σ H s :=
 ⟨⟨I.ok.mod,I.ok.kind,I.ok.glob,I.ok.blt,I.ok.above,I.ok.inj,I.ok.has,I.ok.cab,(fun z=>by cases z),I.ok.frames,I.ok.stk,I.ok.exf,I.ok.bs,I.ok.bsz,I.ok.noex,I.ok.exfs,I.ok.funs,I.ok.frf⟩,I.os,I.bare,I.base,I.loc,I.cell,I.free,I.freeC,fun p hp=>by
   rcases List.mem_append.mp hp with hp | hp
   · rcases List.mem_cons.mp hp with rfl | hp
     · exact ⟨e1,e2,n1,n2,n3⟩
     · exact I.pin p (List.mem_append_left _ hp)
   · exact I.pin p (List.mem_append_right _ hp),I.hok,I.len⟩
theorem Inv.outExc (I:Inv (inEx X ea oe) pins σ H s)(ok:X.Ok):Inv X pins σ H s :=
 ⟨ok,I.os,I.bare,I.base,I.loc,I.cell,I.free,I.freeC,fun p hp=>I.pin p (by
   rcases List.mem_append.mp hp with hp | hp
   · exact List.mem_append_left _ (.tail _ hp)
   · exact List.mem_append_right _ hp),I.hok,I.len⟩
theorem Inv.gone {h':Heap}{t':Nat}{m:Str→Option Value}{i:Nat}{n:Str}{v:Option Value}(I:Inv X pins σ H s)(hN:X.N.Nodup)(hi:X.N[i]?=some n)(hn:s.heap.Ns X.env.locals m)(hl:∀ (i:Nat) (x:Str) (v:V),X.N[i]?=some x→σ[i]?=some (some v)→Vis X.env.scope x→∃ u,RelV v u∧Look X.env s.heap m x u)
   (hn':h'.Ns X.env.locals (fun x=>if x=n then v else m x)) (sb:Heap.SameBut X.env.locals s.heap h'):Inv X pins (σ.set i none) H { s with heap:=h',toks:=t' }:=by
 have k:∀ b o,b≠X.env.locals→s.heap.get? b=some o→h'.get? b=some o:=fun b o ne e=>(sb.2 b ne).trans e
 have nl:∀ b o,X.s₀.heap.get? b=some o→b≠X.env.locals:=fun b o e z=>absurd (Heap.lt_size e) (Nat.not_lt.mpr (by rw [z];exact I.ok.above))
 have cl:∀ {c:Addr} {v:Option Value},c≠X.env.locals→s.heap.IsCell c v→h'.IsCell c v:=fun {c v} ne ⟨o,ho,hd⟩=>⟨o,k c o ne ho,hd⟩
 refine ⟨I.ok,I.os,I.bare,⟨fun b o e n f x=>k b o (nl b o e) (I.base.keep b o e n f x),fun b o e n f x=>?_,I.base.free,fun b o e x=>?_,I.base.tups,I.base.frzs,I.base.tbls⟩,⟨_,hn',fun j x w e1 e2 e3=>?_⟩,fun x c h=>let ⟨v,q⟩:=I.cell x c h;⟨v,cl (I.cne x c h) q⟩,I.free,I.freeC,fun p q=>?_,fun a o e=>?_,by rw [List.length_set];exact I.len⟩
 · obtain ⟨sl,h1⟩:=I.base.slot b o e n f x
   exact ⟨sl,k b _ (nl b o e) h1⟩
 · obtain ⟨o',h1⟩:=I.base.there b o e x
   exact ⟨o',k b _ (nl b o e) h1⟩
 · have ji:j≠i:=fun z=>by
     subst z;rw [List.getElem?_set] at e2;split at e2
     · split at e2<;>cases e2
     · exact absurd rfl (by assumption)
   rw [List.getElem?_set_ne (Ne.symm ji)] at e2;obtain ⟨u,r,l⟩:=hl j x w e1 e2 e3;refine ⟨u,r,l.elim (fun ⟨a,b⟩=>.inl ⟨a,?_⟩) fun ⟨a,c,hc,q⟩=>.inr ⟨a,c,hc,cl (I.cne x c hc) q⟩⟩;show (if x=n then v else m x)=some u;rw [if_neg fun z:x=n=>ji (ZeL hN (by rw [← z];exact e1) hi)];exact b
 · obtain ⟨e1,e2,e3,r⟩:=I.pin p q
   exact ⟨k _ _ e3 e1,e2,e3,r⟩
 · refine (I.hok a o e).stay (fun b u hb q=>k b u (fun z=>?_) q) (fun _ q=>q) fun _ _ q=>q
   rcases hb with hb | hb
   · rw [← hb,z,I.free] at e
     cases e
   · rw [z,I.free] at hb
     cases hb
end
section
variable {X:Cx}
end
end L2
namespace EX
open PySem PySem.Spec PyProof.Rows PySem.W PySem.Calls Builtin Builtin.ObjectAttr Builtin.Getset_descriptor
structure XIsi (K:Frag)(C:Addr):Prop where
 cls:(clsIn K C).isSome=true
 ga:findIn K (.ref C) "__getattribute__"=some (some (.builtin "BaseException.__getattribute__"))
 no:findIn K (.ref C) "__getattr__"=some none
 ca:findIn K (.ref C) "__class__"=some (some (.builtin "object.__class__"))
 ob:mroIn K C (.type "object")=some true
 be:mroIn K C (.type "BaseException")=some true
section
variable {prog:Program}{w:World}{A:Around}{E:Value→Shared→Prop}{s:Shared}{K:Frag}{x C:Addr}{ox:Obj}
theorem xcheck_ga {M:Model}{nameV:Value}{Q:Unit→Shared→Prop}(Z:XIsi K C)(X:K.In s.heap)(L0:Looks M s.heap (typeOf (.ref x)) (.ref C))(hq:Q () s):wpAny M A (checkBuiltinCall "BaseException.__getattribute__" ⟨[.ref x,nameV],[]⟩) Q E s:=by
 have hk:builtinKind "BaseException.__getattribute__"=some .slot:=by decide +kernel
 have hsplit:splitId "BaseException.__getattribute__"=some ("BaseException","__getattribute__"):=by decide +kernel
 have L1:=looks_mroIn (M:=M) X Z.be;have ha:=F.args_bexc_ga (.ref x) nameV;obtain ⟨hh,g,dr,t,os⟩:=s;simp only [checkBuiltinCall,hk,hsplit];refine wpAny_bind ?_;unfold isInstance
 repeat (first | with_reducible refine L0.at ?_ | with_reducible refine L1.at ?_ | wp_step)
 exact hq
end
end EX
namespace L2
open PySem PySem.Spec PyProof.Rows
section
variable {P:Program}{w:World}{K:PySem.W.Frag}{mg:Str→Option Value}{base:Heap}
variable {N:List Str}{qual:Str}{scope:Scope}{f:Addr}{cd:Value}{A:Around}{outer:List Env}{s0:Shared}{H0:Hp}{E:XK}
end
end L2
namespace L2
open PySem PySem.Spec PyProof.Rows
section
variable {P:Program}{w:World}{K:PySem.W.Frag}{mg:Str→Option Value}{base:Heap}{N:List Str}{qual:Str}{scope:Scope}{f:Addr}{cd:Value}{A:Around}{outer:List Env}{s0:Shared}{H0:Hp}{E:XK}
end
end L2
namespace L2
open PySem PySem.Spec PyProof.Rows
section
variable {prog:Program}{w:World}{A:Around}{E:Value→Shared→Prop}{h:Heap}{g:Array GenState}{d:Drawn}{t:Nat}{os:OsState}
variable {nm q:Str}{C N:Addr}{bs bm bmB:List Value}{hdc:Bool}{sn:List Str}{sub:List Value}{ab:Bool}{col:Option Bool}{dd:Option Addr}{k0 k1 k2 k3 k5:Option Value}{B Bn newId nid initId inN:String}{bmN:List Value}
abbrev excT (rest:List Value):Obj:={ cls:=.type "tuple",data:=.seq rest.toArray }
abbrev excB (C t:Addr):Obj:={ cls:=.ref C,data:=.fields #[.ref t,.none,.none,.none,.bool false,.none] }
theorem Zes {K:PySem.W.Frag}(Gn:ExcBaseFacts Bn newId inN bmN)(zB:bmB.contains (.type Bn)=true)(F:ExcBaseFacts B nid initId bmB)(T:OwnTail h bmB bm){rest:List Value}{fI:Addr}{oI:Obj}{Q:Fin→Shared→Prop}(X:K.In h)
   (zC:h.get? C=some (excClassObj nm q C N bs bm hdc sn sub ab col dd k0 k1 k2 k3 k5 newId)) (hi:PySem.W.findIn K (.ref C) "__init__"=some (some (.ref fI))) (zf:h.get? fI=some oI) (hfc:oI.cls=.type "function")
   (zq:∀ h' e,Heap.MadeExcOf h h' e (.ref C) rest→wpAny (model prog w) A (call (.ref fI) (.ref e::rest)) (fun r s'=>r=.none∧Q (.done (.ret (.ref e))) s') E ⟨h',g,d,t,os⟩) (zr:rest.length≤sizeLine) :
   wpAny (model prog w) A (Builtin.«type.__call__» ⟨.ref C::rest,[]⟩) Q E ⟨h,g,d,t,os⟩:=by
 repeat (first | with_reducible refine wpAny_loadPart_at zC ?_ | with_reducible refine wpAny_madeBy_exc zC ?_ | wp_step)
 refine codeAny_call_builtin_code (Code.quiet_builtin _ Gn.quiet) (wpAny_check_new_subU Gn zB T zC ?_);refine codeAny_exc_new_subU Gn zB F T zC ?_ zr;show wpAny _ _ _ _ _ _;have kp:∀ b o,h.get? b=some o→((h.push (excT rest)).push (excB C h.objs.size)).get? b=some o:=fun b o e=>Heap.get?_push_of_some _ (Heap.get?_push_of_some _ e)
 have gE:((h.push (excT rest)).push (excB C h.objs.size)).get? (h.objs.size+1)=some (excB C h.objs.size):=by heap_get
 have cC:(Value.ref C::bm).contains (.ref C)=true:=by simp
 unfold isInstance
 repeat (first | with_reducible refine wpAny_loadPart_at gE ?_ | (with_reducible refine wpAny_isSubtype_exc (kp _ _ zC) ?_;rw [cC]) | wp_step)
 show wpAny _ _ (typeLookup (.ref C) _) _ _ _;refine PySem.W.looks_findIn X hi _ _ _ _ kp ?_;refine wpAny_holding (wpAny_bind ?_);unfold bindSpecial;refine wpAny_bind (wpAny_typeOf (T:="function") ⟨_,kp _ _ zf,hfc⟩ ?_);rw [if_pos (by decide)];refine wpAny_pure (wpAny_bind (wpAny_mono (zq _ (h.objs.size+1) ⟨kp,Heap.get?_none_of_le (Nat.le_succ _),h.objs.size,gE,Heap.get?_none_of_le (Nat.le_refl _),?_⟩) (fun r s' hr=>?_) fun _ _ x=>x))
 · exact Heap.get?_push_of_some _ (Heap.get?_push_at rfl rfl)
 · obtain ⟨rfl,hQ⟩:=hr
   wp_walk
   exact hQ
theorem ZeU {K:PySem.W.Frag}(Gn:ExcBaseFacts Bn newId inN bmN)(zB:bmB.contains (.type Bn)=true)(F:ExcBaseFacts B nid initId bmB)(T:OwnTail h bmB bm){rest:List Value}{fI:Addr}{oI:Obj}{Q:Value→Shared→Prop}(X:K.In h)
   (zC:h.get? C=some (excClassObj nm q C N bs bm hdc sn sub ab col dd k0 k1 k2 k3 k5 newId)) (hi:PySem.W.findIn K (.ref C) "__init__"=some (some (.ref fI))) (zf:h.get? fI=some oI) (hfc:oI.cls=.type "function")
   (zq:∀ h' e,Heap.MadeExcOf h h' e (.ref C) rest→wpAny (model prog w) (A.under (.builtin "type.__call__" ⟨.ref C::rest,[]⟩)) (call (.ref fI) (.ref e::rest)) (fun r s'=>r=.none∧Q (.ref e) s') E ⟨h',g,d,t,os⟩) (zr:rest.length≤sizeLine) :
   wpAny (model prog w) A (call (.ref C) rest) Q E ⟨h,g,d,t,os⟩:=by
 have f1:=tc_lookup;have f2:=tc_bind (.ref C);have hT:(⟨h,g,d,t,os⟩:Shared).TypeIs (.ref C) "type":=⟨_,zC,rfl⟩
 refine wpAny_call (codeAny_of_tree ?_);show wpAny _ _ (callAny (.ref C) _) _ _ _
 repeat (any_goals (first | assumption | with_reducible refine wpAny_loadPart_at zC ?_ | wp_step))
 refine ⟨rfl,?_⟩;refine codeAny_call_builtin_at (Code.quiet_builtin _ (by decide +kernel)) entry_typeCall (wpAny_check_type_call_sub zC (Zes Gn zB F T X zC hi zf hfc (fun h' e hm=>?_) zr));exact zq h' e hm
theorem Zfs (F:ExcBaseFacts B nid initId bmB)(T:OwnTail h bmB bm){e ta:Addr}{rest:List Value}{Q:Value→Shared→Prop}(zC:h.get? C=some (excClassObj nm q C N bs bm hdc sn sub ab col dd k0 k1 k2 k3 k5 newId))(he:h.get? e=some (excB C ta))
   (zq:∀ h' tb,(∀ b o,b≠e→h.get? b=some o→h'.get? b=some o)→h'.get? e=some (excB C tb)→Q .none ⟨h',g,d,t,os⟩) (zr:rest.length≤sizeLine) :
   wpAny (model prog w) A (call (.builtin initId) (.ref e::rest)) Q E ⟨h,g,d,t,os⟩:=by
 refine wpAny_call (codeAny_call_builtin F.init.plain F.initEntry (wpAny_check_init_subU F T zC he rfl ?_))
 wp_walk
 refine zq _ h.objs.size (fun b o nb eb=>?_) ?_
 · rw [Heap.get?_update_other _ _ (Ne.symm nb)]
   exact Heap.get?_push_of_some _ eb
 · rw [Heap.get?_update_self _ (Heap.get?_push_of_some _ he) rfl]
   rfl
end
def tFStrI (te:TE):TE:=fun σ H Q=>te σ H fun v H1=>∃ i:Int,v=.int i∧i.natAbs.log2<1000∧∀ z,Q (.str z) H1
theorem Zf4 {te:TE}{σ:St}{H:Hp}{Q:VK}:tFStrI te σ H Q=te σ H fun v H1=>∃ i:Int,v=.int i∧i.natAbs.log2<1000∧∀ z,Q (.str z) H1:=rfl
section
variable {X:Cx}{x:Str}{e:Expr}{te:TE}{j:Nat}{p1 p3 pos:Pos}
theorem two_le {x y:Str}(hx:x.length≤1000)(hy:y.length≤100000):(Str.empty++x++y).length≤sizeLine:=by rw [strLen_append,Str.empty_append];exact Nat.le_trans (Nat.add_le_add hx hy) (by decide)
theorem pe_fstrI (he:PE X e te)(hx:x.length≤1000:=by decide):PE X (.JoinedStr [.Constant (.str x) j p1,.FormattedValue e (-1) none p3] pos) (tFStrI te):=by
 intro pins s σ H Q I h;refine JoinedStr_many (joinParts_cons (Calls.Constant_str ⟨?_,?_⟩))
 · rw [Str.empty_append]
   exact Nat.le_trans hx (by decide)
 show wpAny _ _ (joinParts (Str.empty++x) (eval (.FormattedValue e (-1) none p3) X.env::[])) _ _ _;refine joinParts_cons (PyProof.Rows.FormattedValue_plain (thn (he pins _ σ H _ (I.tok _) h) fun u s1 ⟨v,H1,I1,r1,i,ev,hi,q⟩=>?_));subst ev;obtain ⟨tk,rfl⟩:=r1;have hl:(Str.ofString (toString i)).length≤100000:=by rw [PySem.ofString_length];exact Nat.le_trans (int_text_length_le (k:=1000) (by decide) hi) (by decide)
 exact wpAny_formatField_int (Nat.lt_of_lt_of_le hi (by decide)) ⟨two_le hx hl,joinParts_nil ⟨.str _,H1,I1.kept fun _ _ e=>e,⟨_,rfl⟩,q _⟩ (two_le hx hl)⟩
end
end L2
namespace L2
open PySem PySem.Spec PyProof.Rows Builtin Builtin.ObjectAttr
structure XFld (K:PySem.W.Frag)(C M:Addr):Prop where
 cls:∃ cd,PySem.W.clsIn K C=some cd∧cd.mro=.ref C::.ref M::bmVal∧cd.hasDict=true
 sa:PySem.W.findIn K (.ref C) "__setattr__"=some (some (.builtin "object.__setattr__"))
 ob:PySem.W.mroIn K C (.type "object")=some true
section
variable {prog:Program}{w:World}{A:Around}{E:Value→Shared→Prop}{s:Shared}{K:PySem.W.Frag}{C M e ta:Addr}{name:Str}{v:Value}
theorem exc_inst (he:s.heap.get? e=some (excB C ta)):PySem.W.InstAt s.heap e (excB C ta) C none:=⟨he,rfl,rfl,True.intro⟩
theorem exc_set {Q:Unit→Shared→Prop}(X:K.In s.heap)(Z:XFld K C M)(he:s.heap.get? e=some (excB C ta))(ht:PySem.W.findIn K (.ref C) name=some none)
   (zq:∀ h' dx,s.heap.get? dx=none→(∀ b o,b≠e→s.heap.get? b=some o→h'.get? b=some o)→h'.get? e=some { excB C ta with dict:=some dx }→h'.Ns1 dx (fun y=>if y=name then some v else none)→Q () { s with heap:=h',toks:=s.toks+2 }) :
   wpAny (model prog w) A (setAttr (.ref e) name v) Q E s:=by
 obtain ⟨cd,hc,hm,hd⟩:=Z.cls;have J:=exc_inst he;refine PySem.W.set_plain X J Z.sa ?_;have SF:=PySem.F.store_object;have sub:PySem.W.Looks (model prog w) s.heap (isInstance (.ref e) (.type "object")) true:=J.type.andThen (PySem.W.looks_mroIn X Z.ob);refine codeAny_call_builtin SF.slot.plain SF.entry (@PySem.W.check_slot (model prog w) _ _ { s with toks:=s.toks+1 } "object.__setattr__" "object" "__setattr__" (.ref e) [.str name s.toks,v] [] _ SF.kind SF.split sub (SF.args (.ref e) (.str name s.toks) v) ?_);have hmro:PySem.W.Looks (model prog w) s.heap (mroOf (.ref C)) cd.mro:=(PySem.W.looks_clsIn X hc).andThen .now;rw [PySem.W.osa_eq,refuse_eq];refine wpAny_bind (wpAny_bind (PySem.W.Looks.here (s:={ s with toks:=s.toks+1 }) J.type (wpAny_bind (PySem.W.Looks.here (s:={ s with toks:=s.toks+1 }) hmro ?_))));rw [hm,refuseLoop_ref,refuseLoop_ref,PySem.F.store_ValueError.passes];refine wpAny_pure (wpAny_bind (PySem.W.Looks.here (s:={ s with toks:=s.toks+1 }) J.type (wpAny_bind (PySem.W.Looks.here (s:={ s with toks:=s.toks+1 }) (PySem.W.looks_findIn X ht) ?_))));have hx:(⟨s.heap,s.gens,s.drawn,s.toks+1,s.os⟩:Shared).heap.get? e=some (excB C ta):=he;refine wpAny_bind (wpAny_pure ?_);show wpAny _ _ (storeInOwnDict (Value.ref e) (Value.ref C) (Value.str name s.toks) name v false) _ _ _;refine wpAny_bind (wpAny_pure (wpAny_bind ?_));show wpAny _ _ (instanceDict e true) _ _ _;refine wpAny_bind (wpAny_loadPart hx ?_);refine wpAny_bind (PySem.W.Looks.here (s:={ s with toks:=s.toks+1 }) (PySem.W.looks_clsIn X hc) ?_);rw [hd];show wpAny _ _ (do
   let d ← alloc PySem.W.emptyDict
   update e fun o=>{ o with dict:=some d }
   dictMade (.ref C) e d) _ _ _
 have g0:(s.heap.push PySem.W.emptyDict).get? e=some (excB C ta):=Heap.get?_push_of_some _ he;refine wpAny_bind (wpAny_alloc (wpAny_bind (wpAny_update g0 (wpAny_pure ?_))));have ne:e≠s.heap.objs.size:=Nat.ne_of_lt (Heap.lt_size he);have gE:((s.heap.push PySem.W.emptyDict).update e fun o=>{ o with dict:=some s.heap.objs.size }).get? e=some { excB C ta with dict:=some s.heap.objs.size }:=by rw [Heap.get?_update_self _ g0 rfl]
 have gD:((s.heap.push PySem.W.emptyDict).update e fun o=>{ o with dict:=some s.heap.objs.size }).get? s.heap.objs.size=some PySem.W.emptyDict:=by rw [Heap.get?_update_other _ _ ne];exact Heap.get?_push_size s.heap rfl
 have gO:∀ b o,b≠e→s.heap.get? b=some o→((s.heap.push PySem.W.emptyDict).update e fun o=>{ o with dict:=some s.heap.objs.size }).get? b=some o:=fun b o nb eb=>by
   rw [Heap.get?_update_other _ _ (Ne.symm nb)];exact Heap.get?_push_of_some _ eb
 generalize ((s.heap.push PySem.W.emptyDict).update e fun o=>{ o with dict:=some s.heap.objs.size })=h1 at gE gD gO ⊢;have n1:h1.Ns1 s.heap.objs.size (fun _=>none):=by refine ⟨_,#[],_,gD,rfl,(fun e he=>absurd he (by simp)),?_,fun _=>rfl⟩;exact List.Pairwise.nil
 show wpAny _ _ (storeInDict s.heap.objs.size (Value.str name s.toks) name v) _ _ _;refine wpAny_bind (wpAny_pure (wpAny_bind ?_));refine wpAny_nsSet1 (s:=⟨h1,s.gens,s.drawn,s.toks+1,s.os⟩) n1 fun h' hn2 hs2=>?_
 obtain ⟨oD,esD,epD,hoD,hdD,hcD⟩:=hn2.count (ns:=[name]) (PySem.Within.cons name v (ns:=[]) fun _ z=>absurd rfl z);refine wpAny_bind (wpAny_lookBehind hoD (by rw [hdD];exact pastItsLine_dict (Nat.le_trans hcD (by show 1≤_;decide))) ?_);refine wpAny_pure (zq h' s.heap.objs.size (Heap.get?_none_of_le (Nat.le_refl _)) (fun b o nb eb=>?_) ?_ hn2)
 · exact (hs2.2 b (Nat.ne_of_lt (Heap.lt_size eb))).trans (gO b o nb eb)
 · exact (hs2.2 e ne).trans gE
end
end L2
namespace L2
open PySem PySem.Spec PyProof.Rows Builtin Builtin.ObjectAttr PySem.W
abbrev excD (C t dx:Addr):Obj:={ excB C t with dict:=some dx }
section
variable {prog:Program}{w:World}{A:Around}{E:Value→Shared→Prop}{s:Shared}{K:Frag}{C e ta dx:Addr}{name:Str}{v:Value}
end
end L2
namespace L2
open PySem PySem.Spec PyProof.Rows
structure XMk (K:PySem.W.Frag)(C M f:Addr):Prop where
 lk:∃ (nm q:Str) (N:Addr) (bs:List Value) (hd:Bool) (sn:List Str) (sub:List Value) (ab:Bool) (col:Option Bool) (dd:Option Addr) (k0 k1 k2 k3 k5:Option Value),K.lookup C=some (excClassObj nm q C N bs (.ref M::bmVal) hd sn sub ab col dd k0 k1 k2 k3 k5 "ValueError.__new__")
 lkM:∃ (nm q:Str) (N:Addr) (bs:List Value) (hd:Bool) (sn:List Str) (sub:List Value) (ab:Bool) (col:Option Bool) (dd:Option Addr) (k0 k1 k2 k3 k5:Option Value),K.lookup M=some (excClassObj nm q M N bs bmVal hd sn sub ab col dd k0 k1 k2 k3 k5 "ValueError.__new__")
 m:XCls K M
 init:PySem.W.findIn K (.ref C) "__init__"=some (some (.ref f))
 fn:PySem.W.typeIn K (.ref f)=some (.type "function")
 kp:PySem.W.keepIn K (.ref C)=true
theorem XMk.tail {K:PySem.W.Frag}{C M f:Addr}{h:Heap}(x:XMk K C M f)(X:K.In h):OwnTail h bmVal (.ref M::bmVal):=by
 obtain ⟨nm,q,N,bs,hd,sn,sub,ab,col,dd,k0,k1,k2,k3,k5,lkM⟩:=x.lkM;obtain ⟨nm',q',N',bs',bm',hd',sn',sub',ab',col',dd',j0,j1,j2,j3,j5,mN,hM,hN,hni,T⟩:=x.m.obj X;have e:=X _ _ lkM;rw [hM] at e;unfold excClassObj at e;injection e with e
 injection e with e1 e2 e3 e4
 injection e3 with e3
 injection e3 with f1 f2 f3 f4
 injection f3 with f5 f6
 subst f6;exact .own hM hN hni T
section
variable {X:Cx}{C M f:Addr}{fd:FuncData}{k:Nat}{ps:List Str}{sp:Sp}{E:XK}{CX:CXT}{x:Str}{p pos:Pos}{e:Expr}{es:List Expr}{t:TA}
theorem fn_obj {K:PySem.W.Frag}{h:Heap}(X:K.In h)(e:PySem.W.typeIn K (.ref f)=some (.type "function")):∃ o,h.get? f=some o∧o.cls=.type "function":=by unfold PySem.W.typeIn at e;obtain ⟨o,h1,h2⟩:=Option.map_eq_some_iff.mp e;exact ⟨o,X _ _ h1,h2⟩
def MakeX (P:Program)(w:World)(K:PySem.W.Frag)(mg:Str→Option Value)(base:Heap)(x:Str)(C:Addr)(ps:List Str)(k:Nat)(sp:Sp):Prop :=
 mg x=some (.ref C)∧∃ M f fd,XMk K C M f∧FnOk P w K mg base CX0 k f fd ps sp∧Binds K fd ps []
structure XIni (K:PySem.W.Frag)(M:Addr):Prop where
 sp:PySem.W.specialIn K (.ref M) "__getattribute__"=some (some (.builtin "type.__getattribute__"))
 rd:PySem.W.readsIn K M (.type "type")=true
 fc:PySem.W.findCls K (.ref M) (.type "type") "__init__"=some (.val (.builtin "ValueError.__init__"))
def rIniX (K:PySem.W.Frag):List V→Hp→VK→Prop:=fun xs H Q=>∃ (e C M f:Addr) (v:V),xs=[.ref e,v]∧H e=some (excO e C)∧XMk K C M f∧Q .non H
theorem upd_id {H:Hp}{a:Addr}{o:HO}(h:H a=some o):upd H a o=H:=by
 funext b;by_cases c:b=a
 · rw [c,Zad,h]
 · exact Zah c
theorem ZkI (K:PySem.W.Frag)(hK:X.K=K:=by rfl):CallR X (.builtin "ValueError.__init__") (rIniX K):=by
 subst hK;intro pins s σ H xs us Q I r h;obtain ⟨e,C,M,f,v,rfl,he,xm,q⟩:=h;obtain ⟨nm,qq,N,bs,hd,sn,sub,ab,col,dd,k0,k1,k2,k3,k5,lk⟩:=xm.lk;obtain ⟨⟨t,ge⟩,_,_⟩:=(show ObjOk X.prog X.w H s.heap e (excO e C) from I.hok _ _ he)
 cases r with
 | cons r1 r2 =>
   cases r1;cases r2 with
   | cons r3 r4 =>
     cases r4;obtain ⟨h0,g,d,tk,os⟩:=s;refine Zfs PySem.F.excBase_ValueError (xm.tail I.kIn) (I.kIn _ _ lk) ge (fun h' tb kp ge'=>?_) (by show 1≤sizeLine;decide);have I2:=I.write (x:=e) (e:=e) (o:=excO e C) (t':=tk) (h':=h') (by rw [he];exact True.intro) (.inl rfl) kp ⟨_,ge'⟩ (ZiJ ge');rw [upd_id he] at I2;exact ⟨.non,H,I2,rfl,q⟩
theorem pe_iniX {m:Str}{r:List V→Hp→VK→Prop}{id:String}{pl:Sem Bool}{apos:Pos}(hc:CallR X (.builtin id) r)(hg:Gl X x)(hm:X.mg x=some (.ref M))(sp:PySem.W.specialIn X.K (.ref M) "__getattribute__"=some (some (.builtin "type.__getattribute__")))(rd:PySem.W.readsIn X.K M (.type "type")=true)(fc:PySem.W.findCls X.K (.ref M) (.type "type") m=some (.val (.builtin id)))(hh:PySem.W.handedIn (.builtin id)=true)
   (ha:PA X (e::es) t) (hdb:(x==("__debug__":Str))=false:=by decide) (he:starEach (e::es) X.env=(false,eval e X.env)::starEach es X.env:=by rfl) (hpl:(backTo pos (starEach es X.env)).any (·.1)=false:=by rfl)
   (ht:eval (.Call (.Attribute (.Name x p) m apos) (e::es) [] pos) X.env=(do
     let ov ← eval (.Name x p) X.env
     standAt apos.atName
     let (f,first) ← holding [ov] (getMethod ov m pl)
     callWith pos f first (backTo pos (starEach (e::es) X.env)) (backToKw pos (keywordEach [] X.env))):=by rfl) :
   PE X (.Call (.Attribute (.Name x p) m apos) (e::es) [] pos) (tCB r t):=by
 intro pins s σ H Q I h;refine PySem.W.methodCall_KW (pl:=pl) (ZbI I hg hm ?_ hdb) ht;refine PySem.W.method_cls I.kIn sp (PySem.W.cls_value I.kIn rd fc hh ?_);exact PyProof.Rows.callWith_builtin1 (thn (ha pos pins _ σ H _ (I.tok _) h) fun us s1 ⟨vs,H1,I1,r1,q1⟩=>hc pins s1 σ H1 vs us Q I1 r1 q1) he hpl
end
end L2
namespace L2
open PySem PySem.Spec PyProof.Rows
def excH (e C dx:Addr):HO:=.ext fun h=>∃ t,h.get? e=some (excD C t dx)
theorem excH_ok {P:Program}{w:World}{H:Hp}{h:Heap}{e C t dx:Addr}(q:h.get? e=some (excD C t dx)):ObjOk P w H h e (excH e C dx) :=
 ⟨⟨t,q⟩,⟨_,q⟩,fun h1 h2 ⟨t1,e1⟩ k=>⟨t1,k _ e1⟩⟩
section
variable {X:Cx}{o value:Expr}{f:Str}{ta tv:TE}{pos pos':Pos}
def sFldX (K:PySem.W.Frag)(ta tv:TE)(f:Str):TS:=fun D σ H=>tv σ H fun y H1=>ta σ H1 fun x H2=>∃ e C M,x=.ref e∧H2 e=some (excO e C)∧XFld K C M∧PySem.W.findIn K (.ref C) f=some none∧∀ dx,H2 dx=none→dx≠e→D.nx σ (upd (upd H2 dx (.xd [(f,y)])) e (excH e C dx))
theorem Zhw {K:PySem.W.Frag}{D:Ends}{σ:St}{H:Hp}:sFldX K ta tv f D σ H=tv σ H fun y H1=>ta σ H1 fun x H2=>∃ e C M,x=.ref e∧H2 e=some (excO e C)∧XFld K C M∧PySem.W.findIn K (.ref C) f=some none∧∀ dx,H2 dx=none→dx≠e→D.nx σ (upd (upd H2 dx (.xd [(f,y)])) e (excH e C dx)):=rfl
theorem ps_fldX (K:PySem.W.Frag)(ha:PE X o ta)(hv:PE X value tv)(hs:swapsWith value (some (.Attribute o f pos')) pos.line X.env=pure false:=by rfl)(hK:X.K=K:=by rfl):PS X (.Assign [.Attribute o f pos'] value pos) (sFldX K ta tv f):=by
 subst hK;intro pins s σ H D I h;refine plainObj_wpAny_Assign_Attribute (thn (hv pins s σ H _ I h) fun u s1 ⟨y,H1,I1,ry,q⟩=>thn (ha pins s1 σ H1 _ I1 q) fun ov s2 ⟨x,H2,I2,rx,e,C,M,ex,ee,Z,nf,q2⟩=>?_) hs;subst ex;obtain rfl:ov=Value.ref e:=rx;obtain ⟨⟨t,ge⟩,_,_⟩:=(show ObjOk X.prog X.w H2 s2.heap e (excO e C) from I2.hok _ _ ee)
 refine exc_set I2.kIn Z ge nf fun h' dx ndx kp ge' ns=>?_
 have hdx:H2 dx=none:=I2.hok.free ndx;have ne:dx≠e:=fun z=>by rw [z,ge] at ndx;cases ndx
 have gm:(h'.update e fun _=>excB C t).get? e=some (excB C t):=by rw [Heap.get?_update_self _ ge' rfl]
 have gm':∀ b,b≠e→(h'.update e fun _=>excB C t).get? b=h'.get? b:=fun b nb=>Heap.get?_update_other _ _ (Ne.symm nb)
 generalize h'.update e (fun _=>excB C t)=hm at gm gm';have I3:=I2.laid0 (h':=hm) (a:=dx) (o:=.xd [(f,y)]) (t':=s2.toks) (fun b v eb=>?_) ndx ?_
 · have I4:=I3.write (x:=e) (e:=e) (o:=excH e C dx) (h':=h') (t':=s2.toks+2) (by rw [Zah (Ne.symm ne),ee];exact True.intro) (.inl rfl) (fun b v nb eb=>by rw [gm' b nb] at eb;exact eb) ⟨_,ge'⟩ (excH_ok ge')
   exact ⟨σ,_,I4,q2 dx hdx ne⟩
 · by_cases c:b=e
   · subst c
     rw [ge] at eb;cases eb;exact gm
   · rw [gm' b c]
     exact kp b v c eb
 · refine ⟨_,ns.at (fun o eo=>by rw [gm' dx ne];exact eo),fun g=>?_⟩
   show RelO (List.lookup g [(f,y)]) (if g=f then some u else none);by_cases c:g=f
   · subst c
     rw [if_pos rfl,List.lookup_cons,beq_self_eq_true];exact ry
   · have:(g==f)=false:=by simpa using c
     rw [if_neg c,List.lookup_cons,this];exact True.intro
end
end L2
namespace L2
open PySem PySem.Spec PyProof.Rows
section
variable {X:Cx}{C:Addr}{x:Str}{p pos:Pos}{e:Expr}{es:List Expr}{t:TA}
end
def MakerX (K:PySem.W.Frag)(C:Addr)(qual:Str)(st:Stmt)(ps:List Str):Prop:=∃ M f fd,Fun K "__init__" qual st f fd∧XMk K C M f∧Binds K fd ps []
section
variable {P:Program}{w:World}{K:PySem.W.Frag}{mg:Str→Option Value}{base:Heap}
theorem MakeX.of {x:Str}{C:Addr}{qual:Str}{st:Stmt}{N ps:List Str}{k:Nat}{sp:Sp}(hx:mg x=some (.ref C))(d:MakerX K C qual st ps)(S:FnScope N ps (defScope st))(len:∀ vs H Q E,sp vs H Q E→vs.length=ps.length)
   (hbody:∀ (f:Addr) (cdv:Value) (A:Around) (outer:List Env) (s:Shared) (H:Hp) (vs:List V) (Q:VK) (E:XK),Room k (A.deeper (envOfC qual (defScope st) s.heap.objs.size f cdv))→sp vs H Q E →
     ∃ t,PSs (cxOf CX0 P w K mg base N qual (defScope st) f cdv A outer s H E).nox (defBody st) t∧t { nx:=fun _ H'=>Q .non H',rt:=Q } (start N vs) H):MakeX P w K mg base x C ps (k+1) sp:=by
 obtain ⟨M,f,fd,F,m,b⟩:=d;exact ⟨hx,M,f,fd,m,F.ok S len (hbody f),b⟩
theorem Zkp {C M:Addr}{qual:Str}{st:Stmt}{ps:List Str}{f:Addr}{oc:Value}{od an:Option Addr}{osl:Array (Option Value)}{kV doc pm cdv ct:Value}
   (l:K.lookup f=some ⟨oc,od,.func (PySem.W.fnOf "__init__" qual (defArgs st) (defBody st) (defScope st) .none kV doc pm an cdv ct),osl⟩) (c:PySem.W.codeIn K cdv qual=true) (k:PySem.W.keepIn K (.ref f)=true)
   (mk:XMk K C M f)
   (hb:∀ (kV doc pm:Value) (an:Option Addr) (cdv ct:Value) (us:List Value),us.length=ps.length→bindArgs (PySem.W.fnOf "__init__" qual (defArgs st) (defBody st) (defScope st) .none kV doc pm an cdv ct) ⟨us,[]⟩=pure (ps.zip us)):MakerX K C qual st ps :=
 ⟨M,f,_,Zci l c k,mk,(Zci l c k).binds hb⟩
end
end L2
namespace L2
open PySem PySem.Spec PyProof.Rows
inductive KD {α:Type}:Sem α→Prop
 | pure (a:α):KD (.pure a)
 | uns (w:String):KD (.unsupported w)
 | at (p:Pos) {k:Unit→Sem α} (h:∀ u,KD (k u)):KD (.at p k)
 | load (a:Addr) (q:Option Value) {k:Obj→Sem α} (h:∀ o,KD (k o)):KD (.load a q k)
 | upd (a:Addr) (q:Option Value) {f:Obj→Obj} {k:Unit→Sem α} (hf:∀ o,(f o).dict=o.dict∧(o.data≠.freed→(f o).data≠.freed)) (h:∀ u,KD (k u)):KD (.update a q f k)
 | alive (a:Addr) {k:Option Obj→Sem α} (h:∀ o,KD (k o)):KD (.loadIfAlive a k)
 | alloc (o:Obj) {k:Addr→Sem α} (h:∀ a,KD (k a)):KD (.alloc o k)
 | ask {k:Setting→Sem α} (h:∀ a,KD (k a)):KD (.ask k)
 | stack {k:List (Code × Pos)→Sem α} (h:∀ a,KD (k a)):KD (.stack k)
 | thread {k:Nat→Sem α} (h:∀ a,KD (k a)):KD (.thread k)
section
variable {α β:Type}
theorem ZaJ {m:Sem α}{f:α→Sem β}(h:KD m)(g:∀ a,KD (f a)):KD (m >>= f):=by
 show KD (m.bind f);induction h with
 | pure a=>exact g a
 | uns w=>exact .uns w
 | «at» p h ih=>exact .at p fun u=>ih u
 | load a q h ih=>exact .load a q fun u=>ih u
 | upd a q hf h ih=>exact .upd a q hf fun u=>ih u
 | alive a h ih=>exact .alive a fun u=>ih u
 | alloc o h ih=>exact .alloc o fun u=>ih u
 | ask h ih=>exact .ask fun u=>ih u
 | stack h ih=>exact .stack fun u=>ih u
 | thread h ih=>exact .thread fun u=>ih u
def DictAt (h:Heap)(e:Addr)(d:Option Addr):Prop:=∃ o,h.get? e=some o∧o.dict=d
theorem DictAt.push {h:Heap}{e:Addr}{d:Option Addr}{o:Obj}(x:DictAt h e d):DictAt (h.push o) e d:=let ⟨u,e1,e2⟩:=x;⟨u,Heap.get?_push_of_some _ e1,e2⟩
theorem get_data {h:Heap}{e:Addr}{o:Obj}(x:h.get? e=some o):o.data≠.freed:=fun z=>by
 unfold Heap.get? at x;split at x
 · cases x
 · rename_i hn
   obtain ⟨c,dd,da,sl⟩:=o;cases z;exact hn c dd sl x
theorem DictAt.upd {h:Heap}{e a:Addr}{d:Option Addr}{f:Obj→Obj}(x:DictAt h e d)(hf:∀ o,(f o).dict=o.dict∧(o.data≠.freed→(f o).data≠.freed)):DictAt (h.update a f) e d:=by
 obtain ⟨u,e1,e2⟩:=x;by_cases c:a=e
 · subst c
   have nf:=(hf u).2 (get_data e1);refine ⟨f u,Heap.get?_update_self f e1 ?_,(hf u).1.trans e2⟩;generalize f u=z at nf;obtain ⟨c,dd,da,sl⟩:=z;cases da<;>first | (exact absurd rfl nf) | rfl
 · exact ⟨u,(Heap.get?_update_other _ _ c).trans e1,e2⟩
theorem wp_kd {M:Model}{Γ:PySem.Ctx}{e:Addr}{d:Option Addr}{t:Sem α}(k:KD t){Q:α→Pos→Shared→Prop}{E:Value→Pos→Shared→Prop}{p:Pos}{s:Shared}(h:Sem.wp M Γ t Q E p s)(x:DictAt s.heap e d) :
   Sem.wp M Γ t (fun a p s'=>Q a p s'∧DictAt s'.heap e d) (fun v p s'=>E v p s'∧DictAt s'.heap e d) p s:=by
 induction k generalizing p s with
 | pure a=>rw [Sem.wp_pure] at h ⊢;exact ⟨h,x⟩
 | uns w=>rw [Sem.wp_unsupported] at h;exact h.elim
 | «at» q hk ih=>rw [Sem.wp_at] at h ⊢;exact ih () h x
 | load a q hk ih =>
   rw [Sem.wp_load] at h ⊢;obtain ⟨o,h1,h2⟩:=h;exact ⟨o,h1,ih o h2 x⟩
 | upd a q hf hk ih =>
   rw [Sem.wp_update] at h ⊢;exact ⟨h.1,ih () h.2 (x.upd hf)⟩
 | alive a hk ih=>rw [Sem.wp_loadIfAlive] at h ⊢;exact ih _ h x
 | alloc o hk ih=>rw [Sem.wp_alloc] at h ⊢;exact ih _ h x.push
 | ask hk ih=>rw [Sem.wp_ask] at h ⊢;exact ih _ h x
 | stack hk ih=>rw [Sem.wp_stack] at h ⊢;exact ih _ h x
 | thread hk ih=>rw [Sem.wp_thread] at h ⊢;exact ih _ h x
theorem wp_nr {M:Model}{Γ:PySem.Ctx}{t:Sem α}(k:KD t){Q:α→Pos→Shared→Prop}{E E':Value→Pos→Shared→Prop}{p:Pos}{s:Shared}(h:Sem.wp M Γ t Q E p s):Sem.wp M Γ t Q E' p s:=by
 induction k generalizing p s with
 | pure a=>rw [Sem.wp_pure] at h ⊢;exact h
 | uns w=>rw [Sem.wp_unsupported] at h;exact h.elim
 | «at» q hk ih=>rw [Sem.wp_at] at h ⊢;exact ih () h
 | load a q hk ih =>
   rw [Sem.wp_load] at h ⊢;obtain ⟨o,h1,h2⟩:=h;exact ⟨o,h1,ih o h2⟩
 | upd a q hf hk ih =>
   rw [Sem.wp_update] at h ⊢;exact ⟨h.1,ih () h.2⟩
 | alive a hk ih=>rw [Sem.wp_loadIfAlive] at h ⊢;exact ih _ h
 | alloc o hk ih=>rw [Sem.wp_alloc] at h ⊢;exact ih _ h
 | ask hk ih=>rw [Sem.wp_ask] at h ⊢;exact ih _ h
 | stack hk ih=>rw [Sem.wp_stack] at h ⊢;exact ih _ h
 | thread hk ih=>rw [Sem.wp_thread] at h ⊢;exact ih _ h
theorem ZcC {M:Model}{A:Around}{e:Addr}{d:Option Addr}{t:Sem α}(k:KD t){Q:α→Shared→Prop}{E:Value→Shared→Prop}{s:Shared}(h:wpAny M A t Q E s)(x:DictAt s.heap e d) :
   wpAny M A t (fun a s'=>Q a s'∧DictAt s'.heap e d) (fun v s'=>E v s'∧DictAt s'.heap e d) s:=fun Γ p hΓ=>wp_kd k (h Γ p hΓ) x
end
theorem Zgp (a:Addr):KD (load a):=.load a none .pure
theorem Zfl:KD stack:=.stack .pure
theorem ZgM (v:Value):KD (fieldsOf v):=by
 unfold fieldsOf;split
 · refine ZaJ (Zgp _) fun o=>?_
   split
   · exact .pure _
   · exact .uns _
 · exact .uns _
theorem Zdg (v:Value)(i:Nat):KD (field v i):=by
 unfold field;refine ZaJ (ZgM v) fun a=>?_
 split
 · exact .pure _
 · exact .uns _
theorem ZgH {f:Array Value→Array Value}(o:Obj):(Obj.mapFields f o).dict=o.dict∧(o.data≠.freed→(Obj.mapFields f o).data≠.freed):=by obtain ⟨c,d,da,sl⟩:=o;cases da<;>exact ⟨rfl,fun h=>by first | exact h | (intro z;cases z)⟩
theorem Zcv (v:Value)(i:Nat)(x:Value):KD (setField v i x):=by
 unfold setField;split
 · unfold updateField
   refine ZaJ (Zgp _) fun o=>?_
   split
   · split
     · exact .upd _ _ ZgH .pure
     · exact .uns _
   · exact .uns _
 · exact .uns _
theorem Zb7 (v:Value)(f:Option Addr):KD (setFlight v f):=by
 unfold setFlight;refine ZaJ (Zdg v 1) fun a=>?_
 split
 · exact Zcv _ _ _
 · exact .pure _
theorem kd_back (env:Env)(b:Bool)(l:List Env):KD (keptBack env b l):=by
 unfold keptBack;split
 · split
   · exact .pure _
   · unfold underTheClaimsCaller
     exact ZaJ (ZaJ Zfl fun _=>.pure _) fun _=>.pure _
 · exact .pure _
theorem ZjZ (env:Env)(l:List Env):KD (behindIsImport env l):=by
 unfold behindIsImport;split
 · exact .pure _
 · split
   · exact .pure _
   · exact ZaJ (Zdg _ _) fun _=>.pure _
theorem ZhL:∀ l:List Env,KD (readyFrames l)
 | []=>.pure _
 | env::outer=>by
   unfold readyFrames;split
   · refine ZaJ (Zgp _) fun o=>?_
     split
     · exact .pure _
     · exact ZaJ (ZjZ _ _) fun _=>ZaJ (kd_back _ _ _) fun _=>ZaJ (.upd _ _ (fun o=>⟨rfl,fun h=>h⟩) .pure) fun _=>ZhL outer
   · exact .uns _
theorem ZiA (env:Env):KD (PySem.frameOf env):=by
 unfold PySem.frameOf frameEnvs;refine ZaJ (ZaJ Zfl fun _=>.pure _) fun l=>ZaJ ?_ fun r=>?_
 · unfold frameObject
   split
   · exact .pure _
   · exact ZaJ (ZhL _) fun _=>.pure _
 · split
   · exact .pure _
   · exact .uns _
theorem kd_place (f:Addr)(b:Bool):KD (entryPlaceOf f b):=by
 unfold entryPlaceOf;refine ZaJ Zfl fun l=>?_
 split<;>exact .pure _
theorem kd_entry (a b c d e:Value)(l:List Value):KD (EntryCells.newEntry a b c d e l):=by
 unfold EntryCells.newEntry newFields newObj newObjAsIs;generalize ([a,b,c,d,e]++if l.isEmpty=true then List.replicate 6 Value.none else l)=zs;have j:∀ u:Unit,KD (do
     let z ← PySem.alloc { cls:=Value.type "traceback",data:=Data.fields zs.toArray }
     pure (Value.ref z)):=fun _=>ZaJ (.alloc _ .pure) fun _=>.pure _
 dsimp only;split
 · exact ZaJ (.uns _) fun r=>j r
 · exact j ()
theorem ZgA (e:Value) (env:Env):KD (noteFrame e env):=by
 unfold noteFrame;split
 · refine ZaJ (Zdg _ _) fun h=>?_
   have j:∀ (u:Unit) (f:Addr),KD (do
       let a ← PySem.frameOf env
       let b ← entryPlaceOf f (h != Value.none)
       let c ← EntryCells.newEntry h a Value.none (rawInt f) Value.none b
       setField e 1 c):=fun _ f=>ZaJ (ZiA _) fun _=>ZaJ (kd_place _ _) fun _=>ZaJ (kd_entry _ _ _ _ _ _) fun _=>Zcv _ _ _
   dsimp only;split
   · refine ZaJ (Zdg _ _) fun g=>?_
     split
     · exact .pure _
     · exact ZaJ (Zcv _ _ _) fun r=>j r _
   · exact j () _
 · exact .uns _
theorem Zfe (e:Value)(env:Env):KD (leaving env e):=by unfold leaving;exact ZaJ (ZgA _ _) fun _=>Zb7 _ _
end L2
namespace L2
open PySem PySem.Spec PyProof.Rows
section
variable {X:Cx}{pins:List (Addr × Obj)}{σ:St}{H H':Hp}{s:Shared}{p:Addr}{φ:Heap→Prop}
theorem Inv.drop (I:Inv X pins σ H s)(hp:H p=some (.ext φ)):Inv X pins σ (del H p) s:=by
 have np:∀ b o,H b=some o→(∀ ψ,o≠.ext ψ)→del H p b=some o:=fun b o e n=>by
   rw [Zbn fun z=>by rw [z,hp] at e;cases e;exact n _ rfl];exact e
 have b1:Un X.fs X.ex X.H₀ (del H p) X.s₀.heap s.heap:=⟨I.base.keep,I.base.slot,fun b o e n x=>Zdm (I.base.free b o e n x),I.base.there,fun b ys e=>np b _ (I.base.tups b ys e) (fun _ z=>by cases z),fun b o u e=>np b _ (I.base.frzs b o u e) (fun _ z=>by cases z),fun b ps e=>(I.base.tbls b ps e).imp fun m z=>np b _ z fun _ y=>by cases y⟩
 exact ⟨I.ok,I.os,I.bare,b1,I.loc,I.cell,Zdm I.free,fun x c h=>Zdm (I.freeC x c h),fun q hq=>⟨(I.pin q hq).1,Zdm (I.pin q hq).2.1,(I.pin q hq).2.2⟩,fun a o e=>(I.hok a o (Zbi e).2).stay (fun _ _ _ q=>q) (fun b q=>np b _ q fun _ z=>by cases z) (fun b ys q=>np b _ q fun _ z=>by cases z),I.len⟩
end
def CXD (P:Program)(w:World):CXT:=fun outer H s E e s'=>∃ (ea C:Addr) (a0:Value) (B:Heap) (H':Hp) (dx:Option Addr),
 e=.ref ea∧s'.os=s.os∧AllBare s'.gens∧Un (frs outer) [] H H' s.heap s'.heap∧HOk P w H' s'.heap∧Heap.FlyingW B outer ea (.ref C) a0 s'.heap∧Cov outer s.heap H' B∧DictAt s'.heap ea dx∧E (.ref C) dx H'
section
variable {P:Program}{w:World}{K:PySem.W.Frag}{mg:Str→Option Value}{base:Heap}{N:List Str}{qual:Str}{scope:Scope}{f:Addr}{cd:Value}{A:Around}{outer:List Env}{s0:Shared}{H0:Hp}{E:XK}
theorem passD:Passes (CXD P w) (cxOf (CXD P w) P w K mg base N qual scope f cd A outer s0 H0 E) E:=by
 rintro pins σ H s e s' I ⟨ea,C,a0,B,H',dx,rfl,os,bare,un,hok,fl,c,dd,q⟩;have I':Inv (cxOf (CXD P w) P w K mg base N qual scope f cd A outer s0 H0 E) pins σ H' s':=I.call' os un hok bare fun b hb=>nomatch hb
 have c':Cov (envOfC qual scope s0.heap.objs.size f cd::outer) s0.heap H' B:=⟨fun b o e n=>by
   obtain ⟨o',e'⟩:=I.base.there b o e (fun z=>nomatch z);exact c.old b o' e' n,c.trk⟩
 have go:=ZcC (Zfe (.ref ea) (envOfC qual scope s0.heap.objs.size f cd)) (wpAny_leaves_onW (M:=model P w) (E:=fun _ _=>False) (Q:=fun _ s2=>∃ h',s2={ s' with heap:=h' }∧Heap.FlyingW B outer ea (.ref C) a0 h'∧s'.heap.UpToSlots h') I.ok.frames rfl fl fun h' fl' us=>⟨h',rfl,fl',us⟩) dd;refine wpAny_mono go (fun _ s2 z=>?_) fun _ _ z=>z.1.elim
 obtain ⟨⟨h',rfl,fl',us⟩,d2⟩:=z;obtain ⟨un',hok'⟩:=I'.landed rfl fl'.1 fl.1 c' us;exact ⟨ea,C,a0,B,H',dx,rfl,I'.os,bare,un',hok',fl',⟨fun b o e n=>c'.old b o e (I.frStack e n),c'.trk⟩,d2,q⟩
theorem raiseD {pins:List (Addr × Obj)}{σ:St}{H:Hp}{s:Shared}{ea C dx:Addr}(I:Inv (cxOf (CXD P w) P w K mg base N qual scope f cd A outer s0 H0 E) pins σ H s)(he:H ea=some (excH ea C dx))(nw:s0.heap.get? ea=none)(q:E (.ref C) (some dx) (del H ea)) :
   (cxOf (CXD P w) P w K mg base N qual scope f cd A outer s0 H0 E).xe (.ref ea) s:=by
 obtain ⟨⟨t,ge⟩,_,_⟩:=(show ObjOk P w H s.heap ea (excH ea C dx) from I.hok _ _ he)
 have I':=I.drop he;have hin:∀ env∈(envOfC qual scope s0.heap.objs.size f cd::outer),∀ b,env.frame=some b→b∈ea::frs (envOfC qual scope s0.heap.objs.size f cd::outer):=fun env he b hb=>.tail _ (List.mem_filterMap.mpr ⟨env,he,hb⟩)
 have sB:(PySem.W.hideAll s.heap (ea::frs (envOfC qual scope s0.heap.objs.size f cd::outer))).StaysIn s.heap:=fun b o e=>PySem.W.of_hideAll _ e
 have c:Cov (envOfC qual scope s0.heap.objs.size f cd::outer) s0.heap (del H ea) (PySem.W.hideAll s.heap (ea::frs (envOfC qual scope s0.heap.objs.size f cd::outer))):=⟨fun b o e n=>by
   obtain ⟨o',e'⟩:=I.base.there b o e (fun z=>nomatch z);exact ⟨o',PySem.W.hideAll_get _ e' fun hm=>(List.mem_cons.mp hm).elim (fun z=>by rw [z,nw] at e;cases e) n⟩,fun b u e=>by
   obtain ⟨nb,e⟩:=Zbi e;obtain ⟨o,ho⟩:=(I.hok b u e).there;refine ⟨o,PySem.W.hideAll_get _ ho fun hm=>(List.mem_cons.mp hm).elim nb fun hm=>?_⟩;rw [I.stkFree b hm] at e;cases e⟩
 have go:=ZcC (Zfe (.ref ea) (envOfC qual scope s0.heap.objs.size f cd)) (wpAny_leaving_firstW (M:=model P w) (E:=fun _ _=>False) (a0:=.ref t) (Q:=fun _ s2=>∃ h',s2={ s with heap:=h' }∧Heap.LeftW (PySem.W.hideAll s.heap (ea::frs (envOfC qual scope s0.heap.objs.size f cd::outer))) (envOfC qual scope s0.heap.objs.size f cd::outer) ea (.ref C) (.ref t) s.heap h') I.ok.frames (PySem.W.funFrames_hide I.stack hin) rfl ge sB (PySem.W.hideAll_none _ (.head _)) rfl rfl rfl fun h' hL=>⟨h',rfl,hL⟩) (e:=ea) (d:=some dx) ⟨_,ge,rfl⟩;refine wpAny_mono go (fun _ s2 z=>?_) fun _ _ z=>z.1.elim
 obtain ⟨⟨h',rfl,k1,⟨_,_,k2⟩,k3,k4⟩,d2⟩:=z;obtain ⟨un',hok'⟩:=I'.landed rfl k1 sB c k4;exact ⟨ea,C,.ref t,_,del H ea,some dx,rfl,I'.os,I'.bare,un',hok',⟨k1,PySem.W.hideAll_none _ (.head _),k2,k3⟩,⟨fun b o e n=>c.old b o e (I.frStack e n),c.trk⟩,d2,q⟩
end
end L2
namespace L2
open PySem PySem.Spec PyProof.Rows
section
variable {X:Cx}{C M f:Addr}{fd:FuncData}{k:Nat}{ps:List Str}{sp:Sp}{E:XK}{CX:CXT}
theorem Zkk {pins:List (Addr × Obj)}{σ:St}{H:Hp}{s:Shared}{Q:Addr→Hp→Prop}{us:List Value}{vs:List V}(hex:X.ex=[])(x:XMk X.K C M f)(F:FnOk X.prog X.w X.K X.mg X.base CX k f fd ps sp)(hr:Room (k+1) X.A)(hb:Binds X.K fd ps [])(hx:Passes CX X E)(I:Inv X pins σ H s)(r:Vals vs us)(hl:vs.length≤1000)
   (h:∀ e,H e=none→sp (.ref e::vs) (upd H e (excO e C)) (fun v H2=>v=.non∧Q e H2) E) :
   wpAny (model X.prog X.w) X.A (call (.ref C) us) (fun v s'=>∃ e H',v=.ref e∧X.s₀.heap.get? e=none∧Inv X pins σ H' s'∧Q e H') X.xe s:=by
 obtain ⟨nm,q,N,bs,hd,sn,sub,ab,col,dd,k0,k1,k2,k3,k5,lk⟩:=x.lk;obtain ⟨oI,hf,hfc⟩:=fn_obj I.kIn x.fn;obtain ⟨h0,g,d,tk,os⟩:=s;refine ZeU PySem.F.excBase_ValueError (by decide +kernel) PySem.F.excBase_ValueError (x.tail I.kIn) I.kIn (I.kIn _ _ lk) x.init hf hfc (fun h' e m=>?_) (by rw [← r.length];exact Nat.le_trans hl (by decide));obtain ⟨t,e1,_,_⟩:=m.there;have nw:X.s₀.heap.get? e=none:=by
   cases z:X.s₀.heap.get? e with
   | none=>rfl
   | some o =>
     obtain ⟨o',e'⟩:=I.base.there e o z (by rw [hex];exact fun y=>nomatch y);have:h0.get? e=none:=m.new;rw [show h0.get? e=some o' from e'] at this;cases this
 have hq:=h e (I.hok.free m.new);have I2:=I.laid0 (t':=tk) m.keeps m.new (ZiJ (C:=C) e1);have r2:Vals (V.ref e::vs) (Value.ref e::us):=.cons rfl r;have hl2:(Value.ref e::us++[]).length=ps.length:=by rw [List.append_nil,← F.len _ _ _ _ hq];exact r2.length.symm
 refine wpAny_call (codeAny_mono (F.run _ X.stack _ _ ⟨Value.ref e::us,[]⟩ (Value.ref e::us) _ _ E (hr.make C us []) (I2.env0.make C us []) (by have z:=hb _ (Value.ref e::us) I2.kIn hl2;rw [List.append_nil] at z;exact z) r2 hq) fun r s' hq'=>?_);cases r with
 | error e=>exact hx pins σ _ _ e s' I2 hq'
 | ok fl =>
   cases fl with
   | ret u =>
     obtain ⟨v,H',I3,rv,ev,q3⟩:=I2.after hq';subst ev;exact ⟨rv,⟨e,H',rfl,nw,I3,q3⟩⟩
   | next=>exact False.elim hq'
   | brk=>exact False.elim hq'
   | cont=>exact False.elim hq'
end
section
variable {P:Program}{w:World}{A:Around}{E:Value→Shared→Prop}{s:Shared}{env:Env}
variable {nm q:Str}{C N:Addr}{bs bm:List Value}{hdc:Bool}{sn:List Str}{sub:List Value}{ab:Bool}{col:Option Bool}{dd:Option Addr}{k0 k1 k2 k3 k5:Option Value}{newId:String}
theorem ZiC {x:Sem Value}{Q:Flow→Shared→Prop}(zb:bm.contains (.type "BaseException")=true)(zh:A.handled=none)
   (h:wpAny (model P w) A x (fun v z=>∃ e t dx,v=.ref e∧z.heap.get? C=some (excClassObj nm q C N bs bm hdc sn sub ab col dd k0 k1 k2 k3 k5 newId)∧z.heap.get? e=some (excD C t dx)∧E (.ref e) z) E s) :
   wpAny (model P w) A (raiseStmt env (some x) none) Q E s:=by
 have zc:(Value.ref C::bm).contains (.type "BaseException")=true:=by rw [List.contains_cons,zb,Bool.or_true]
 unfold raiseStmt;refine wpAny_bind (wpAny_mono h (fun v z hz=>?_) fun _ _ y=>y);obtain ⟨e,t,dx,rfl,gC,ge,hE⟩:=hz;obtain ⟨hp,g,d,tk,os⟩:=z
 repeat (first | with_reducible refine wpAny_loadPart_at ge ?_ | with_reducible refine wpAny_loadPart_at gC ?_ | (with_reducible refine wpAny_isSubtype_exc gC ?_;rw [zc]) | wp_step)
 exact wpAny_raiseNew_none zh hE
end
end L2
namespace L2
open PySem PySem.Spec PyProof.Rows
section
variable {P:Program}{w:World}{K:PySem.W.Frag}{mg:Str→Option Value}{base:Heap}{N:List Str}{qual:Str}{scope:Scope}{f:Addr}{cd:Value}{A:Around}{outer:List Env}{s0:Shared}{H0:Hp}{E:XK}
abbrev cxD (P:Program)(w:World)(K:PySem.W.Frag)(mg:Str→Option Value)(base:Heap)(N:List Str)(qual:Str)(scope:Scope)(f:Addr)(cd:Value)(A:Around)(outer:List Env)(s0:Shared)(H0:Hp)(E:XK):Cx:=cxOf (CXD P w) P w K mg base N qual scope f cd A outer s0 H0 E
def tRaiseX (C:Addr)(sp:Sp)(E:XK)(t:TA):TS:=fun _ σ H=>t σ H fun vs H1=>vs.length≤1000∧∀ ea,H1 ea=none→sp (.ref ea::vs) (upd H1 ea (excO ea C)) (fun v H2=>v=.non∧∃ dx,H2 ea=some (excH ea C dx)∧E (.ref C) (some dx) (del H2 ea)) E0
theorem Zem {x:Str}{C:Addr}{ps:List Str}{k:Nat}{sp:Sp}{e:Expr}{es:List Expr}{t:TA}{np cpos pos:Pos}(F:MakeX P w K mg base x C ps k sp)(hr:Room (k+1) (A.deeper (envOfC qual scope s0.heap.objs.size f cd)))(hg:Gl (cxD P w K mg base N qual scope f cd A outer s0 H0 E) x)(ha:PA (cxD P w K mg base N qual scope f cd A outer s0 H0 E) (e::es) t)
   (hdb:(x==("__debug__":Str))=false:=by decide) (he:starEach (e::es) (cxD P w K mg base N qual scope f cd A outer s0 H0 E).env=(false,eval e (cxD P w K mg base N qual scope f cd A outer s0 H0 E).env)::starEach es (cxD P w K mg base N qual scope f cd A outer s0 H0 E).env:=by rfl) (hpl:(backTo cpos (starEach es (cxD P w K mg base N qual scope f cd A outer s0 H0 E).env)).any (·.1)=false:=by rfl) :
   PS (cxD P w K mg base N qual scope f cd A outer s0 H0 E) (.Raise (some (.Call (.Name x np) (e::es) [] cpos)) none pos) (tRaiseX C sp E t):=by
 obtain ⟨hm,M,f',fd,xm,F,b⟩:=F;intro pins s σ H D I h;obtain ⟨nm,q,Nn,bs,hd,sn,sub,ab,col,dd,k0,k1,k2,k3,k5,lk⟩:=id xm.lk;have zb:(Value.ref M::bmVal).contains (.type "BaseException")=true:=by rw [List.contains_cons,show bmVal.contains (.type "BaseException")=true by decide +kernel,Bool.or_true]
 rw [arm_exec_Raise];refine wpAny_bind (wpAny_standAt (ZiC (C:=C) (nm:=nm) (q:=q) (N:=Nn) (bs:=bs) (hdc:=hd) (sn:=sn) (sub:=sub) (ab:=ab) (col:=col) (dd:=dd) (k0:=k0) (k1:=k1) (k2:=k2) (k3:=k3) (k5:=k5) (newId:="ValueError.__new__") zb (I.ok.hd rfl) (wpAny_bind ?_)));refine wpAny_Call_Name_kw (ZbI I hg hm ?_ hdb);refine PySem.W.callWith_K (h₀:=base) I.ok.mod.kin xm.kp (thn (ha cpos pins s σ H _ I h) fun us s1 ⟨vs,H1,I1,r,hl,q⟩=>⟨I1.kIn,?_⟩) he hpl;refine thn (Zkk rfl xm F hr b pass0 I1 r hl q) fun v s2 ⟨ea,H2,ev,nw,I2,dx,hd2,q2⟩=>?_
 subst ev;obtain ⟨⟨t',ge⟩,_,_⟩:=(show ObjOk P w H2 s2.heap ea (excH ea C dx) from I2.hok _ _ hd2)
 exact wpAny_bind (wpAny_standAt (wpAny_pure ⟨ea,t',dx,rfl,I2.kIn _ _ lk,ge,raiseD I2 hd2 nw q2⟩))
end
def MethR (P:Program)(w:World)(K:PySem.W.Frag)(mg:Str→Option Value)(base:Heap)(C:Addr)(m:Str)(ps:List Str)(k:Nat)(sp:Sp):Prop :=
 Cls K C∧∃ f fd,Meth K C m f∧FnOk P w K mg base (CXD P w) k f fd ps sp∧Binds K fd ps []
def FnR (P:Program)(w:World)(K:PySem.W.Frag)(mg:Str→Option Value)(base:Heap)(x:Str)(ps:List Str)(k:Nat)(sp:Sp):Prop :=
 ∃ f fd,FnOk P w K mg base (CXD P w) k f fd ps sp∧mg x=some (.ref f)∧PySem.W.keepIn K (.ref f)=true∧Binds K fd ps []
section
variable {P:Program}{w:World}{K:PySem.W.Frag}{mg:Str→Option Value}{base:Heap}
theorem MethR.of {C:Addr}{m qual:Str}{st:Stmt}{N ps:List Str}{k:Nat}{sp:Sp}(c:Cls K C)(d:MDefAt K C m qual st ps)(S:FnScope N ps (defScope st))(len:∀ vs H Q E,sp vs H Q E→vs.length=ps.length)
   (hbody:∀ (f:Addr) (cdv:Value) (A:Around) (outer:List Env) (s:Shared) (H:Hp) (vs:List V) (Q:VK) (E:XK),Room k (A.deeper (envOfC qual (defScope st) s.heap.objs.size f cdv))→sp vs H Q E →
     ∃ t,PSs (cxD P w K mg base N qual (defScope st) f cdv A outer s H E) (defBody st) t∧t { nx:=fun _ H'=>Q .non H',rt:=Q } (start N vs) H):MethR P w K mg base C m ps (k+1) sp:=by
 obtain ⟨f,fd,F,m,b⟩:=d;obtain ⟨oc,od,kV,doc,pm,an,cdv,ct,osl,rfl,lk,hcd⟩:=F.ex;exact ⟨c,f,_,m,fn_of lk hcd S len (hbody f cdv),b⟩
theorem FnR.of {x:Str}{st:Stmt}{N ps:List Str}{k:Nat}{sp:Sp}(d:DefAt K mg x st ps)(S:FnScope N ps (defScope st))(len:∀ vs H Q E,sp vs H Q E→vs.length=ps.length)
   (hbody:∀ (f:Addr) (cdv:Value) (A:Around) (outer:List Env) (s:Shared) (H:Hp) (vs:List V) (Q:VK) (E:XK),Room k (A.deeper (envOfC x (defScope st) s.heap.objs.size f cdv))→sp vs H Q E →
     ∃ t,PSs (cxD P w K mg base N x (defScope st) f cdv A outer s H E) (defBody st) t∧t { nx:=fun _ H'=>Q .non H',rt:=Q } (start N vs) H):FnR P w K mg base x ps (k+1) sp:=by
 obtain ⟨f,fd,F,m,b⟩:=d;have kp:=F.kp;obtain ⟨oc,od,kV,doc,pm,an,cdv,ct,osl,rfl,lk,hcd⟩:=F.ex;exact ⟨f,_,fn_of lk hcd S len (hbody f cdv),m,kp,b⟩
theorem FnOk.calmD {k:Nat}{f:Addr}{fd:FuncData}{ps:List Str}{sp:Sp}(F:FnOk P w K mg base (CXD P w) k f fd ps sp):FnOk P w K mg base CX0 k f fd ps (fun vs H Q _=>sp vs H Q E0) :=
 ⟨fun vs H Q _ h=>F.len vs H Q E0 h,fun A outer s H args us vs Q _ hr he hb hv hs=>codeAny_mono (F.run A outer s H args us vs Q E0 hr he hb hv hs) fun r s' hq=>by
   cases r with
   | error e=>obtain ⟨_,_,_,_,_,_,_,_,_,_,_,_,_,_,q⟩:=hq;exact q.elim
   | ok fl=>cases fl<;>exact hq⟩
theorem FnR.calm {x:Str}{ps:List Str}{k:Nat}{sp:Sp}(h:FnR P w K mg base x ps k sp):FnAt P w K mg base x ps k (fun vs H Q _=>sp vs H Q E0):=by obtain ⟨f,fd,F,m,kp,b⟩:=h;exact ⟨f,fd,F.calmD,m,kp,b⟩
variable {N:List Str}{qual:Str}{scope:Scope}{f:Addr}{cd:Value}{A:Around}{outer:List Env}{s0:Shared}{H0:Hp}{E:XK}
theorem Za8 {x:Str}{ps:List Str}{k:Nat}{sp:Sp}{e:Expr}{es:List Expr}{t:TA}{p pos:Pos}(F:FnR P w K mg base x ps k sp)(hr:Room k (A.deeper (envOfC qual scope s0.heap.objs.size f cd)))(hg:Gl (cxD P w K mg base N qual scope f cd A outer s0 H0 E) x)(ha:PA (cxD P w K mg base N qual scope f cd A outer s0 H0 E) (e::es) t)
   (hdb:(x==("__debug__":Str))=false:=by decide) (he:starEach (e::es) (envOfC qual scope s0.heap.objs.size f cd)=(false,eval e (envOfC qual scope s0.heap.objs.size f cd))::starEach es (envOfC qual scope s0.heap.objs.size f cd):=by rfl) (hpl:(backTo pos (starEach es (envOfC qual scope s0.heap.objs.size f cd))).any (·.1)=false:=by rfl) :
   PE (cxD P w K mg base N qual scope f cd A outer s0 H0 E) (.Call (.Name x p) (e::es) [] pos) (tCall sp [] E t):=by
 obtain ⟨f',fd,F,m,kp,b⟩:=F;exact ZiY F hr hg m kp b .nil passD ha hdb he hpl
def tMeR (P:Program)(w:World)(K:PySem.W.Frag)(mg:Str→Option Value)(base:Heap)(E:XK)(k0:Nat)(m:Str)(ta:TE)(t:TA):TE:=fun σ H Q=>ta σ H fun x H1=>∃ a C dx fs ps sp,x=.ref a∧H1 a=some (.ins C dx fs)∧fs.lookup m=none ∧
 MethR P w K mg base C m ps k0 sp∧t σ H1 fun vs H2=>sp (x::vs) H2 Q E
theorem Zi3 {k0:Nat}{m:Str}{ta:TE}{t:TA}{σ:St}{H:Hp}{Q:VK}:tMeR P w K mg base E k0 m ta t σ H Q=ta σ H fun x H1=>∃ a C dx fs ps sp,x=.ref a∧H1 a=some (.ins C dx fs)∧fs.lookup m=none ∧
 MethR P w K mg base C m ps k0 sp∧t σ H1 fun vs H2=>sp (x::vs) H2 Q E:=rfl
theorem Zgf (k0:Nat){o e:Expr}{es:List Expr}{m:Str}{ta:TE}{t:TA}{apos pos:Pos}{pl:Sem Bool}(hr:Room k0 (A.deeper (envOfC qual scope s0.heap.objs.size f cd)))(he:PE (cxD P w K mg base N qual scope f cd A outer s0 H0 E) o ta)(ha:PA (cxD P w K mg base N qual scope f cd A outer s0 H0 E) (e::es) t)
   (hst:starEach (e::es) (envOfC qual scope s0.heap.objs.size f cd)=(false,eval e (envOfC qual scope s0.heap.objs.size f cd))::starEach es (envOfC qual scope s0.heap.objs.size f cd):=by rfl) (hpl:(backTo pos (starEach es (envOfC qual scope s0.heap.objs.size f cd))).any (·.1)=false:=by rfl)
   (ht:eval (.Call (.Attribute o m apos) (e::es) [] pos) (envOfC qual scope s0.heap.objs.size f cd)=(do
     let ov ← eval o (envOfC qual scope s0.heap.objs.size f cd)
     standAt apos.atName
     let (f',first) ← holding [ov] (getMethod ov m pl)
     callWith pos f' first (backTo pos (starEach (e::es) (envOfC qual scope s0.heap.objs.size f cd))) (backToKw pos (keywordEach [] (envOfC qual scope s0.heap.objs.size f cd)))):=by rfl) :
   PE (cxD P w K mg base N qual scope f cd A outer s0 H0 E) (.Call (.Attribute o m apos) (e::es) [] pos) (tMeR P w K mg base E k0 m ta t):=by
 intro pins s σ H Q I h;refine PySem.W.methodCall_KW (pl:=pl) (thn (he pins s σ H _ I h) fun u s1 hz=>?_) ht;obtain ⟨x,H1,I1,rx,a,C,dx,fs,ps,sp,ex,ea,l,⟨c,f,fd,me,F,b⟩,q⟩:=hz;subst ex;obtain rfl:u=Value.ref a:=rx;refine Zce I1 ea c me l ?_;refine PySem.W.callWith_K (first:=[.ref a]) (h₀:=base) I.ok.mod.kin me.kp (thn (ha pos pins s1 σ H1 _ I1 q) fun us s2 ⟨vs,H2,I2,r,q2⟩=>⟨I2.kIn,?_⟩) hst hpl;exact ZeW (us:=.ref a::us) (vs:=.ref a::vs) (dvs:=[]) F hr b .nil passD I2 (.cons rfl r) (by rw [List.append_nil];exact q2)
theorem Zgs (k0:Nat){o:Expr}{m:Str}{ta:TE}{apos pos:Pos}{pl:Sem Bool}(hr:Room k0 (A.deeper (envOfC qual scope s0.heap.objs.size f cd)))(he:PE (cxD P w K mg base N qual scope f cd A outer s0 H0 E) o ta)
   (ht:eval (.Call (.Attribute o m apos) [] [] pos) (envOfC qual scope s0.heap.objs.size f cd)=(do
     let ov ← eval o (envOfC qual scope s0.heap.objs.size f cd)
     standAt apos.atName
     let (f',first) ← holding [ov] (getMethod ov m pl)
     callWith pos f' first (backTo pos (starEach [] (envOfC qual scope s0.heap.objs.size f cd))) (backToKw pos (keywordEach [] (envOfC qual scope s0.heap.objs.size f cd)))):=by rfl) :
   PE (cxD P w K mg base N qual scope f cd A outer s0 H0 E) (.Call (.Attribute o m apos) [] [] pos) (tMeR P w K mg base E k0 m ta tNil):=by
 intro pins s σ H Q I h;refine PySem.W.methodCall_KW (pl:=pl) (thn (he pins s σ H _ I h) fun u s1 hz=>?_) ht;obtain ⟨x,H1,I1,rx,a,C,dx,fs,ps,sp,ex,ea,l,⟨c,f,fd,me,F,b⟩,q⟩:=hz;subst ex;obtain rfl:u=Value.ref a:=rx;refine Zce I1 ea c me l ?_;exact PySem.W.callWith_K0 (first:=[.ref a]) I1.kIn me.kp (ZeW (us:=[.ref a]) (vs:=[.ref a]) (dvs:=[]) F hr b .nil passD I1 (.cons rfl .nil) q)
end
end L2
namespace L2
open PySem PySem.Spec PyProof.Rows
def XPD (X:Cx)(pins:List (Addr × Obj))(σ:St)(W:Addr→Option Addr→Hp→Prop)(e:Value)(s':Shared):Prop:=∃ (ea C:Addr) (a0:Value) (B:Heap) (H':Hp) (dx:Option Addr),
 e=.ref ea∧Inv X pins σ H' s'∧Heap.FlyingW B X.stack ea (.ref C) a0 s'.heap∧Cov X.stack X.s₀.heap H' B∧(∀ p∈X.pn++pins,∃ o,B.get? p.1=some o)∧DictAt s'.heap ea dx∧W C dx H'
abbrev WX:=Addr→Option Addr→Hp→Prop
def PEX (X:Cx)(e:Expr)(t:WX→TE):Prop :=
 ∀ (pins:List (Addr × Obj)) (s:Shared) (σ:St) (H:Hp) (Q:VK) (W:WX),Inv X pins σ H s→t W σ H Q→wpAny (model X.prog X.w) X.A (eval e X.env) (EP X pins σ Q) (XPD X pins σ W) s
abbrev TXD:=(Addr→Option Addr→St→Hp→Prop)→TS
def PXD (X:Cx)(st:Stmt)(t:TXD):Prop :=
 ∀ (pins:List (Addr × Obj)) (s:Shared) (σ:St) (H:Hp) (D:Ends) (W:Addr→Option Addr→St→Hp→Prop),Inv X pins σ H s→t W D σ H→wpAny (model X.prog X.w) X.A (exec st X.env) (SP X pins D) (fun e s'=>∃ σ',XPD X pins σ' (fun C dx=>W C dx σ') e s') s
def PXDs (X:Cx)(sts:List Stmt)(t:TXD):Prop :=
 ∀ (pins:List (Addr × Obj)) (s:Shared) (σ:St) (H:Hp) (D:Ends) (W:Addr→Option Addr→St→Hp→Prop),Inv X pins σ H s→t W D σ H→wpAny (model X.prog X.w) X.A (execs sts X.env) (SP X pins D) (fun e s'=>∃ σ',XPD X pins σ' (fun C dx=>W C dx σ') e s') s
section
variable {X:Cx}{pins:List (Addr × Obj)}{σ:St}{H:Hp}{s:Shared}{k:Nat}{f:Addr}{fd:FuncData}{ps:List Str}{sp:Sp}
theorem Inv.toXPD {E:XK}{W:WX}{e:Value}{s':Shared}(I:Inv X pins σ H s)(hex:X.ex=[])(q:CXD X.prog X.w X.stack H s E e s')(hW:∀ C dx H',E (.ref C) dx H'→W C dx H'):XPD X pins σ W e s':=by
 obtain ⟨ea,C,a0,B,H',dx,rfl,os,bare,un,hok,fl,c,dd,q⟩:=q;refine ⟨ea,C,a0,B,H',dx,rfl,I.call' os un hok bare (fun b hb=>(nomatch hb)),fl,⟨fun b o e n=>?_,c.trk⟩,fun p hp=>?_,dd,hW C dx H' q⟩
 · obtain ⟨o',e'⟩:=I.base.there b o e (fun z=>by rw [hex] at z;cases z)
   exact c.old b o' e' n
 · obtain ⟨e1,_,n1,n2,_⟩:=I.pin p hp
   refine c.old p.1 _ e1 fun hm=>?_
   rcases List.mem_cons.mp (I.stkSub _ hm) with z | z
   · exact n1 z
   · exact n2 z
def eW (W:WX):XK:=fun cls dx H3=>∃ C',cls=.ref C'∧W C' dx H3
theorem run_fnX {Q:VK}{W:WX}{us:List Value}{vs:List V}(hex:X.ex=[])(F:FnOk X.prog X.w X.K X.mg X.base (CXD X.prog X.w) k f fd ps sp)(hr:Room k X.A)(hb:Binds X.K fd ps [])(I:Inv X pins σ H s)(r:Vals vs us)(h:sp vs H Q (eW W)):wpAny (model X.prog X.w) X.A (call (.ref f) us) (EP X pins σ Q) (XPD X pins σ W) s:=by
 have hl:us.length=ps.length:=by rw [← r.length];exact F.len _ _ _ _ h
 have b2:=hb s us I.kIn (by rw [List.append_nil];exact hl);rw [List.append_nil] at b2;refine wpAny_call (codeAny_mono (F.run X.A X.stack s H ⟨us,[]⟩ us vs Q (eW W) hr I.env0 b2 r h) fun r s' hq=>?_);cases r with
 | error e=>exact I.toXPD hex (E:=eW W) hq fun C dx H' ⟨C',e1,z⟩=>by cases e1;exact z
 | ok fl =>
   cases fl with
   | ret u=>exact I.after hq
   | next=>exact False.elim hq
   | brk=>exact False.elim hq
   | cont=>exact False.elim hq
def tCallX (sp:Sp)(t:TA):WX→TE:=fun W σ H Q=>t σ H fun vs H1=>sp vs H1 Q (eW W)
theorem pex_call {x:Str}{e:Expr}{es:List Expr}{t:TA}{p pos:Pos}(F:FnR X.prog X.w X.K X.mg X.base x ps k sp)(hr:Room k X.A)(hg:Gl X x)(ha:PA X.nox (e::es) t)(hex:X.ex=[]:=by rfl)
   (hdb:(x==("__debug__":Str))=false:=by decide) (he:starEach (e::es) X.env=(false,eval e X.env)::starEach es X.env:=by rfl) (hpl:(backTo pos (starEach es X.env)).any (·.1)=false:=by rfl) :
   PEX X (.Call (.Name x p) (e::es) [] pos) (tCallX sp t):=by
 obtain ⟨f,fd,F,m,kp,b⟩:=F;intro pins s σ H Q W I h;refine wpAny_Call_Name_kw (ZbI I hg m ?_ hdb);refine PySem.W.callWith_K (h₀:=X.base) I.ok.mod.kin kp (wpAny_mono (ha pos pins s σ H _ (I.wish _) h) (fun us s1 ⟨vs,H1,I1,r,q⟩=>⟨I1.unwish.kIn,?_⟩) fun _ _ z=>False.elim z) he hpl;exact run_fnX hex F hr b I1.unwish r q
end
section
variable {X:Cx}{st:Stmt}{sts rest:List Stmt}{t u:TXD}{pos:Pos}
theorem pxd_nil:PXDs X [] (fun _=>tNext):=fun _ _ σ H _ _ I h=>wpAny_execs_nil ⟨σ,H,I,h⟩
theorem pxd_cons (h1:PXD X st t)(h2:PXDs X rest u):PXDs X (st::rest) (fun W=>tSeq (t W) (u W)):=by
 intro pins s σ H D W I h;refine wpAny_execs_cons (thn (h1 pins s σ H { D with nx:=u W D } W I h) fun f s1 q=>?_);cases f with
 | next =>
   obtain ⟨σ',H',I',q⟩:=q;exact h2 pins s1 σ' H' D W I' q
 | ret v=>exact q
 | brk=>exact q
 | cont=>exact q
theorem pxd_set {i:Nat}{x:Str}{e:Expr}{t:WX→TE}{pos':Pos}(hN:X.N.Nodup)(hi:X.N[i]?=some x)(hx:Loc X.env.scope x)(he:PEX X e t)(hs:swapsWith e (some (.Name x pos')) pos.line X.env=pure false:=by rfl)(hf:X.fn x=true∨X.env.scope.names.lookup x=some .local:=by first | exact .inl rfl | exact .inr rfl | assumption) :
   PXD X (.Assign [.Name x pos'] e pos) (fun W D σ H=>t (fun C dx H'=>W C dx σ H') σ H fun v H1=>D.nx (σ.set i (some v)) H1):=by
 intro pins s σ H D W I h;refine wpAny_Assign_Name (wpAny_mono (he pins s σ H _ _ I h) (fun v s1 ⟨y,H1,I1,r1,q1⟩=>?_) fun e s1 z=>⟨σ,z⟩) hs;exact ZdO I1 hN hi hx r1 (fun s2 I2=>⟨_,H1,I2,q1⟩) hf
end
end L2
namespace L2
open PySem PySem.Spec PyProof.Rows
structure Caught (X:Cx)(pins:List (Addr × Obj))(σ:St)(H:Hp)(s:Shared)(ea C:Addr)(a0:Value)(B:Heap)(dx:Option Addr):Prop where
 inv:Inv X pins σ H s
 fl:Heap.FlyingW B X.stack ea (.ref C) a0 s.heap
 cov:Cov X.stack X.s₀.heap H B
 pn:∀ p∈X.pn++pins,∃ o,B.get? p.1=some o
 dd:DictAt s.heap ea dx
abbrev TH:=Addr→Addr→Option Addr→TS
def PH (X:Cx)(hs:List ExceptHandler)(t:TH):Prop :=
 ∀ (pins:List (Addr × Obj)) (s:Shared) (σ:St) (H:Hp) (D:Ends) (ea C:Addr) (a0:Value) (B:Heap) (dx:Option Addr),Caught X pins σ H s ea C a0 B dx→t ea C dx D σ H→wpAny (model X.prog X.w) X.A (handleBy (.ref ea) X.env hs) (SP X pins D) X.xe s
def tTryD (tb:TXD)(th:TH):TS:=fun D σ H=>tb (fun C dx σ1 H1=>∀ ea,H1 ea=none→th ea C dx D σ1 H1) D σ H
section
variable {X:Cx}{pins:List (Addr × Obj)}{σ:St}{H:Hp}{s:Shared}{ea C:Addr}{a0:Value}{B:Heap}{dx:Option Addr}
theorem Caught.free (c:Caught X pins σ H s ea C a0 B dx):H ea=none:=by
 cases z:H ea with
 | none=>rfl
 | some u =>
   obtain ⟨o,ho⟩:=c.cov.trk ea u z;rw [c.fl.2.1] at ho;cases ho
theorem Caught.move {h:Heap}(c:Caught X pins σ H s ea C a0 B dx)(hex:X.ex=[])(fl:Heap.FlyingW B X.stack ea (.ref C) a0 h)(us:s.heap.UpToSlots h)(d:DictAt h ea dx):Caught X pins σ H { s with heap:=h } ea C a0 B dx :=
 ⟨c.inv.landed2 hex fl.1 c.fl.1 c.cov c.pn us,fl,c.cov,c.pn,d⟩
theorem Caught.apart {oe:Obj}{vs:Array Value}(c:Caught X pins σ H s ea C a0 B dx)(hst:X.stack=X.env::X.outer)(hfr:X.env.frame=some X.env.locals)(he:s.heap.get? ea=some oe)(hd:oe.data=.fields vs):ea≠X.env.locals∧ea∉X.fs:=by
 have hn:ea∉frs X.stack:=fun hm=>by
   obtain ⟨_,o,ho,hno⟩:=c.inv.stack.mem hm;rw [he] at ho;cases ho;exact hno _ hd
 rw [hst] at hn;unfold frs at hn;rw [List.filterMap_cons,hfr] at hn;exact ⟨fun z=>hn (z ▸ .head _),fun z=>hn (.tail _ z)⟩
theorem ps_tryD {body:List Stmt}{h0:ExceptHandler}{hs:List ExceptHandler}{tb:TXD}{th:TH}{pos:Pos}(hb:PXDs X body tb)(hh:PH X (h0::hs) th)(hex:X.ex=[]:=by rfl)(hst:X.stack=X.env::X.outer:=by rfl)(hfr:X.env.frame=some X.env.locals:=by rfl) :
   PS X (.Try body (h0::hs) [] [] pos) (tTryD tb th):=by
 intro pins s σ H D I h;refine wpAny_Try_except (wpAny_mono (hb pins s σ H D _ I h) (fun f s1 hf=>?_) fun e s1 ⟨σ1,ea,C,a0,B,H1,dx,ee,I1,fl,cov,hp,dd,q⟩=>?_)
 · cases f with
   | next=>exact wpAny_execs_nil hf
   | ret v=>exact hf
   | brk=>exact hf
   | cont=>exact hf
 · subst ee
   have c1:Caught X pins σ1 H1 s1 ea C a0 B dx:=⟨I1,fl,cov,hp,dd⟩
   have fl':Heap.FlyingW B (X.env::X.outer) ea (.ref C) a0 s1.heap:=hst ▸ fl;refine wpAny_mono (ZcC (ZgA _ _) (wpAny_looks_onW (Q:=fun _ z=>∃ h2,z={ s1 with heap:=h2 }∧Heap.HeldW B (X.env::X.outer) ea (.ref C) a0 X.env.locals h2∧s1.heap.UpToSlots h2) (by rw [← hst];exact I1.ok.frames) hfr fl' fun h2 held us=>⟨h2,rfl,held,us⟩) dd) (fun _ z hz=>?_) fun _ _ z=>z.1
   obtain ⟨⟨h2,rfl,held,us1⟩,d2⟩:=hz;refine wpAny_mono (ZcC (Zb7 _ _) (wpAny_landsW (s:={ s1 with heap:=h2 }) (Q:=fun _ z=>∃ h3,z={ s1 with heap:=h3 }∧Heap.FlyingW B (X.env::X.outer) ea (.ref C) a0 h3∧h2.UpToSlots h3) held fun h3 fl3 us=>⟨h3,rfl,fl3,us⟩) d2) (fun _ z hz=>?_) fun _ _ z=>z.1
   obtain ⟨⟨h3,rfl,fl3,us2⟩,d3⟩:=hz;exact hh pins _ σ1 H1 D ea C a0 B dx (c1.move hex (hst ▸ fl3) (us1.trans us2) d3) (q ea c1.free)
theorem ph_nil:PH X [] (fun _ _ _ _ _ _=>False):=fun _ _ _ _ _ _ _ _ _ _ _ h=>h.elim
def thAs (i:Nat)(K:PySem.W.Frag)(S:Addr)(ts tr:TH):TH:=fun ea C dx D σ H=>∃ b,PySem.W.exmOne K (.ref C) (.ref S)=some b∧if b=true then ts ea C dx { nx:=fun σ2 H2=>D.nx (σ2.set i none) H2,rt:=D.rt } (σ.set i (some (.ref ea))) H else tr ea C dx D σ H
theorem ph_as {i:Nat}{S:Addr}{x n:Str}{suite:List Stmt}{b₀:Stmt}{rest:List ExceptHandler}{ts tr:TH}{np hpos:Pos}(K:PySem.W.Frag)(hm:X.mg x=some (.ref S))(hs:∀ (ea C:Addr) (dx:Option Addr) (oe:Obj) (vs:Array Value),oe.cls=.ref C→oe.data=.fields vs→oe.dict=dx→PSs (inEx X ea oe) (b₀::suite) (ts ea C dx))(hr:PH X rest tr)
   (hN:X.N.Nodup) (hi:X.N[i]?=some n) (hl:X.env.kindOf n=some .local) (hg:Gl X x) (hK:X.K=K:=by rfl) (hex:X.ex=[]:=by rfl) (hst:X.stack=X.env::X.outer:=by rfl) (hfr:X.env.frame=some X.env.locals:=by rfl) (hdb:(x==("__debug__":Str))=false:=by decide) :
   PH X (.ExceptHandler (some (.Name x np)) (some n) (b₀::suite) hpos::rest) (thAs i K S ts tr):=by
 subst hK;intro pins s σ H D ea C a0 B dx c h;obtain ⟨b,hx,q⟩:=h;obtain ⟨oe,vs,he,hc,hd,_⟩:=c.fl.first;obtain ⟨n1,n2⟩:=c.apart hst hfr he hd;have I3':=c.inv.inExc he c.free n1 n2 fun v z=>by rw [hd] at z;cases z
 refine wpAny_handleBy_cons (codeAny_handlers_test (ZbI (X:=inEx X ea oe) I3' hg hm ?_ hdb)) (by intro z;cases z);have LT:PySem.W.Looks (model X.prog X.w) s.heap (typeOf (.ref ea)) (.ref C):=fun A' Q' E' s' k z=>by
   unfold typeOf;exact wpAny_bind (wpAny_loadPart (k _ _ he) (by rw [hc];exact wpAny_pure z))
 refine (PySem.W.exm_one (M:=model X.prog X.w) c.inv.kIn LT hx).at ?_;cases b with
 | false=>exact hr pins _ σ H D ea C a0 B dx c q
 | true =>
   show codeAny _ _ (.handlers _ _ _) _ _;rw [if_pos rfl] at q;refine codeAny_handlers_suite_as (wpAny_mono (ZcC (Zb7 _ _) (lands_againW (Q:=fun _ z=>∃ h4,z={ s with heap:=h4 }∧Heap.FlyingW B X.stack ea (.ref C) a0 h4∧s.heap.UpToSlots h4) c.fl fun h4 fl4 us=>⟨h4,rfl,fl4,us⟩) c.dd) (fun _ z hz=>?_) fun _ _ z=>z.1);obtain ⟨⟨h4,rfl,fl4,us4⟩,d4⟩:=hz;have c4:=c.move hex fl4 us4 d4;obtain ⟨oe4,vs4,he4,hc4,hd4,_⟩:=fl4.first;obtain ⟨n1,n2⟩:=c4.apart hst hfr he4 hd4;have I4':=c4.inv.inExc he4 c4.free n1 n2 fun v z=>by rw [hd4] at z;cases z
   have hdx:oe4.dict=dx:=by obtain ⟨o,e1,e2⟩:=d4;rw [show ({ s with heap:=h4 }:Shared).heap.get? ea=some oe4 from he4] at e1;cases e1;exact e2
   refine ZdO (X:=inEx X ea oe4) I4' hN hi (.inl hl) (v:=V.ref ea) (u:=Value.ref ea) rfl (fun s5 I5=>?_) (.inr hl);refine wpAny_mono (hs ea C dx oe4 vs4 hc4 hd4 hdx pins s5 _ H _ I5 q) (fun f s6 z=>?_) fun _ _ z=>z.elim
   cases f with
   | next =>
     obtain ⟨σ2,H2,I6,qq⟩:=z;have I7:=I6.outExc c.inv.ok;obtain ⟨m,hn,hl'⟩:=I7.loc;exact wpAny_nameGoes_keeps hl hn (by rw [c.inv.ok.kind];rfl) fun h7 v hn7 sb=>⟨σ2.set i none,H2,I7.gone hN hi hn hl' hn7 sb,qq⟩
   | ret u =>
     obtain ⟨v,σ2,H2,I6,rv,qq⟩:=z;have I7:=I6.outExc c.inv.ok;obtain ⟨m,hn,hl'⟩:=I7.loc;exact wpAny_nameGoes_keeps hl hn (by rw [c.inv.ok.kind];rfl) fun h7 v' hn7 sb=>⟨v,σ2.set i none,H2,I7.gone hN hi hn hl' hn7 sb,rv,qq⟩
   | brk=>obtain ⟨_,_,_,z⟩:=z;exact z.elim
   | cont=>obtain ⟨_,_,_,z⟩:=z;exact z.elim
end
end L2
namespace L2
open PySem PySem.Spec PyProof.Rows Builtin Builtin.ObjectAttr PySem.W
section
variable {prog:Program}{w:World}{A:Around}{E:Value→Shared→Prop}{s:Shared}{K:Frag}{C e dx:Addr}{oe:Obj}{vs:Array Value}{name:Str}{v:Value}
theorem exc_getO {expr:Bool}{Q:Value→Shared→Prop}{mA:Str→Option Value}(X:K.In s.heap)(Z:EX.XIsi K C)(hh:hasDictIn K C=true)(he:s.heap.get? e=some oe)(hc:oe.cls=.ref C)(hd:oe.data=.fields vs)(hx:oe.dict=some dx)(hn:s.heap.Ns1 dx mA)(ha:findIn K (.ref C) name=some none)(hv:mA name=some v)(hv':handedIn v=true)
   (zq:Q v { s with toks:=s.toks+1 }):wpAny (model prog w) A (getAttr (.ref e) name expr) Q E s:=by
 obtain ⟨od,ho,hl⟩:=ZfK hn;obtain ⟨c0,d0,da,sl⟩:=oe;subst hc hd hx;have J:InstAt s.heap e ⟨.ref C,some dx,.fields vs,sl⟩ C (some od):=⟨he,rfl,rfl,ho⟩
 have fo:findObj K C (some od) name=some (.value v):=findObj_own hh ha rfl (by rw [hl,hv]);obtain ⟨hp,g,dr,t,os⟩:=s;have L0:=J.type (M:=model prog w);have L1:=looks_findIn (M:=model prog w) X Z.ga;have L2:=looks_findIn (M:=model prog w) X Z.no;have L3:=looks_find (M:=model prog w) X J fo;have f3:=F.excAttr_ValueError.ga.bind (.ref e);have z0:(expr&&onTheHeap (Value.builtin "BaseException.__getattribute__"))=false:=Bool.and_false _;have z2:(Value.builtin "BaseException.__getattribute__"==Value.builtin "object.__getattribute__")=false:=by decide +kernel
 have z1:(onTheHeap (Value.ref C)&&Value.builtin "BaseException.__getattribute__"==Value.builtin "object.__getattribute__")=false:=by rw [z2];rfl
 unfold getAttr getAttrBy
 repeat (any_goals (first | assumption | with_reducible refine L0.at ?_ | with_reducible refine L1.at ?_ | with_reducible refine L2.at ?_ | wp_step))
 refine codeAny_call_builtin F.excAttr_ValueError.ga.plain F.entry_bexc_ga (EX.xcheck_ga (s:=⟨hp,g,dr,t+1,os⟩) Z X L0 ?_);show wpAny _ _ (Builtin.«object.__getattribute__» ⟨[.ref e,.str name t],[]⟩) _ _ _;refine wpAny_bind (wpAny_pure (wpAny_bind (wpAny_pure (wpAny_bind (L0.at (wpAny_bind (L3.at ?_)))))));refine wpAny_pure ?_;show wpAny _ _ (handedOut v) _ _ _;rw [handedOut_of hv'];exact wpAny_pure zq
end
section
variable {X:Cx}{o:Expr}{f:Str}{ta:TE}{pos:Pos}{ea C:Addr}{oe:Obj}{vs:Array Value}{dx:Option Addr}
def tFldE (K:Frag)(ea C:Addr)(dx:Option Addr)(ta:TE)(f:Str):TE:=fun σ H Q=>ta σ H fun x H1=>∃ d fs v,x=.ref ea∧dx=some d∧H1 d=some (.xd fs)∧fs.lookup f=some v∧EX.XIsi K C∧hasDictIn K C=true∧findIn K (.ref C) f=some none∧Q v H1
theorem pe_fldE (K:Frag)(hc:oe.cls=.ref C)(hd:oe.data=.fields vs)(hx:oe.dict=dx)(he:PE (inEx X ea oe) o ta)(hK:X.K=K:=by rfl)(hb:attributeBase o f X.env (eval o X.env)=eval o X.env:=by rfl):PE (inEx X ea oe) (.Attribute o f pos) (tFldE K ea C dx ta f):=by
 subst hK;intro pins s σ H Q I h;refine ZjP hb (thn (he pins s σ H _ I h) fun u s1 ⟨x,H1,I1,rx,d,fs,v,ex,ed,hd2,l,Z,hh,nf,q⟩=>?_);subst ex;obtain rfl:u=Value.ref ea:=rx;have ge:=(I1.pin (ea,oe) (List.mem_append_left _ (.head _))).1;obtain ⟨mA,ns,r⟩:=(show ObjOk X.prog X.w H1 s1.heap d (.xd fs) from I1.hok _ _ hd2)
 obtain ⟨u,hu,ru⟩:=RelO.some_of (v:=v) (o:=mA f) (by rw [← l];exact r f);exact exc_getO I1.kIn Z hh ge hc hd (hx.trans ed) ns nf hu (Zfy ru) ⟨v,H1,I1.tok _,ru,q⟩
end
end L2
namespace L2
open PySem PySem.Spec PyProof.Rows
section
variable {P:Program}{w:World}{K:PySem.W.Frag}{mg:Str→Option Value}{base:Heap}{N:List Str}{qual:Str}{scope:Scope}{f:Addr}{cd:Value}{A:Around}{outer:List Env}{s0:Shared}{H0:Hp}{E:XK}
end
end L2
namespace L2
open PySem PySem.Spec PyProof.Rows
section
variable {M:Model}{Γ:PySem.Ctx}{p:Pos}{s:Shared}{E:Value→Pos→Shared→Prop}
theorem Zbg {e:Value} {i:Nat} {Q:Value→Pos→Shared→Prop}:Sem.wp M Γ (field e i) Q E p s↔∃ a o vs x,e=.ref a∧s.heap.get? a=some o∧o.data=.fields vs∧vs[i]?=some x∧Q x p s:=by
 constructor
 · intro h
   unfold field fieldsOf at h;rw [Sem.wp_bind'] at h;cases e with
   | ref a =>
     simp only [Sem.wp_bind',load,Sem.wp_load,Sem.wp_pure] at h;obtain ⟨o,ho,h⟩:=h;split at h
     · rename_i vs hd
       simp only [Sem.wp_pure'] at h;split at h
       · rename_i x hx
         rw [Sem.wp_pure'] at h;exact ⟨a,o,vs,x,rfl,ho,hd,hx,h⟩
       · simp only [unsupported,Sem.wp_unsupported] at h
     · simp only [unsupported,Sem.wp_unsupported] at h
   | _=>simp only [unsupported,Sem.wp_unsupported] at h
 · rintro ⟨a,o,vs,x,rfl,ho,hd,hx,q⟩
   unfold field fieldsOf;simp only [Sem.wp_bind',load,Sem.wp_load,Sem.wp_pure];refine ⟨o,ho,?_⟩;rw [hd];simp only [Sem.wp_pure',hx];exact q
theorem Zbz {v:Value} {i:Nat} {x:Value} {Q:Unit→Pos→Shared→Prop}:Sem.wp M Γ (setField v i x) Q E p s↔∃ a o vs,v=.ref a∧s.heap.get? a=some o∧o.data=.fields vs∧i<vs.size∧Q () p { s with heap:=s.heap.update a (Obj.mapFields (·.setIfInBounds i x)) }:=by
 constructor
 · intro h
   unfold setField at h;cases v with
   | ref a =>
     unfold updateField at h;simp only [Sem.wp_bind',load,Sem.wp_load,Sem.wp_pure] at h;obtain ⟨o,ho,h⟩:=h;split at h
     · rename_i vs hd
       split at h
       · rename_i hi
         simp only [update,Sem.wp_update,Sem.wp_pure] at h;exact ⟨a,o,vs,rfl,ho,hd,hi,h.2⟩
       · simp only [unsupported,Sem.wp_unsupported] at h
     · simp only [unsupported,Sem.wp_unsupported] at h
   | _=>simp only [unsupported,Sem.wp_unsupported] at h
 · rintro ⟨a,o,vs,rfl,ho,hd,hi,q⟩
   unfold setField updateField;simp only [Sem.wp_bind',load,Sem.wp_load,Sem.wp_pure];refine ⟨o,ho,?_⟩;rw [hd];simp only [hi,if_true,update,Sem.wp_update,Sem.wp_pure];exact ⟨by rw [ho];rfl,q⟩
end
def FldAt (h:Heap)(a:Addr)(i:Nat)(x:Value):Prop:=∃ o vs,h.get? a=some o∧o.data=.fields vs∧vs[i]?=some x
theorem FldAt.upd {h:Heap}{a b:Addr}{i j:Nat}{x y:Value}(f:FldAt h a i x)(n:i≠j):FldAt (h.update b (Obj.mapFields (·.setIfInBounds j y))) a i x:=by
 obtain ⟨o,vs,ho,hd,hx⟩:=f;by_cases c:b=a
 · subst c
   have hd':=Obj.data_mapFields hd (·.setIfInBounds j y);exact ⟨_,_,Heap.get?_update_self _ ho (Obj.isFreed_of_fields hd'),hd',by rw [Array.getElem?_setIfInBounds_ne (Ne.symm n)];exact hx⟩
 · exact ⟨o,vs,(Heap.get?_update_other _ _ c).trans ho,hd,hx⟩
theorem FldAt.set {h:Heap}{a:Addr}{i:Nat}{y:Value}{o:Obj}{vs:Array Value}(ho:h.get? a=some o)(hd:o.data=.fields vs)(hi:i<vs.size):FldAt (h.update a (Obj.mapFields (·.setIfInBounds i y))) a i y:=by have hd':=Obj.data_mapFields hd (·.setIfInBounds i y);exact ⟨_,_,Heap.get?_update_self _ ho (Obj.isFreed_of_fields hd'),hd',by simp [hi]⟩
def Nt (h:Heap)(e:Value)(f:Addr):Prop:=∃ a T,e=.ref a∧FldAt h a 1 (.ref T)∧FldAt h T 3 (rawInt f)
section
variable {M:Model}{Γ:PySem.Ctx}{p:Pos}{s:Shared}{E:Value→Pos→Shared→Prop}
theorem entry_nt {a b c d e:Value}{l:List Value}{Q:Value→Pos→Shared→Prop}(h:Sem.wp M Γ (EntryCells.newEntry a b c d e l) Q E p s):Sem.wp M Γ (EntryCells.newEntry a b c d e l) (fun v p s1=>Q v p s1∧∃ T,v=.ref T∧FldAt s1.heap T 3 d) E p s:=by
 unfold EntryCells.newEntry newFields newObj newObjAsIs at h ⊢;have hz:([a,b,c,d,e]++if l.isEmpty=true then List.replicate 6 Value.none else l)[3]?=some d:=rfl;generalize ([a,b,c,d,e]++if l.isEmpty=true then List.replicate 6 Value.none else l)=zs at h hz ⊢
 try dsimp only at h
 try dsimp only
 split at h
 · simp only [Sem.wp_bind',unsupported,Sem.wp_unsupported] at h
 · rename_i hn
   rw [if_neg hn];simp only [Sem.wp_bind',PySem.alloc,Sem.wp_alloc,Sem.wp_pure,Sem.wp_pure'] at h ⊢;exact ⟨h,_,rfl,_,_,Heap.get?_push_size _ rfl,rfl,by simpa using hz⟩
theorem jp_nt {a f:Addr}{hd:Value}{k:Bool}{env:Env}{Q:Unit→Pos→Shared→Prop}(h:Sem.wp M Γ (do
     let x ← PySem.frameOf env
     let b ← entryPlaceOf f k
     let c ← EntryCells.newEntry hd x Value.none (rawInt f) Value.none b
     setField (.ref a) 1 c) Q E p s):Sem.wp M Γ (do
     let x ← PySem.frameOf env
     let b ← entryPlaceOf f k
     let c ← EntryCells.newEntry hd x Value.none (rawInt f) Value.none b
     setField (.ref a) 1 c) (fun u p s1=>Q u p s1∧Nt s1.heap (.ref a) f) E p s:=by
 simp only [Sem.wp_bind'] at h ⊢;refine Sem.wp_mono _ _ _ (fun x p1 s1 h1=>Sem.wp_mono _ _ _ (fun b p2 s2 h2=>Sem.wp_mono _ _ _ (fun c p3 s3 h3=>?_) (fun _ _ _ z=>z) _ _ (entry_nt h2)) (fun _ _ _ z=>z) _ _ h1) (fun _ _ _ z=>z) _ _ h;obtain ⟨h3,T,rfl,fT⟩:=h3;rw [Zbz] at h3 ⊢;obtain ⟨a',o,vs,e,ho,hd,hi,q⟩:=h3;cases e;exact ⟨a,o,vs,rfl,ho,hd,hi,q,a,T,rfl,FldAt.set ho hd hi,fT.upd (by decide)⟩
theorem note_nt {e:Value}{env:Env}{f:Addr}{Q:Unit→Pos→Shared→Prop}(hf:env.frame=some f)(h:Sem.wp M Γ (noteFrame e env) Q E p s):Sem.wp M Γ (noteFrame e env) (fun u p s1=>Q u p s1∧Nt s1.heap e f) E p s:=by
 unfold noteFrame at h ⊢;simp only [hf] at h ⊢;rw [Sem.wp_bind',Zbg] at h ⊢;obtain ⟨a,o,vs,hd0,rfl,ho,hd,hx,h⟩:=h;refine ⟨a,o,vs,hd0,rfl,ho,hd,hx,?_⟩
 try dsimp only at h
 try dsimp only
 split at h
 · rename_i c
   rw [if_pos c];rw [Sem.wp_bind',Zbg] at h ⊢;obtain ⟨T,oT,ts,x,rfl,hT,hdT,hxT,h⟩:=h;refine ⟨T,oT,ts,x,rfl,hT,hdT,hxT,?_⟩;split at h
   · rename_i c2
     rw [if_pos c2];rw [Sem.wp_pure'] at h ⊢;have e3:x=rawInt f:=by simpa using c2
     exact ⟨h,a,T,rfl,⟨o,vs,ho,hd,hx⟩,⟨oT,ts,hT,hdT,by rw [← e3];exact hxT⟩⟩
   · rename_i c2
     rw [if_neg c2];rw [Sem.wp_bind'] at h ⊢;exact Sem.wp_mono _ _ _ (fun u p1 s1 h1=>jp_nt h1) (fun _ _ _ z=>z) _ _ h
 · rename_i c
   rw [if_neg c];exact jp_nt h
end
theorem FldAt.uniq {h:Heap}{a:Addr}{i:Nat}{x y:Value}(f:FldAt h a i x){o:Obj}{vs:Array Value}(ho:h.get? a=some o)(hd:o.data=.fields vs)(hx:vs[i]?=some y):x=y:=by obtain ⟨o',vs',e1,e2,e3⟩:=f;rw [ho] at e1;cases e1;rw [hd] at e2;cases e2;rw [hx] at e3;cases e3;rfl
theorem Zka {h:Heap}{T:Addr}{i:Nat}{x y:Value}:(h.update T (Obj.mapFields (·.setIfInBounds i x))).update T (Obj.mapFields (·.setIfInBounds i y))=h.update T (Obj.mapFields (·.setIfInBounds i y)):=by
 obtain ⟨objs,l⟩:=h;show Heap.mk _ _=Heap.mk _ _;congr 1
 apply Array.ext
 · simp
 · intro j h1 h2
   simp only [Array.getElem_modify];split
   · have hj:j<objs.size:=by simpa using h2
     generalize objs[j]'hj=o;obtain ⟨c,d,da,sl⟩:=o;cases da<;>first | rfl | (show Obj.mk _ _ (.fields _) _=Obj.mk _ _ (.fields _) _;simp)
   · rfl
section
variable {M:Model}{A:Around}{env:Env}{f:Addr}{Q:Value→Shared→Prop}
theorem ZhD (hf:env.frame=some f):PassesOwn M A env (fun e s'=>wpAny M A (leaving env e) (fun _ s''=>Q e s'') (fun e' s''=>Q e' s'') s'):=by
 intro e s' h Γ p hΓ;have h0:=h Γ p hΓ;unfold leaving at h0;rw [Sem.wp_bind'] at h0;refine Sem.wp_mono _ _ _ (fun u p1 s1 hh=>?_) (fun _ _ _ z=>z) _ _ (wp_nr (ZgA e env) (note_nt hf h0));obtain ⟨hs,a,T,rfl,f1,f3⟩:=hh;obtain ⟨o1,v1,g1,d1,x1⟩:=id f1;obtain ⟨o3,v3,g3,d3,x3⟩:=id f3;have i3:3<v3.size:=(Array.getElem?_eq_some_iff.mp x3).1;have nn:(Value.ref T != Value.none)=true:=by simp
 have nn':(Value.ref T==Value.none)=false:=by simp
 have q:Q (.ref a) { s1 with heap:=s1.heap.update T (Obj.mapFields (·.setIfInBounds 3 Value.none)) }:=by unfold setFlight at hs;rw [Sem.wp_bind',Zbg] at hs;obtain ⟨a',o,vs,x,e1,ho,hd,hx,hs⟩:=hs;cases e1;obtain rfl:=f1.uniq ho hd hx;rw [if_pos nn,Zbz] at hs;obtain ⟨T',o',vs',e1,ho',hd',hi',hs⟩:=hs;cases e1;exact hs
 clear hs;intro Γ2 p2 h2;rw [Sem.wp_bind',Zbg];refine ⟨a,o1,v1,_,rfl,g1,d1,x1,?_⟩
 try dsimp only
 rw [if_neg (by rw [nn'];decide)];unfold setFlight;rw [Sem.wp_bind',Zbg];refine ⟨a,o1,v1,_,rfl,g1,d1,x1,?_⟩;rw [if_pos nn,Zbz];refine ⟨T,o3,v3,rfl,g3,d3,i3,?_⟩;rw [hf];show wpAny M A (leaving env (.ref a)) _ _ { s1 with heap:=s1.heap.update T (Obj.mapFields (·.setIfInBounds 3 (rawInt f))) };have q':Q (.ref a) { s1 with heap:=(s1.heap.update T (Obj.mapFields (·.setIfInBounds 3 (rawInt f)))).update T (Obj.mapFields (·.setIfInBounds 3 Value.none)) }:=by rw [Zka];exact q
 have f1':FldAt (s1.heap.update T (Obj.mapFields (·.setIfInBounds 3 (rawInt f)))) a 1 (.ref T):=f1.upd (by decide);have f3':FldAt (s1.heap.update T (Obj.mapFields (·.setIfInBounds 3 (rawInt f)))) T 3 (rawInt f):=FldAt.set g3 d3 i3;generalize s1.heap.update T (Obj.mapFields (·.setIfInBounds 3 (rawInt f)))=h2 at q' f1' f3' ⊢;obtain ⟨o1',v1',g1',d1',x1'⟩:=id f1';obtain ⟨o3',v3',g3',d3',x3'⟩:=id f3';intro Γ3 p3 h3;unfold leaving noteFrame;simp only [hf];rw [Sem.wp_bind',Sem.wp_bind',Zbg];refine ⟨a,o1',v1',_,rfl,g1',d1',x1',?_⟩
 try dsimp only
 rw [if_pos nn,Sem.wp_bind',Zbg];refine ⟨T,o3',v3',_,rfl,g3',d3',x3',?_⟩;rw [if_pos (by simp),Sem.wp_pure'];unfold setFlight;rw [Sem.wp_bind',Zbg];refine ⟨a,o1',v1',_,rfl,g1',d1',x1',?_⟩;rw [if_pos nn,Zbz];exact ⟨T,o3',v3',rfl,g3',d3',(Array.getElem?_eq_some_iff.mp x3').1,q'⟩
end
section
variable {P:Program}{w:World}{K:PySem.W.Frag}{mg:Str→Option Value}{base:Heap}{N:List Str}{qual:Str}{scope:Scope}{f:Addr}{cd:Value}{A:Around}{outer:List Env}{s0:Shared}{H0:Hp}{E:XK}
theorem ownD:PassesOwn (model P w) (cxD P w K mg base N qual scope f cd A outer s0 H0 E).A (cxD P w K mg base N qual scope f cd A outer s0 H0 E).env (cxD P w K mg base N qual scope f cd A outer s0 H0 E).xe:=ZhD (f:=s0.heap.objs.size) (Q:=fun e s''=>CXD P w outer H0 s0 E e s'') rfl
end
end L2
namespace L2
open PySem PySem.Spec PyProof.Rows
section
variable {X:Cx}
end
end L2
namespace L2
open PySem PySem.Spec PyProof.Rows
def litsOf:List Expr→Option (List Str)
 | []=>some []
 | .Constant (.str x) _ _::r=>match litsOf r with | some ws=>some (x::ws) | none=>none
 | _=>none
def tLits (ws:List Str):TA:=fun _ H Q=>Q (ws.map V.str) H
theorem Zhr {ws:List Str}{σ:St}{H:Hp}{Q:List V→Hp→Prop}:tLits ws σ H Q=Q (ws.map V.str) H:=rfl
section
variable {X:Cx}
theorem ZgG:∀ {es:List Expr} {ws:List Str},litsOf es=some ws→PA X es (tLits ws)
 | [],ws,h=>by
   cases h;exact Zac
 | e :: r,ws,h=>by
   unfold litsOf at h;split at h
   · rename_i h1
     cases h1
   · rename_i x j pos r' h1
     cases h1;split at h
     · rename_i ws' h2
       cases h;exact Zaa Zaf (ZgG h2)
     · cases h
   · cases h
end
end L2
namespace L2
open PySem PySem.Spec PyProof.Rows
section
variable {X:Cx}
def rIsiT (K:PySem.W.Frag):List V→Hp→VK→Prop:=fun xs H Q=>∃ (a C dx:Addr) (fs:List (Str × V)) (tp c1 c2:Addr) (b1 b2:Bool),xs=[.ref a,.ref tp]∧H a=some (.ins C dx fs)∧Cls K C∧TyIns K C∧H tp=some (.tup [.ref c1,.ref c2])∧PySem.W.kitOne K (.ref C) (.ref c1)=some b1∧PySem.W.kitOne K (.ref C) (.ref c2)=some b2∧Q (.bl (b1||b2)) H
theorem kitAny2 {K:PySem.W.Frag}{t c1 c2:Value}{b1 b2:Bool}(h1:PySem.W.kitOne K t c1=some b1)(h2:PySem.W.kitOne K t c2=some b2):PySem.W.kitAny K t [c1,c2]=some (b1||b2):=by
 rw [PySem.W.kitAny.eq_def];simp only [h1];cases b1 with
 | true=>rfl
 | false =>
   simp only;rw [PySem.W.kitAny.eq_def];simp only [h2];cases b2 with
   | true=>rfl
   | false =>
     simp only;rw [PySem.W.kitAny.eq_def];rfl
theorem ZfZ (K:PySem.W.Frag)(hK:X.K=K:=by rfl):CallR X (.builtin "isinstance") (rIsiT K):=by
 subst hK;intro pins s σ H xs us Q I r h;obtain ⟨a,C,dx,fs,tp,c1,c2,b1,b2,rfl,ha,cl,ty,ht,k1,k2,q⟩:=h;obtain ⟨u,v,rfl,ru,rv⟩:=r.two;cases (show u=Value.ref a from ru);cases (show v=Value.ref tp from rv);obtain ⟨mA,O,_⟩:=Zdl I.hok ha;obtain ⟨od,J,_⟩:=O.look;obtain ⟨_,its,vs,p⟩:=(show ObjOk X.prog X.w H s.heap tp (.tup [.ref c1,.ref c2]) from I.hok tp _ ht)
 obtain ⟨o,g,oc,n,od'⟩:=p;obtain ⟨x1,x2,rfl,r1,r2⟩:=Vals.two vs;cases (show x1=Value.ref c1 from r1);cases (show x2=Value.ref c2 from r2);obtain ⟨c0,d0,da,sl⟩:=o;subst oc;subst od';exact PySem.W.kia_tup (PySem.W.kitx_own (cl.get _) cl.hd ty.a ty.b ty.c ty.d) I.kIn J g (kitAny2 k1 k2) (fun z=>nomatch z) fun tk=>⟨.bl (b1||b2),H,I.tok _,rfl,q⟩
end
end L2
namespace L2
open PySem PySem.Spec PyProof.Rows
section
variable {X:Cx}
def rCount:V→List V→Hp→VK→Prop:=fun x vs H Q=>∃ (l:Addr) (ys:List Str) (w:Str),x=.ref l∧vs=[.str w]∧H l=some (.lst (ys.map V.str))∧Q (.int (ys.countP (·==w):Nat)) H
theorem ZfS {x:V}{vs:List V}{H:Hp}{Q:VK}:rCount x vs H Q=∃ (l:Addr) (ys:List Str) (w:Str),x=.ref l∧vs=[.str w]∧H l=some (.lst (ys.map V.str))∧Q (.int (ys.countP (·==w):Nat)) H:=rfl
def eqS (w:Str):Value→Bool
 | .str z _=>z==w
 | _=>false
theorem Zhk (w:Str):∀ (ys:List Str) (its:List Value),Vals (ys.map V.str) its→its.countP (eqS w)=ys.countP (·==w)∧∀ y∈its,∃ z t,y=Value.str z t
 | [],its,r=>by
   have:=(Vals.nil_iff r).mpr rfl;rw [this];exact ⟨rfl,fun y h=>by cases h⟩
 | z :: ys,its,r=>by
   cases r with
   | cons h r =>
     obtain ⟨t,rfl⟩:=(show ∃ t,_=Value.str z t from h)
     obtain ⟨a,b⟩:=Zhk w ys _ r;refine ⟨?_,fun y hy=>?_⟩
     · rw [List.countP_cons,List.countP_cons,a]
       rfl
     · rcases List.mem_cons.mp hy with rfl | hy
       · exact ⟨z,t,rfl⟩
       · exact b y hy
theorem ZgK:MtM X "list.count" rCount:=by
 intro pins s σ H x vs v us Q I rx rv h;obtain ⟨l,ys,w,rfl,rfl,hH,q⟩:=h;cases rx;obtain ⟨u,rfl,ru⟩:=Vals.one rv;obtain ⟨t,rfl⟩:=(show ∃ t,u=Value.str w t from ru)
 obtain ⟨z,its,n,r,hl,e⟩:=I.lstM hH;obtain ⟨c1,c2⟩:=Zhk w ys its r;refine call_meets F.slot_list_count ⟨_,e,rfl⟩ F.entry_list_count (F.args_list_count_2 _ _) (SeqAt.list_countAt l its.toArray n none #[] (Value.str w t) (eqS w)) ⟨e,fun y hy=>?_,?_⟩
 · obtain ⟨a,b,rfl⟩:=c2 y (by simpa using hy)
   exact SeqAt.EqAt.str_str _ _ _ _
 · refine ⟨.int (ys.countP (·==w):Nat),H,I.tok _,?_,q⟩
   rw [← c1];exact ⟨_,rfl⟩
end
end L2
namespace L2
open PySem PySem.Spec PyProof.Rows
def tDLit1 (k:Str)(i:Int):TE:=fun _ H Q=>∀ p,H p=none→Q (.ref p) (upd H p (.dK [(.inr k,.int i)]))
theorem Zf1 {k:Str}{i:Int}{σ:St}{H:Hp}{Q:VK}:tDLit1 k i σ H Q=∀ p,H p=none→Q (.ref p) (upd H p (.dK [(.inr k,.int i)])):=rfl
section
variable {X:Cx}{pos p1 p2:Pos}{j1 j2:Nat}{k:Str}{i:Int}
theorem pe_dlit1:PE X (.Dict [some (.Constant (.str k) j1 p1)] [.Constant (.int i) j2 p2] pos) (tDLit1 k i):=fun pins s σ H Q I h=>by
 refine wpAny_Dict_pairs (knd:=mixKind X.prog X.w) (pairs:=[(eval (.Constant (.str k) j1 p1) X.env,do let x ← eval (.Constant (.int i) j2 p2) X.env;standAt pos;pure x)]) rfl (by intro z;cases z) (show 1≤15 by decide) ?_;unfold evalPairs;refine wpAny_bind (Calls.Constant_str (wpAny_bind (wpAny_holding (wpAny_bind (wpAny_Constant_int (wpAny_bind (wpAny_standAt (wpAny_pure (wpAny_bind (wpAny_holding ?_))))))))));unfold evalPairs;refine wpAny_pure (wpAny_pure ⟨[(.inr k,_)],⟨Zeo X.prog X.w k _,rfl,trivial⟩,Heap.DictOf.new s.heap,fun h' hd sb=>⟨.ref s.heap.objs.size,upd H s.heap.objs.size (.dK [(.inr k,.int i)]),?_,rfl,h _ (I.hok.fresh (Nat.le_refl _))⟩⟩);refine I.laid (a:=s.heap.objs.size) (fun b u q=>?_) (Nat.le_refl _) ⟨(by decide:1≤sizeLine),beq_eq_false_iff_ne.mpr (Ne.symm (Nat.ne_of_lt I.big)),_,?_,hd⟩
 · have ne:b≠s.heap.objs.size:=fun z=>by
     have l:=Heap.lt_size q;rw [z] at l;exact Nat.lt_irrefl _ l
   rw [sb.2 b ne];exact Heap.get?_push_of_some _ q
 · exact .cons ⟨rfl,⟨_,rfl⟩⟩ .nil
end
end L2
namespace L2
open PySem PySem.Spec PyProof.Rows
def Ite (z:Str):It :=
 ⟨fun i _=>i<z.cps.size,fun i H v H'=>∃ T,v=.ref T∧H T=none∧H'=upd H T (.tup [.int i,sgn z i]),fun i _=>i=z.cps.size⟩
structure EnmTn (e it:Addr)(St:Nat→Heap→Prop)(i:Nat)(h:Heap):Prop where
 e:∃ old,IsEnum h e it i old
 s:St i h
theorem Zj3 {P:Program} {w:World} {K:PySem.W.Frag} {es:List Expr} {x1} {pos:Pos} {e it:Addr} {z:Str} {St:Nat→Heap→Prop} (ne:e≠it) (D:∀ A:Around,A.handled=none→Draws P w A.in1 it [it] z.cps.size (fun i v=>∃ c u,z.cps[i]?=some c∧v=.str ⟨#[c]⟩ u) St)
   (hst:∀ i h,St i h→∃ o,h.get? it=some o∧∀ v,o.data≠.cell v) (hk:∀ i h h',St i h→(∀ o,h.get? it=some o→h'.get? it=some o)→St i h'):Turn P w K (.Tuple es x1 pos) (Ite z) [e,it] e (EnmTn e it St) where
 mem:=by simp
 obj:=fun i h st c hc=>by
   simp only [List.mem_cons,List.not_mem_nil,or_false] at hc;obtain ⟨old,he⟩:=st.e;rcases hc with rfl | rfl
   · exact ⟨_,he,fun v q=>by cases q⟩
   · exact hst i h st.s
 keep:=fun i h h' st k=>by
   obtain ⟨old,he⟩:=st.e;exact ⟨⟨old,k e (by simp) _ he⟩,hk i h h' st.s fun o q=>k it (by simp) o q⟩
 item:=by
   intro X hP hw hK hc i pins s σ H E I hf st hg;subst hP hw hK;obtain ⟨old,he⟩:=st.e;have lt:∀ {c:Addr} {o:Obj},s.heap.get? c=some o→s.heap.objs.size≠c:=fun e=>Nat.ne_of_gt (Heap.lt_size e)
   refine wpAny_pyNext_enum_itemD (D X.A (I.ok.hd hc)) he st.s hg ne (by simpa using ne) fun x h1 tk hp ho hs1 hT hz kk=>?_
   refine ⟨_,rfl,wpAny_letOwnedTupleGo_enum ho fun h2 he2 hs2=>?_⟩;obtain ⟨c,u,hcx,rfl⟩:=hp;have eS:z.cps.getD i 0=c:=by rw [Array.getD_eq_getD_getElem?,hcx];rfl
   have keep:∀ b o,b∉[e,it]→s.heap.get? b=some o→h2.get? b=some o:=fun b o hb q=>by
     simp only [List.mem_cons,List.not_mem_nil,or_false,not_or] at hb;exact (hs2.2 b hb.1).trans (kk b o hb.1 hb.2 q)
   have hT2:h2.get? s.heap.objs.size=some { cls:=.type "tuple",data:=.seq #[.int i tk,.str ⟨#[c]⟩ u] }:=(hs2.2 _ (lt he)).trans hT;have I1:Inv X pins σ (upd H s.heap.objs.size (.tup [.int i,sgn z i])) { s with heap:=h2,toks:=tk+1 }:=I.turnedNew (t':=tk+1) hf keep (Nat.le_refl _) ⟨by show 2≤sizeLine;decide,[.int i tk,.str ⟨#[c]⟩ u],.cons ⟨_,rfl⟩ (.cons ⟨u,by rw [eS]⟩ .nil),_,hT2,rfl,_,rfl⟩;refine ⟨.ref s.heap.objs.size,_,I1,rfl,⟨_,rfl,I.hok.fresh (Nat.le_refl _),rfl⟩,⟨⟨_,he2⟩,?_⟩,fun b hb=>?_⟩
   · exact hk _ _ _ hs1 fun o q=>(hs2.2 it (Ne.symm ne)).trans q
   · rw [Zah ?_]
     · exact (hf b hb).1
     · rintro rfl
       simp only [List.mem_cons,List.not_mem_nil,or_false] at hb;obtain ⟨o,q,_⟩:=hst i _ st.s;rcases hb with y | y
       · exact lt he y
       · exact lt q y
 done:=by
   intro X hP hw hK hc i pins s σ H E I hf st hg;subst hP hw hK;have hg:i=z.cps.size:=hg;subst hg;obtain ⟨old,he⟩:=st.e;refine wpAny_pyNext_enum_endD (D X.A (I.ok.hd hc)) he st.s fun h1 k=>⟨rfl,I.turnedL (t':=s.toks) hf fun b o hb q=>?_⟩
   simp only [List.mem_cons,List.not_mem_nil,or_false,not_or] at hb;exact k b o hb.2 q
 self:=fun _ _ _ _ _ st h=>let ⟨old,he⟩:=st.e;wpAny_pyIter_enum he h
theorem ZeM:bootBuiltins "enumerate"=some (.type "enumerate"):=by decide +kernel
def iEnm (ta:TA):TI:=fun σ H R=>ta σ H fun vs H1=>∃ z,vs=[.str z]∧R (Ite z) H1
theorem ZiW {ta:TA}{σ:St}{H:Hp}{R:It→Hp→Prop}:iEnm ta σ H R=ta σ H fun vs H1=>∃ z,vs=[.str z]∧R (Ite z) H1:=rfl
theorem pi_enum {X:Cx}{es:List Expr}{x1}{p3:Pos}{a:Expr}{ta:TA}{p pos:Pos}(hg:Gl X "enumerate")(hm:X.mg "enumerate"=none)(ha:PA X [a] ta)(hs:starEach [a] X.env=[(false,eval a X.env)]:=by rfl) :
   PI X (.Tuple es x1 p3) (.Call (.Name "enumerate" p) [a] [] pos) (iEnm ta):=by
 intro pins s σ H R I h;refine Call_ (Zea I hg hm ZeM (PyProof.Rows.callWith_type1 (thn (ha pos pins s σ H _ I h) fun us s1 ⟨vs,H1,I1,r1,q1⟩=>?_) (by rw [hs];rfl) rfl));obtain ⟨z,rfl,q⟩:=q1;obtain ⟨u,rfl,t,rfl⟩:=r1.one;refine call_enumerate_str fun g k1 k2 k3 k4=>?_
 refine wpAny_pyIter_enum k1 ?_;have ne:s1.heap.objs.size+1≠s1.heap.objs.size:=Nat.succ_ne_self _;have fin:∀ ty:String,g.IsStrIter s1.heap.objs.size ty z t 0→(∀ A:Around,A.handled=none→Draws X.prog X.w A.in1 s1.heap.objs.size [s1.heap.objs.size] z.cps.size (fun i v=>∃ c u,z.cps[i]?=some c∧v=.str ⟨#[c]⟩ u) (fun i h=>h.IsStrIter s1.heap.objs.size ty z t i))→PIE X pins σ (.Tuple es x1 p3) R (.ref (s1.heap.objs.size+1)) { s1 with heap:=g }:=fun ty hi D=>by
   refine ⟨_,_,_,_,H1,rfl,I1.kept (t':=s1.toks) k4,Zj3 ne D (fun i h ⟨o,e1,e2,e3⟩=>⟨o,e1,fun v y=>by rw [e3] at y;cases y⟩) (fun i h h' ⟨o,e1,r⟩ k=>⟨o,k o e1,r⟩),⟨⟨_,k1⟩,hi⟩,fun c hc=>?_,q⟩;have le:s1.heap.objs.size≤c:=by simp only [List.mem_cons,List.not_mem_nil,or_false] at hc;rcases hc with q | q<;>subst q<;>first | exact Nat.le_refl _ | exact Nat.le_add_right _ _
   exact I1.fpOk le (I1.hok.fresh le)
 cases ha:z.cps.all (·<128)
 · have e:strIterType z="str_iterator":=by unfold strIterType;rw [ha];rfl
   rw [e] at k2;exact fin _ k2 fun A hA=>Draws.strWide (A:=A.in1) hA _ z t
 · have e:strIterType z="str_ascii_iterator":=by unfold strIterType;rw [ha];rfl
   rw [e] at k2;exact fin _ k2 fun A hA=>Draws.strAscii (A:=A.in1) hA _ z t
theorem loopE {z:Str}{g:TG}{tb:TS}{D:Ends}{σ:St}{H:Hp}(Pv:Nat→St→Hp→Prop)(h0:Pv 0 σ H)
   (hs:∀ i T σ H,i<z.cps.size→H T=none→Pv i σ H→g (.ref T) σ (upd H T (.tup [.int i,sgn z i])) fun σ2 H2=>tb { D with nx:=Pv (i+1),ct:=Pv (i+1),bk:=D.nx } σ2 H2)
   (hd:∀ σ H,Pv z.cps.size σ H→D.nx σ H):LoopJ (Ite z) g tb D σ H:=by
 refine ⟨fun i m σ H=>m=z.cps.size-i∧i≤z.cps.size∧Pv i σ H,⟨_,rfl,Nat.zero_le _,h0⟩,?_⟩;rintro i m σ H ⟨rfl,hi,hp⟩;by_cases hlt:i<z.cps.size
 · refine .inr ⟨hlt,Pv (i+1),fun σ' H' q=>⟨_,by omega,rfl,by omega,q⟩,?_⟩
   rintro v H' ⟨T,rfl,nT,rfl⟩;exact hs i T σ H hlt nT hp
 · have e:i=z.cps.size:=by omega
   subst e;exact .inl ⟨rfl,hd σ H hp⟩
end L2
namespace My
open PySem L2 BM PyProof.Rows
def top (i:Nat):Stmt:=PySem.Challenge.pw_runmarks_k69_whole_texts_of_words.main.body.getD i (.Pass ⟨0,0,0,0⟩)
abbrev Zb9:Stmt:=top 12
theorem ZhJ:FnScope ["question","in_brackets"] ["question","in_brackets"] (defScope Zb9):=by walk_at "s"
abbrev ZgI:Stmt:=top 20
theorem sc_is_of:FnScope ["word","signs"] ["word","signs"] (defScope ZgI):=by walk_at "s"
abbrev Zd2:Stmt:=top 21
theorem Zid:FnScope ["word"] ["word"] (defScope Zd2):=by walk_at "s"
abbrev Zcb:Stmt:=top 22
theorem Zfn:FnScope ["word"] ["word"] (defScope Zcb):=by walk_at "s"
abbrev s_cut:Stmt:=top 23
theorem sc_cut:FnScope ["text","words","word","place","sign"] ["text"] (defScope s_cut):=by walk_at "s"
abbrev Zbr:Stmt:=top 25
theorem sc_read_question:FnScope ["text","words","question"] ["text"] (defScope Zbr):=by walk_at "s"
abbrev Zbo:Stmt:=top 26
theorem sc_read_chains:FnScope ["words","deep","chains"] ["words","deep"] (defScope Zbo):=by walk_at "s"
abbrev ZbD:Stmt:=top 27
theorem sc_read_chain:FnScope ["words","deep","pieces"] ["words","deep"] (defScope ZbD):=by walk_at "s"
abbrev Zb6:Stmt:=top 28
theorem sc_read_piece:FnScope ["words","deep","word"] ["words","deep"] (defScope Zb6):=by walk_at "s"
abbrev Zbb:Stmt:=top 29
theorem Zd5:FnScope ["words","deep"] ["words","deep"] (defScope Zbb):=by walk_at "s"
abbrev Zbc:Stmt:=top 30
theorem sc_read_brackets:FnScope ["words","deep","question"] ["words","deep"] (defScope Zbc):=by walk_at "s"
abbrev ZbS:Stmt:=top 31
theorem sc_read_within:FnScope ["words","name","low","high"] ["words","name"] (defScope ZbS):=by walk_at "s"
abbrev ZcJ:Stmt:=top 33
theorem Zgc:FnScope ["_law_script","_law_k"] ["_law_script","_law_k"] (defScope ZcJ):=by walk_at "s"
abbrev ZdU:Stmt:=top 34
theorem Ziz:FnScope ["_law_found"] ["_law_found"] (defScope ZdU):=by walk_at "s"
abbrev Zec:Stmt:=top 35
theorem sc_l_mixed:FnScope ["_law_cell","_law_k","_law_number"] ["_law_cell","_law_k"] (defScope Zec):=by walk_at "s"
abbrev ZcD:Stmt:=top 36
theorem ZgC:FnScope ["_law_letters"] ["_law_letters"] (defScope ZcD):=by walk_at "s"
abbrev ZdY:Stmt:=top 37
theorem sc_l_names:FnScope ["_law_script","_law_most","_law_x","_law_size","_law_names_here","_law_k","_law_letters","_law_j","_law_number"] ["_law_script","_law_most"] (defScope ZdY):=by walk_at "s"
abbrev Zc8:Stmt:=top 38
theorem sc_l_spaced:FnScope ["_law_words_here","_law_cell","_law_text","_law_before","_law_k","_law_x","_law_tight"] ["_law_words_here","_law_cell"] (defScope Zc8):=by walk_at "s"
abbrev ZdV:Stmt:=top 39
theorem sc_l_split:FnScope ["_law_text","_law_found","_law_start","_law_k"] ["_law_text"] (defScope ZdV):=by walk_at "s"
abbrev Zcq:Stmt:=top 40
theorem Zf9:FnScope ["_law_word"] ["_law_word"] (defScope Zcq):=by walk_at "s"
abbrev Zbt:Stmt:=top 41
theorem Zel:FnScope ["_law_word"] ["_law_word"] (defScope Zbt):=by walk_at "s"
abbrev Zef:Stmt:=top 42
theorem Zil:FnScope ["_law_word","_law_open_ones"] ["_law_word","_law_open_ones"] (defScope Zef):=by walk_at "s"
abbrev Zek:Stmt:=top 43
theorem ZhV:FnScope ["_law_open_ones"] ["_law_open_ones"] (defScope Zek):=by walk_at "s"
abbrev Zfm:Stmt:=top 44
theorem ZkK:FnScope ["_law_state","_law_word","_law_open_ones"] ["_law_state","_law_word","_law_open_ones"] (defScope Zfm):=by walk_at "s"
abbrev Zd9:Stmt:=top 45
theorem sc_l_fault:FnScope ["_law_text","_law_state","_law_open_ones","_law_place","_law_word"] ["_law_text"] (defScope Zd9):=by walk_at "s"
abbrev ZbT:Stmt:=top 46
theorem Zfh:FnScope ["_law_state","_law_x","_law_names_here"] ["_law_state","_law_x","_law_names_here"] (defScope ZbT):=by walk_at "s"
abbrev Zcf:Stmt:=top 47
theorem sc_l_odd_word:FnScope ["_law_x","_law_some"] ["_law_x"] (defScope Zcf):=by walk_at "s"
abbrev Zc6:Stmt:=top 48
theorem sc_l_ending:FnScope ["_law_state","_law_open_ones","_law_words_here"] ["_law_state","_law_open_ones"] (defScope Zc6):=by walk_at "s"
abbrev Zeb:Stmt:=top 49
theorem sc_l_words:FnScope ["_law_script","_law_names_here","_law_words_here","_law_open_ones","_law_state","_law_room","_law_cell","_law_x","_law_word","_law_after"] ["_law_script","_law_names_here"] (defScope Zeb):=by walk_at "s"
abbrev ZbE:Stmt:=top 50
theorem Zez:FnScope ["_law_words_here","_law_k","_law_values"] ["_law_words_here","_law_k","_law_values"] (defScope ZbE):=by walk_at "s"
abbrev ZdS:Stmt:=top 51
theorem sc_l_truth:FnScope ["_law_words_here","_law_values","_law_levels","_law_open_ones","_law_k","_law_truth_here","_law_level"] ["_law_words_here","_law_values"] (defScope ZdS):=by walk_at "s"
abbrev Zfj:Stmt:=top 52
theorem sc_l_rows:FnScope ["_law_script","_law_words_here","_law_names_here","_law_numbers","_law_rows_here","_law_k","_law_values","_law_j","_law_x"] ["_law_script","_law_words_here","_law_names_here"] (defScope Zfj):=by walk_at "s"
abbrev Zd7:Stmt:=top 53
theorem sc_l_right:FnScope ["_law_found","_law_words_here","_law_rows_here","_law_names_here","_law_due","_law_again","_law_values","_law_truth_here"] ["_law_found","_law_words_here","_law_rows_here","_law_names_here"] (defScope Zd7):=by walk_at "s"
abbrev ZeZ:Stmt:=top 54
theorem sc_law:FnScope ["_law_script","_law_names_here","_law_text","_law_words_here","_law_due","_law_place","_law_found","e","_law_rows_here"] ["_law_script"] (defScope ZeZ):=by walk_at "s"
abbrev ZaY:Stmt:=inClass (top 2) 0
theorem ZcV:FnScope ["self","place"] ["self","place"] (defScope ZaY):=by walk_at "s"
abbrev ZaA:Stmt:=inClass (top 4) 0
theorem sc_Question_mentions:FnScope ["self","names","question"] ["self"] (defScope ZaA):=by walk_at "s"
abbrev ZaM:Stmt:=inClass (top 4) 1
theorem ZbF:FnScope ["self"] ["self"] (defScope ZaM):=by walk_at "s"
abbrev ZaN:Stmt:=inClass (top 4) 2
theorem ZbM:FnScope ["self"] ["self"] (defScope ZaN):=by walk_at "s"
abbrev Za2:Stmt:=inClass (top 5) 0
theorem Zey:FnScope ["self"] ["self"] (defScope Za2):=by walk_at "s"
abbrev Za9:Stmt:=inClass (top 5) 1
theorem Ze1:FnScope ["self"] ["self"] (defScope Za9):=by walk_at "s"
abbrev Zbj:Stmt:=inClass (top 5) 2
theorem Zfp:FnScope ["self"] ["self"] (defScope Zbj):=by walk_at "s"
abbrev ZcZ:Stmt:=inClass (top 6) 0
theorem ZeO:FnScope ["self","values"] ["self","values"] (defScope ZcZ):=by walk_at "s"
abbrev ZcX:Stmt:=inClass (top 6) 1
theorem Ze9:FnScope ["self"] ["self"] (defScope ZcX):=by walk_at "s"
abbrev Zcp:Stmt:=inClass (top 7) 0
theorem Zev:FnScope ["self","values"] ["self","values"] (defScope Zcp):=by walk_at "s"
abbrev Zcw:Stmt:=inClass (top 7) 1
theorem Zet:FnScope ["self"] ["self"] (defScope Zcw):=by walk_at "s"
abbrev ZbQ:Stmt:=inClass (top 8) 0
theorem Zdf:FnScope ["self","name","low","high"] ["self","name","low","high"] (defScope ZbQ):=by walk_at "s"
abbrev ZbH:Stmt:=inClass (top 8) 1
theorem Zc5:FnScope ["self"] ["self"] (defScope ZbH):=by walk_at "s"
abbrev Zcn:Stmt:=inClass (top 8) 2
theorem Zeu:FnScope ["self","values"] ["self","values"] (defScope Zcn):=by walk_at "s"
abbrev ZcF:Stmt:=inClass (top 8) 3
theorem Zex:FnScope ["self"] ["self"] (defScope ZcF):=by walk_at "s"
abbrev Zbu:Stmt:=inClass (top 9) 0
theorem Zcx:FnScope ["self","one"] ["self","one"] (defScope Zbu):=by walk_at "s"
abbrev ZbG:Stmt:=inClass (top 9) 1
theorem ZcU:FnScope ["self"] ["self"] (defScope ZbG):=by walk_at "s"
abbrev ZbV:Stmt:=inClass (top 9) 2
theorem ZbJ:FnScope ["self","values"] ["self","values"] (defScope ZbV):=by walk_at "s"
abbrev ZbZ:Stmt:=inClass (top 9) 3
theorem ZbN:FnScope ["self"] ["self"] (defScope ZbZ):=by walk_at "s"
abbrev Zb4:Stmt:=inClass (top 10) 0
theorem Zdy:FnScope ["self","parts"] ["self","parts"] (defScope Zb4):=by walk_at "s"
abbrev Zcm:Stmt:=inClass (top 10) 1
theorem ZdT:FnScope ["self"] ["self"] (defScope Zcm):=by walk_at "s"
abbrev Zc3:Stmt:=inClass (top 10) 2
theorem ZcL:FnScope ["self","values"] ["self","values"] (defScope Zc3):=by walk_at "s"
abbrev Zc1:Stmt:=inClass (top 10) 3
theorem ZcA:FnScope ["self"] ["self"] (defScope Zc1):=by walk_at "s"
abbrev Zb3:Stmt:=inClass (top 11) 0
theorem ZdL:FnScope ["self","parts"] ["self","parts"] (defScope Zb3):=by walk_at "s"
abbrev Zck:Stmt:=inClass (top 11) 1
theorem Zd3:FnScope ["self"] ["self"] (defScope Zck):=by walk_at "s"
abbrev Zc0:Stmt:=inClass (top 11) 2
theorem Zct:FnScope ["self","values"] ["self","values"] (defScope Zc0):=by walk_at "s"
abbrev ZcY:Stmt:=inClass (top 11) 3
theorem ZcG:FnScope ["self"] ["self"] (defScope ZcY):=by walk_at "s"
abbrev ZbY:Stmt:=inClass (top 24) 0
theorem Zdp:FnScope ["self","text"] ["self","text"] (defScope ZbY):=by walk_at "s"
abbrev Zdi:Stmt:=inClass (top 24) 1
theorem Zfo:FnScope ["self"] ["self"] (defScope Zdi):=by walk_at "s"
abbrev Zds:Stmt:=inClass (top 24) 2
theorem Zfr:FnScope ["self"] ["self"] (defScope Zds):=by walk_at "s"
abbrev Zcy:Stmt:=inClass (top 24) 3
theorem Zew:FnScope ["self"] ["self"] (defScope Zcy):=by walk_at "s"
abbrev Zcj:Stmt:=inClass (top 24) 4
theorem Zei:FnScope ["self","word"] ["self","word"] (defScope Zcj):=by walk_at "s"
abbrev Zcl:Stmt:=inClass (top 24) 5
theorem sc_Words_figures:FnScope ["self","number"] ["self"] (defScope Zcl):=by walk_at "s"
structure Blt (mg:Str→Option Value):Prop where
 len:mg "len"=none
 range:mg "range"=none
 isi:mg "isinstance"=none
 int:mg "int"=none
 bool:mg "bool"=none
 str:mg "str"=none
 lst:mg "list"=none
 max:mg "max"=none
 sum:mg "sum"=none
 any:mg "any"=none
 all:mg "all"=none
 enumerate:mg "enumerate"=none
 ValueError:mg "ValueError"=none
structure CD_Every (K:PySem.W.Frag)(mg:Str→Option Value)(C:Addr):Prop where
 at_:mg "Every"=some (.ref C)
 c:Cls K C
 m_holds:MDefAt K C "holds" "Every.holds" ZcZ ["self","values"]
 m_shown:MDefAt K C "shown" "Every.shown" ZcX ["self"]
 m_beneath:MDefAt K C "beneath" "Leaf.beneath" Za2 ["self"]
 m_leaves:MDefAt K C "leaves" "Leaf.leaves" Za9 ["self"]
 m_depth:MDefAt K C "depth" "Leaf.depth" Zbj ["self"]
 m_mentions:MDefAt K C "mentions" "Question.mentions" ZaA ["self"]
 ty:TyIns K C
 i_Every:IsiTo K mg C "Every" true
 i_Nobody:IsiTo K mg C "Nobody" false
 i_Within:IsiTo K mg C "Within" false
 i_Opposite:IsiTo K mg C "Opposite" false
 i_AllOf:IsiTo K mg C "AllOf" false
 i_OneOf:IsiTo K mg C "OneOf" false
 i_Question:IsiTo K mg C "Question" true
 new:MkN K C
structure CD_Nobody (K:PySem.W.Frag)(mg:Str→Option Value)(C:Addr):Prop where
 at_:mg "Nobody"=some (.ref C)
 c:Cls K C
 m_holds:MDefAt K C "holds" "Nobody.holds" Zcp ["self","values"]
 m_shown:MDefAt K C "shown" "Nobody.shown" Zcw ["self"]
 m_beneath:MDefAt K C "beneath" "Leaf.beneath" Za2 ["self"]
 m_leaves:MDefAt K C "leaves" "Leaf.leaves" Za9 ["self"]
 m_depth:MDefAt K C "depth" "Leaf.depth" Zbj ["self"]
 m_mentions:MDefAt K C "mentions" "Question.mentions" ZaA ["self"]
 ty:TyIns K C
 i_Every:IsiTo K mg C "Every" false
 i_Nobody:IsiTo K mg C "Nobody" true
 i_Within:IsiTo K mg C "Within" false
 i_Opposite:IsiTo K mg C "Opposite" false
 i_AllOf:IsiTo K mg C "AllOf" false
 i_OneOf:IsiTo K mg C "OneOf" false
 i_Question:IsiTo K mg C "Question" true
 new:MkN K C
structure CD_Within (K:PySem.W.Frag)(mg:Str→Option Value)(C:Addr):Prop where
 at_:mg "Within"=some (.ref C)
 c:Cls K C
 init:MakerAt K C "Within.__init__" ZbQ ["self","name","low","high"]
 m_mentions:MDefAt K C "mentions" "Within.mentions" ZbH ["self"]
 m_holds:MDefAt K C "holds" "Within.holds" Zcn ["self","values"]
 m_shown:MDefAt K C "shown" "Within.shown" ZcF ["self"]
 m_beneath:MDefAt K C "beneath" "Leaf.beneath" Za2 ["self"]
 m_leaves:MDefAt K C "leaves" "Leaf.leaves" Za9 ["self"]
 m_depth:MDefAt K C "depth" "Leaf.depth" Zbj ["self"]
 ty:TyIns K C
 i_Every:IsiTo K mg C "Every" false
 i_Nobody:IsiTo K mg C "Nobody" false
 i_Within:IsiTo K mg C "Within" true
 i_Opposite:IsiTo K mg C "Opposite" false
 i_AllOf:IsiTo K mg C "AllOf" false
 i_OneOf:IsiTo K mg C "OneOf" false
 i_Question:IsiTo K mg C "Question" true
 n_name:NoAttr K C "name"
 n_low:NoAttr K C "low"
 n_high:NoAttr K C "high"
structure CD_Opposite (K:PySem.W.Frag)(mg:Str→Option Value)(C:Addr):Prop where
 at_:mg "Opposite"=some (.ref C)
 c:Cls K C
 init:MakerAt K C "Opposite.__init__" Zbu ["self","one"]
 m_beneath:MDefAt K C "beneath" "Opposite.beneath" ZbG ["self"]
 m_holds:MDefAt K C "holds" "Opposite.holds" ZbV ["self","values"]
 m_shown:MDefAt K C "shown" "Opposite.shown" ZbZ ["self"]
 m_mentions:MDefAt K C "mentions" "Question.mentions" ZaA ["self"]
 m_leaves:MDefAt K C "leaves" "Question.leaves" ZaM ["self"]
 m_depth:MDefAt K C "depth" "Question.depth" ZaN ["self"]
 ty:TyIns K C
 i_Every:IsiTo K mg C "Every" false
 i_Nobody:IsiTo K mg C "Nobody" false
 i_Within:IsiTo K mg C "Within" false
 i_Opposite:IsiTo K mg C "Opposite" true
 i_AllOf:IsiTo K mg C "AllOf" false
 i_OneOf:IsiTo K mg C "OneOf" false
 i_Question:IsiTo K mg C "Question" true
 n_one:NoAttr K C "one"
structure CD_AllOf (K:PySem.W.Frag)(mg:Str→Option Value)(C:Addr):Prop where
 at_:mg "AllOf"=some (.ref C)
 c:Cls K C
 init:MakerAt K C "AllOf.__init__" Zb4 ["self","parts"]
 m_beneath:MDefAt K C "beneath" "AllOf.beneath" Zcm ["self"]
 m_holds:MDefAt K C "holds" "AllOf.holds" Zc3 ["self","values"]
 m_shown:MDefAt K C "shown" "AllOf.shown" Zc1 ["self"]
 m_mentions:MDefAt K C "mentions" "Question.mentions" ZaA ["self"]
 m_leaves:MDefAt K C "leaves" "Question.leaves" ZaM ["self"]
 m_depth:MDefAt K C "depth" "Question.depth" ZaN ["self"]
 ty:TyIns K C
 i_Every:IsiTo K mg C "Every" false
 i_Nobody:IsiTo K mg C "Nobody" false
 i_Within:IsiTo K mg C "Within" false
 i_Opposite:IsiTo K mg C "Opposite" false
 i_AllOf:IsiTo K mg C "AllOf" true
 i_OneOf:IsiTo K mg C "OneOf" false
 i_Question:IsiTo K mg C "Question" true
 n_parts:NoAttr K C "parts"
structure CD_OneOf (K:PySem.W.Frag)(mg:Str→Option Value)(C:Addr):Prop where
 at_:mg "OneOf"=some (.ref C)
 c:Cls K C
 init:MakerAt K C "OneOf.__init__" Zb3 ["self","parts"]
 m_beneath:MDefAt K C "beneath" "OneOf.beneath" Zck ["self"]
 m_holds:MDefAt K C "holds" "OneOf.holds" Zc0 ["self","values"]
 m_shown:MDefAt K C "shown" "OneOf.shown" ZcY ["self"]
 m_mentions:MDefAt K C "mentions" "Question.mentions" ZaA ["self"]
 m_leaves:MDefAt K C "leaves" "Question.leaves" ZaM ["self"]
 m_depth:MDefAt K C "depth" "Question.depth" ZaN ["self"]
 ty:TyIns K C
 i_Every:IsiTo K mg C "Every" false
 i_Nobody:IsiTo K mg C "Nobody" false
 i_Within:IsiTo K mg C "Within" false
 i_Opposite:IsiTo K mg C "Opposite" false
 i_AllOf:IsiTo K mg C "AllOf" false
 i_OneOf:IsiTo K mg C "OneOf" true
 i_Question:IsiTo K mg C "Question" true
 n_parts:NoAttr K C "parts"
structure CD_Words (K:PySem.W.Frag)(mg:Str→Option Value)(C:Addr):Prop where
 at_:mg "Words"=some (.ref C)
 c:Cls K C
 init:MakerAt K C "Words.__init__" ZbY ["self","text"]
 m_here:MDefAt K C "here" "Words.here" Zdi ["self"]
 m_step:MDefAt K C "step" "Words.step" Zds ["self"]
 m_begins:MDefAt K C "begins" "Words.begins" Zcy ["self"]
 m_pass_by:MDefAt K C "pass_by" "Words.pass_by" Zcj ["self","word"]
 m_figures:MDefAt K C "figures" "Words.figures" Zcl ["self"]
 n_cut_up:NoAttr K C "cut_up"
 n_reached:NoAttr K C "reached"
def rzX (C:Addr)(sp:Sp)(E:XK)(vs:List V)(H1:Hp):Prop:=vs.length≤1000∧∀ ea,H1 ea=none→sp (.ref ea::vs) (upd H1 ea (excO ea C)) (fun v H2=>v=.non∧∃ dx,H2 ea=some (excH ea C dx)∧E (.ref C) (some dx) (del H2 ea)) E0
theorem Zie {C:Addr}{sp:Sp}{E:XK}{t:TA}{D:Ends}{σ:L2.St}{H:Hp}:tRaiseX C sp E t D σ H=t σ H fun vs H1=>rzX C sp E vs H1:=rfl
local macro_rules | `(tactic| walk_at "vc")=>`(tactic| ((try dsimp only [ZfS,Zf1,Zhr,ZjK,ZiT,Zhf,Zf4,Zhw,Zi3,ZiW,Zg2,ZfP,Zhm,ZiR,Zba,Zjq,tC_ap,tOp_ap,tUn_ap,rI_ap,rI0_ap,rU_ap,rEq_ap,rNe_ap,Zjb,ZhM,ZiP,Zhe,tB_ap,ZjA,tOr_ap,ZjF,Zhb,Zjo,Zg8,tIf_ap,Zhz,ZjO,Zhc,ZiV,Zi5,tCB_ap,tBM_ap,ZiX,ZjV,ZjR,Zjg,ZiG,Zhj,ZeS,ZjT,Zju,Zhp,ZgU,ZgW,ZhG,ZfG,Zc7,Zjh,ZgZ,ZjU,Ze7,rIn_ap,ZiS,ZeV,Zjl,Zje,ZiU,ZjW,Zi1,Zg6,Zi4,ZjY,Zi7,Zhs,ZjX,tSl_ap,Zfd,ZhR,ZjS,ZjM,ZhC,L2.start,capSt]); (try simp only [ZfS,Zf1,Zhr,ZjK,ZiT,Zhf,Zf4,Zhw,Zie,Zi3,ZiW,Zg2,ZfP,Zhm,ZiR,Zba,Zjq,tC_ap,tOp_ap,tUn_ap,rI_ap,rI0_ap,rU_ap,rEq_ap,rNe_ap,scal_ii,scal_bb,scal_ss,Zjb,ZhM,ZiP,Zhe,tB_ap,ZjA,tOr_ap,ZjF,Zhb,Zjo,Zg8,tIf_ap,Zhz,ZjO,Zhc,ZiV,Zi5,tCB_ap,tBM_ap,ZiX,tyV_int,tyV_list,ZjV,ZjR,Zjg,ZiG,Zhj,ZeS,ZjT,Zju,Zhp,ZgU,ZgW,ZhG,ZfG,Zc7,rIsi_int,Zkc,Zjh,ZgZ,ZjU,Ze7,rIn_ap,ZiS,ZeV,Zjl,Zje,ZiU,ZjW,Zi1,tCBK,rMaxD,Zg6,Zi4,ZjY,Zi7,Zhs,ZjX,tSl_ap,Zfd,ZhR,ZjS,ZjM,ZhC,tyV_str,CDiv,CMul,CPow,CShl,L2.start,capSt,List.map_cons,List.map_nil,List.length_cons,List.length_nil,List.append_nil,List.nil_append,List.cons_append,List.getElem?_cons_zero,List.getElem?_cons_succ,List.set_cons_zero,List.set_cons_succ,List.getD_cons_zero,List.getD_cons_succ,rep0,rep1,rep2,rep3,rep4,rep5,rep6,rep7,rep8,rep9,rep10,rep11,Nat.reduceAdd,Nat.reduceSub,Int.reduceLT,Int.reduceLE,Int.reducePow,Int.reduceNeg,Int.reduceMul,Int.reduceAdd,Int.reduceSub,Int.reduceToNat,Int.reduceEq,reduceIte,Option.some.injEq,V.int.injEq,V.bl.injEq,V.ref.injEq,V.str.injEq,V.ty.injEq,List.cons.injEq,exists_and_left,exists_eq_left,exists_eq_left',exists_eq_right,exists_eq',exists_eq,and_true,true_and,Int.zero_add,decide_eq_true_eq,Bool.not_eq_true',decide_eq_false_iff_not,if_true,if_false,Bool.false_eq_true,Bool.true_eq_false,ite_not,not_true_eq_false,not_false_eq_true,Bool.not_true,Bool.not_false,decide_true,decide_false,or_true,true_or,reduceCtorEq,false_and,and_false,exists_false,false_or,or_false])))
def mixI (c k:Int):Int:=((c*48271+k*7919+104729)%2147483647)*((c*48271+k*7919+104729)%2147483647)%2147483629
def spMixed:Sp:=fun vs H Q _=>∃ c k:Int,vs=[.int c,.int k]∧Q (.int (mixI c k)) H
section
variable {P:Program}{w:World}{K:PySem.W.Frag}{mg:Str→Option Value}{base:Heap}
theorem ok_mixed (d:DefAt K mg "_law_mixed" Zec ["_law_cell","_law_k"]):FnAt P w K mg base "_law_mixed" ["_law_cell","_law_k"] 1 spMixed:=by
 refine FnAt.of d sc_l_mixed (fun vs H Q E h=>?_) (fun f cdv A outer s H vs Q E hr h=>?_)
 · obtain ⟨c,k,rfl,_⟩:=h
   rfl
 obtain ⟨c,k,rfl,q⟩:=h;refine ⟨_,(Zab (Zao (i:=2) sc_l_mixed.nd rfl (by walk_at "l") (Zar ZaP (Zar ZaR (Zar ZaR (Zar Zen (pv 0) Zak) (Zar Zen (pv 1) Zak)) Zak) Zak))
     (Zae (Zam (Zar ZaP (Zar Zen (pv 2) (pv 2)) Zak)))),?_⟩
 walk_at "vc";have h1:=Int.emod_nonneg (c*48271+k*7919+104729) (b:=2147483647) (by decide);have h2:=Int.emod_lt_of_pos (c*48271+k*7919+104729) (b:=2147483647) (by decide);exact ⟨.inl ⟨by omega,by omega⟩,q⟩
end
def spCell (K:PySem.W.Frag):Sp:=fun vs H Q _=>∃ (a:Addr) (ns:List Int) (k:Nat),vs=[.ref a,.int k]∧SqL K H a (ns.map V.int)∧Q (.int (ns.getD k 0)) H
section
variable {P:Program}{w:World}{K:PySem.W.Frag}{mg:Str→Option Value}{base:Heap}
theorem Zix (B:Blt mg)(d:DefAt K mg "_law_cell_at" ZcJ ["_law_script","_law_k"]):FnAt P w K mg base "_law_cell_at" ["_law_script","_law_k"] 1 (spCell K):=by
 refine FnAt.of d Zgc (fun vs H Q E h=>?_) (fun f cdv A outer s H vs Q E hr h=>?_)
 · obtain ⟨a,ns,k,rfl,_⟩:=h
   rfl
 obtain ⟨a,ns,k,rfl,hS,q⟩:=h;refine ⟨_,(Zab (Zau (Zai Zg3 (pv 1) (Zas (ZaW K) rfl B.len PySem.boot_len (Zaa (pv 0) Zac)) (nomark _)) (Zae (Zam (Zav (Zan K) (pv 0) (pv 1) (fun _ _=>rfl)))) Zap)
     (Zae (Zam Zak))),?_⟩
 walk_at "vc";refine ⟨_,.inl hS,?_⟩;rw [List.length_map];by_cases hk:k<ns.length
 · rw [if_pos (by omega)]
   refine ⟨_,hS,.int (ns.getD k 0),ZaI ?_,q⟩;rw [List.getElem?_map,List.getElem?_eq_getElem hk,List.getD_eq_getElem?_getD,List.getElem?_eq_getElem hk];rfl
 · rw [if_neg (by omega)]
   have e:ns.getD k 0=0:=by rw [List.getD_eq_getElem?_getD,List.getElem?_eq_none (by omega)];rfl
   rw [e] at q;exact q
end
def spWhole:Sp:=fun vs H Q _=>∃ i:Int,vs=[.int i]∧Q (.bl true) H
section
variable {P:Program}{w:World}{K:PySem.W.Frag}{mg:Str→Option Value}{base:Heap}
theorem ok_whole (B:Blt mg)(d:DefAt K mg "_law_whole" ZdU ["_law_found"]):FnAt P w K mg base "_law_whole" ["_law_found"] 1 spWhole:=by
 refine FnAt.of d Ziz (fun vs H Q E h=>?_) (fun f cdv A outer s H vs Q E hr h=>?_)
 · obtain ⟨k,rfl,_⟩:=h
   rfl
 obtain ⟨k,rfl,q⟩:=h;refine ⟨_,(Zae (Zam (Zee (Zas (ZdR K) rfl B.isi ZcE (Zaa (pv 0) (Zaa (Zjn (v:=.ty "int") rfl B.int boot_int rfl) Zac))) (ZcI (Zib (Zas (ZdR K) rfl B.isi ZcE (Zaa (pv 0) (Zaa (Zjn (v:=.ty "bool") rfl B.bool boot_bool rfl) Zac)))))))),?_⟩;walk_at "vc";exact q
end
def ofS (w s:Str):Bool:=w.cps.toList.all fun c=>decide (c∈s.cps.toList)
abbrev letS:Str:=Str.ofString "abcdefghijklmnopqrstuvwxyz"
abbrev figS:Str:=Str.ofString "0123456789"
def ws8:List V:=[.str (Str.ofString "and"),.str (Str.ofString "or"),.str (Str.ofString "not"),.str (Str.ofString "all"),.str (Str.ofString "none"),.str (Str.ofString "is"),.str (Str.ofString "from"),.str (Str.ofString "to")]
def nameB (w:Str):Bool:=decide (1≤w.length)&&decide (w.length≤8)&&ofS w letS&&!inV (.str w) ws8
def figB (w:Str):Bool:=decide (1≤w.length)&&decide (w.length≤12)&&ofS w figS&&!(decide (w.cps.toList.head?=some 48)&&decide (1<w.length))
def figV (w:Str):V:=if figB w=true then .int ((PySem.NumText.digitsVal w.cps.toList:Nat):Int) else .non
def spOf:Sp:=fun vs H Q _=>∃ (w s:Str),vs=[.str w,.str s]∧w.length≤100000∧∀ H',Same H H'→Q (.bl (ofS w s)) H'
def spName:Sp:=fun vs H Q _=>∃ w:Str,vs=[.str w]∧w.length≤100000∧∀ H',Same H H'→Q (.bl (nameB w)) H'
def spFig:Sp:=fun vs H Q _=>∃ w:Str,vs=[.str w]∧w.length≤100000∧∀ H',Same H H'→Q (figV w) H'
theorem ZfM (l:List Nat)(p:Nat→Bool):((List.range l.length).map fun i=>p ((⟨l⟩:Array Nat).getD i 0)).all id=l.all p:=by
 rw [List.all_map,Bool.eq_iff_iff,List.all_eq_true,List.all_eq_true];have g:∀ i (h:i<l.length),(⟨l⟩:Array Nat).getD i 0=l[i]:=fun i h=>by
   unfold Array.getD;rw [dif_pos (show i<(⟨l⟩:Array Nat).size from h)];rfl
 constructor
 · intro w c hc
   obtain ⟨i,hi,rfl⟩:=List.mem_iff_getElem.mp hc;have:=w i (List.mem_range.mpr hi);rw [← g i hi];exact this
 · intro w i hi
   have hi:=List.mem_range.mp hi;show p ((⟨l⟩:Array Nat).getD i 0)=true;rw [g i hi];exact w _ (List.getElem_mem hi)
theorem Zj0 (l:List Nat)(p:Nat→Bool):((List.range l.length).filter fun i=>p ((⟨l⟩:Array Nat).getD i 0)).length=l.length↔l.all p=true:=by have e:=List.length_filter_eq_length_iff (p:=fun i=>p ((⟨l⟩:Array Nat).getD i 0)) (l:=List.range l.length);rw [List.length_range] at e;rw [e,← ZfM l p,List.all_map,List.all_eq_true];rfl
theorem small5 {n:Nat}(h:n≤100000):n≤sizeLine:=Nat.le_trans h (by decide)
theorem flat8:ws8.all flatV=true:=by decide
theorem ZdM (c:Nat):((⟨#[c]⟩:Str)=Str.ofString "0")↔c=48:=by
 have e:Str.ofString "0"=⟨#[48]⟩:=by decide +kernel
 rw [e];constructor
 · intro h
   injection h with h
   have:=congrArg Array.toList h;simpa using this
 · rintro rfl
   rfl
theorem ZiL {l:List Nat}(h:ofS ⟨⟨l⟩⟩ figS=true):PySem.NumText.AllDigits l:=fun c hc=>by
 have e:=List.all_eq_true.mp h c hc;have e:=of_decide_eq_true e;have f:figS.cps.toList=[48,49,50,51,52,53,54,55,56,57]:=by decide +kernel
 rw [f] at e;simp at e;omega
theorem ZgV {l:List Nat}(h:ofS ⟨⟨l⟩⟩ figS=true)(h0:l≠[])(h1:l.length≤12):intText? ⟨⟨l⟩⟩=some ((PySem.NumText.digitsVal l:Nat):Int) :=
 intText_digits (x:=⟨⟨l⟩⟩) (ZiL h) h0 (Nat.le_trans h1 (by decide))
section
variable {P:Program}{w:World}{K:PySem.W.Frag}{mg:Str→Option Value}{base:Heap}
theorem ok_is_of (B:Blt mg)(d:DefAt K mg "is_of" ZgI ["word","signs"]):FnAt P w K mg base "is_of" ["word","signs"] 1 spOf:=by
 refine FnAt.of d sc_is_of (fun vs H Q E h=>?_) (fun f cdv A outer s H vs Q E hr h=>?_)
 · obtain ⟨x,y,rfl,_⟩:=h
   rfl
 obtain ⟨x,y,rfl,hl,q⟩:=h;refine ⟨_,(Zae (Zam (Zas (ZfW K) rfl B.all ZfN (Zaa (Zbh ["sign"] [1] rfl (Zh9 (pv 0)) (fun _ _ _ _ _=>ZaB (i:=0) (by show List.Nodup (["sign","signs"]:List Str);decide +kernel) rfl (Or.inl rfl)) (fun _ _ _ _ _=>ZbR) (fun _ _ _ _ _=>(Zbp Zbl (pv 0) (pv 1) (by with_unfolding_all rfl))) ⟨⟨_,rfl,rfl,.inl rfl⟩,trivial⟩ ZaO) Zac)))),?_⟩;walk_at "vc";obtain ⟨⟨l⟩⟩:=x;refine compF (fun _=>true) (fun i=>.bl (decide ((⟨l⟩:Array Nat).getD i 0∈y.cps.toList))) (show l.length≤1000000 from Nat.le_trans hl (by decide)) (fun i H2 R hi s h=>h) (fun i H2 R hi _ s h=>?_) (fun D hD=>?_)
 · walk_at "vc"
   rw [show sgn ⟨⟨l⟩⟩ i=.str ⟨#[(⟨l⟩:Array Nat).getD i 0]⟩ from rfl];refine ⟨_,rfl,?_⟩;rw [Zgh];exact h
 · refine ⟨D,rfl,(List.range l.length).map fun i=>decide ((⟨l⟩:Array Nat).getD i 0∈y.cps.toList),SqL.of ?_,?_⟩
   · rw [Zad,List.filter_eq_self.mpr (fun _ _=>rfl),List.map_map]
     rfl
   · rw [ZfM l fun c=>decide (c∈y.cps.toList)]
     exact q _ (Same.new hD)
theorem Zh0 (cN:∃ t,mg "LONGEST_NAME"=some (.int 8 t)) (cL:∃ t,mg "LETTERS"=some (.str letS t)) (cW:∃ a,mg "WORDS"=some (.ref a)∧∀ H,SqT K H a ws8) (B:Blt mg) (h_is_of:FnAt P w K mg base "is_of" ["word","signs"] 1 spOf) (d:DefAt K mg "is_name" Zd2 ["word"]):FnAt P w K mg base "is_name" ["word"] 2 spName:=by
 obtain ⟨t1,c_LONGEST_NAME⟩:=cN;obtain ⟨t2,c_LETTERS⟩:=cL;obtain ⟨T_WORDS,c_WORDS,hW⟩:=cW;refine FnAt.of d Zid (fun vs H Q E h=>?_) (fun f cdv A outer s H vs Q E hr h=>?_)
 · obtain ⟨x,rfl,_⟩:=h
   rfl
 obtain ⟨x,rfl,hl,q⟩:=h;refine ⟨_,(Zae (Zam (Zee (Zdv Zc4 Zc4 Zak (Zas Zaw rfl B.len PySem.boot_len (Zaa (pv 0) Zac)) (Zbk (v:=.int 8) rfl c_LONGEST_NAME ⟨_,rfl⟩)) (Zee (Zaq h_is_of (hr.mono (by decide)) rfl (Zaa (pv 0) (Zaa (Zbk (v:=.str (Str.ofString "abcdefghijklmnopqrstuvwxyz")) rfl c_LETTERS ⟨_,rfl⟩) Zac))) (ZcI (Zbp (Zfx K) (pv 0) (Zbk (v:=.ref T_WORDS) rfl c_WORDS rfl) (by with_unfolding_all rfl))))))),?_⟩;walk_at "vc";obtain ⟨⟨l⟩⟩:=x;refine ⟨small5 hl,?_⟩;have e:nameB ⟨⟨l⟩⟩=(decide (1≤l.length)&&decide (l.length≤8)&&ofS ⟨⟨l⟩⟩ letS&&!inV (.str ⟨⟨l⟩⟩) ws8):=rfl;have ln:(⟨⟨l⟩⟩:Str).length=l.length:=rfl;rw [ln];by_cases c1:1≤l.length
 · rw [if_pos (by omega)]
   by_cases c2:l.length≤8
   · rw [if_pos (by omega)]
     refine ⟨⟨⟨l⟩⟩,letS,rfl,hl,fun H1 s1=>⟨_,rfl,?_⟩⟩;have e2:nameB ⟨⟨l⟩⟩=(ofS ⟨⟨l⟩⟩ letS&&!inV (.str ⟨⟨l⟩⟩) ws8):=by rw [e,decide_eq_true c1,decide_eq_true c2];rfl
     cases ho:ofS ⟨⟨l⟩⟩ letS with
     | true =>
       rw [if_pos rfl];refine ⟨_,.inr (hW H1),rfl,flat8,?_⟩;rw [ho,Bool.true_and] at e2;rw [← e2];exact q H1 s1
     | false =>
       rw [if_neg (by decide)];rw [ho,Bool.false_and] at e2;rw [← e2];exact q H1 s1
   · rw [if_neg (by omega)]
     have e2:nameB ⟨⟨l⟩⟩=false:=by rw [e,decide_eq_false c2,Bool.and_false,Bool.false_and,Bool.false_and]
     rw [← e2];exact q H (Same.refl _)
 · rw [if_neg (by omega)]
   have e2:nameB ⟨⟨l⟩⟩=false:=by rw [e,decide_eq_false c1,Bool.false_and,Bool.false_and,Bool.false_and]
   rw [← e2];exact q H (Same.refl _)
theorem Zfu (cN:∃ t,mg "LONGEST_FIGURES"=some (.int 12 t)) (cF:∃ t,mg "FIGURES"=some (.str figS t)) (B:Blt mg) (h_is_of:FnAt P w K mg base "is_of" ["word","signs"] 1 spOf) (d:DefAt K mg "figures_of" Zcb ["word"]):FnAt P w K mg base "figures_of" ["word"] 2 spFig:=by
 obtain ⟨t1,c_LONGEST_FIGURES⟩:=cN;obtain ⟨t2,c_FIGURES⟩:=cF;refine FnAt.of d Zfn (fun vs H Q E h=>?_) (fun f cdv A outer s H vs Q E hr h=>?_)
 · obtain ⟨x,rfl,_⟩:=h
   rfl
 obtain ⟨x,rfl,hl,q⟩:=h;refine ⟨_,(Zab (Zau (PW.pt (Zbw (ZhZ (pt_chain Zc4 Zc4 Zak (Zas Zaw rfl B.len PySem.boot_len (Zaa (pv 0) Zac)) (Zbk (v:=.int 12) rfl c_LONGEST_FIGURES ⟨_,rfl⟩))) (Zbe (ZhZ (Zdc (Zaq h_is_of (hr.mono (by decide)) rfl (Zaa (pv 0) (Zaa (Zbk (v:=.str (Str.ofString "0123456789")) rfl c_FIGURES ⟨_,rfl⟩) Zac)))))))) (Zae (Zam Za6)) Zap)
     (Zab (Zau (PW.pt (ZaX (Zai Zat (Zav Zda (pv 0) Zak (fun _ _=>rfl)) Zaf (nomark _)) (ZaU (Zai ZcM (pv 0) Zaf (nomark _))))) (Zae (Zam Za6)) Zap)
     (Zae (Zam (ZaK Zb0 rfl B.int boot_int (Zaa (pv 0) Zac)))))),?_⟩
 walk_at "vc";obtain ⟨⟨l⟩⟩:=x;refine ⟨small5 hl,?_⟩;have e:figB ⟨⟨l⟩⟩=(decide (1≤l.length)&&decide (l.length≤12)&&ofS ⟨⟨l⟩⟩ figS&&!(decide (l.head?=some 48)&&decide (1<l.length))):=rfl;have no:figB ⟨⟨l⟩⟩=false→∀ H',Same H H'→Q .non H':=fun z H' s'=>by
   have:=q H' s';unfold figV at this;rw [if_neg (by rw [z];decide)] at this;exact this
 have ln:(⟨⟨l⟩⟩:Str).length=l.length:=rfl;rw [ln];by_cases c1:1≤l.length
 · rw [if_pos (by omega)]
   by_cases c2:l.length≤12
   · rw [if_pos (by omega)]
     refine ⟨⟨⟨l⟩⟩,figS,rfl,hl,fun H1 s1=>⟨_,rfl,?_⟩⟩;rw [decide_eq_true c1,decide_eq_true c2,Bool.true_and,Bool.true_and] at e;cases ho:ofS ⟨⟨l⟩⟩ figS with
     | false =>
       rw [if_pos rfl];exact no (by rw [e,ho];rfl) H1 s1
     | true =>
       rw [if_neg (by decide)];rw [ho,Bool.true_and] at e;cases l with
       | nil=>exact absurd c1 (by decide)
       | cons c0 r =>
         have it:=ZgV ho (by simp) c2;have yes:figB ⟨⟨c0::r⟩⟩=true→(⟨⟨c0::r⟩⟩:Str).length≤640∧∃ n,intText? ⟨⟨c0::r⟩⟩=some n∧Q (.int n) H1:=fun z=>by
           refine ⟨Nat.le_trans c2 (by decide),_,it,?_⟩;have:=q H1 s1;unfold figV at this;rw [if_pos z] at this;exact this
         refine ⟨small5 hl,c0,ZaI (xs:=c0::r) (j:=0) rfl,?_⟩;have hz:=ZdM c0;by_cases c3:c0=48
         · rw [if_pos (hz.mpr c3)]
           subst c3;cases r with
           | nil =>
             rw [if_pos (show (⟨⟨[48]⟩⟩:Str)=Str.ofString "0" from (ZdM 48).mpr rfl)];exact yes (by rw [e];rfl)
           | cons c4 r4 =>
             rw [if_neg (fun z=>by
               have e0:Str.ofString "0"=⟨#[48]⟩:=by decide +kernel
               rw [e0] at z;injection z with z
               have:=congrArg Array.toList z;simp at this)]
             exact no (by rw [e];simp) H1 s1
         · rw [if_neg (fun z=>c3 (hz.mp z))]
           exact yes (by rw [e];simp [c3])
   · rw [if_neg (by omega)]
     exact no (by rw [e,decide_eq_false c2,Bool.and_false,Bool.false_and,Bool.false_and]) H (Same.refl _)
 · rw [if_neg (by omega)]
   exact no (by rw [e,decide_eq_false c1,Bool.false_and,Bool.false_and,Bool.false_and]) H (Same.refl _)
end
abbrev Tok:=Str × Nat
def emS:Str:=Str.ofString ""
def endW (w:Str)(p:Nat):List Tok:=if w=emS then [] else [(w,p-w.length)]
def cutS:List Nat→Nat→Str→List Tok
 | [],p,w=>endW w p++[(emS,p)]
 | c::r,p,w=>if c=32∨c=40∨c=41 then endW w p++((if c=32 then [] else [((⟨#[c]⟩:Str),p)])++cutS r (p+1) emS) else cutS r (p+1) (w++⟨#[c]⟩)
structure Toks (H:Hp)(us:List V)(ts:List Tok):Prop where
 len:us.length=ts.length
 it:∀ (i:Nat) u t,us[i]?=some u→ts[i]?=some t→∃ a,u=.ref a∧H a=some (.tup [.str t.1,.int t.2])
theorem Toks.nil {H:Hp}:Toks H [] []:=⟨rfl,fun i u t e=>by cases e⟩
theorem Toks.keep {H H':Hp}{us:List V}{ts:List Tok}(h:Toks H us ts)(k:∀ a xs,H a=some (.tup xs)→H' a=some (.tup xs)):Toks H' us ts:=⟨h.len,fun i u t e1 e2=>let ⟨a,x,y⟩:=h.it i u t e1 e2;⟨a,x,k _ _ y⟩⟩
theorem Toks.snoc {H:Hp}{us:List V}{ts:List Tok}{a:Addr}{t:Tok}(h:Toks H us ts)(e:H a=some (.tup [.str t.1,.int t.2])):Toks H (us++[.ref a]) (ts++[t]):=by
 refine ⟨by rw [List.length_append,List.length_append,h.len];rfl,fun i u x e1 e2=>?_⟩;by_cases c:i<us.length
 · rw [List.getElem?_append_left c] at e1
   rw [List.getElem?_append_left (by rw [← h.len];exact c)] at e2;exact h.it i u x e1 e2
 · have c':us.length≤i:=by omega
   rw [List.getElem?_append_right c'] at e1;rw [List.getElem?_append_right (by rw [← h.len];exact c'),← h.len] at e2;cases z:i-us.length with
   | zero =>
     rw [z] at e1 e2;cases e1;cases e2;exact ⟨a,rfl,e⟩
   | succ n =>
     rw [z] at e1;cases e1
theorem ZaH (a b:Str):(a++b).length=a.length+b.length:=by show (a.cps++b.cps).size=a.cps.size+b.cps.size;exact Array.size_append
def spCut:Sp:=fun vs H Q _=>∃ z:Str,vs=[.str z]∧z.length≤100000∧∀ l us H',Same H H'→H l=none→H' l=some (.lst us)→Toks H' us (cutS z.cps.toList 0 emS)→Q (.ref l) H'
structure CutI (z:Str)(H:Hp)(i:Nat)(σ:L2.St)(H':Hp):Prop where
 ex:∃ (l:Addr) (us:List V) (w:Str) (ts:List Tok) (v3 v4:Option V),σ=[some (.str z),some (.ref l),some (.str w),v3,v4]∧H l=none∧H' l=some (.lst us)∧us.length≤2*i∧w.length≤i∧Toks H' us ts∧ts++cutS (z.cps.toList.drop i) i w=cutS z.cps.toList 0 emS
 same:Same H H'
theorem ZcT {H H1:Hp}{l p:Addr}{us:List V}{ts:List Tok}{t:Tok}(hl:H l=none)(hp:H1 l=some (.lst us))(np:H1 p=none)(tk:Toks H1 us ts)(sm:Same H H1):upd H1 p (.tup [.str t.1,.int t.2]) l=some (.lst us)∧Toks (upd (upd H1 p (.tup [.str t.1,.int t.2])) l (.lst (us++[.ref p]))) (us++[.ref p]) (ts++[t])∧Same H (upd (upd H1 p (.tup [.str t.1,.int t.2])) l (.lst (us++[.ref p]))):=by
 have ne:l≠p:=Zaj hp np;refine ⟨by rw [Zah ne];exact hp,Toks.snoc (tk.keep fun a xs e=>?_) ?_,fun b o e=>?_⟩
 · rw [Zah (fun z=>by rw [z,hp] at e;cases e),Zah (Zaj e np)]
   exact e
 · rw [Zah (Ne.symm ne)]
   exact Zad
 · rw [Zah (Zaj e hl),Zah (Zaj (sm _ _ e) np)]
   exact sm _ _ e
theorem one_s:Str.ofString " "=⟨#[32]⟩∧Str.ofString "("=⟨#[40]⟩∧Str.ofString ")"=⟨#[41]⟩:=by decide +kernel
theorem one_eq {c d:Nat}:((⟨#[c]⟩:Str)=⟨#[d]⟩)↔c=d:=⟨fun h=>by injection h with h;simpa using h,fun h=>by rw [h]⟩
theorem ZeH {a b:Str}:(eqV (.str a) (.str b)=true)↔a=b:=by show (a==b)=true↔_;exact beq_iff_eq
theorem in3 (c:Nat):inV (.str ⟨#[c]⟩) [.str (Str.ofString " "),.str (Str.ofString "("),.str (Str.ofString ")")]=decide (c=32∨c=40∨c=41):=by rw [one_s.1,one_s.2.1,one_s.2.2];rw [Bool.eq_iff_iff,decide_eq_true_eq];show (eqV (.str ⟨#[32]⟩) (.str ⟨#[c]⟩)||(eqV (.str ⟨#[40]⟩) (.str ⟨#[c]⟩)||(eqV (.str ⟨#[41]⟩) (.str ⟨#[c]⟩)||false)))=true↔_;simp only [Bool.or_eq_true,ZeH,one_eq,Bool.or_false,eq_comm (a:=c)]
theorem ZfR (c:Nat):((⟨#[c]⟩:Str)=Str.ofString " ")↔c=32:=by rw [one_s.1];exact one_eq
theorem ZdX {z:Str}{i:Nat}(hi:i<z.cps.size):z.cps.toList.drop i=z.cps.getD i 0::z.cps.toList.drop (i+1):=by
 rw [List.drop_eq_getElem_cons (by simpa using hi)];congr 1
 simp [Array.getD,hi]
section
variable {P:Program}{w:World}{K:PySem.W.Frag}{mg:Str→Option Value}{base:Heap}
theorem ok_cut (B:Blt mg) (d:DefAt K mg "cut" s_cut ["text"]):FnAt P w K mg base "cut" ["text"] 1 spCut:=by
 refine FnAt.of d sc_cut (fun vs H Q E h=>?_) (fun f cdv A outer s H vs Q E hr h=>?_)
 · obtain ⟨z,rfl,_⟩:=h
   rfl
 obtain ⟨z,rfl,hz,q⟩:=h;have hz':z.cps.size≤100000:=hz;refine ⟨_,(Zab (Zao (i:=1) sc_cut.nd rfl (by walk_at "l") (Zaz Zac))
     (Zab (Zao (i:=2) sc_cut.nd rfl (by walk_at "l") Zaf)
     (Zab (Zbs PassesOwn.never rfl (pi_enum rfl B.enumerate (Zaa (pv 0) Zac)) (Zjt K rfl (ZdE (ZaB (i:=3) sc_cut.nd rfl (by walk_at "l")) (ZdE (ZaB (i:=4) sc_cut.nd rfl (by walk_at "l")) ZjQ))) (Zab (Zau (Zai (Zfx K) (pv 4) (ZbU (Zaa Zaf (Zaa Zaf (Zaa Zaf Zac)))) (by with_unfolding_all rfl)) (Zab (Zao (i:=2) sc_cut.nd rfl (by walk_at "l") (Zar ZaE (pv 2) (pv 4)))
     (Zae (ZhQ))) Zap)
     (Zab (Zau (Zai ZcM (pv 2) Zaf (nomark _)) (Zae (Zay (ZaZ K PySem.F.plainAttrs_list PySem.F.slot_list_append PySem.F.type_list_append ZaL (pv 1) (Zaa (ZbU (Zaa (pv 2) (Zaa (Zar Zgn (pv 3) (Zas Zaw rfl B.len PySem.boot_len (Zaa (pv 2) Zac))) Zac))) Zac)))) Zap)
     (Zab (Zao (i:=2) sc_cut.nd rfl (by walk_at "l") Zaf)
     (Zae (Zau (Zai ZcM (pv 4) Zaf (nomark _)) (Zae (Zay (ZaZ K PySem.F.plainAttrs_list PySem.F.slot_list_append PySem.F.type_list_append ZaL (pv 1) (Zaa (ZbU (Zaa (pv 4) (Zaa (pv 3) Zac))) Zac)))) Zap))))))
     (Zab (Zau (Zai ZcM (pv 2) Zaf (nomark _)) (Zae (Zay (ZaZ K PySem.F.plainAttrs_list PySem.F.slot_list_append PySem.F.type_list_append ZaL (pv 1) (Zaa (ZbU (Zaa (pv 2) (Zaa (Zar Zgn (Zas Zaw rfl B.len PySem.boot_len (Zaa (pv 0) Zac)) (Zas Zaw rfl B.len PySem.boot_len (Zaa (pv 2) Zac))) Zac))) Zac)))) Zap)
     (Zab (Zay (ZaZ K PySem.F.plainAttrs_list PySem.F.slot_list_append PySem.F.type_list_append ZaL (pv 1) (Zaa (ZbU (Zaa Zaf (Zaa (Zas Zaw rfl B.len PySem.boot_len (Zaa (pv 0) Zac)) Zac))) Zac)))
     (Zae (Zam (pv 1)))))))),?_⟩
 walk_at "vc";refine ⟨by decide,fun l hl=>?_⟩;refine loopE (CutI z H) ⟨⟨l,[],emS,[],none,none,rfl,hl,Zad,Nat.le_refl _,Nat.le_refl _,Toks.nil,rfl⟩,Same.new hl⟩ ?_ ?_
 · rintro i T σ H1 hi hT ⟨⟨l,us,w,ts,v3,v4,rfl,hl,hp,lu,lw,tk,e⟩,sm⟩
   walk_at "vc";refine ⟨_,.inl (.inl Zad),rfl,_,_,rfl,_,_,rfl,rfl,by decide,fun p np=>⟨_,.inr (.inl (.inl Zad)),rfl,rfl,?_⟩⟩;have s2:Same H1 (upd (upd H1 T (.tup [.int i,sgn z i])) p (.tup [.str (Str.ofString " "),.str (Str.ofString "("),.str (Str.ofString ")")])):=(Same.new hT).trans (Same.new np);generalize upd (upd H1 T (.tup [.int i,sgn z i])) p (.tup [.str (Str.ofString " "),.str (Str.ofString "("),.str (Str.ofString ")")])=H2 at s2 ⊢;have hp2:=s2 _ _ hp;have tk2:=tk.keep fun a xs e=>s2 _ _ e
   have sm2:=sm.trans s2;clear s2 hp tk sm np hT;rw [ZdX hi] at e;show if inV (.str ⟨#[z.cps.getD i 0]⟩) _=false then _ else _
   unfold sgn;generalize z.cps.getD i 0=c at e ⊢;rw [in3];by_cases hc:c=32∨c=40∨c=41
   · rw [if_neg (by rw [decide_eq_true hc];decide)]
     rw [cutS,if_pos hc] at e;by_cases hw:w=Str.ofString ""
     · rw [if_pos hw]
       rw [endW,if_pos (show w=emS from hw),List.nil_append] at e;refine ⟨rfl,?_⟩;by_cases h32:c=32
       · rw [if_pos (by rw [(ZfR c).mpr h32])]
         rw [if_pos h32,List.nil_append] at e;exact ⟨⟨l,us,_,ts,_,_,rfl,hl,hp2,by omega,by show 0≤_;omega,tk2,e⟩,sm2⟩
       · rw [if_neg (fun q=>h32 ((ZfR c).mp (V.str.inj q)))]
         rw [if_neg h32] at e;refine ⟨⟨_,SqL.of hp2⟩,by decide,fun q1 n1=>?_⟩;obtain ⟨a1,a2,a3⟩:=ZcT (t:=(⟨#[c]⟩,i)) hl hp2 n1 tk2 sm2;exact ⟨_,a1,by rw [sizeLine_eq];omega,⟨⟨l,_,_,_,_,_,rfl,hl,Zad,by rw [List.length_append];show us.length+1≤_;omega,by show 0≤_;omega,a2,by rw [List.append_assoc];exact e⟩,a3⟩⟩
     · rw [if_neg hw]
       rw [endW,if_neg (show ¬ w=emS from hw)] at e;have ec:(i:Int)-(w.length:Int)=((i-w.length:Nat):Int):=by omega
       refine ⟨⟨_,SqL.of hp2⟩,by rw [sizeLine_eq];omega,_,rfl,by decide,fun q1 n1=>?_⟩;rw [ec];obtain ⟨a1,a2,a3⟩:=ZcT (t:=(w,i-w.length)) hl hp2 n1 tk2 sm2;refine ⟨_,a1,by rw [sizeLine_eq];omega,rfl,?_⟩;have hp3:upd (upd H2 q1 (.tup [.str w,.int ((i-w.length:Nat):Int)])) l (.lst (us++[.ref q1])) l=some (.lst (us++[.ref q1])):=Zad;generalize upd (upd H2 q1 (.tup [.str w,.int ((i-w.length:Nat):Int)])) l (.lst (us++[.ref q1]))=H3 at a2 a3 hp3 ⊢;have lu2:(us++[V.ref q1]).length=us.length+1:=by rw [List.length_append];rfl
       by_cases h32:c=32
       · rw [if_pos (by rw [(ZfR c).mpr h32])]
         rw [if_pos h32,List.nil_append] at e;exact ⟨⟨l,_,_,_,_,_,rfl,hl,hp3,by omega,by show 0≤_;omega,a2,by rw [List.append_assoc];exact e⟩,a3⟩
       · rw [if_neg (fun q=>h32 ((ZfR c).mp (V.str.inj q)))]
         rw [if_neg h32] at e;refine ⟨⟨_,SqL.of hp3⟩,by decide,fun q2 n2=>?_⟩;obtain ⟨b1,b2,b3⟩:=ZcT (t:=(⟨#[c]⟩,i)) hl hp3 n2 a2 a3;exact ⟨_,b1,by rw [sizeLine_eq];omega,⟨⟨l,_,_,_,_,_,rfl,hl,Zad,by rw [List.length_append,lu2];show _+1≤_;omega,by show 0≤_;omega,b2,by rw [List.append_assoc,List.append_assoc];exact e⟩,b3⟩⟩
   · rw [if_pos (by rw [decide_eq_false hc])]
     rw [cutS,if_neg hc] at e;refine ⟨_,rfl,by rw [sizeLine_eq];show _+1≤_;omega,⟨⟨l,us,_,ts,_,_,rfl,hl,hp2,by omega,?_,tk2,e⟩,sm2⟩⟩;rw [ZaH];show _+1≤_;omega
 · rintro σ H1 ⟨⟨l,us,w,ts,v3,v4,rfl,hl,hp,lu,lw,tk,e⟩,sm⟩
   walk_at "vc";rw [List.drop_eq_nil_of_le (by simp),cutS] at e;have zl:z.length=z.cps.size:=rfl;by_cases hw:w=Str.ofString ""
   · rw [if_pos hw]
     rw [endW,if_pos (show w=emS from hw),List.nil_append] at e;refine ⟨⟨_,SqL.of hp⟩,by rw [sizeLine_eq];omega,by decide,fun q1 n1=>?_⟩;obtain ⟨a1,a2,a3⟩:=ZcT (t:=(emS,z.cps.size)) hl hp n1 tk sm;exact ⟨_,a1,by rw [sizeLine_eq];omega,q l _ _ a3 hl Zad (by rw [← e];exact a2)⟩
   · rw [if_neg hw]
     rw [endW,if_neg (show ¬ w=emS from hw)] at e;have ec:(z.length:Int)-(w.length:Int)=((z.cps.size-w.length:Nat):Int):=by omega
     refine ⟨⟨_,SqL.of hp⟩,by rw [sizeLine_eq];omega,by rw [sizeLine_eq];omega,by decide,fun q1 n1=>?_⟩;rw [ec];obtain ⟨a1,a2,a3⟩:=ZcT (t:=(w,z.cps.size-w.length)) hl hp n1 tk sm;refine ⟨_,a1,by rw [sizeLine_eq];omega,?_⟩;have hp3:upd (upd H1 q1 (.tup [.str w,.int ((z.cps.size-w.length:Nat):Int)])) l (.lst (us++[.ref q1])) l=some (.lst (us++[.ref q1])):=Zad;generalize upd (upd H1 q1 (.tup [.str w,.int ((z.cps.size-w.length:Nat):Int)])) l (.lst (us++[.ref q1]))=H3 at a2 a3 hp3 ⊢;have lu2:(us++[V.ref q1]).length=us.length+1:=by rw [List.length_append];rfl
     refine ⟨⟨_,SqL.of hp3⟩,by rw [sizeLine_eq];omega,by decide,fun q2 n2=>?_⟩;obtain ⟨b1,b2,b3⟩:=ZcT (t:=(emS,z.cps.size)) hl hp3 n2 a2 a3;exact ⟨_,b1,by rw [sizeLine_eq];omega,q l _ _ b3 hl Zad (by rw [← e,← List.append_assoc];exact b2)⟩
end
def spIniI (C:Addr):Sp:=fun vs H Q _=>∃ (e:Addr) (i:Int),vs=[.ref e,.int i]∧H e=some (excO e C)∧i.natAbs.log2<1000∧∀ dx,H dx=none→dx≠e→Q .non (upd (upd H dx (.xd [("place",.int i)])) e (excH e C dx))
theorem raiseI {C:Addr}{i:Int}{H:Hp}{E:XK}(hi:i.natAbs.log2<1000)(h:∀ dx H',Same H H'→H' dx=some (.xd [("place",.int i)])→E (.ref C) (some dx) H'):rzX C (spIniI C) E [.int i] H:=by
 refine ⟨(by show 1≤1000;decide),fun x nx=>⟨x,i,rfl,Zad,hi,fun dx nd ne=>⟨rfl,dx,Zad,h dx _ (fun b o e=>?_) ?_⟩⟩⟩
 · have nd':H dx=none:=by rw [Zah ne] at nd;exact nd
   have nb:=Zaj e nx;rw [Zbn nb,Zah nb,Zah (Zaj e nd'),Zah nb];exact e
 · rw [Zbn ne,Zah ne]
   exact Zad
structure WdAt (C x l:Addr)(ts:List Tok)(r:Nat)(H:Hp):Prop where
 ex:∃ dx us,H x=some (.ins C dx [("cut_up",.ref l),("reached",.int r)])∧H l=some (.lst us)∧Toks H us ts
def Fx (x:Addr)(H H':Hp):Prop:=∀ b o,b≠x→H b=some o→H' b=some o
theorem Fx.of {x:Addr}{H H':Hp}(s:Same H H'):Fx x H H':=fun b o _ e=>s b o e
theorem Fx.trans {x:Addr}{H H' H'':Hp}(a:Fx x H H')(b:Fx x H' H''):Fx x H H'':=fun c o n e=>b c o n (a c o n e)
theorem WdAt.same {C x l:Addr}{ts:List Tok}{r:Nat}{H H':Hp}(h:WdAt C x l ts r H)(s:Same H H'):WdAt C x l ts r H':=by obtain ⟨dx,us,a,b,c⟩:=h.ex;exact ⟨⟨dx,us,s _ _ a,s _ _ b,c.keep fun _ _ e=>s _ _ e⟩⟩
theorem Toks.at {H:Hp}{us:List V}{ts:List Tok}{r:Nat}{t:Tok}(h:Toks H us ts)(e:ts[r]?=some t):∃ a,us[r]?=some (.ref a)∧H a=some (.tup [.str t.1,.int t.2]):=by
 have lt:r<us.length:=by rw [h.len];exact (List.getElem?_eq_some_iff.mp e).1
 obtain ⟨a,e1,e2⟩:=h.it r _ t (List.getElem?_eq_getElem lt) e;exact ⟨a,by rw [List.getElem?_eq_getElem lt,e1],e2⟩
theorem WdAt.off {C x l p:Addr}{ts:List Tok}{r:Nat}{H:Hp}{us vs:List V}(h:WdAt C x l ts r H)(np:p≠l)(hp:H p=some (.lst us)):WdAt C x l ts r (upd H p (.lst vs)):=by
 obtain ⟨dx,ws,a,b,c⟩:=h.ex;refine ⟨⟨dx,ws,?_,by rw [Zah (Ne.symm np)];exact b,c.keep fun e xs z=>?_⟩⟩
 · rw [Zah (fun z=>by rw [z,hp] at a;cases a)]
   exact a
 · rw [Zah (fun y=>by rw [y,hp] at z;cases z)]
   exact z
def Sm (ts:List Tok):Prop:=ts.length≤1000000∧∀ t∈ts,t.2<10^20∧t.1.length≤100000
def spWIni (C:Addr):Sp:=fun vs H Q _=>∃ (x dx:Addr) (z:Str),vs=[.ref x,.str z]∧z.length≤100000∧H x=some (.ins C dx [])∧∀ l H',H l=none→Fx x H H'→WdAt C x l (cutS z.cps.toList 0 emS) 0 H'→Q .non H'
def spHere (C:Addr):Sp:=fun vs H Q _=>∃ (x l:Addr) (ts:List Tok) (r:Nat) (t:Tok),vs=[.ref x]∧WdAt C x l ts r H∧ts[r]?=some t∧Q (.str t.1) H
def spBegins (C:Addr):Sp:=fun vs H Q _=>∃ (x l:Addr) (ts:List Tok) (r:Nat) (t:Tok),vs=[.ref x]∧WdAt C x l ts r H∧ts[r]?=some t∧Q (.int t.2) H
def spStep (C:Addr):Sp:=fun vs H Q _=>∃ (x l:Addr) (ts:List Tok) (r:Nat),vs=[.ref x]∧WdAt C x l ts r H∧∀ H',Fx x H H'→WdAt C x l ts (r+1) H'→Q .non H'
def spPass (C CB:Addr):Sp:=fun vs H Q E=>∃ (x l:Addr) (ts:List Tok) (r:Nat) (t:Tok) (w:Str),vs=[.ref x,.str w]∧WdAt C x l ts r H∧ts[r]?=some t∧Sm ts∧(t.1=w→∀ H',Fx x H H'→WdAt C x l ts (r+1) H'→Q .non H')∧(t.1≠w→∀ dx H',Same H H'→H' dx=some (.xd [("place",.int t.2)])→E (.ref CB) (some dx) H')
def spFigs (C CB:Addr):Sp:=fun vs H Q E=>∃ (x l:Addr) (ts:List Tok) (r:Nat) (t:Tok),vs=[.ref x]∧WdAt C x l ts r H∧ts[r]?=some t∧Sm ts∧(figB t.1=true→∀ H',Fx x H H'→WdAt C x l ts (r+1) H'→Q (figV t.1) H')∧(figB t.1=false→∀ dx H',Same H H'→H' dx=some (.xd [("place",.int t.2)])→E (.ref CB) (some dx) H')
theorem log20 {n:Nat}(h1:n<10^20):(n:Int).natAbs.log2<1000:=by
 by_cases hz:n=0
 · rw [hz]
   decide
 · rw [Int.natAbs_natCast,Nat.log2_lt hz]
   exact Nat.lt_of_lt_of_le h1 (Nat.le_trans (show 10^20≤2^100 by decide) (Nat.pow_le_pow_right (by decide) (by decide)))
section
variable {P:Program}{w:World}{K:PySem.W.Frag}{mg:Str→Option Value}{base:Heap}{CW CB:Addr}
theorem ok_here (cd:CD_Words K mg CW):MethAt P w K mg base CW "here" ["self"] 1 (spHere CW):=by
 refine MethAt.of cd.c cd.m_here Zfo (fun vs H Q E h=>?_) (fun f cdv A outer s H vs Q E hr h=>?_)
 · obtain ⟨x,l,ts,r,t,rfl,_⟩:=h
   rfl
 obtain ⟨x,l,ts,r,t,rfl,⟨dx,us,hx,hl,tk⟩,ht,q⟩:=h;refine ⟨_,(Zae (Zam (Zav (Zgi K) (Zav (Zan K) (ZaG K (pv 0)) (ZaG K (pv 0)) (fun _ _=>rfl)) Zak (fun _ _=>rfl)))),?_⟩;walk_at "vc";obtain ⟨a,ha,hb⟩:=tk.at ht;exact ⟨_,_,_,hx,cd.c,cd.n_cut_up,_,rfl,_,_,_,hx,cd.c,cd.n_reached,_,rfl,_,rfl,_,_,rfl,SqL.of hl,_,ZaI ha,_,rfl,_,.inl (.inl hb),_,rfl,q⟩
theorem Zki (cd:CD_Words K mg CW):MethAt P w K mg base CW "begins" ["self"] 1 (spBegins CW):=by
 refine MethAt.of cd.c cd.m_begins Zew (fun vs H Q E h=>?_) (fun f cdv A outer s H vs Q E hr h=>?_)
 · obtain ⟨x,l,ts,r,t,rfl,_⟩:=h
   rfl
 obtain ⟨x,l,ts,r,t,rfl,⟨dx,us,hx,hl,tk⟩,ht,q⟩:=h;refine ⟨_,(Zae (Zam (Zav (Zgi K) (Zav (Zan K) (ZaG K (pv 0)) (ZaG K (pv 0)) (fun _ _=>rfl)) Zak (fun _ _=>rfl)))),?_⟩;walk_at "vc";obtain ⟨a,ha,hb⟩:=tk.at ht;exact ⟨_,_,_,hx,cd.c,cd.n_cut_up,_,rfl,_,_,_,hx,cd.c,cd.n_reached,_,rfl,_,rfl,_,_,rfl,SqL.of hl,_,ZaI ha,_,rfl,_,.inl (.inl hb),_,rfl,q⟩
theorem ok_step (cd:CD_Words K mg CW):MethAt P w K mg base CW "step" ["self"] 1 (spStep CW):=by
 refine MethAt.of cd.c cd.m_step Zfr (fun vs H Q E h=>?_) (fun f cdv A outer s H vs Q E hr h=>?_)
 · obtain ⟨x,l,ts,r,rfl,_⟩:=h
   rfl
 obtain ⟨x,l,ts,r,rfl,⟨dx,us,hx,hl,tk⟩,q⟩:=h;refine ⟨_,(Zae (ZbA K (pv 0) (Zar ZaR (ZaG K (pv 0)) Zak))),?_⟩;walk_at "vc";refine ⟨_,_,_,hx,cd.c,cd.n_reached,_,rfl,_,rfl,_,_,_,hx,cd.c,cd.n_reached,(by show 2<1000;decide),q _ (fun b o n e=>by rw [Zah n];exact e) ⟨⟨dx,us,Zad,?_,tk.keep fun a xs e=>?_⟩⟩⟩
 · rw [Zah (fun z=>by rw [z,hx] at hl;cases hl)]
   exact hl
 · rw [Zah (fun z=>by rw [z,hx] at e;cases e)]
   exact e
theorem ok_pass (h_BadText:MakeX P w K mg base "BadText" CB ["self","place"] 1 (spIniI CB))(h_here:MethAt P w K mg base CW "here" ["self"] 1 (spHere CW))(h_begins:MethAt P w K mg base CW "begins" ["self"] 1 (spBegins CW))(h_step:MethAt P w K mg base CW "step" ["self"] 1 (spStep CW))(cd:CD_Words K mg CW):MethR P w K mg base CW "pass_by" ["self","word"] 3 (spPass CW CB):=by
 refine MethR.of cd.c cd.m_pass_by Zei (fun vs H Q E h=>?_) (fun f cdv A outer s H vs Q E hr h=>?_)
 · obtain ⟨x,l,ts,r,t,y,rfl,_⟩:=h
   rfl
 obtain ⟨x,l,ts,r,t,y,rfl,wd,ht,sm,q,qe⟩:=h;obtain ⟨dx,us,hx,hl,tk⟩:=id wd.ex;refine ⟨_,(Zab (Zau (Zai ZcM (Zax (P:=P) (w:=w) (K:=K) (mg:=mg) (base:=base) 1 (hr.mono (by decide)) (pv 0)) (pv 1) (nomark _)) (Zae (Zem h_BadText (hr.mono (by decide)) rfl (Zaa (Zax (P:=P) (w:=w) (K:=K) (mg:=mg) (base:=base) 1 (hr.mono (by decide)) (pv 0)) Zac))) Zap)
     (Zae (Zay (Zax (P:=P) (w:=w) (K:=K) (mg:=mg) (base:=base) 1 (hr.mono (by decide)) (pv 0))))),?_⟩
 walk_at "vc";refine ⟨_,_,_,hx,rfl,_,_,h_here,x,l,ts,r,t,rfl,wd,ht,rfl,?_⟩;by_cases c:t.1=y
 · rw [if_pos (by rw [c])]
   exact ⟨_,_,_,hx,rfl,_,_,h_step,x,l,ts,r,rfl,wd,fun H' f1 w1=>q c H' f1 w1⟩
 · rw [if_neg (fun z=>c (V.str.inj z))]
   exact ⟨_,_,_,hx,rfl,_,_,h_begins,x,l,ts,r,t,rfl,wd,ht,raiseI (log20 (sm.2 _ (List.mem_of_getElem? ht)).1) (qe c)⟩
theorem ok_figsW (h_BadText:MakeX P w K mg base "BadText" CB ["self","place"] 1 (spIniI CB))(h_figures_of:FnAt P w K mg base "figures_of" ["word"] 2 spFig)(h_here:MethAt P w K mg base CW "here" ["self"] 1 (spHere CW))(h_begins:MethAt P w K mg base CW "begins" ["self"] 1 (spBegins CW))(h_step:MethAt P w K mg base CW "step" ["self"] 1 (spStep CW))(cd:CD_Words K mg CW):MethR P w K mg base CW "figures" ["self"] 3 (spFigs CW CB):=by
 refine MethR.of cd.c cd.m_figures sc_Words_figures (fun vs H Q E h=>?_) (fun f cdv A outer s H vs Q E hr h=>?_)
 · obtain ⟨x,l,ts,r,t,rfl,_⟩:=h
   rfl
 obtain ⟨x,l,ts,r,t,rfl,wd,ht,sm,q,qe⟩:=h;obtain ⟨dx,us,hx,hl,tk⟩:=id wd.ex;refine ⟨_,(Zab (Zao (i:=1) sc_Words_figures.nd rfl (by walk_at "l") (Zaq h_figures_of (hr.mono (by decide)) rfl (Zaa (Zax (P:=P) (w:=w) (K:=K) (mg:=mg) (base:=base) 1 (hr.mono (by decide)) (pv 0)) Zac)))
     (Zab (Zau (Zai op_isN (pv 1) Za6 (nomark _)) (Zae (Zem h_BadText (hr.mono (by decide)) rfl (Zaa (Zax (P:=P) (w:=w) (K:=K) (mg:=mg) (base:=base) 1 (hr.mono (by decide)) (pv 0)) Zac))) Zap)
     (Zab (Zay (Zax (P:=P) (w:=w) (K:=K) (mg:=mg) (base:=base) 1 (hr.mono (by decide)) (pv 0)))
     (Zae (Zam (pv 1)))))),?_⟩
 walk_at "vc";refine ⟨_,_,_,hx,rfl,_,_,h_here,x,l,ts,r,t,rfl,wd,ht,t.1,rfl,(sm.2 _ (List.mem_of_getElem? ht)).2,fun H1 s1=>?_⟩;have wd1:=wd.same s1;have hx1:=s1 _ _ hx;show if figV t.1=V.non then _ else _
 by_cases c:figB t.1=true
 · rw [if_neg (by unfold figV;rw [if_pos c];intro z;cases z)]
   exact ⟨_,_,_,hx1,rfl,_,_,h_step,x,l,ts,r,rfl,wd1,fun H' f1 w1=>q c H' ((Fx.of s1).trans f1) w1⟩
 · have c':figB t.1=false:=by simpa using c
   rw [if_pos (by unfold figV;rw [if_neg c])];exact ⟨_,_,_,hx1,rfl,_,_,h_begins,x,l,ts,r,t,rfl,wd1,ht,raiseI (log20 (sm.2 _ (List.mem_of_getElem? ht)).1) fun dx H' s2 e=>qe c' dx H' (s1.trans s2) e⟩
theorem ok_wini (h_cut:FnAt P w K mg base "cut" ["text"] 1 spCut)(cd:CD_Words K mg CW):MakeAt P w K mg base "Words" CW ["self","text"] 2 (spWIni CW):=by
 refine MakeAt.of cd.at_ cd.init Zdp (fun vs H Q E h=>?_) (fun f cdv A outer s H vs Q E hr h=>?_)
 · obtain ⟨x,dx,z,rfl,_⟩:=h
   rfl
 obtain ⟨x,dx,z,rfl,hz,hx,q⟩:=h;refine ⟨_,(Zab (ZbA K (pv 0) (Zaq h_cut (hr.mono (by decide)) rfl (Zaa (pv 1) Zac)))
     (Zae (ZbA K (pv 0) Zak))),?_⟩
 walk_at "vc";refine ⟨z,rfl,hz,fun l us H1 s1 nl hl tk=>?_⟩;have nx:l≠x:=fun e=>by rw [e,hx] at nl;cases nl
 refine ⟨_,_,_,s1 _ _ hx,cd.c,cd.n_cut_up,(by show 0<1000;decide),_,_,_,Zad,cd.c,cd.n_reached,(by show 1<1000;decide),q l _ nl (fun b o n e=>by rw [Zah n,Zah n];exact s1 _ _ e) ⟨⟨dx,us,Zad,by rw [Zah nx,Zah nx];exact hl,tk.keep fun a xs e=>?_⟩⟩⟩;have na:a≠x:=fun z=>by rw [z,s1 _ _ hx] at e;cases e
 rw [Zah na,Zah na];exact e
end
structure XI (K:PySem.W.Frag)(C M:Addr)(f qual:Str)(st:Stmt)(ps:List Str):Prop where
 mkr:MakerX K C qual st ps
 fd:XFld K C M
 nf:PySem.W.findIn K (.ref C) f=some none
 hd:PySem.W.hasDictIn K C=true
theorem iniX {K:PySem.W.Frag}{e C M f:Addr}{v:V}{H:Hp}{Q:VK}(he:H e=some (excO e C))(x:XMk K C M f)(q:Q .non H):rIniX K [.ref e,v] H Q:=⟨e,C,M,f,v,rfl,he,x,q⟩
section
variable {P:Program}{w:World}{K:PySem.W.Frag}{mg:Str→Option Value}{base:Heap}{C_MarksError C:Addr}
theorem Ziv (g_MarksError:mg "MarksError"=some (.ref C_MarksError))(ix_MarksError:XIni K C_MarksError)(g:mg "BadText"=some (.ref C))(x:XI K C C_MarksError "place" "BadText.__init__" ZaY ["self","place"]):MakeX P w K mg base "BadText" C ["self","place"] 1 (spIniI C):=by
 obtain ⟨M',f',fd',F',xm,_⟩:=id x.mkr;refine MakeX.of g x.mkr ZcV (fun vs H Q E h=>?_) (fun f cdv A outer s H vs Q E hr h=>?_)
 · obtain ⟨e,i,rfl,_⟩:=h
   rfl
 obtain ⟨e,i,rfl,he,hi,q⟩:=h;refine ⟨_,(Zab (Zay (pe_iniX (ZkI K) rfl g_MarksError ix_MarksError.sp ix_MarksError.rd ix_MarksError.fc rfl (Zaa (pv 0) (Zaa (pe_fstrI (pv 1)) Zac))))
     (Zae (ps_fldX K (pv 0) (pv 1)))),?_⟩
 walk_at "vc";exact ⟨hi,fun z=>iniX he xm ⟨_,he,_,x.fd,x.nf,q⟩⟩
end
mutual
inductive T where
 | ev | no | inn (x:Str) (lo hi:Int) | opp (t:T) | al (ts:Ts) | on (ts:Ts)
inductive Ts where
 | nil | cons (t:T) (r:Ts)
end
mutual
def T.dep:T→Nat
 | .opp t=>t.dep+2
 | .al ts=>ts.dep+1
 | .on ts=>ts.dep+1
 | _=>0
def Ts.dep:Ts→Nat
 | .nil=>0
 | .cons t r=>Nat.max t.dep r.dep
end
def Ts.toL:Ts→List T
 | .nil=>[]
 | .cons t r=>t::r.toL
mutual
def T.ok (N:List Str):T→Prop
 | .inn x lo hi=>x∈N∧0≤lo∧lo<10^12∧0≤hi∧hi<10^12
 | .opp t=>t.ok N
 | .al ts=>(2≤ts.toL.length∧ts.toL.length≤1000)∧ts.ok N
 | .on ts=>(2≤ts.toL.length∧ts.toL.length≤1000)∧ts.ok N
 | _=>True
def Ts.ok (N:List Str):Ts→Prop
 | .nil=>True
 | .cons t r=>t.ok N∧r.ok N
end
mutual
def TrAt (K:PySem.W.Frag)(H:Hp):T→V→Prop
 | .ev,v=>∃ p,v=.ref p∧SqT K H p [.str (Str.ofString "all")]
 | .no,v=>∃ p,v=.ref p∧SqT K H p [.str (Str.ofString "none")]
 | .inn x lo hi,v=>∃ p,v=.ref p∧SqT K H p [.str (Str.ofString "in"),.str x,.int lo,.int hi]
 | .opp t,v=>∃ p u,v=.ref p∧SqT K H p [.str (Str.ofString "not"),u]∧TrAt K H t u
 | .al ts,v=>∃ p l us,v=.ref p∧SqT K H p [.str (Str.ofString "and"),.ref l]∧SqL K H l us∧TrsAt K H ts us
 | .on ts,v=>∃ p l us,v=.ref p∧SqT K H p [.str (Str.ofString "or"),.ref l]∧SqL K H l us∧TrsAt K H ts us
def TrsAt (K:PySem.W.Frag)(H:Hp):Ts→List V→Prop
 | .nil,us=>us=[]
 | .cons t r,us=>∃ u vs,us=u::vs∧TrAt K H t u∧TrsAt K H r vs
end
theorem Zb1 {K:PySem.W.Frag}{H H':Hp}{a:Addr}{xs:List V}(e:Same H H')(h:SqT K H a xs):SqT K H' a xs:=by
 rcases h with (h | ⟨o,h⟩) | h
 · exact .inl (.inl (e _ _ h))
 · exact .inl (.inr ⟨o,e _ _ h⟩)
 · exact .inr h
mutual
theorem TrAt.same {K:PySem.W.Frag}{H H':Hp}(e:Same H H'):∀ (t:T) {v:V},TrAt K H t v→TrAt K H' t v
 | .ev,_,h=>by
   unfold TrAt at h ⊢;obtain ⟨p,q,r⟩:=h;exact ⟨p,q,Zb1 e r⟩
 | .no,_,h=>by
   unfold TrAt at h ⊢;obtain ⟨p,q,r⟩:=h;exact ⟨p,q,Zb1 e r⟩
 | .inn _ _ _,_,h=>by
   unfold TrAt at h ⊢;obtain ⟨p,q,r⟩:=h;exact ⟨p,q,Zb1 e r⟩
 | .opp t,_,h=>by
   unfold TrAt at h ⊢;obtain ⟨p,u,q,r,z⟩:=h;exact ⟨p,u,q,Zb1 e r,TrAt.same e t z⟩
 | .al ts,_,h=>by
   unfold TrAt at h ⊢;obtain ⟨p,l,us,q,r,s,z⟩:=h;exact ⟨p,l,us,q,Zb1 e r,e.seq s,TrsAt.same e ts z⟩
 | .on ts,_,h=>by
   unfold TrAt at h ⊢;obtain ⟨p,l,us,q,r,s,z⟩:=h;exact ⟨p,l,us,q,Zb1 e r,e.seq s,TrsAt.same e ts z⟩
theorem TrsAt.same {K:PySem.W.Frag}{H H':Hp}(e:Same H H'):∀ (ts:Ts) {us:List V},TrsAt K H ts us→TrsAt K H' ts us
 | .nil,_,h=>by
   unfold TrsAt at h ⊢;exact h
 | .cons t r,_,h=>by
   unfold TrsAt at h ⊢;obtain ⟨u,vs,q,a,b⟩:=h;exact ⟨u,vs,q,TrAt.same e t a,TrsAt.same e r b⟩
end
theorem Zag {t u:TS}{D:Ends}{σ:L2.St}{H:Hp}(h:∀ k:L2.St→Hp→Prop,(∀ σ' H',u D σ' H'→k σ' H')→t { D with nx:=k } σ H):tSeq t u D σ H:=h (u D) fun _ _ x=>x
mutual
def T.nums:T→List Int
 | .opp t=>0::t.nums
 | .al ts=>0::ts.nums
 | .on ts=>0::ts.nums
 | _=>[0]
def Ts.nums:Ts→List Int
 | .nil=>[]
 | .cons t r=>t.nums++r.nums
end
theorem Ts.nums_eq:∀ ts:Ts,ts.nums=ts.toL.flatMap T.nums
 | .nil=>rfl
 | .cons t r=>by
   show t.nums++r.nums=t.nums++r.toL.flatMap T.nums;rw [Ts.nums_eq r]
inductive Kd where | ev | no | wi | op | al | on
def T.kd:T→Kd
 | .ev=>.ev
 | .no=>.no
 | .inn _ _ _=>.wi
 | .opp _=>.op
 | .al _=>.al
 | .on _=>.on
mutual
def QAt (C:Kd→Addr)(H:Hp):T→V→Prop
 | .ev,v=>∃ p dx,v=.ref p∧H p=some (.ins (C .ev) dx [])
 | .no,v=>∃ p dx,v=.ref p∧H p=some (.ins (C .no) dx [])
 | .inn x lo hi,v=>∃ p dx,v=.ref p∧H p=some (.ins (C .wi) dx [("name",.str x),("low",.int lo),("high",.int hi)])
 | .opp t,v=>∃ p dx u,v=.ref p∧H p=some (.ins (C .op) dx [("one",u)])∧QAt C H t u
 | .al ts,v=>∃ p dx l us,v=.ref p∧H p=some (.ins (C .al) dx [("parts",.ref l)])∧H l=some (.lst us)∧QsAt C H ts us
 | .on ts,v=>∃ p dx l us,v=.ref p∧H p=some (.ins (C .on) dx [("parts",.ref l)])∧H l=some (.lst us)∧QsAt C H ts us
def QsAt (C:Kd→Addr)(H:Hp):Ts→List V→Prop
 | .nil,us=>us=[]
 | .cons t r,us=>∃ u vs,us=u::vs∧QAt C H t u∧QsAt C H r vs
end
mutual
theorem QAt.same {C:Kd→Addr}{H H':Hp}(e:Same H H'):∀ (t:T) {v:V},QAt C H t v→QAt C H' t v
 | .ev,_,h=>by
   unfold QAt at h ⊢;obtain ⟨p,dx,q,r⟩:=h;exact ⟨p,dx,q,e _ _ r⟩
 | .no,_,h=>by
   unfold QAt at h ⊢;obtain ⟨p,dx,q,r⟩:=h;exact ⟨p,dx,q,e _ _ r⟩
 | .inn _ _ _,_,h=>by
   unfold QAt at h ⊢;obtain ⟨p,dx,q,r⟩:=h;exact ⟨p,dx,q,e _ _ r⟩
 | .opp t,_,h=>by
   unfold QAt at h ⊢;obtain ⟨p,dx,u,q,r,z⟩:=h;exact ⟨p,dx,u,q,e _ _ r,QAt.same e t z⟩
 | .al ts,_,h=>by
   unfold QAt at h ⊢;obtain ⟨p,dx,l,us,q,r,s,z⟩:=h;exact ⟨p,dx,l,us,q,e _ _ r,e _ _ s,QsAt.same e ts z⟩
 | .on ts,_,h=>by
   unfold QAt at h ⊢;obtain ⟨p,dx,l,us,q,r,s,z⟩:=h;exact ⟨p,dx,l,us,q,e _ _ r,e _ _ s,QsAt.same e ts z⟩
theorem QsAt.same {C:Kd→Addr}{H H':Hp}(e:Same H H'):∀ (ts:Ts) {us:List V},QsAt C H ts us→QsAt C H' ts us
 | .nil,_,h=>by
   unfold QsAt at h ⊢;exact h
 | .cons t r,_,h=>by
   unfold QsAt at h ⊢;obtain ⟨u,vs,q,a,b⟩:=h;exact ⟨u,vs,q,QAt.same e t a,QsAt.same e r b⟩
end
theorem QsAt.len {C:Kd→Addr}{H:Hp}:∀ (ts:Ts) {us:List V},QsAt C H ts us→us.length=ts.toL.length
 | .nil,us,h=>by
   unfold QsAt at h;rw [h];rfl
 | .cons t r,us,h=>by
   unfold QsAt at h;obtain ⟨u,vs,rfl,a,b⟩:=h;show vs.length+1=r.toL.length+1;rw [QsAt.len r b]
theorem QsAt.at {C:Kd→Addr}{H:Hp}:∀ (ts:Ts) {us:List V} {i:Nat} {u:V},QsAt C H ts us→us[i]?=some u→∃ t,ts.toL[i]?=some t∧QAt C H t u
 | .nil,us,i,u,h,e=>by
   unfold QsAt at h;rw [h] at e;cases e
 | .cons t r,us,i,u,h,e=>by
   unfold QsAt at h;obtain ⟨u',vs,rfl,a,b⟩:=h;cases i with
   | zero =>
     cases e;exact ⟨t,rfl,a⟩
   | succ i=>exact QsAt.at r b e
theorem QsAt.mk {C:Kd→Addr}{H:Hp}:∀ (ts:Ts) {us:List V},us.length=ts.toL.length→(∀ (i:Nat) u t,us[i]?=some u→ts.toL[i]?=some t→QAt C H t u)→QsAt C H ts us
 | .nil,us,h,_=>by
   unfold QsAt;exact List.length_eq_zero_iff.mp h
 | .cons t r,us,h,e=>by
   cases us with
   | nil=>cases h
   | cons u vs =>
     unfold QsAt;exact ⟨u,vs,rfl,e 0 u t rfl rfl,QsAt.mk r (Nat.succ.inj h) fun i=>e (i+1)⟩
def Off (x:Addr)(H H':Hp):Prop:=∀ b,b≠x→H' b=H b
def spIWi (C:Kd→Addr):Sp:=fun vs H Q _=>∃ (x dx:Addr) (nm:Str) (lo hi:Int),vs=[.ref x,.str nm,.int lo,.int hi]∧H x=some (.ins (C .wi) dx [])∧∀ H',Off x H H'→H' x=some (.ins (C .wi) dx [("name",.str nm),("low",.int lo),("high",.int hi)])→Q .non H'
def spIOp (C:Kd→Addr):Sp:=fun vs H Q _=>∃ (x dx:Addr) (u:V),vs=[.ref x,u]∧H x=some (.ins (C .op) dx [])∧∀ H',Off x H H'→H' x=some (.ins (C .op) dx [("one",u)])→Q .non H'
def spIPa (C:Kd→Addr)(k:Kd):Sp:=fun vs H Q _=>∃ (x dx p:Addr) (us:List V),vs=[.ref x,.ref p]∧H x=some (.ins (C k) dx [])∧H p=some (.lst us)∧∀ l H',H l=none→Off x (upd H l (.lst us)) H'→H' x=some (.ins (C k) dx [("parts",.ref l)])→Q .non H'
section
variable {P:Program}{w:World}{K:PySem.W.Frag}{mg:Str→Option Value}{base:Heap}{C:Kd→Addr}{N:List Str}{n:Nat}
theorem ok_iWi (cd:CD_Within K mg (C .wi)):MakeAt P w K mg base "Within" (C .wi) ["self","name","low","high"] 1 (spIWi C):=by
 refine MakeAt.of cd.at_ cd.init Zdf (fun vs H Q E h=>?_) (fun f cdv A outer s H vs Q E hr h=>?_)
 · obtain ⟨x,dx,nm,lo,hi,rfl,_⟩:=h
   rfl
 obtain ⟨x,dx,nm,lo,hi,rfl,hx,q⟩:=h;refine ⟨_,(Zab (ZbA K (pv 0) (pv 1))
     (Zab (ZbA K (pv 0) (pv 2))
     (Zae (ZbA K (pv 0) (pv 3))))),?_⟩
 walk_at "vc";refine ⟨_,_,_,hx,cd.c,cd.n_name,by decide,_,_,_,Zad,cd.c,cd.n_low,by show 1<1000;decide,_,_,_,Zad,cd.c,cd.n_high,by show 2<1000;decide,q _ (fun b nb=>?_) Zad⟩;rw [Zah nb,Zah nb,Zah nb]
theorem ok_iOp (cd:CD_Opposite K mg (C .op)):MakeAt P w K mg base "Opposite" (C .op) ["self","one"] 1 (spIOp C):=by
 refine MakeAt.of cd.at_ cd.init Zcx (fun vs H Q E h=>?_) (fun f cdv A outer s H vs Q E hr h=>?_)
 · obtain ⟨x,dx,u,rfl,_⟩:=h
   rfl
 obtain ⟨x,dx,u,rfl,hx,q⟩:=h;refine ⟨_,(Zae (ZbA K (pv 0) (pv 1))),?_⟩;walk_at "vc";exact ⟨_,_,_,hx,cd.c,cd.n_one,by decide,q _ (fun b nb=>Zah nb) Zad⟩
theorem ok_iAl (B:Blt mg)(cd:CD_AllOf K mg (C .al)):MakeAt P w K mg base "AllOf" (C .al) ["self","parts"] 1 (spIPa C .al):=by
 refine MakeAt.of cd.at_ cd.init Zdy (fun vs H Q E h=>?_) (fun f cdv A outer s H vs Q E hr h=>?_)
 · obtain ⟨x,dx,p,us,rfl,_⟩:=h
   rfl
 obtain ⟨x,dx,p,us,rfl,hx,hp,q⟩:=h;refine ⟨_,(Zae (ZbA K (pv 0) (ZaK (Zca K) rfl B.lst boot_list (Zaa (pv 1) Zac)))),?_⟩;walk_at "vc";refine ⟨_,.inl (SqL.of hp),fun l hl=>?_⟩;have hx2:upd H l (.lst us) x=some (.ins (C .al) dx []):=by rw [Zah (Zaj hx hl)];exact hx
 exact ⟨_,_,_,hx2,cd.c,cd.n_parts,by decide,q l _ hl (fun b nb=>Zah nb) Zad⟩
theorem ok_iOn (B:Blt mg)(cd:CD_OneOf K mg (C .on)):MakeAt P w K mg base "OneOf" (C .on) ["self","parts"] 1 (spIPa C .on):=by
 refine MakeAt.of cd.at_ cd.init ZdL (fun vs H Q E h=>?_) (fun f cdv A outer s H vs Q E hr h=>?_)
 · obtain ⟨x,dx,p,us,rfl,_⟩:=h
   rfl
 obtain ⟨x,dx,p,us,rfl,hx,hp,q⟩:=h;refine ⟨_,(Zae (ZbA K (pv 0) (ZaK (Zca K) rfl B.lst boot_list (Zaa (pv 1) Zac)))),?_⟩;walk_at "vc";refine ⟨_,.inl (SqL.of hp),fun l hl=>?_⟩;have hx2:upd H l (.lst us) x=some (.ins (C .on) dx []):=by rw [Zah (Zaj hx hl)];exact hx
 exact ⟨_,_,_,hx2,cd.c,cd.n_parts,by decide,q l _ hl (fun b nb=>Zah nb) Zad⟩
def NewAt (K:PySem.W.Frag)(mg:Str→Option Value)(x:Str)(C:Addr):Prop:=mg x=some (.ref C)∧MkN K C
theorem same2 {H:Hp}{x dx:Addr}{o o':HO}(h1:H x=none)(h2:H dx=none)(h:dx≠x):Same H (upd (upd H dx o) x o'):=(Same.new h2).trans (Same.new (by rw [Zah (Ne.symm h)];exact h1))
theorem ZgS {H H':Hp}{x dx:Addr}{o o':HO}(h1:H x=none)(h2:H dx=none)(off:Off x (upd (upd H dx o) x o') H'):Same H H':=fun b ob e=>by
 have nb:b≠x:=Zaj e h1;rw [off b nb,Zah nb,Zah (Zaj e h2)];exact e
theorem pa_off {H H':Hp}{x dx l:Addr}{us:List V}{o o':HO}(h1:H x=none)(h2:H dx=none)(hl:upd (upd H dx o) x o' l=none)(off:Off x (upd (upd (upd H dx o) x o') l (.lst us)) H'):Same H H'∧H' l=some (.lst us)∧H l=none:=by
 have nx:l≠x:=fun z=>by rw [z,Zad] at hl;cases hl
 have nd:l≠dx:=fun z=>by rw [Zah nx,z,Zad] at hl;cases hl
 rw [Zah nx,Zah nd] at hl;refine ⟨fun b ob e=>?_,?_,hl⟩
 · have nb:b≠x:=Zaj e h1
   rw [off b nb,Zah (Zaj e hl),Zah nb,Zah (Zaj e h2)];exact e
 · rw [off l nx,Zad]
end
abbrev tk (ts:List Tok)(r:Nat):Tok:=ts.getD r (emS,0)
abbrev Res:=Nat ⊕ (T × Nat)
def bnd {α β:Type}(a:Nat ⊕ α)(f:α→Nat ⊕ β):Nat ⊕ β:=match a with | .inl p=>.inl p | .inr x=>f x
def figI (w:Str):Int:=((PySem.NumText.digitsVal w.cps.toList:Nat):Int)
def pPass (ts:List Tok)(w:Str)(r:Nat):Nat ⊕ Nat:=if (tk ts r).1=w then .inr (r+1) else .inl (tk ts r).2
def pFig (ts:List Tok)(r:Nat):Nat ⊕ (Int × Nat):=if figB (tk ts r).1=true then .inr (figI (tk ts r).1,r+1) else .inl (tk ts r).2
def pWithin (ts:List Tok)(nm:Str)(r:Nat):Res :=
 if (tk ts r).1=Str.ofString "is" then bnd (pFig ts (r+1)) fun y=>.inr (.inn nm y.1 y.1,y.2)
 else bnd (pPass ts (Str.ofString "from") r) fun r1=>bnd (pFig ts r1) fun lo=>bnd (pPass ts (Str.ofString "to") lo.2) fun r2=>bnd (pFig ts r2) fun hi=>.inr (.inn nm lo.1 hi.1,hi.2)
def Gd (ts:List Tok):Prop:=∀ r t,ts[r]?=some t→t.1≠emS→r+1<ts.length
theorem ZbO {ts:List Tok}{r:Nat}(h:r<ts.length):ts[r]?=some (tk ts r):=by rw [List.getElem?_eq_getElem h,tk,List.getD_eq_getElem?_getD,List.getElem?_eq_getElem h];rfl
theorem Gd.next {ts:List Tok}{r:Nat}(g:Gd ts)(h:r<ts.length)(n:(tk ts r).1≠emS):r+1<ts.length:=g r _ (ZbO h) n
theorem Zcc {w:Str}(h:figB w=true):w≠emS:=fun z=>by
 rw [z] at h;revert h;decide +kernel
theorem ZcH {ts:List Tok}{w:Str}{r r':Nat}(g:Gd ts)(h:r<ts.length)(n:w≠emS)(e:pPass ts w r=.inr r'):r'<ts.length:=by
 unfold pPass at e;split at e
 · rename_i c
   cases e;exact g.next h (by rw [c];exact n)
 · cases e
theorem ZdB {ts:List Tok}{r:Nat}{y:Int × Nat}(g:Gd ts)(h:r<ts.length)(e:pFig ts r=.inr y):y.2<ts.length:=by
 unfold pFig at e;split at e
 · rename_i c
   cases e;exact g.next h (Zcc c)
 · cases e
def Rd (C:Kd→Addr)(CW CB x l:Addr)(ts:List Tok)(H:Hp)(Q:VK)(E:XK):Res→Prop
 | .inr (t,r)=>∀ v H',Fx x H H'→WdAt CW x l ts r H'→QAt C (New H H') t v→Q v H'
 | .inl p=>∀ dx H',Fx x H H'→H' dx=some (.xd [("place",.int p)])→E (.ref CB) (some dx) H'
theorem New.fx {x:Addr}{H H1 H2:Hp}(f:Fx x H H1)(h:H1 x≠none):Same (New H1 H2) (New H H2):=fun a o e=>by
 obtain ⟨e1,e2⟩:=New.some e;refine New.of ?_ e2;cases z:H a with
 | none=>rfl
 | some u =>
   by_cases c:a=x
   · rw [c] at e1
     exact absurd e1 h
   · rw [f a u c z] at e1
     cases e1
theorem New.keep {x:Addr}{H H1 H2:Hp}(f:Fx x H1 H2)(h:H x≠none):Same (New H H1) (New H H2):=fun a o e=>by
 obtain ⟨e1,e2⟩:=New.some e;exact New.of e1 (f a o (fun c=>h (by rw [← c];exact e1)) e2)
theorem Rd.step {C:Kd→Addr}{CW CB x l:Addr}{ts:List Tok}{H H1:Hp}{Q:VK}{E:XK}(f:Fx x H H1)(h1:H1 x≠none):∀ {a:Res},Rd C CW CB x l ts H Q E a→Rd C CW CB x l ts H1 Q E a
 | .inr (t,_),h=>fun v H' f1 w1 q1=>h v H' (f.trans f1) w1 (QAt.same (New.fx f h1) t q1)
 | .inl _,h=>fun dx H' f1 e=>h dx H' (f.trans f1) e
def spWithin (C:Kd→Addr)(CW CB:Addr):Sp:=fun vs H Q E=>∃ (x l:Addr) (ts:List Tok) (r:Nat) (nm:Str),vs=[.ref x,.str nm]∧WdAt CW x l ts r H∧r<ts.length∧Sm ts∧Gd ts∧Rd C CW CB x l ts H Q E (pWithin ts nm r)
section
variable {P:Program}{w:World}{K:PySem.W.Frag}{mg:Str→Option Value}{base:Heap}{C:Kd→Addr}{CW CB x l:Addr}{ts:List Tok}{r:Nat}{H:Hp}{Q:VK}{E:XK}
theorem WdAt.obj (h:WdAt CW x l ts r H):∃ dx fs,H x=some (.ins CW dx fs)∧(∀ m:Str,m≠"cut_up"→m≠"reached"→fs.lookup m=none):=by
 obtain ⟨dx,us,hx,_,_⟩:=h.ex;refine ⟨dx,_,hx,fun m h1 h2=>?_⟩;have e1:(m==("cut_up":Str))=false:=by simpa using h1
 have e2:(m==("reached":Str))=false:=by simpa using h2
 rw [List.lookup_cons,e1,List.lookup_cons,e2];rfl
theorem WdAt.has (h:WdAt CW x l ts r H):H x≠none:=by obtain ⟨dx,fs,hx,_⟩:=h.obj;rw [hx];intro z;cases z
theorem Zdh {y:Str}(wd:WdAt CW x l ts r H)(h:r<ts.length)(sm:Sm ts)(q:∀ r',pPass ts y r=.inr r'→∀ H',Fx x H H'→WdAt CW x l ts r' H'→Q .non H')(qe:∀ p,pPass ts y r=.inl p→∀ dx H',Same H H'→H' dx=some (.xd [("place",.int p)])→E (.ref CB) (some dx) H'):spPass CW CB [.ref x,.str y] H Q E :=
 ⟨x,l,ts,r,_,y,rfl,wd,ZbO h,sm,fun e=>q _ (by unfold pPass;rw [if_pos e]),fun e=>qe _ (by unfold pPass;rw [if_neg e])⟩
theorem Zgo (wd:WdAt CW x l ts r H)(h:r<ts.length)(sm:Sm ts)(q:∀ y,pFig ts r=.inr y→∀ H',Fx x H H'→WdAt CW x l ts y.2 H'→Q (.int y.1) H')(qe:∀ p,pFig ts r=.inl p→∀ dx H',Same H H'→H' dx=some (.xd [("place",.int p)])→E (.ref CB) (some dx) H'):spFigs CW CB [.ref x] H Q E:=by refine ⟨x,l,ts,r,_,rfl,wd,ZbO h,sm,fun e H' f1 w1=>?_,fun e=>qe _ (by unfold pFig;rw [if_neg (by rw [e];decide)])⟩;have:=q _ (by unfold pFig;rw [if_pos e]) H' f1 w1;unfold figV;rw [if_pos e];exact this
theorem Ze6 {nm:Str}{lo hi:Int}(q:∀ v H',Same H H'→QAt C (New H H') (.inn nm lo hi) v→Q v H'):∀ p dx,H p=none→H dx=none→dx≠p→spIWi C (.ref p::[.str nm,.int lo,.int hi]) (upd (upd H dx (.own p)) p (.ins (C .wi) dx [])) (fun v H2=>v=.non∧Q (.ref p) H2) E0 :=
 fun p dx h1 h2 h3=>⟨p,dx,nm,lo,hi,rfl,Zad,fun H' off hx=>⟨rfl,q _ _ (ZgS h1 h2 off) ⟨p,dx,rfl,New.of h1 hx⟩⟩⟩
theorem ZkC (h_Within:MakeAt P w K mg base "Within" (C .wi) ["self","name","low","high"] 1 (spIWi C)) (h_here:MethAt P w K mg base CW "here" ["self"] 1 (spHere CW)) (h_step:MethAt P w K mg base CW "step" ["self"] 1 (spStep CW)) (h_pass:MethR P w K mg base CW "pass_by" ["self","word"] 3 (spPass CW CB)) (h_figures:MethR P w K mg base CW "figures" ["self"] 3 (spFigs CW CB)) (d:DefAt K mg "read_within" ZbS ["words","name"]):FnR P w K mg base "read_within" ["words","name"] 5 (spWithin C CW CB):=by
 refine FnR.of d sc_read_within (fun vs H Q E h=>?_) (fun f cdv A outer s H vs Q E hr h=>?_)
 · obtain ⟨x,l,ts,r,nm,rfl,_⟩:=h
   rfl
 obtain ⟨x,l,ts,r,nm,rfl,wd,lt,sm,gd,q⟩:=h;refine ⟨_,(Zab (Zau (Zai Zat (Zax (P:=P) (w:=w) (K:=K) (mg:=mg) (base:=base) 1 (hr.mono (by decide)) (pv 0)) Zaf (nomark _)) (Zab (Zay (Zax (P:=P) (w:=w) (K:=K) (mg:=mg) (base:=base) 1 (hr.mono (by decide)) (pv 0)))
     (Zab (Zao (i:=2) sc_read_within.nd rfl (by walk_at "l") (Zgs 3 (hr.mono (by decide)) (pv 0)))
     (Zae (Zam (Zb5 h_Within (hr.mono (by decide)) rfl (Zaa (pv 1) (Zaa (pv 2) (Zaa (pv 2) Zac)))))))) Zap)
     (Zab (Zay (Zgf 3 (hr.mono (by decide)) (pv 0) (Zaa Zaf Zac)))
     (Zab (Zao (i:=2) sc_read_within.nd rfl (by walk_at "l") (Zgs 3 (hr.mono (by decide)) (pv 0)))
     (Zab (Zay (Zgf 3 (hr.mono (by decide)) (pv 0) (Zaa Zaf Zac)))
     (Zab (Zao (i:=3) sc_read_within.nd rfl (by walk_at "l") (Zgs 3 (hr.mono (by decide)) (pv 0)))
     (Zae (Zam (Zb5 h_Within (hr.mono (by decide)) rfl (Zaa (pv 1) (Zaa (pv 2) (Zaa (pv 3) Zac))))))))))),?_⟩
 walk_at "vc";obtain ⟨dx,fs,hx,lk⟩:=wd.obj;refine ⟨_,_,_,hx,lk _ (by decide) (by decide),_,_,h_here,x,l,ts,r,_,rfl,wd,ZbO lt,?_⟩;show scal (.str (tk ts r).1) (.str (Str.ofString "is"))=true∧if V.str (tk ts r).1=V.str (Str.ofString "is") then _ else _
 refine ⟨rfl,?_⟩;unfold pWithin at q;by_cases c:(tk ts r).1=Str.ofString "is"
 · rw [if_pos (by rw [c])]
   rw [if_pos c] at q;refine ⟨_,_,_,hx,lk _ (by decide) (by decide),_,_,h_step,x,l,ts,r,rfl,wd,fun H1 f1 wd1=>?_⟩;have lt1:=gd.next lt (by rw [c];decide +kernel);obtain ⟨dx1,fs1,hx1,lk1⟩:=wd1.obj;refine ⟨_,_,_,hx1,lk1 _ (by decide) (by decide),_,_,h_figures,Zgo wd1 lt1 sm (fun y e H2 f2 wd2=>?_) fun p e dx H2 s2 h2=>?_⟩
   · rw [e] at q
     exact Ze6 fun v H3 s3 hq=>q v H3 ((f1.trans f2).trans (Fx.of s3)) (wd2.same s3) (QAt.same (New.fx (f1.trans f2) wd2.has) _ hq)
   · rw [e] at q
     exact q dx H2 (f1.trans (Fx.of s2)) h2
 · rw [if_neg (fun z=>c (V.str.inj z))]
   rw [if_neg c] at q;refine ⟨_,_,_,hx,lk _ (by decide) (by decide),_,_,h_pass,Zdh wd lt sm (fun r1 e1 H1 f1 wd1=>?_) fun p e dx H2 s2 h2=>?_⟩
   · have lt1:=ZcH gd lt (by decide +kernel) e1
     rw [e1] at q;simp only [bnd] at q;obtain ⟨dx1,fs1,hx1,lk1⟩:=wd1.obj;refine ⟨_,_,_,hx1,lk1 _ (by decide) (by decide),_,_,h_figures,Zgo wd1 lt1 sm (fun lo e2 H2 f2 wd2=>?_) fun p e dx H2 s2 h2=>?_⟩
     · have lt2:=ZdB gd lt1 e2
       rw [e2] at q;simp only [bnd] at q;obtain ⟨dx2,fs2,hx2,lk2⟩:=wd2.obj;refine ⟨_,_,_,hx2,lk2 _ (by decide) (by decide),_,_,h_pass,Zdh wd2 lt2 sm (fun r3 e3 H3 f3 wd3=>?_) fun p e dx H3 s3 h3=>?_⟩
       · have lt3:=ZcH gd lt2 (by decide +kernel) e3
         rw [e3] at q;simp only [bnd] at q;obtain ⟨dx3,fs3,hx3,lk3⟩:=wd3.obj;refine ⟨_,_,_,hx3,lk3 _ (by decide) (by decide),_,_,h_figures,Zgo wd3 lt3 sm (fun hi e4 H4 f4 wd4=>?_) fun p e dx H4 s4 h4=>?_⟩
         · rw [e4] at q
           exact Ze6 fun v H5 s5 hq=>q v H5 ((((f1.trans f2).trans f3).trans f4).trans (Fx.of s5)) (wd4.same s5) (QAt.same (New.fx (((f1.trans f2).trans f3).trans f4) wd4.has) _ hq)
         · rw [e] at q
           exact q dx H4 (((f1.trans f2).trans f3).trans (Fx.of s4)) h4
       · rw [e] at q
         exact q dx H3 ((f1.trans f2).trans (Fx.of s3)) h3
     · rw [e] at q
       exact q dx H2 (f1.trans (Fx.of s2)) h2
   · rw [e] at q
     exact q dx H2 (Fx.of s2) h2
end
def Ts.ofL:List T→Ts
 | []=>.nil
 | t::r=>.cons t (Ts.ofL r)
theorem Ts.toL_ofL:∀ l:List T,(Ts.ofL l).toL=l
 | []=>rfl
 | t::r=>by show t::(Ts.ofL r).toL=_;rw [Ts.toL_ofL r]
def pLoop (item:Nat→Res)(sep:Str)(ts:List Tok):Nat→Nat→List T→Nat ⊕ (List T × Nat)
 | 0,r,acc=>.inr (acc,r)
 | k+1,r,acc=>if (tk ts r).1=sep then bnd (item (r+1)) fun y=>pLoop item sep ts k y.2 (acc++[y.1]) else .inr (acc,r)
def fold1 (mk:Ts→T)(l:List T):T:=if l.length=1 then l.headD .ev else mk (Ts.ofL l)
def pChain (item:Nat→Res)(sep:Str)(mk:Ts→T)(ts:List Tok)(r:Nat):Res:=bnd (item r) fun y=>bnd (pLoop item sep ts ts.length y.2 [y.1]) fun z=>.inr (fold1 mk z.1,z.2)
def On (ts:List Tok)(f:Nat→Res):Prop:=∀ r t r',r<ts.length→f r=.inr (t,r')→r<r'∧r'<ts.length
theorem Zi8 {item:Nat→Res} {sep:Str} {ts:List Tok} (g:Gd ts) (hs:sep≠emS) (on:On ts item):∀ k r acc z,r<ts.length→pLoop item sep ts k r acc=.inr z→r≤z.2∧z.2<ts.length
 | 0,r,acc,z,h,e=>by
   cases e;exact ⟨Nat.le_refl _,h⟩
 | k + 1,r,acc,z,h,e=>by
   unfold pLoop at e;split at e
   · rename_i c
     have h1:=g.next h (by rw [c];exact hs);cases q:item (r+1) with
     | inl p=>rw [q] at e;cases e
     | inr y =>
       rw [q] at e;obtain ⟨a,b⟩:=on (r+1) y.1 y.2 h1 q;obtain ⟨a2,b2⟩:=Zi8 g hs on k y.2 _ z b e;exact ⟨by omega,b2⟩
   · cases e
     exact ⟨Nat.le_refl _,h⟩
theorem ZaD {item:Nat→Res}{sep:Str}{mk:Ts→T}{ts:List Tok}(g:Gd ts)(hs:sep≠emS)(on:On ts item):On ts (pChain item sep mk ts):=fun r t r' h e=>by
 unfold pChain at e;cases q:item r with
 | inl p=>rw [q] at e;cases e
 | inr y =>
   rw [q] at e;simp only [bnd] at e;obtain ⟨a,b⟩:=on r y.1 y.2 h q;cases q2:pLoop item sep ts ts.length y.2 [y.1] with
   | inl p=>rw [q2] at e;cases e
   | inr z =>
     rw [q2] at e;simp only [Sum.inr.injEq,Prod.mk.injEq] at e;obtain ⟨a2,b2⟩:=Zi8 g hs on _ _ _ z b q2;omega
def pPiece (ts:List Tok):Nat→Nat→Nat→Res
 | 0,_,_=>.inl 0
 | n + 1,d,r =>
   if ((tk ts r).1=Str.ofString "not"∨(tk ts r).1=Str.ofString "(")∧d<20 then
     if (tk ts r).1=Str.ofString "not" then bnd (pPiece ts n (d+1) (r+1)) fun y=>.inr (.opp y.1,y.2)
     else bnd (pChain (pChain (pPiece ts n (d+1)) (Str.ofString "and") .al ts) (Str.ofString "or") .on ts (r+1)) fun y=>bnd (pPass ts (Str.ofString ")") y.2) fun r2=>.inr (y.1,r2)
   else if (tk ts r).1=Str.ofString "all" then .inr (.ev,r+1)
   else if (tk ts r).1=Str.ofString "none" then .inr (.no,r+1)
   else if nameB (tk ts r).1=true then pWithin ts (tk ts r).1 (r+1)
   else .inl (tk ts r).2
def pChains (ts:List Tok)(n d:Nat):Nat→Res:=pChain (pChain (pPiece ts n d) (Str.ofString "and") .al ts) (Str.ofString "or") .on ts
def pQuestion (ts:List Tok):Nat ⊕ T:=bnd (pChains ts 21 0 0) fun y=>bnd (pPass ts emS y.2) fun _=>.inr y.1
theorem Zal {α β:Type}{a:Nat ⊕ α}{f:α→Nat ⊕ β}{z:β}(h:bnd a f=.inr z):∃ y,a=.inr y∧f y=.inr z:=by
 cases a with
 | inl p=>cases h
 | inr y=>exact ⟨y,rfl,h⟩
theorem Zb8 {w:Str}(h:nameB w=true):w≠emS:=fun z=>by
 rw [z] at h;revert h;decide +kernel
theorem Zj5 {ts:List Tok}{nm:Str}(g:Gd ts):On ts (pWithin ts nm):=fun r t r' h e=>by
 unfold pWithin at e;split at e
 · rename_i c
   have h1:=g.next h (by rw [c];decide +kernel);obtain ⟨y,e1,e2⟩:=Zal e;have l1:=ZdB g h1 e1;have:y.2=r+2:=by unfold pFig at e1;split at e1<;>cases e1;rfl
   simp only [Sum.inr.injEq,Prod.mk.injEq] at e2;omega
 · obtain ⟨r1,e1,e⟩:=Zal e
   obtain ⟨lo,e2,e⟩:=Zal e;obtain ⟨r2,e3,e⟩:=Zal e;obtain ⟨hi,e4,e⟩:=Zal e;have l1:=ZcH g h (by decide +kernel) e1;have l2:=ZdB g l1 e2;have l3:=ZcH g l2 (by decide +kernel) e3;have l4:=ZdB g l3 e4;have a1:r1=r+1:=by unfold pPass at e1;split at e1<;>cases e1;rfl
   have a2:lo.2=r1+1:=by unfold pFig at e2;split at e2<;>cases e2;rfl
   have a3:r2=lo.2+1:=by unfold pPass at e3;split at e3<;>cases e3;rfl
   have a4:hi.2=r2+1:=by unfold pFig at e4;split at e4<;>cases e4;rfl
   simp only [Sum.inr.injEq,Prod.mk.injEq] at e;omega
theorem ZaC {ts:List Tok} (g:Gd ts):∀ n d,On ts (pPiece ts n d)
 | 0,d=>fun r t r' h e=>by cases e
 | n + 1,d=>fun r t r' h e=>by
   unfold pPiece at e;split at e
   · rename_i c
     have h1:=g.next h (by rcases c.1 with c | c<;>rw [c]<;>decide +kernel);split at e
     · obtain ⟨y,e1,e⟩:=Zal e
       obtain ⟨a,b⟩:=ZaC g n (d+1) (r+1) y.1 y.2 h1 e1;simp only [Sum.inr.injEq,Prod.mk.injEq] at e;omega
     · obtain ⟨y,e1,e⟩:=Zal e
       obtain ⟨r2,e2,e⟩:=Zal e;obtain ⟨a,b⟩:=ZaD g (by decide +kernel) (ZaD g (by decide +kernel) (ZaC g n (d+1))) (r+1) y.1 y.2 h1 e1;have l:=ZcH g b (by decide +kernel) e2;have a1:r2=y.2+1:=by unfold pPass at e2;split at e2<;>cases e2;rfl
       simp only [Sum.inr.injEq,Prod.mk.injEq] at e;omega
   · split at e
     · rename_i c
       have h1:=g.next h (by rw [c];decide +kernel);simp only [Sum.inr.injEq,Prod.mk.injEq] at e;omega
     · split at e
       · rename_i c
         have h1:=g.next h (by rw [c];decide +kernel);simp only [Sum.inr.injEq,Prod.mk.injEq] at e;omega
       · split at e
         · rename_i c
           have h1:=g.next h (Zb8 c);obtain ⟨a,b⟩:=Zj5 g (r+1) t r' h1 e;omega
         · cases e
def spRd (C:Kd→Addr)(CW CB:Addr)(n:Nat)(f:List Tok→Nat→Nat→Res):Sp:=fun vs H Q E=>∃ (x l:Addr) (ts:List Tok) (r d:Nat),vs=[.ref x,.int d]∧WdAt CW x l ts r H∧r<ts.length∧Sm ts∧Gd ts∧d≤20∧20<n+d∧Rd C CW CB x l ts H Q E (f ts d r)
def rchd (x:Addr)(H:Hp):Nat:=match H x with | some (.ins _ _ fs)=>(match fs.lookup ("reached":Str) with | some (.int r)=>r.toNat | _=>0) | _=>0
theorem WdAt.rchd {CW x l:Addr}{ts:List Tok}{r:Nat}{H:Hp}(h:WdAt CW x l ts r H):rchd x H=r:=by obtain ⟨dx,us,hx,_,_⟩:=h.ex;unfold My.rchd;rw [hx];rfl
theorem Za0 {x a:Addr}{H H1:Hp}(f:Fx x H H1)(h:H1 x≠none)(e:H1 a=none):H a=none:=by
 cases z:H a with
 | none=>rfl
 | some o =>
   by_cases c:a=x
   · rw [c] at e
     exact absurd e h
   · rw [f a o c z] at e
     cases e
structure AndI (C:Kd→Addr)(CW x l p:Addr)(ts:List Tok)(d:Nat)(H:Hp)(res:Nat ⊕ (List T × Nat))(g:Nat→Nat→List T→Nat ⊕ (List T × Nat))(σ:L2.St)(H':Hp):Prop where
 ex:∃ (r k:Nat) (us:List V) (acc:List T),σ=[some (.ref x),some (.int d),some (.ref p)]∧WdAt CW x l ts r H'∧r<ts.length∧ts.length≤k+r∧g k r acc=res∧H' p=some (.lst us)∧us.length=acc.length∧us.length≤r∧∀ (i:Nat) u t,us[i]?=some u→acc[i]?=some t→QAt C (del (New H H') p) t u
 fx:Fx x H H'
 np:H p=none
section
variable {P:Program}{w:World}{K:PySem.W.Frag}{mg:Str→Option Value}{base:Heap}{C:Kd→Addr}{CW CB:Addr}{n k:Nat}{f:List Tok→Nat→Nat→Res}
theorem Zc2 (hk:2≤k) (B:Blt mg) (fon:∀ ts d,Gd ts→On ts (f ts d)) (h_here:MethAt P w K mg base CW "here" ["self"] 1 (spHere CW)) (h_step:MethAt P w K mg base CW "step" ["self"] 1 (spStep CW)) (h_AllOf:MakeAt P w K mg base "AllOf" (C .al) ["self","parts"] 1 (spIPa C .al)) (h_read_piece:FnR P w K mg base "read_piece" ["words","deep"] k (spRd C CW CB n f)) (d:DefAt K mg "read_chain" ZbD ["words","deep"]):FnR P w K mg base "read_chain" ["words","deep"] (k+1) (spRd C CW CB n fun ts d=>pChain (f ts d) (Str.ofString "and") .al ts):=by
 refine FnR.of d sc_read_chain (fun vs H Q E h=>?_) (fun f' cdv A outer s H vs Q E hr h=>?_)
 · obtain ⟨x,l,ts,r,d,rfl,_⟩:=h
   rfl
 obtain ⟨x,l,ts,r,d,rfl,wd,lt,sm,gd,hd1,hd2,q⟩:=h;dsimp only at q;have on:=fon ts d gd;refine ⟨_,(Zab (Zao (i:=2) sc_read_chain.nd rfl (by walk_at "l") (Zaz (Zaa (Za8 h_read_piece (hr.mono (by omega)) rfl (Zaa (pv 0) (Zaa (pv 1) Zac))) Zac)))
     (Zab (Zdk ownD (Zai Zat (Zax (P:=P) (w:=w) (K:=K) (mg:=mg) (base:=base) 1 (hr.mono (by omega)) (pv 0)) Zaf (nomark _)) (Zab (Zay (Zax (P:=P) (w:=w) (K:=K) (mg:=mg) (base:=base) 1 (hr.mono (by omega)) (pv 0)))
     (Zae (Zay (ZaZ K PySem.F.plainAttrs_list PySem.F.slot_list_append PySem.F.type_list_append ZaL (pv 2) (Zaa (Za8 h_read_piece (hr.mono (by omega)) rfl (Zaa (pv 0) (Zaa (pv 1) Zac))) Zac))))))
     (Zae (Zam (ZdJ (Zai Zat (Zas (ZaW K) rfl B.len PySem.boot_len (Zaa (pv 2) Zac)) Zak (nomark _)) (Zav (Zan K) (pv 2) Zak (fun _ _=>rfl)) (Zb5 h_AllOf (hr.mono (by omega)) rfl (Zaa (pv 2) Zac))))))),?_⟩
 walk_at "vc";refine ⟨x,l,ts,r,d,rfl,wd,lt,sm,gd,hd1,hd2,?_⟩;cases e1:f ts d r with
 | inl p =>
   have q':Rd C CW CB x l ts H Q E (.inl p):=by
     have:pChain (f ts d) (Str.ofString "and") .al ts r=.inl p:=by unfold pChain;rw [e1];rfl
     rw [← this];exact q
   exact q'
 | inr y =>
   obtain ⟨t,r1⟩:=y;obtain ⟨lt0,lt1⟩:=on r t r1 lt e1;intro v H1 f1 wd1 q1;refine ⟨by decide,fun p np=>?_⟩;have hx1:=wd1.has;have npx:p≠x:=fun z=>hx1 (by rw [← z];exact np)
   have hpH:H p=none:=Za0 f1 hx1 np;have npl:p≠l:=fun z=>by
     obtain ⟨_,ws,_,b,_⟩:=wd1.ex;rw [← z,np] at b;cases b
   refine ⟨fun m σ' H'=>m=ts.length-rchd x H'∧AndI C CW x l p ts d H (pLoop (f ts d) (Str.ofString "and") ts ts.length r1 [t]) (pLoop (f ts d) (Str.ofString "and") ts) σ' H',⟨_,rfl,⟨⟨r1,ts.length,[v],[t],rfl,wd1.same (Same.new np),lt1,by omega,rfl,Zad,rfl,by show 1≤_;omega,fun i u t' e2 e3=>?_⟩,f1.trans (Fx.of (Same.new np)),hpH⟩⟩,?_⟩
   · cases i with
     | succ i=>cases e2
     | zero =>
       cases e2;cases e3;refine QAt.same (fun a o z=>?_) t q1;obtain ⟨z1,z2⟩:=New.some z;have na:a≠p:=Zaj z2 np;rw [Zbn na];exact New.of z1 (by rw [Zah na];exact z2)
   rintro m σ' H2 ⟨rfl,⟨⟨r2,k2,us,acc,rfl,wd2,lt2,hk,er,hp,ll,lr,hq⟩,f2,_⟩⟩;obtain ⟨dx2,fs2,hx2,lk2⟩:=wd2.obj;walk_at "vc";refine ⟨_,_,_,hx2,lk2 _ (by decide) (by decide),_,_,h_here,x,l,ts,r2,_,rfl,wd2,ZbO lt2,?_⟩;show scal (.str (tk ts r2).1) (.str (Str.ofString "and"))=true∧if V.str (tk ts r2).1=V.str (Str.ofString "and") then _ else _
   refine ⟨rfl,?_⟩;obtain ⟨k3,rfl⟩:∃ k3,k2=k3+1:=⟨k2-1,by omega⟩
   have chain:∀ z,pLoop (f ts d) (Str.ofString "and") ts ts.length r1 [t]=z→pChain (f ts d) (Str.ofString "and") .al ts r=bnd z fun z=>.inr (fold1 .al z.1,z.2):=fun z ez=>by
     unfold pChain;rw [e1];show bnd (pLoop _ _ _ _ r1 [t]) _=_;rw [ez]
   have er':=er.symm;rw [pLoop] at er';by_cases c:(tk ts r2).1=Str.ofString "and"
   · rw [if_pos (by rw [c])]
     rw [if_pos c] at er';have lt3:=gd.next lt2 (by rw [c];decide +kernel);refine ⟨fun σ' H'=>ts.length-rchd x H'<ts.length-rchd x H2∧AndI C CW x l p ts d H (pLoop (f ts d) (Str.ofString "and") ts ts.length r1 [t]) (pLoop (f ts d) (Str.ofString "and") ts) σ' H',fun σ' H' z=>⟨_,z.1,rfl,z.2⟩,_,_,_,hx2,lk2 _ (by decide) (by decide),_,_,h_step,x,l,ts,r2,rfl,wd2,fun H3 f3 wd3=>?_⟩;have hp3:=f3 p _ npx hp;refine ⟨⟨_,SqL.of hp3⟩,x,l,ts,r2+1,d,rfl,wd3,lt3,sm,gd,hd1,hd2,?_⟩;cases e3:f ts d (r2+1) with
     | inl pl =>
       rw [e3] at er';have q':Rd C CW CB x l ts H Q E (.inl pl):=by have:=chain _ er';rw [this] at q;exact q
       exact fun dx H' f4 e4=>q' dx H' ((f2.trans f3).trans f4) e4
     | inr y3 =>
       obtain ⟨t3,r3⟩:=y3;rw [e3] at er';obtain ⟨a3,b3⟩:=on (r2+1) t3 r3 lt3 e3;intro v3 H4 f4 wd4 q4;have hp4:=f4 p _ npx hp3;have wd5:=wd4.off (vs:=us++[v3]) npl hp4;have l1:=sm.1;refine ⟨us,hp4,by rw [sizeLine_eq];omega,by rw [wd5.rchd,wd2.rchd];omega,⟨⟨r3,k3,us++[v3],acc++[t3],rfl,wd5,b3,by omega,er'.symm,Zad,by rw [List.length_append,List.length_append,ll];rfl,by rw [List.length_append];show us.length+1≤_;omega,fun i u t' g1 g2=>?_⟩,fun b o nb e=>by rw [Zah (Zaj e hpH)];exact f4 b o nb (f3 b o nb (f2 b o nb e)),hpH⟩⟩;by_cases ci:i<us.length
       · rw [List.getElem?_append_left ci] at g1
         rw [List.getElem?_append_left (by rw [← ll];exact ci)] at g2;refine QAt.same (fun a o z=>?_) t' (hq i u t' g1 g2);obtain ⟨na,z⟩:=Zbi z;obtain ⟨z1,z2⟩:=New.some z;have nax:a≠x:=fun y=>wd.has (by rw [← y];exact z1)
         rw [Zbn na];exact New.of z1 (by rw [Zah na];exact f4 a o nax (f3 a o nax z2))
       · have ci':us.length≤i:=by omega
         rw [List.getElem?_append_right ci'] at g1;rw [List.getElem?_append_right (by rw [← ll];exact ci'),← ll] at g2;cases zi:i-us.length with
         | succ j=>rw [zi] at g1;cases g1
         | zero =>
           rw [zi] at g1 g2;cases g1;cases g2;refine QAt.same (fun a o z=>?_) t3 q4;obtain ⟨z1,z2⟩:=New.some z;have na:a≠p:=fun y=>by rw [y,hp3] at z1;cases z1
           rw [Zbn na];exact New.of (Za0 (f2.trans f3) wd3.has z1) (by rw [Zah na];exact z2)
   · rw [if_neg (fun z=>c (V.str.inj z))]
     rw [if_neg c] at er';have q':Rd C CW CB x l ts H Q E (.inr (fold1 .al acc,r2)):=by have:=chain _ er';rw [this] at q;exact q
     refine ⟨us,.inl (SqL.of hp),?_⟩;by_cases c1:us.length=1
     · rw [if_pos (by omega)]
       obtain ⟨u0,rfl⟩:=List.length_eq_one_iff.mp c1;obtain ⟨t0,rfl⟩:=List.length_eq_one_iff.mp (ll.symm.trans c1);exact ⟨_,SqL.of hp,u0,ZaI (j:=0) rfl,q' u0 H2 f2 wd2 (QAt.same (fun a o z=>(Zbi z).2) _ (hq 0 u0 t0 rfl rfl))⟩
     · rw [if_neg (by omega)]
       intro y dy h1 h2 h3;have hpy:upd (upd H2 dy (.own y)) y (.ins (C .al) dy []) p=some (.lst us):=by rw [Zah (Zaj hp h1),Zah (Zaj hp h2)];exact hp
       refine ⟨y,dy,p,us,rfl,Zad,hpy,fun l2 H' hl2 off hy=>⟨rfl,?_⟩⟩;obtain ⟨s5,hl5,n5⟩:=pa_off h1 h2 hl2 off;refine q' _ H' (f2.trans (Fx.of s5)) (wd2.same s5) ?_;unfold fold1;rw [if_neg (by rw [← ll];exact c1)];refine ⟨y,dy,l2,us,rfl,New.of (Za0 f2 wd2.has h1) hy,New.of (Za0 f2 wd2.has n5) hl5,QsAt.mk _ (by rw [Ts.toL_ofL];exact ll) fun i u t' g1 g2=>?_⟩;rw [Ts.toL_ofL] at g2;refine QAt.same (fun a o z=>?_) t' (hq i u t' g1 g2);obtain ⟨z1,z2⟩:=New.some (Zbi z).2;exact New.of z1 (s5 _ _ z2)
end
section
variable {P:Program}{w:World}{K:PySem.W.Frag}{mg:Str→Option Value}{base:Heap}{C:Kd→Addr}{CW CB:Addr}{n k:Nat}{f:List Tok→Nat→Nat→Res}
theorem Zcz (hk:2≤k) (B:Blt mg) (fon:∀ ts d,Gd ts→On ts (f ts d)) (h_here:MethAt P w K mg base CW "here" ["self"] 1 (spHere CW)) (h_step:MethAt P w K mg base CW "step" ["self"] 1 (spStep CW)) (h_OneOf:MakeAt P w K mg base "OneOf" (C .on) ["self","parts"] 1 (spIPa C .on)) (h_read_chain:FnR P w K mg base "read_chain" ["words","deep"] k (spRd C CW CB n f)) (d:DefAt K mg "read_chains" Zbo ["words","deep"]):FnR P w K mg base "read_chains" ["words","deep"] (k+1) (spRd C CW CB n fun ts d=>pChain (f ts d) (Str.ofString "or") .on ts):=by
 refine FnR.of d sc_read_chains (fun vs H Q E h=>?_) (fun f' cdv A outer s H vs Q E hr h=>?_)
 · obtain ⟨x,l,ts,r,d,rfl,_⟩:=h
   rfl
 obtain ⟨x,l,ts,r,d,rfl,wd,lt,sm,gd,hd1,hd2,q⟩:=h;dsimp only at q;have on:=fon ts d gd;refine ⟨_,(Zab (Zao (i:=2) sc_read_chains.nd rfl (by walk_at "l") (Zaz (Zaa (Za8 h_read_chain (hr.mono (by omega)) rfl (Zaa (pv 0) (Zaa (pv 1) Zac))) Zac)))
     (Zab (Zdk ownD (Zai Zat (Zax (P:=P) (w:=w) (K:=K) (mg:=mg) (base:=base) 1 (hr.mono (by omega)) (pv 0)) Zaf (nomark _)) (Zab (Zay (Zax (P:=P) (w:=w) (K:=K) (mg:=mg) (base:=base) 1 (hr.mono (by omega)) (pv 0)))
     (Zae (Zay (ZaZ K PySem.F.plainAttrs_list PySem.F.slot_list_append PySem.F.type_list_append ZaL (pv 2) (Zaa (Za8 h_read_chain (hr.mono (by omega)) rfl (Zaa (pv 0) (Zaa (pv 1) Zac))) Zac))))))
     (Zae (Zam (ZdJ (Zai Zat (Zas (ZaW K) rfl B.len PySem.boot_len (Zaa (pv 2) Zac)) Zak (nomark _)) (Zav (Zan K) (pv 2) Zak (fun _ _=>rfl)) (Zb5 h_OneOf (hr.mono (by omega)) rfl (Zaa (pv 2) Zac))))))),?_⟩
 walk_at "vc";refine ⟨x,l,ts,r,d,rfl,wd,lt,sm,gd,hd1,hd2,?_⟩;cases e1:f ts d r with
 | inl p =>
   have q':Rd C CW CB x l ts H Q E (.inl p):=by
     have:pChain (f ts d) (Str.ofString "or") .on ts r=.inl p:=by unfold pChain;rw [e1];rfl
     rw [← this];exact q
   exact q'
 | inr y =>
   obtain ⟨t,r1⟩:=y;obtain ⟨lt0,lt1⟩:=on r t r1 lt e1;intro v H1 f1 wd1 q1;refine ⟨by decide,fun p np=>?_⟩;have hx1:=wd1.has;have npx:p≠x:=fun z=>hx1 (by rw [← z];exact np)
   have hpH:H p=none:=Za0 f1 hx1 np;have npl:p≠l:=fun z=>by
     obtain ⟨_,ws,_,b,_⟩:=wd1.ex;rw [← z,np] at b;cases b
   refine ⟨fun m σ' H'=>m=ts.length-rchd x H'∧AndI C CW x l p ts d H (pLoop (f ts d) (Str.ofString "or") ts ts.length r1 [t]) (pLoop (f ts d) (Str.ofString "or") ts) σ' H',⟨_,rfl,⟨⟨r1,ts.length,[v],[t],rfl,wd1.same (Same.new np),lt1,by omega,rfl,Zad,rfl,by show 1≤_;omega,fun i u t' e2 e3=>?_⟩,f1.trans (Fx.of (Same.new np)),hpH⟩⟩,?_⟩
   · cases i with
     | succ i=>cases e2
     | zero =>
       cases e2;cases e3;refine QAt.same (fun a o z=>?_) t q1;obtain ⟨z1,z2⟩:=New.some z;have na:a≠p:=Zaj z2 np;rw [Zbn na];exact New.of z1 (by rw [Zah na];exact z2)
   rintro m σ' H2 ⟨rfl,⟨⟨r2,k2,us,acc,rfl,wd2,lt2,hk,er,hp,ll,lr,hq⟩,f2,_⟩⟩;obtain ⟨dx2,fs2,hx2,lk2⟩:=wd2.obj;walk_at "vc";refine ⟨_,_,_,hx2,lk2 _ (by decide) (by decide),_,_,h_here,x,l,ts,r2,_,rfl,wd2,ZbO lt2,?_⟩;show scal (.str (tk ts r2).1) (.str (Str.ofString "or"))=true∧if V.str (tk ts r2).1=V.str (Str.ofString "or") then _ else _
   refine ⟨rfl,?_⟩;obtain ⟨k3,rfl⟩:∃ k3,k2=k3+1:=⟨k2-1,by omega⟩
   have chain:∀ z,pLoop (f ts d) (Str.ofString "or") ts ts.length r1 [t]=z→pChain (f ts d) (Str.ofString "or") .on ts r=bnd z fun z=>.inr (fold1 .on z.1,z.2):=fun z ez=>by
     unfold pChain;rw [e1];show bnd (pLoop _ _ _ _ r1 [t]) _=_;rw [ez]
   have er':=er.symm;rw [pLoop] at er';by_cases c:(tk ts r2).1=Str.ofString "or"
   · rw [if_pos (by rw [c])]
     rw [if_pos c] at er';have lt3:=gd.next lt2 (by rw [c];decide +kernel);refine ⟨fun σ' H'=>ts.length-rchd x H'<ts.length-rchd x H2∧AndI C CW x l p ts d H (pLoop (f ts d) (Str.ofString "or") ts ts.length r1 [t]) (pLoop (f ts d) (Str.ofString "or") ts) σ' H',fun σ' H' z=>⟨_,z.1,rfl,z.2⟩,_,_,_,hx2,lk2 _ (by decide) (by decide),_,_,h_step,x,l,ts,r2,rfl,wd2,fun H3 f3 wd3=>?_⟩;have hp3:=f3 p _ npx hp;refine ⟨⟨_,SqL.of hp3⟩,x,l,ts,r2+1,d,rfl,wd3,lt3,sm,gd,hd1,hd2,?_⟩;cases e3:f ts d (r2+1) with
     | inl pl =>
       rw [e3] at er';have q':Rd C CW CB x l ts H Q E (.inl pl):=by have:=chain _ er';rw [this] at q;exact q
       exact fun dx H' f4 e4=>q' dx H' ((f2.trans f3).trans f4) e4
     | inr y3 =>
       obtain ⟨t3,r3⟩:=y3;rw [e3] at er';obtain ⟨a3,b3⟩:=on (r2+1) t3 r3 lt3 e3;intro v3 H4 f4 wd4 q4;have hp4:=f4 p _ npx hp3;have wd5:=wd4.off (vs:=us++[v3]) npl hp4;have l1:=sm.1;refine ⟨us,hp4,by rw [sizeLine_eq];omega,by rw [wd5.rchd,wd2.rchd];omega,⟨⟨r3,k3,us++[v3],acc++[t3],rfl,wd5,b3,by omega,er'.symm,Zad,by rw [List.length_append,List.length_append,ll];rfl,by rw [List.length_append];show us.length+1≤_;omega,fun i u t' g1 g2=>?_⟩,fun b o nb e=>by rw [Zah (Zaj e hpH)];exact f4 b o nb (f3 b o nb (f2 b o nb e)),hpH⟩⟩;by_cases ci:i<us.length
       · rw [List.getElem?_append_left ci] at g1
         rw [List.getElem?_append_left (by rw [← ll];exact ci)] at g2;refine QAt.same (fun a o z=>?_) t' (hq i u t' g1 g2);obtain ⟨na,z⟩:=Zbi z;obtain ⟨z1,z2⟩:=New.some z;have nax:a≠x:=fun y=>wd.has (by rw [← y];exact z1)
         rw [Zbn na];exact New.of z1 (by rw [Zah na];exact f4 a o nax (f3 a o nax z2))
       · have ci':us.length≤i:=by omega
         rw [List.getElem?_append_right ci'] at g1;rw [List.getElem?_append_right (by rw [← ll];exact ci'),← ll] at g2;cases zi:i-us.length with
         | succ j=>rw [zi] at g1;cases g1
         | zero =>
           rw [zi] at g1 g2;cases g1;cases g2;refine QAt.same (fun a o z=>?_) t3 q4;obtain ⟨z1,z2⟩:=New.some z;have na:a≠p:=fun y=>by rw [y,hp3] at z1;cases z1
           rw [Zbn na];exact New.of (Za0 (f2.trans f3) wd3.has z1) (by rw [Zah na];exact z2)
   · rw [if_neg (fun z=>c (V.str.inj z))]
     rw [if_neg c] at er';have q':Rd C CW CB x l ts H Q E (.inr (fold1 .on acc,r2)):=by have:=chain _ er';rw [this] at q;exact q
     refine ⟨us,.inl (SqL.of hp),?_⟩;by_cases c1:us.length=1
     · rw [if_pos (by omega)]
       obtain ⟨u0,rfl⟩:=List.length_eq_one_iff.mp c1;obtain ⟨t0,rfl⟩:=List.length_eq_one_iff.mp (ll.symm.trans c1);exact ⟨_,SqL.of hp,u0,ZaI (j:=0) rfl,q' u0 H2 f2 wd2 (QAt.same (fun a o z=>(Zbi z).2) _ (hq 0 u0 t0 rfl rfl))⟩
     · rw [if_neg (by omega)]
       intro y dy h1 h2 h3;have hpy:upd (upd H2 dy (.own y)) y (.ins (C .on) dy []) p=some (.lst us):=by rw [Zah (Zaj hp h1),Zah (Zaj hp h2)];exact hp
       refine ⟨y,dy,p,us,rfl,Zad,hpy,fun l2 H' hl2 off hy=>⟨rfl,?_⟩⟩;obtain ⟨s5,hl5,n5⟩:=pa_off h1 h2 hl2 off;refine q' _ H' (f2.trans (Fx.of s5)) (wd2.same s5) ?_;unfold fold1;rw [if_neg (by rw [← ll];exact c1)];refine ⟨y,dy,l2,us,rfl,New.of (Za0 f2 wd2.has h1) hy,New.of (Za0 f2 wd2.has n5) hl5,QsAt.mk _ (by rw [Ts.toL_ofL];exact ll) fun i u t' g1 g2=>?_⟩;rw [Ts.toL_ofL] at g2;refine QAt.same (fun a o z=>?_) t' (hq i u t' g1 g2);obtain ⟨z1,z2⟩:=New.some (Zbi z).2;exact New.of z1 (s5 _ _ z2)
end
theorem in2 (w:Str):inV (.str w) [.str (Str.ofString "not"),.str (Str.ofString "(")]=decide (w=Str.ofString "not"∨w=Str.ofString "("):=by rw [Bool.eq_iff_iff,decide_eq_true_eq];show (eqV (.str (Str.ofString "not")) (.str w)||(eqV (.str (Str.ofString "(")) (.str w)||false))=true↔_;simp only [Bool.or_eq_true,ZeH,Bool.or_false,eq_comm (b:=w)]
theorem Zj1 {a b:Prop}[Decidable a][Decidable b]{X R:Prop}(h:¬ (a∧b))(r:R):if a then (if b then X else R) else R:=by
 by_cases ha:a
 · rw [if_pos ha,if_neg fun hb=>h ⟨ha,hb⟩]
   exact r
 · rw [if_neg ha]
   exact r
section
variable {P:Program}{w:World}{K:PySem.W.Frag}{mg:Str→Option Value}{base:Heap}{C:Kd→Addr}{CW CB:Addr}{n k:Nat}
def pOpp (f:List Tok→Nat→Nat→Res):List Tok→Nat→Nat→Res:=fun ts d r=>bnd (f ts d r) fun y=>.inr (.opp y.1,y.2)
def pBra (f:List Tok→Nat→Nat→Res):List Tok→Nat→Nat→Res:=fun ts d r=>bnd (f ts d r) fun y=>bnd (pPass ts (Str.ofString ")") y.2) fun r2=>.inr (y.1,r2)
theorem Zej {f:List Tok→Nat→Nat→Res}(hk:2≤k)(h_Opposite:MakeAt P w K mg base "Opposite" (C .op) ["self","one"] 1 (spIOp C))(h_read_piece:FnR P w K mg base "read_piece" ["words","deep"] k (spRd C CW CB n f))(d:DefAt K mg "read_opposite" Zbb ["words","deep"]):FnR P w K mg base "read_opposite" ["words","deep"] (k+1) (spRd C CW CB n (pOpp f)):=by
 refine FnR.of d Zd5 (fun vs H Q E h=>?_) (fun f' cdv A outer s H vs Q E hr h=>?_)
 · obtain ⟨x,l,ts,r,d,rfl,_⟩:=h
   rfl
 obtain ⟨x,l,ts,r,d,rfl,wd,lt,sm,gd,hd1,hd2,q⟩:=h;unfold pOpp at q;refine ⟨_,(Zae (Zam (Zb5 h_Opposite (hr.mono (by omega)) rfl (Zaa (Za8 h_read_piece (hr.mono (by omega)) rfl (Zaa (pv 0) (Zaa (pv 1) Zac))) Zac)))),?_⟩;walk_at "vc";refine ⟨x,l,ts,r,d,rfl,wd,lt,sm,gd,hd1,hd2,?_⟩;cases e1:f ts d r with
 | inl p =>
   rw [e1] at q;exact q
 | inr y =>
   obtain ⟨t,r1⟩:=y;rw [e1] at q;intro v H1 f1 wd1 q1 y dy h1 h2 h3;refine ⟨y,dy,v,rfl,Zad,fun H' off hy=>⟨rfl,?_⟩⟩;have s2:=ZgS h1 h2 off;exact q _ H' (f1.trans (Fx.of s2)) (wd1.same s2) ⟨y,dy,v,rfl,New.of (Za0 f1 wd1.has h1) hy,QAt.same (New.same s2) t q1⟩
theorem Zeh {f:List Tok→Nat→Nat→Res}(hk:3≤k)(fon:∀ ts d,Gd ts→On ts (f ts d))(h_pass:MethR P w K mg base CW "pass_by" ["self","word"] 3 (spPass CW CB))(h_read_chains:FnR P w K mg base "read_chains" ["words","deep"] k (spRd C CW CB n f))(d:DefAt K mg "read_brackets" Zbc ["words","deep"]):FnR P w K mg base "read_brackets" ["words","deep"] (k+1) (spRd C CW CB n (pBra f)):=by
 refine FnR.of d sc_read_brackets (fun vs H Q E h=>?_) (fun f' cdv A outer s H vs Q E hr h=>?_)
 · obtain ⟨x,l,ts,r,d,rfl,_⟩:=h
   rfl
 obtain ⟨x,l,ts,r,d,rfl,wd,lt,sm,gd,hd1,hd2,q⟩:=h;unfold pBra at q;refine ⟨_,(Zab (Zao (i:=2) sc_read_brackets.nd rfl (by walk_at "l") (Za8 h_read_chains (hr.mono (by omega)) rfl (Zaa (pv 0) (Zaa (pv 1) Zac))))
     (Zab (Zay (Zgf 3 (hr.mono (by omega)) (pv 0) (Zaa Zaf Zac)))
     (Zae (Zam (pv 2))))),?_⟩
 walk_at "vc";refine ⟨x,l,ts,r,d,rfl,wd,lt,sm,gd,hd1,hd2,?_⟩;cases e1:f ts d r with
 | inl p =>
   rw [e1] at q;exact q
 | inr y =>
   obtain ⟨t,r1⟩:=y;rw [e1] at q;simp only [bnd] at q;obtain ⟨a1,lt1⟩:=fon ts d gd r t r1 lt e1;intro v H1 f1 wd1 q1;obtain ⟨dx1,fs1,hx1,lk1⟩:=wd1.obj;refine ⟨_,_,_,hx1,lk1 _ (by decide) (by decide),_,_,h_pass,Zdh wd1 lt1 sm (fun r2 e2 H2 f2 wd2=>?_) fun p e dx H2 s2 h2=>?_⟩
   · rw [e2] at q
     exact q v H2 (f1.trans f2) wd2 (QAt.same (New.keep f2 wd.has) t q1)
   · rw [e] at q
     exact q dx H2 (f1.trans (Fx.of s2)) h2
theorem Zft (B:Blt mg) (c_DEEP:∃ t,mg "DEEPEST"=some (.int 20 t)) (n_Every:NewAt K mg "Every" (C .ev)) (n_Nobody:NewAt K mg "Nobody" (C .no)) (h_Opposite:MakeAt P w K mg base "Opposite" (C .op) ["self","one"] 1 (spIOp C)) (h_AllOf:MakeAt P w K mg base "AllOf" (C .al) ["self","parts"] 1 (spIPa C .al)) (h_OneOf:MakeAt P w K mg base "OneOf" (C .on) ["self","parts"] 1 (spIPa C .on))
   (h_BadText:MakeX P w K mg base "BadText" CB ["self","place"] 1 (spIniI CB)) (h_is_name:FnAt P w K mg base "is_name" ["word"] 2 spName) (h_here:MethAt P w K mg base CW "here" ["self"] 1 (spHere CW)) (h_begins:MethAt P w K mg base CW "begins" ["self"] 1 (spBegins CW)) (h_step:MethAt P w K mg base CW "step" ["self"] 1 (spStep CW)) (h_pass:MethR P w K mg base CW "pass_by" ["self","word"] 3 (spPass CW CB)) (h_read_within:FnR P w K mg base "read_within" ["words","name"] 5 (spWithin C CW CB))
   (dO:DefAt K mg "read_opposite" Zbb ["words","deep"]) (dB:DefAt K mg "read_brackets" Zbc ["words","deep"]) (dc:DefAt K mg "read_chain" ZbD ["words","deep"]) (dC:DefAt K mg "read_chains" Zbo ["words","deep"]) (d:DefAt K mg "read_piece" Zb6 ["words","deep"]):∀ n,FnR P w K mg base "read_piece" ["words","deep"] (4*n+6) (spRd C CW CB n fun ts d r=>pPiece ts n d r):=by
 intro n;obtain ⟨tD,c_DEEPEST⟩:=c_DEEP;induction n with
 | zero=>exact FnR.of d sc_read_piece (fun vs H Q E h=>by obtain ⟨x,l,ts,r,d,rfl,_⟩:=h;rfl) (fun f cdv A outer s H vs Q E hr h=>by obtain ⟨x,l,ts,r,d,rfl,_,_,_,_,h1,h2,_⟩:=h;omega)
 | succ n ih =>
   have h_read_opposite:=Zej (by omega) h_Opposite ih dO;have h_read_chain:=Zc2 (by omega) B (fun ts d g=>ZaC g n d) h_here h_step h_AllOf ih dc;have h_read_chains:=Zcz (by omega) B (fun ts d g=>ZaD g (by decide +kernel) (ZaC g n d)) h_here h_step h_OneOf h_read_chain dC;have h_read_brackets:=Zeh (by omega) (fun ts d g=>ZaD g (by decide +kernel) (ZaD g (by decide +kernel) (ZaC g n d))) h_pass h_read_chains dB;refine FnR.of d sc_read_piece (fun vs H Q E h=>?_) (fun f cdv A outer s H vs Q E hr h=>?_)
   · obtain ⟨x,l,ts,r,d,rfl,_⟩:=h
     rfl
   obtain ⟨x,l,ts,r,d,rfl,wd,lt,sm,gd,hd1,hd2,q⟩:=h;refine ⟨_,(Zab (Zao (i:=2) sc_read_piece.nd rfl (by walk_at "l") (Zax (P:=P) (w:=w) (K:=K) (mg:=mg) (base:=base) 1 (hr.mono (by omega)) (pv 0)))
     (Zab (Zau (PW.pt (ZaX (Zai (Zgg K) (pv 2) (ZbU (Zaa Zaf (Zaa Zaf Zac))) (by with_unfolding_all rfl)) (ZaU (Zai Zg3 (pv 1) (Zbk (v:=.int 20) rfl c_DEEPEST ⟨_,rfl⟩) (nomark _))))) (Zab (Zay (Zax (P:=P) (w:=w) (K:=K) (mg:=mg) (base:=base) 1 (hr.mono (by omega)) (pv 0)))
     (Zae (Zam (ZdJ (Zai Zat (pv 2) Zaf (nomark _)) (Za8 h_read_opposite (hr.mono (by omega)) rfl (Zaa (pv 0) (Zaa (Zar ZaR (pv 1) Zak) Zac))) (Za8 h_read_brackets (hr.mono (by omega)) rfl (Zaa (pv 0) (Zaa (Zar ZaR (pv 1) Zak) Zac))))))) Zap)
     (Zab (Zau (Zai Zat (pv 2) Zaf (nomark _)) (Zab (Zay (Zax (P:=P) (w:=w) (K:=K) (mg:=mg) (base:=base) 1 (hr.mono (by omega)) (pv 0)))
     (Zae (Zam (pe_new n_Every.2 rfl n_Every.1)))) Zap)
     (Zab (Zau (Zai Zat (pv 2) Zaf (nomark _)) (Zab (Zay (Zax (P:=P) (w:=w) (K:=K) (mg:=mg) (base:=base) 1 (hr.mono (by omega)) (pv 0)))
     (Zae (Zam (pe_new n_Nobody.2 rfl n_Nobody.1)))) Zap)
     (Zab (Zau (Zdc (Zaq h_is_name (hr.mono (by omega)) rfl (Zaa (pv 2) Zac))) (Zab (Zay (Zax (P:=P) (w:=w) (K:=K) (mg:=mg) (base:=base) 1 (hr.mono (by omega)) (pv 0)))
     (Zae (Zam (Za8 h_read_within (hr.mono (by omega)) rfl (Zaa (pv 0) (Zaa (pv 2) Zac)))))) Zap)
     (Zae (Zem h_BadText (hr.mono (by omega)) rfl (Zaa (Zax (P:=P) (w:=w) (K:=K) (mg:=mg) (base:=base) 1 (hr.mono (by omega)) (pv 0)) Zac)))))))),?_⟩
   walk_at "vc";obtain ⟨dx,fs,hx,lk⟩:=wd.obj;refine ⟨_,_,_,hx,lk _ (by decide) (by decide),_,_,h_here,x,l,ts,r,_,rfl,wd,ZbO lt,?_⟩;refine ⟨by decide,fun p np=>⟨_,.inr (.inl (.inl Zad)),rfl,rfl,?_⟩⟩;have s2:Same H (upd H p (.tup [.str (Str.ofString "not"),.str (Str.ofString "(")])):=Same.new np;generalize upd H p (.tup [.str (Str.ofString "not"),.str (Str.ofString "(")])=H2 at s2 ⊢;have wd2:=wd.same s2;have q2:=q.step (Fx.of s2) wd2.has;obtain ⟨dx2,fs2,hx2,lk2⟩:=wd2.obj;clear hx lk dx fs np wd q s2;dsimp only at q2;rw [pPiece] at q2;rw [in2];have ed:[V.ref x,V.int ((d:Int)+1)]=[V.ref x,V.int ((d+1:Nat):Int)]:=by rw [Int.natCast_add];rfl
   by_cases c:((tk ts r).1=Str.ofString "not"∨(tk ts r).1=Str.ofString "(")∧d<20
   · rw [if_pos (decide_eq_true c.1),if_pos (by omega)]
     rw [if_pos c] at q2;have lt3:=gd.next lt (by rcases c.1 with c | c<;>rw [c]<;>decide +kernel);refine ⟨_,_,_,hx2,lk2 _ (by decide) (by decide),_,_,h_step,x,l,ts,r,rfl,wd2,fun H3 f3 wd3=>⟨rfl,?_⟩⟩;have q3:=q2.step f3 wd3.has;rw [ed];by_cases cn:(tk ts r).1=Str.ofString "not"
     · rw [if_pos (by rw [cn])]
       rw [if_pos cn] at q3;exact ⟨x,l,ts,r+1,d+1,rfl,wd3,lt3,sm,gd,by omega,by omega,q3⟩
     · rw [if_neg (fun z=>cn (V.str.inj z))]
       rw [if_neg cn] at q3;exact ⟨x,l,ts,r+1,d+1,rfl,wd3,lt3,sm,gd,by omega,by omega,q3⟩
   · rw [if_neg c] at q2
     refine Zj1 (fun z=>c ⟨of_decide_eq_true z.1,by omega⟩) ?_;refine ⟨rfl,?_⟩;by_cases ca:(tk ts r).1=Str.ofString "all"
     · rw [if_pos (by rw [ca])]
       rw [if_pos ca] at q2;refine ⟨_,_,_,hx2,lk2 _ (by decide) (by decide),_,_,h_step,x,l,ts,r,rfl,wd2,fun H3 f3 wd3 y dy h1 h2 h3=>?_⟩;exact q2 _ _ (f3.trans (Fx.of (same2 h1 h2 h3))) (wd3.same (same2 h1 h2 h3)) ⟨y,dy,rfl,New.of (Za0 f3 wd3.has h1) Zad⟩
     rw [if_neg (fun z=>ca (V.str.inj z))];rw [if_neg ca] at q2;refine ⟨rfl,?_⟩;by_cases cz:(tk ts r).1=Str.ofString "none"
     · rw [if_pos (by rw [cz])]
       rw [if_pos cz] at q2;refine ⟨_,_,_,hx2,lk2 _ (by decide) (by decide),_,_,h_step,x,l,ts,r,rfl,wd2,fun H3 f3 wd3 y dy h1 h2 h3=>?_⟩;exact q2 _ _ (f3.trans (Fx.of (same2 h1 h2 h3))) (wd3.same (same2 h1 h2 h3)) ⟨y,dy,rfl,New.of (Za0 f3 wd3.has h1) Zad⟩
     rw [if_neg (fun z=>cz (V.str.inj z))];rw [if_neg cz] at q2;have ht:=ZbO lt;refine ⟨_,rfl,(sm.2 _ (List.mem_of_getElem? ht)).2,fun H3 s3=>?_⟩;have wd3:=wd2.same s3;have q3:=q2.step (Fx.of s3) wd3.has;obtain ⟨dx3,fs3,hx3,lk3⟩:=wd3.obj;refine ⟨_,rfl,?_⟩;cases cm:nameB (tk ts r).1 with
     | true =>
       rw [if_pos cm] at q3;rw [if_pos rfl];have lt4:=gd.next lt (Zb8 cm);refine ⟨_,_,_,hx3,lk3 _ (by decide) (by decide),_,_,h_step,x,l,ts,r,rfl,wd3,fun H4 f4 wd4=>?_⟩;exact ⟨x,l,ts,r+1,_,rfl,wd4,lt4,sm,gd,q3.step f4 wd4.has⟩
     | false =>
       rw [if_neg (by rw [cm];decide)] at q3;rw [if_neg (by decide)];exact ⟨_,_,_,hx3,lk3 _ (by decide) (by decide),_,_,h_begins,x,l,ts,r,_,rfl,wd3,ht,raiseI (log20 (sm.2 _ (List.mem_of_getElem? ht)).1) fun dx H' s4 e=>q3 dx H' (Fx.of s4) e⟩
end
theorem Zhg {w:Str}{p n:Nat}(h:w.length≤n)(hp:p≤n):∀ t∈endW w p,t.1≠emS∧t.2≤n∧t.1.length≤n:=by
 intro t ht;unfold endW at ht;split at ht
 · cases ht
 · rename_i c
   cases List.mem_singleton.mp ht;exact ⟨c,by show p-w.length≤n;omega,h⟩
theorem ZgL (w:Str)(p:Nat):(endW w p).length≤1:=by
 unfold endW;split
 · exact Nat.zero_le _
 · exact Nat.le_refl _
theorem one_ne (c:Nat):(⟨#[c]⟩:Str)≠emS:=fun z=>by
 have:(⟨#[c]⟩:Str).length=emS.length:=by rw [z]
 have e:emS.length=0:=by decide +kernel
 rw [e] at this;cases this
theorem ZbX (n:Nat) (hn:1≤n):∀ (cs:List Nat) (p:Nat) (w:Str),p+cs.length≤n→w.length≤p→∃ ini,cutS cs p w=ini++[(emS,p+cs.length)]∧ini.length≤2*cs.length+1∧∀ t∈ini,t.1≠emS∧t.2≤n∧t.1.length≤n
 | [],p,w,h,hw=>⟨endW w p,rfl,by have:=ZgL w p;simp only [List.length_nil];omega,Zhg (by simp only [List.length_nil] at h;omega) (by simp only [List.length_nil] at h;omega)⟩
 | c :: r, p,w,h,hw=>by
   simp only [List.length_cons] at h ⊢;have eq:p+(r.length+1)=p+1+r.length:=by omega
   rw [eq];unfold cutS;by_cases hc:c=32∨c=40∨c=41
   · rw [if_pos hc]
     obtain ⟨ini,e,l1,a⟩:=ZbX n hn r (p+1) emS (by omega) (by show 0≤_;omega);have l2:=ZgL w p;rw [e];refine ⟨endW w p++((if c=32 then [] else [((⟨#[c]⟩:Str),p)])++ini),by simp only [List.append_assoc],?_,fun t ht=>?_⟩
     · have l3:(if c=32 then [] else [((⟨#[c]⟩:Str),p)]:List Tok).length≤1:=by split<;>simp
       simp only [List.length_append];omega
     · rcases List.mem_append.mp ht with ht | ht
       · exact Zhg (by omega) (by omega) t ht
       · rcases List.mem_append.mp ht with ht | ht
         · split at ht
           · cases ht
           · cases List.mem_singleton.mp ht
             exact ⟨one_ne c,by show p≤n;omega,by show 1≤n;omega⟩
         · exact a t ht
   · rw [if_neg hc]
     obtain ⟨ini,e,l1,a⟩:=ZbX n hn r (p+1) (w++⟨#[c]⟩) (by omega) (by rw [ZaH];show _+1≤_;omega);exact ⟨ini,e,by omega,a⟩
theorem Zgv {z:Str} (h:z.length≤100000):Sm (cutS z.cps.toList 0 emS)∧Gd (cutS z.cps.toList 0 emS)∧0<(cutS z.cps.toList 0 emS).length:=by
 have hl:z.cps.toList.length≤100000:=by rw [Array.length_toList];exact h
 obtain ⟨ini,e,l1,a⟩:=ZbX 100000 (by decide) z.cps.toList 0 emS (by omega) (Nat.le_refl _);rw [e];refine ⟨⟨by rw [List.length_append];show _+1≤_;omega,fun t ht=>?_⟩,fun r t e1 ne=>?_,by rw [List.length_append];exact Nat.succ_pos _⟩
 · rcases List.mem_append.mp ht with ht | ht
   · obtain ⟨_,b,c⟩:=a t ht
     exact ⟨Nat.lt_of_le_of_lt b (by decide),c⟩
   · cases List.mem_singleton.mp ht
     exact ⟨by show 0+_<_;omega,by show 0≤_;omega⟩
 · rw [List.length_append]
   show r+1<ini.length+1;by_cases c:r<ini.length
   · omega
   · rw [List.getElem?_append_right (by omega)] at e1
     cases zi:r-ini.length with
     | zero =>
       rw [zi] at e1;cases e1;exact absurd rfl ne
     | succ j =>
       rw [zi] at e1;cases e1
def RdQ (C:Kd→Addr)(CB:Addr)(H:Hp)(Q:VK)(E:XK):Nat ⊕ T→Prop
 | .inr t=>∀ v H',Same H H'→QAt C (New H H') t v→Q v H'
 | .inl p=>∀ dx H',Same H H'→H' dx=some (.xd [("place",.int p)])→E (.ref CB) (some dx) H'
def spQuestion (C:Kd→Addr)(CB:Addr):Sp:=fun vs H Q E=>∃ z:Str,vs=[.str z]∧z.length≤100000∧RdQ C CB H Q E (pQuestion (cutS z.cps.toList 0 emS))
section
variable {P:Program}{w:World}{K:PySem.W.Frag}{mg:Str→Option Value}{base:Heap}{C:Kd→Addr}{CW CB:Addr}
theorem Zgj {x:Addr}{H H1:Hp}(h:H x=none)(f:Fx x H H1):Same H H1:=fun b o e=>f b o (Zaj e h) e
theorem ZdW (h_Words:MakeAt P w K mg base "Words" CW ["self","text"] 2 (spWIni CW))(h_pass:MethR P w K mg base CW "pass_by" ["self","word"] 3 (spPass CW CB))(h_read_chains:FnR P w K mg base "read_chains" ["words","deep"] 92 (spRd C CW CB 21 fun ts d=>pChains ts 21 d))(d:DefAt K mg "read_question" Zbr ["text"]):FnR P w K mg base "read_question" ["text"] 93 (spQuestion C CB):=by
 refine FnR.of d sc_read_question (fun vs H Q E h=>?_) (fun f cdv A outer s H vs Q E hr h=>?_)
 · obtain ⟨z,rfl,_⟩:=h
   rfl
 obtain ⟨z,rfl,hz,q⟩:=h;obtain ⟨sm,gd,l0⟩:=Zgv hz;refine ⟨_,(Zab (Zao (i:=1) sc_read_question.nd rfl (by walk_at "l") (Zb5 h_Words (hr.mono (by omega)) rfl (Zaa (pv 0) Zac)))
     (Zab (Zao (i:=2) sc_read_question.nd rfl (by walk_at "l") (Za8 h_read_chains (hr.mono (by omega)) rfl (Zaa (pv 1) (Zaa Zak Zac))))
     (Zab (Zay (Zgf 3 (hr.mono (by omega)) (pv 1) (Zaa Zaf Zac)))
     (Zae (Zam (pv 2)))))),?_⟩
 walk_at "vc";intro x dx h1 h2 h3;have sx:Same H (upd (upd H dx (.own x)) x (.ins CW dx [])):=same2 h1 h2 h3;refine ⟨x,dx,z,rfl,hz,Zad,fun l H1 nl f1 wd1=>⟨rfl,?_⟩⟩;have f0:Fx x H H1:=(Fx.of sx).trans f1;refine ⟨x,l,_,0,0,rfl,wd1,l0,sm,gd,by decide,by decide,?_⟩;unfold pQuestion at q;show Rd C CW CB x l _ H1 _ E (pChains (cutS z.cps.toList 0 emS) 21 0 0);generalize cutS z.cps.toList 0 emS=ts at q sm gd l0 wd1 ⊢;cases e1:pChains ts 21 0 0 with
 | inl p =>
   rw [e1] at q;exact fun dx' H' f2 e=>q dx' H' (Zgj h1 (f0.trans f2)) e
 | inr y =>
   obtain ⟨t,r1⟩:=y;rw [e1] at q;simp only [bnd] at q;obtain ⟨_,lt1⟩:=ZaD gd (by decide +kernel) (ZaD gd (by decide +kernel) (ZaC gd 21 0)) 0 t r1 l0 e1;intro v H2 f2 wd2 q2;obtain ⟨dx2,fs2,hx2,lk2⟩:=wd2.obj;refine ⟨_,_,_,hx2,lk2 _ (by decide) (by decide),_,_,h_pass,Zdh wd2 lt1 sm (fun r2 e2 H3 f3 wd3=>?_) fun p e dx' H3 s3 h3=>?_⟩
   · have e2':pPass ts emS r1=.inr r2:=e2
     rw [e2'] at q;refine q v H3 (Zgj h1 ((f0.trans f2).trans f3)) (QAt.same (fun a o z=>?_) t q2);obtain ⟨z1,z2⟩:=New.some z;exact New.of (Za0 f0 wd1.has z1) (f3 a o (fun y=>wd1.has (by rw [← y];exact z1)) z2)
   · have e':pPass ts emS r1=.inl p:=e
     rw [e'] at q;exact q dx' H3 (Zgj h1 ((f0.trans f2).trans (Fx.of s3))) h3
end
inductive Q6 where | pc | be | nm | fi | to | la
 deriving DecidableEq
def popN:List Bool→List Bool
 | false::S=>popN S
 | S=>S
def wd (s:String):Str:=Str.ofString s
def nx (q:Q6)(S:List Bool)(w:Str):Option (Q6 × List Bool):=match q with
 | .pc=>if w=Str.ofString "not"∨w=Str.ofString "(" then (if S.length=20 then none else some (.pc,decide (w=Str.ofString "(")::S)) else if w=Str.ofString "all"∨w=Str.ofString "none" then some (.be,popN S) else if nameB w=true then some (.nm,S) else none
 | .be=>if w=Str.ofString ")"∧S≠[] then some (.be,popN S.tail) else if w=Str.ofString "and"∨w=Str.ofString "or" then some (.pc,S) else none
 | .nm=>if w=Str.ofString "is" then some (.la,S) else if w=Str.ofString "from" then some (.fi,S) else none
 | .to=>if w=Str.ofString "to" then some (.la,S) else none
 | .fi=>if figB w=true then some (.to,S) else none
 | .la=>if figB w=true then some (.be,popN S) else none
def run:Q6→List Bool→List Tok→Option Nat
 | _,_,[]=>none
 | q,S,t::l=>if t.1=emS then (if q=.be∧S=[] then none else some t.2) else match nx q S t.1 with | none=>some t.2 | some x=>run x.1 x.2 l
def rn (ts:List Tok)(q:Q6)(S:List Bool)(r:Nat):Option Nat:=run q S (ts.drop r)
theorem em_wd:emS≠Str.ofString "not"∧emS≠Str.ofString "("∧emS≠Str.ofString "all"∧emS≠Str.ofString "none"∧emS≠Str.ofString ")"∧emS≠Str.ofString "and"∧emS≠Str.ofString "or"∧emS≠Str.ofString "is"∧emS≠Str.ofString "from"∧emS≠Str.ofString "to"∧nameB emS=false∧figB emS=false:=by decide +kernel
theorem nx_em (q:Q6)(S:List Bool):nx q S emS=none:=by obtain ⟨h1,h2,h3,h4,h5,h6,h7,h8,h9,h10,h11,h12⟩:=em_wd;cases q<;>simp [nx,h1,h2,h3,h4,h5,h6,h7,h8,h9,h10,h11,h12]
section
variable {ts:List Tok}{q:Q6}{S:List Bool}{r:Nat}
theorem ZdF (h:r<ts.length):ts.drop r=tk ts r::ts.drop (r+1):=by rw [List.drop_eq_getElem_cons h,tk,List.getD_eq_getElem?_getD,List.getElem?_eq_getElem h];rfl
theorem ZcW (h:r<ts.length){x:Q6 × List Bool}(e:nx q S (tk ts r).1=some x):rn ts q S r=rn ts x.1 x.2 (r+1):=by unfold rn;rw [ZdF h];show (if (tk ts r).1=emS then _ else match nx q S (tk ts r).1 with | none=>_ | some x=>_)=_;rw [if_neg (fun z=>by rw [z,nx_em] at e;cases e),e]
theorem ZeP (h:r<ts.length)(hq:¬ (q=.be∧S=[]∧(tk ts r).1=emS))(e:nx q S (tk ts r).1=none):rn ts q S r=some (tk ts r).2:=by
 unfold rn;rw [ZdF h];show (if (tk ts r).1=emS then _ else match nx q S (tk ts r).1 with | none=>_ | some x=>_)=_;rw [e];split
 · rename_i c
   rw [if_neg (fun z=>hq ⟨z.1,z.2,c⟩)]
 · rfl
def Ag (ts:List Tok)(S:List Bool)(r:Nat):Res→Prop
 | .inl p=>rn ts .pc S r=some p
 | .inr x=>rn ts .pc S r=rn ts .be (popN S) x.2
def AgB (ts:List Tok)(S:List Bool)(r:Nat):Nat ⊕ (List T × Nat)→Prop
 | .inl p=>rn ts .be S r=some p
 | .inr z=>rn ts .be S r=rn ts .be S z.2
def Stop (ts:List Tok)(item:Nat→Res)(X:Str→Prop):Prop:=∀ r t r',r<ts.length→item r=.inr (t,r')→X (tk ts r').1
variable {item:Nat→Res}{sep:Str}
theorem Zi6 (hp:popN S=S) (hs:sep=Str.ofString "and"∨sep=Str.ofString "or") (g:Gd ts) (on:On ts item) (ag:∀ r,r<ts.length→Ag ts S r (item r)):∀ k r acc,r<ts.length→AgB ts S r (pLoop item sep ts k r acc)
 | 0,r,acc,h=>rfl
 | k + 1,r,acc,h=>by
   unfold pLoop;split
   · rename_i c
     have hne:sep≠emS:=by rcases hs with rfl | rfl<;>decide +kernel
     have h1:=g.next h (by rw [c];exact hne);have e:rn ts .be S r=rn ts .pc S (r+1):=ZcW h (x:=(.pc,S)) (by
       rw [c];show (if sep=_∧_ then _ else if sep=_∨sep=_ then _ else _)=_;rw [if_neg (fun z=>by have:=z.1;revert this;rcases hs with rfl | rfl<;>decide +kernel),if_pos hs])
     have a:=ag (r+1) h1;cases q:item (r+1) with
     | inl p =>
       rw [q] at a;show rn ts .be S r=some p;rw [e];exact a
     | inr y =>
       rw [q] at a;have a:rn ts .pc S (r+1)=rn ts .be (popN S) y.2:=a;rw [hp] at a;have ih:=Zi6 hp hs g on ag k y.2 (acc++[y.1]) (on (r+1) y.1 y.2 h1 q).2;show AgB ts S r (pLoop item sep ts k y.2 (acc++[y.1]));cases q2:pLoop item sep ts k y.2 (acc++[y.1]) with
       | inl p =>
         rw [q2] at ih;exact e.trans (a.trans ih)
       | inr z =>
         rw [q2] at ih;exact e.trans (a.trans ih)
   · exact rfl
theorem Zdz {mk:Ts→T}(hp:popN S=S)(hs:sep=Str.ofString "and"∨sep=Str.ofString "or")(g:Gd ts)(on:On ts item)(ag:∀ r,r<ts.length→Ag ts S r (item r)):∀ r,r<ts.length→Ag ts S r (pChain item sep mk ts r):=fun r h=>by
 have a:=ag r h;unfold pChain;cases q:item r with
 | inl p =>
   rw [q] at a;exact a
 | inr y =>
   rw [q] at a;have a:rn ts .pc S r=rn ts .be (popN S) y.2:=a;rw [hp] at a;have l:=Zi6 hp hs g on ag ts.length y.2 [y.1] (on r y.1 y.2 h q).2;simp only [bnd];cases q2:pLoop item sep ts ts.length y.2 [y.1] with
   | inl p =>
     rw [q2] at l;exact a.trans l
   | inr z =>
     rw [q2] at l;show rn ts .pc S r=rn ts .be (popN S) z.2;rw [hp];exact a.trans l
theorem ZfY {X:Str→Prop}(g:Gd ts)(hne:sep≠emS)(on:On ts item)(st:Stop ts item X):∀ k r acc z,r<ts.length→ts.length≤k+r→X (tk ts r).1→pLoop item sep ts k r acc=.inr z→(tk ts z.2).1≠sep∧X (tk ts z.2).1
 | 0,r,acc,z,h,hk,_,_=>by omega
 | k + 1,r,acc,z,h,hk,hx,e=>by
   unfold pLoop at e;split at e
   · rename_i c
     have h1:=g.next h (by rw [c];exact hne);obtain ⟨y,e1,e⟩:=Zal e;obtain ⟨a,b⟩:=on (r+1) y.1 y.2 h1 e1;exact ZfY g hne on st k y.2 _ z b (by omega) (st (r+1) y.1 y.2 h1 e1) e
   · rename_i c
     cases e;exact ⟨c,hx⟩
theorem Zch {X:Str→Prop}{mk:Ts→T}(g:Gd ts)(hne:sep≠emS)(on:On ts item)(st:Stop ts item X):Stop ts (pChain item sep mk ts) (fun w=>w≠sep∧X w):=fun r t r' h e=>by
 unfold pChain at e;obtain ⟨y,e1,e⟩:=Zal e;obtain ⟨z,e2,e⟩:=Zal e;cases e;exact ZfY g hne on st ts.length y.2 [y.1] z (on r y.1 y.2 h e1).2 (by omega) (st r y.1 y.2 h e1) e2
theorem pops (S:List Bool):popN (true::S)=true::S:=rfl
theorem Zh4 {S':List Bool}{q':Q6}(h:r<ts.length)(hq:q=.fi∧q'=.to∧S'=S∨q=.la∧q'=.be∧S'=popN S):(∀ p,pFig ts r=.inl p→rn ts q S r=some p)∧∀ y,pFig ts r=.inr y→rn ts q S r=rn ts q' S' y.2:=by
 have e:nx q S (tk ts r).1=if figB (tk ts r).1=true then some (q',S') else none:=by rcases hq with ⟨rfl,rfl,rfl⟩ | ⟨rfl,rfl,rfl⟩<;>rfl
 have nb:q≠.be:=by rcases hq with ⟨rfl,_⟩ | ⟨rfl,_⟩<;>exact fun z=>by cases z
 unfold pFig;by_cases c:figB (tk ts r).1=true
 · rw [if_pos c] at e ⊢
   refine ⟨fun p z=>(by cases z),fun y z=>?_⟩;cases z;exact ZcW h e
 · rw [if_neg c] at e ⊢
   refine ⟨fun p z=>?_,fun y z=>(by cases z)⟩;cases z;exact ZeP h (fun z=>nb z.1) e
theorem Zkz {nm:Str} (g:Gd ts) (h:r<ts.length):(∀ p,pWithin ts nm r=.inl p→rn ts .nm S r=some p)∧∀ y,pWithin ts nm r=.inr y→rn ts .nm S r=rn ts .be (popN S) y.2:=by
 unfold pWithin;by_cases c:(tk ts r).1=Str.ofString "is"
 · rw [if_pos c]
   have h1:=g.next h (by rw [c];decide +kernel);have e:rn ts .nm S r=rn ts .la S (r+1):=ZcW h (x:=(.la,S)) (if_pos c);obtain ⟨f1,f2⟩:=Zh4 (S:=S) (q:=.la) h1 (.inr ⟨rfl,rfl,rfl⟩);cases q:pFig ts (r+1) with
   | inl p =>
     refine ⟨fun p' z=>?_,fun y z=>(by cases z)⟩;cases z;rw [e];exact f1 _ q
   | inr y =>
     refine ⟨fun p' z=>(by cases z),fun y' z=>?_⟩;cases z;rw [e];exact f2 _ q
 · rw [if_neg c]
   by_cases c2:(tk ts r).1=Str.ofString "from"
   · have e1:pPass ts (Str.ofString "from") r=.inr (r+1):=if_pos c2
     rw [e1];have h1:=g.next h (by rw [c2];decide +kernel);have e:rn ts .nm S r=rn ts .fi S (r+1):=ZcW h (x:=(.fi,S)) (by show (if _ then _ else if _ then _ else _)=_;rw [if_neg c,if_pos c2]);obtain ⟨f1,f2⟩:=Zh4 (S:=S) (q:=.fi) h1 (.inl ⟨rfl,rfl,rfl⟩);simp only [bnd];rw [e];cases q:pFig ts (r+1) with
     | inl p =>
       refine ⟨fun p' z=>?_,fun y z=>(by cases z)⟩;cases z;exact f1 _ q
     | inr lo =>
       have h2:=ZdB g h1 q;rw [f2 _ q];simp only;by_cases c3:(tk ts lo.2).1=Str.ofString "to"
       · have e3:pPass ts (Str.ofString "to") lo.2=.inr (lo.2+1):=if_pos c3
         rw [e3];simp only;have h3:=g.next h2 (by rw [c3];decide +kernel);have e:rn ts .to S lo.2=rn ts .la S (lo.2+1):=ZcW h2 (x:=(.la,S)) (if_pos c3);obtain ⟨f1,f2⟩:=Zh4 (S:=S) (q:=.la) h3 (.inr ⟨rfl,rfl,rfl⟩);rw [e];cases q2:pFig ts (lo.2+1) with
         | inl p =>
           refine ⟨fun p' z=>?_,fun y z=>(by cases z)⟩;cases z;exact f1 _ q2
         | inr hi =>
           refine ⟨fun p' z=>(by cases z),fun y' z=>?_⟩;cases z;exact f2 _ q2
       · have e3:pPass ts (Str.ofString "to") lo.2=.inl (tk ts lo.2).2:=if_neg c3
         rw [e3];refine ⟨fun p' z=>?_,fun y z=>(by cases z)⟩;cases z;exact ZeP h2 (fun z=>by cases z.1) (if_neg c3)
   · have e1:pPass ts (Str.ofString "from") r=.inl (tk ts r).2:=if_neg c2
     rw [e1];refine ⟨fun p' z=>?_,fun y z=>(by cases z)⟩;cases z;exact ZeP h (fun z=>by cases z.1) (by show (if _ then _ else if _ then _ else _)=_;rw [if_neg c,if_neg c2])
theorem Zhn {item:Nat→Res}:Stop ts item fun _=>True:=fun _ _ _ _ _=>trivial
theorem Zfk (h:S.length<20){w:Str}(c:w=Str.ofString "not"∨w=Str.ofString "("):nx .pc S w=some (.pc,decide (w=Str.ofString "(")::S):=by show (if _ then (if _ then _ else _) else _)=_;rw [if_pos c,if_neg (by omega)]
theorem Ze5 (g:Gd ts):∀ n d (S:List Bool) r,r<ts.length→S.length=d→d≤20→20<n+d→Ag ts S r (pPiece ts n d r)
 | 0,d,S,r,_,_,h1,h2=>by omega
 | n + 1, d, S,r,h,hd,h1,h2=>by
   unfold pPiece;by_cases c:(tk ts r).1=Str.ofString "not"∨(tk ts r).1=Str.ofString "("
   · by_cases hd20:d<20
     · rw [if_pos ⟨c,hd20⟩]
       have hn:=g.next h (by rcases c with c | c<;>rw [c]<;>decide +kernel);have e:=ZcW h (Zfk (S:=S) (by omega) c);by_cases c1:(tk ts r).1=Str.ofString "not"
       · rw [if_pos c1]
         have ih:=Ze5 g n (d+1) (false::S) (r+1) hn (by simp only [List.length_cons];omega) (by omega) (by omega);rw [c1] at e;have e:rn ts .pc S r=rn ts .pc (false::S) (r+1):=e;cases q:pPiece ts n (d+1) (r+1) with
         | inl p =>
           rw [q] at ih;exact e.trans ih
         | inr y =>
           rw [q] at ih;exact e.trans ih
       · rw [if_neg c1]
         have c2:=c.resolve_left c1;rw [c2] at e;have e:rn ts .pc S r=rn ts .pc (true::S) (r+1):=e;have on1:=ZaC g n (d+1);have on2:=ZaD (sep:=Str.ofString "and") (mk:=.al) g (by decide +kernel) on1;have on3:=ZaD (sep:=Str.ofString "or") (mk:=.on) g (by decide +kernel) on2;have ag1:∀ r,r<ts.length→Ag ts (true::S) r (pPiece ts n (d+1) r):=fun r h=>Ze5 g n (d+1) (true::S) r h (by simp only [List.length_cons];omega) (by omega) (by omega)
         have ag2:=Zdz (mk:=.al) (pops S) (.inl rfl) g on1 ag1;have ag3:=Zdz (mk:=.on) (pops S) (.inr rfl) g on2 ag2 (r+1) hn;have st2:=Zch (sep:=Str.ofString "and") (mk:=.al) g (by decide +kernel) on1 Zhn;have st3:=Zch (sep:=Str.ofString "or") (mk:=.on) g (by decide +kernel) on2 st2;cases q:pChain (pChain (pPiece ts n (d+1)) (Str.ofString "and") .al ts) (Str.ofString "or") .on ts (r+1) with
         | inl p =>
           rw [q] at ag3;exact e.trans ag3
         | inr y =>
           rw [q] at ag3;have ag3:rn ts .pc (true::S) (r+1)=rn ts .be (true::S) y.2:=ag3;have hy:=(on3 (r+1) y.1 y.2 hn q).2;obtain ⟨n1,n2,_⟩:=st3 (r+1) y.1 y.2 hn q;simp only [bnd];by_cases c3:(tk ts y.2).1=Str.ofString ")"
           · have e3:pPass ts (Str.ofString ")") y.2=.inr (y.2+1):=if_pos c3
             rw [e3];show rn ts .pc S r=rn ts .be (popN S) (y.2+1);rw [e,ag3];exact ZcW hy (x:=(.be,popN S)) (by show (if (tk ts y.2).1=Str.ofString ")"∧(true::S)≠[] then _ else _)=_;rw [if_pos ⟨c3,fun z=>by cases z⟩];rfl)
           · have e3:pPass ts (Str.ofString ")") y.2=.inl (tk ts y.2).2:=if_neg c3
             rw [e3];show rn ts .pc S r=some (tk ts y.2).2;rw [e,ag3];refine ZeP hy (fun z=>by cases z.2.1) ?_;show (if _ then _ else if _ then _ else _)=_;rw [if_neg (fun z=>c3 z.1),if_neg (fun z=>z.elim n2 n1)]
     · rw [if_neg (fun z=>hd20 z.2)]
       have e:rn ts .pc S r=some (tk ts r).2:=ZeP h (fun z=>by cases z.1) (by
         show (if _ then (if _ then _ else _) else _)=_;rw [if_pos c,if_pos (by omega)])
       rcases c with c | c
       · rw [c,if_neg (by decide +kernel),if_neg (by decide +kernel),if_neg (by decide +kernel)]
         exact e
       · rw [c,if_neg (by decide +kernel),if_neg (by decide +kernel),if_neg (by decide +kernel)]
         exact e
   · rw [if_neg (fun z=>c z.1)]
     have pc:∀ {x:Option (Q6 × List Bool)},(if (tk ts r).1=Str.ofString "all"∨(tk ts r).1=Str.ofString "none" then some (Q6.be,popN S) else if nameB (tk ts r).1=true then some (.nm,S) else none)=x→nx .pc S (tk ts r).1=x:=fun e=>by
       rw [← e];exact if_neg c
     by_cases c1:(tk ts r).1=Str.ofString "all"
     · rw [if_pos c1]
       exact ZcW h (x:=(.be,popN S)) (pc (if_pos (.inl c1)))
     · rw [if_neg c1]
       by_cases c2:(tk ts r).1=Str.ofString "none"
       · rw [if_pos c2]
         exact ZcW h (x:=(.be,popN S)) (pc (if_pos (.inr c2)))
       · rw [if_neg c2]
         by_cases c3:nameB (tk ts r).1=true
         · rw [if_pos c3]
           have hn:=g.next h (Zb8 c3);have e:rn ts .pc S r=rn ts .nm S (r+1):=ZcW h (x:=(.nm,S)) (pc (by rw [if_neg (fun z=>z.elim c1 c2),if_pos c3]));obtain ⟨w1,w2⟩:=Zkz (S:=S) (nm:=(tk ts r).1) g hn;cases q:pWithin ts (tk ts r).1 (r+1) with
           | inl p=>exact e.trans (w1 _ q)
           | inr y=>exact e.trans (w2 _ q)
         · rw [if_neg c3]
           exact ZeP h (fun z=>by cases z.1) (pc (by rw [if_neg (fun z=>z.elim c1 c2),if_neg c3]))
def faultO:Nat ⊕ T→Option Nat
 | .inl p=>some p
 | .inr _=>none
theorem Ze3 (g:Gd ts)(h:0<ts.length):rn ts .pc [] 0=faultO (pQuestion ts):=by
 have on1:=ZaC g 21 0;have on2:=ZaD (sep:=Str.ofString "and") (mk:=.al) g (by decide +kernel) on1;have on3:=ZaD (sep:=Str.ofString "or") (mk:=.on) g (by decide +kernel) on2;have ag1:∀ r,r<ts.length→Ag ts [] r (pPiece ts 21 0 r):=fun r h=>Ze5 g 21 0 [] r h rfl (by omega) (by omega)
 have ag2:=Zdz (mk:=.al) (S:=[]) rfl (.inl rfl) g on1 ag1;have ag3:=Zdz (mk:=.on) (S:=[]) rfl (.inr rfl) g on2 ag2 0 h;have st2:=Zch (sep:=Str.ofString "and") (mk:=.al) g (by decide +kernel) on1 Zhn;have st3:=Zch (sep:=Str.ofString "or") (mk:=.on) g (by decide +kernel) on2 st2;unfold pQuestion pChains;cases q:pChain (pChain (pPiece ts 21 0) (Str.ofString "and") .al ts) (Str.ofString "or") .on ts 0 with
 | inl p =>
   rw [q] at ag3;exact ag3
 | inr y =>
   rw [q] at ag3;have ag3:rn ts .pc [] 0=rn ts .be [] y.2:=ag3;have hy:=(on3 0 y.1 y.2 h q).2;obtain ⟨n1,n2,_⟩:=st3 0 y.1 y.2 h q;simp only [bnd];by_cases c3:(tk ts y.2).1=emS
   · have e3:pPass ts emS y.2=.inr (y.2+1):=if_pos c3
     rw [e3,ag3];show rn ts .be [] y.2=none;unfold rn;rw [ZdF hy];show (if (tk ts y.2).1=emS then (if _ then _ else _) else _)=_;rw [if_pos c3,if_pos ⟨rfl,rfl⟩]
   · have e3:pPass ts emS y.2=.inl (tk ts y.2).2:=if_neg c3
     rw [e3,ag3];show rn ts .be [] y.2=some (tk ts y.2).2;refine ZeP hy (fun z=>c3 z.2.2) ?_;show (if _∧([]:List Bool)≠[] then _ else if _ then _ else _)=_;rw [if_neg (fun z=>z.2 rfl),if_neg (fun z=>z.elim n2 n1)]
end
def Ws (ts:List Tok):Nat→List Str→Prop
 | _,[]=>True
 | r,w::l=>(tk ts r).1=w∧Ws ts (r+1) l
theorem ws_app {ts:List Tok}{b:List Str}:∀ {a:List Str} {r:Nat},Ws ts r (a++b)↔Ws ts r a∧Ws ts (r+a.length) b
 | [],r=>by
   show Ws ts r b↔True∧Ws ts r b;rw [true_and]
 | w::a,r=>by
   show (_∧Ws ts (r+1) (a++b))↔(_∧Ws ts (r+1) a)∧Ws ts (r+(a.length+1)) b;rw [ws_app (a:=a),and_assoc,Nat.add_assoc r 1,Nat.add_comm 1]
def inP (w:Str):Bool:=!(Builtin.Str.occurrences (Str.ofString "()") w 0 (Str.ofString "()").length 1).isEmpty
def blk:Str:=Str.ofString " "
def gap1 (c:Int)(k:Nat)(b w:Str):Bool:=decide (0<k)&&(!(inP b||inP w)||decide (mixI c ((k:Int)+40)%2=1))
def gap2 (c:Int)(k:Nat):Bool:=decide ((k:Int)%8=0)&&decide (mixI c ((k:Int)+40)%3=0)
def addB (g:Bool)(t:Str):Str:=if g=true then t++blk else t
def spL (c:Int):Nat→Str→Str→List Str→Str
 | _,t,_,[]=>t
 | k,t,b,w::r=>spL c (k+1) (addB (gap2 c k) (addB (gap1 c k b w) t)++w) w r
def two (i:Int):Str:=Txt.slice (Str.ofString "  ") none (some i)
def spacedS (c:Int)(ws:List Str):Str:=spL c 0 (two (c%3)) (Str.ofString "(") ws++two (c/3%3)
def ew (w:Str):List Str:=if w=emS then [] else [w]
def sepC (c:Nat):Prop:=c=32∨c=40∨c=41
instance (c:Nat):Decidable (sepC c):=inferInstanceAs (Decidable (_∨_))
def stp (s:List Str × Str)(c:Nat):List Str × Str:=if sepC c then (s.1++ew s.2++(if c=32 then [] else [⟨#[c]⟩]),emS) else (s.1,s.2++⟨#[c]⟩)
def scn (s:List Str × Str)(cs:List Nat):List Str × Str:=cs.foldl stp s
theorem Zhi (w:Str)(p:Nat):(endW w p).map (·.1)=ew w:=by unfold endW ew;split<;>rfl
theorem ZeE:∀ (cs:List Nat) (p:Nat) (w:Str) (ds:List Str),ds++(cutS cs p w).map (·.1)=(scn (ds,w) cs).1++ew (scn (ds,w) cs).2++[emS]
 | [],p,w,ds=>by
   show ds++(endW w p++[(emS,p)]).map (·.1)=ds++ew w++[emS]
   rw [List.map_append,Zhi,List.append_assoc];rfl
 | c :: r,p,w,ds=>by
   unfold cutS;show _=(scn (stp (ds,w) c) r).1++ew (scn (stp (ds,w) c) r).2++[emS]
   unfold stp;by_cases hc:c=32∨c=40∨c=41
   · rw [if_pos hc,if_pos (show sepC c from hc)]
     rw [← ZeE r (p+1) emS _,List.map_append,List.map_append,Zhi];simp only [List.append_assoc];congr 3
     by_cases h:c=32
     · rw [if_pos h,if_pos h]
       rfl
     · rw [if_neg h,if_neg h]
       rfl
   · rw [if_neg hc,if_neg (show ¬ sepC c from hc),← ZeE r (p+1) _ _]
theorem Zcg {s:List Str × Str}{a b:Str}:scn s (a++b).cps.toList=scn (scn s a.cps.toList) b.cps.toList:=by
 have e:(a++b).cps.toList=a.cps.toList++b.cps.toList:=by show (a.cps++b.cps).toList=_;exact Array.toList_append
 rw [e];unfold scn;rw [List.foldl_append]
def plainW (w:Str):Bool:=!inP w&&!decide (w=emS)&&w.cps.toList.all fun c=>!decide (sepC c)
def okw (w:Str):Bool:=decide (w=Str.ofString "(")||decide (w=Str.ofString ")")||plainW w
def Red (t:Str)(ws:List Str)(b:Str):Prop:=∃ ds w,scn ([],emS) t.cps.toList=(ds,w)∧ds++ew w=ws∧(w=emS∨w=b∧inP b=false)
theorem ZeN:ew emS=[]:=if_pos rfl
theorem Red.blk {t:Str}{ws:List Str}{b:Str}(h:Red t ws b):∃ ds,scn ([],emS) (t++blk).cps.toList=(ds,emS)∧ds=ws:=by
 obtain ⟨ds,w,e,d,_⟩:=h;rw [Zcg,e];have eb:My.blk.cps.toList=[32]:=by decide +kernel
 rw [eb];refine ⟨_,rfl,?_⟩;show ds++ew w++[]=ws;rw [List.append_nil,d]
theorem Red.clean {t:Str}{ws:List Str}{b b':Str}(h:∃ ds,scn ([],emS) t.cps.toList=(ds,emS)∧ds=ws):Red t ws b':=by obtain ⟨ds,e,d⟩:=h;exact ⟨ds,emS,e,by rw [ZeN,List.append_nil];exact d,.inl rfl⟩
theorem Zd1:∀ (cs:List Nat) (ds:List Str) (w:Str),(∀ c∈cs,¬ sepC c)→scn (ds,w) cs=(ds,w++⟨⟨cs⟩⟩)
 | [],ds,w,_=>by
   cases w with
   | mk a =>
     show (ds,(⟨a⟩:Str))=(ds,⟨a++#[]⟩)
     rw [Array.append_empty]
 | c :: r,ds,w,h=>by
   show scn (stp (ds,w) c) r=_;unfold stp;rw [if_neg (h c List.mem_cons_self),Zd1 r _ _ fun x hx=>h x (List.mem_cons_of_mem _ hx)];congr 1
   cases w with
   | mk a =>
     show (⟨a++#[c]++⟨r⟩⟩:Str)=⟨a++⟨c::r⟩⟩
     congr 1
     apply Array.ext'
     simp
theorem Ziy (w:Str):emS++w=w:=by
 cases w with
 | mk a =>
   show (⟨emS.cps++a⟩:Str)=⟨a⟩
   have e:emS.cps=#[]:=by decide +kernel
   rw [e,Array.empty_append]
theorem Red.par {t:Str}{ws:List Str}{b:Str}(h:Red t ws b){c:Nat}(hc:c=40∨c=41)(b':Str):Red (t++⟨#[c]⟩) (ws++[⟨#[c]⟩]) b':=by obtain ⟨ds,w,e,d,_⟩:=h;refine Red.clean (b:=b) ⟨_,?_,rfl⟩;rw [Zcg,e];show stp (ds,w) c=_;unfold stp;rw [if_pos (show sepC c from .inr hc),if_neg (by omega)];show (ds++ew w++_,_)=_;rw [d]
theorem Red.plain {t:Str}{ws:List Str}{w:Str}(h:∃ ds,scn ([],emS) t.cps.toList=(ds,emS)∧ds=ws)(p:plainW w=true):Red (t++w) (ws++[w]) w:=by
 obtain ⟨ds,e,d⟩:=h;unfold plainW at p;simp only [Bool.and_eq_true,Bool.not_eq_true',decide_eq_false_iff_not,List.all_eq_true] at p;refine ⟨ds,w,?_,?_,.inr ⟨rfl,p.1.1⟩⟩
 · rw [Zcg,e,Zd1 _ _ _ p.2]
   congr 1
   exact Ziy w
 · unfold ew
   rw [if_neg p.1.2,d]
theorem inP_par:inP (Str.ofString "(")=true∧inP (Str.ofString ")")=true:=by decide +kernel
theorem Red.add {t:Str}{ws:List Str}{b:Str}(h:Red t ws b)(g:Bool):Red (addB g t) ws b:=by
 unfold addB;split
 · exact Red.clean (b:=b) h.blk
 · exact h
theorem Red.next {t:Str} {ws:List Str} {b w:Str} {c:Int} {k:Nat} (h:Red t ws b) (h0:k=0→inP b=true) (o:okw w=true):Red (addB (gap2 c k) (addB (gap1 c k b w) t)++w) (ws++[w]) w:=by
 have h2:=(h.add (gap1 c k b w)).add (gap2 c k);unfold okw at o;simp only [Bool.or_eq_true,decide_eq_true_eq] at o;rcases o with (rfl | rfl) | o
 · have e:Str.ofString "("=⟨#[40]⟩:=by decide +kernel
   exact Red.par h2 (c:=40) (.inl rfl) _
 · exact Red.par h2 (c:=41) (.inr rfl) _
 · have np:inP w=false:=by
     unfold plainW at o;simp only [Bool.and_eq_true,Bool.not_eq_true'] at o;exact o.1.1
   refine Red.plain ?_ o;have cl:∀ (g:Bool) {t:Str},(∃ ds,scn ([],emS) t.cps.toList=(ds,emS)∧ds=ws)→∃ ds,scn ([],emS) (addB g t).cps.toList=(ds,emS)∧ds=ws:=fun g t hh=>by
     unfold addB;split
     · exact (Red.clean (b:=b) (b':=b) hh).blk
     · exact hh
   refine cl _ ?_;by_cases g:gap1 c k b w=true
   · unfold addB
     rw [if_pos g];exact h.blk
   · unfold addB
     rw [if_neg g];have hb:inP b=true:=by
       by_cases k0:k=0
       · exact h0 k0
       · unfold gap1 at g
         simp only [np,Bool.or_false,Bool.and_eq_true,Bool.or_eq_true,Bool.not_eq_true',decide_eq_true_eq,not_and,not_or] at g;have:=(g (by omega)).1;simpa using this
     obtain ⟨ds,u,e,d,z | z⟩:=h
     · subst z
       rw [ZeN,List.append_nil] at d;exact ⟨ds,e,d⟩
     · rw [z.2] at hb
       cases hb
theorem Red.spL {c:Int}:∀ (r:List Str) (k:Nat) (t b:Str) (ws:List Str),Red t ws b→(k=0→inP b=true)→(∀ w∈r,okw w=true)→∃ b',Red (My.spL c k t b r) (ws++r) b'
 | [],k,t,b,ws,h,_,_=>⟨b,by rw [List.append_nil];exact h⟩
 | w::r,k,t,b,ws,h,h0,o=>by
   obtain ⟨b',z⟩:=Red.spL r (k+1) _ w _ (h.next (c:=c) (k:=k) h0 (o w List.mem_cons_self)) (fun z=>absurd z (Nat.succ_ne_zero _)) fun x hx=>o x (List.mem_cons_of_mem _ hx)
   rw [List.append_assoc] at z;exact ⟨b',z⟩
theorem ZfF (i:Int)(h0:0≤i)(h1:i<3):two i=emS∨two i=blk∨two i=blk++blk:=by
 have:i=0∨i=1∨i=2:=by omega
 rcases this with rfl | rfl | rfl
 · exact .inl (by decide +kernel)
 · exact .inr (.inl (by decide +kernel))
 · exact .inr (.inr (by decide +kernel))
theorem app_em (w:Str):w++emS=w:=by
 cases w with
 | mk a =>
   show (⟨a++emS.cps⟩:Str)=⟨a⟩
   have e:emS.cps=#[]:=by decide +kernel
   rw [e,Array.append_empty]
theorem ZaV (a b c:Str):a++(b++c)=a++b++c:=by
 show (⟨a.cps++(b.cps++c.cps)⟩:Str)=⟨a.cps++b.cps++c.cps⟩
 rw [Array.append_assoc]
theorem Red.two {t:Str}{ws:List Str}{b:Str}(h:Red t ws b){i:Int}(h0:0≤i)(h1:i<3):∃ b',Red (t++two i) ws b':=by
 rcases ZfF i h0 h1 with e | e | e<;>rw [e]
 · exact ⟨b,by rw [app_em];exact h⟩
 · exact ⟨b,Red.clean (b:=b) h.blk⟩
 · rw [ZaV]
   exact ⟨b,Red.clean (b:=b) (Red.clean (b:=b) (b':=b) h.blk).blk⟩
theorem words_of {c:Int} {ws:List Str} (o:∀ w∈ws,okw w=true):(cutS (spacedS c ws).cps.toList 0 emS).map (·.1)=ws++[emS]:=by
 have m0:=fun x:Int=>Int.emod_nonneg x (b:=3) (by decide)
 have m1:=fun x:Int=>Int.emod_lt_of_pos x (b:=3) (by decide)
 have r0:Red emS [] (Str.ofString "("):=⟨[],emS,rfl,ZeN,.inl rfl⟩
 obtain ⟨b1,r1⟩:=Red.two r0 (m0 c) (m1 c);rw [Ziy] at r1;have r1':Red (two (c%3)) [] (Str.ofString "("):=by
   obtain ⟨ds,w,e,d,_⟩:=r1;have hw:ds=[]∧ew w=[]:=List.append_eq_nil_iff.mp d;have w0:w=emS:=by
     by_cases z:w=emS
     · exact z
     · have:=hw.2
       unfold ew at this;rw [if_neg z] at this;cases this
   exact ⟨ds,w,e,d,.inl w0⟩
 obtain ⟨b2,r2⟩:=Red.spL (c:=c) ws 0 _ _ _ r1' (fun _=>inP_par.1) o;obtain ⟨b3,ds,w,e,d,_⟩:=Red.two r2 (m0 (c/3)) (m1 (c/3));have z:=ZeE (spacedS c ws).cps.toList 0 emS [];rw [List.nil_append] at z;unfold spacedS at z ⊢;rw [e] at z;rw [z,d,List.nil_append]
theorem ws_map {ts:List Tok}:∀ (l:List Str) (r:Nat),(ts.map (·.1)).drop r=l→Ws ts r l
 | [],_,_=>trivial
 | w :: l,r,h=>by
   have hr:r<ts.length:=by
     by_cases c:r<ts.length
     · exact c
     · rw [List.drop_eq_nil_of_le (by rw [List.length_map];omega)] at h
       cases h
   rw [List.drop_eq_getElem_cons (by rw [List.length_map];exact hr)] at h;injection h with h1 h2
   refine ⟨?_,ws_map l (r+1) h2⟩;rw [List.getElem_map] at h1;rw [tk,List.getD_eq_getElem?_getD,List.getElem?_eq_getElem hr];exact h1
theorem ZdH (g:Bool)(t:Str):(addB g t).length≤t.length+1:=by
 unfold addB;split
 · rw [ZaH]
   exact Nat.le_refl _
 · exact Nat.le_succ _
theorem Zjx {c:Int}{m:Nat}:∀ (r:List Str) (k:Nat) (t b:Str),(∀ w∈r,w.length≤m)→(spL c k t b r).length≤t.length+(m+2)*r.length
 | [],k,t,b,_=>Nat.le_refl _
 | w::r,k,t,b,h=>by
   have ih:=Zjx (c:=c) r (k+1) (addB (gap2 c k) (addB (gap1 c k b w) t)++w) w fun x hx=>h x (List.mem_cons_of_mem _ hx)
   rw [ZaH] at ih;have h1:=ZdH (gap2 c k) (addB (gap1 c k b w) t);have h2:=ZdH (gap1 c k b w) t;have h3:=h w List.mem_cons_self;have e:(m+2)*(w::r).length=(m+2)*r.length+(m+2):=Nat.mul_succ _ _;show (spL c (k+1) (addB (gap2 c k) (addB (gap1 c k b w) t)++w) w r).length≤_;omega
theorem ZeJ {i:Int}(h0:0≤i)(h1:i<3):(two i).length≤2:=by rcases ZfF i h0 h1 with e | e | e<;>rw [e]<;>decide +kernel
theorem Ziq {c:Int}{ws:List Str}{m:Nat}(h:∀ w∈ws,w.length≤m):(spacedS c ws).length≤4+(m+2)*ws.length:=by
 have m0:=fun x:Int=>Int.emod_nonneg x (b:=3) (by decide)
 have m1:=fun x:Int=>Int.emod_lt_of_pos x (b:=3) (by decide)
 unfold spacedS;rw [ZaH];have h1:=Zjx (c:=c) ws 0 (two (c%3)) (Str.ofString "(") h;have h2:=ZeJ (m0 c) (m1 c);have h3:=ZeJ (m0 (c/3)) (m1 (c/3));omega
def spSpaced (K:PySem.W.Frag):Sp:=fun vs H Q _=>∃ (l:Addr) (ws:List Str) (c:Int),vs=[.ref l,.int c]∧SqL K H l (ws.map V.str)∧ws.length≤3000∧(∀ w∈ws,w.length≤20)∧Q (.str (spacedS c ws)) H
structure SpI (l:Addr)(ws:List Str)(c:Int)(H:Hp)(i:Nat)(σ:L2.St)(H':Hp):Prop where
 ex:∃ (t b:Str) (v4 v5 v6:Option V),σ=[some (.ref l),some (.int c),some (.str t),some (.str b),v4,v5,v6]∧spL c i t b (ws.drop i)=spL c 0 (two (c%3)) (Str.ofString "(") ws∧t.length≤2+22*i
 same:H'=H
section
variable {P:Program}{w:World}{K:PySem.W.Frag}{mg:Str→Option Value}{base:Heap}
theorem Zhl (B:Blt mg) (h_l_mixed:FnAt P w K mg base "_law_mixed" ["_law_cell","_law_k"] 1 spMixed) (d:DefAt K mg "_law_spaced" Zc8 ["_law_words_here","_law_cell"]):FnAt P w K mg base "_law_spaced" ["_law_words_here","_law_cell"] 2 (spSpaced K):=by
 refine FnAt.of d sc_l_spaced (fun vs H Q E h=>?_) (fun f cdv A outer s H vs Q E hr h=>?_)
 · obtain ⟨l,ws,c,rfl,_⟩:=h
   rfl
 obtain ⟨l,ws,c,rfl,hS,hl,hw,q⟩:=h;have m0:=fun x:Int=>Int.emod_nonneg x (b:=3) (by decide)
 have m1:=fun x:Int=>Int.emod_lt_of_pos x (b:=3) (by decide)
 refine ⟨_,(Zab (Zao (i:=2) sc_l_spaced.nd rfl (by walk_at "l") (Zdo Zh7 Zaf Zgd (ZdK (Zar ZaP (pv 1) Zak))))
     (Zab (Zao (i:=3) sc_l_spaced.nd rfl (by walk_at "l") Zaf)
     (Zab (Zbs PassesOwn.never rfl (Zbm rfl B.range (Zaa (Zas (ZaW K) rfl B.len PySem.boot_len (Zaa (pv 0) Zac)) Zac)) (ZaB (i:=4) sc_l_spaced.nd rfl (by walk_at "l")) (Zab (Zao (i:=5) sc_l_spaced.nd rfl (by walk_at "l") (Zaq h_l_mixed (hr.mono (by decide)) rfl (Zaa (pv 1) (Zaa (Zar ZaR (pv 4) Zak) Zac))))
     (Zab (Zao (i:=6) sc_l_spaced.nd rfl (by walk_at "l") (pe_or (Zbp Zbl (pv 3) Zaf (by with_unfolding_all rfl)) (ZcI (Zbp Zbl (Zav (Zan K) (pv 0) (pv 4) (fun _ _=>rfl)) Zaf (by with_unfolding_all rfl)))))
     (Zab (Zau (PW.pt (ZaX (Zai Zhd (pv 4) Zak (nomark _)) (ZaU (PW.pt (Zbw (ZhZ (Zdc (pv 6))) (Zbe (Zai Zat (Zar ZaP (pv 5) Zak) Zak (nomark _)))))))) (Zae (Zao (i:=2) sc_l_spaced.nd rfl (by walk_at "l") (Zar ZaE (pv 2) Zaf))) Zap)
     (Zab (Zau (PW.pt (ZaX (Zai Zat (Zar ZaP (pv 4) Zak) Zak (nomark _)) (ZaU (Zai Zat (Zar ZaP (pv 5) Zak) Zak (nomark _))))) (Zae (Zao (i:=2) sc_l_spaced.nd rfl (by walk_at "l") (Zar ZaE (pv 2) Zaf))) Zap)
     (Zab (Zao (i:=2) sc_l_spaced.nd rfl (by walk_at "l") (Zar ZaE (pv 2) (Zav (Zan K) (pv 0) (pv 4) (fun _ _=>rfl))))
     (Zae (Zao (i:=3) sc_l_spaced.nd rfl (by walk_at "l") (Zav (Zan K) (pv 0) (pv 4) (fun _ _=>rfl))))))))))
     (Zae (Zam (Zar ZaE (pv 2) (Zdo Zh7 Zaf Zgd (ZdK (Zar ZaP (Zar ZcR (pv 1) Zak) Zak))))))))),?_⟩
 walk_at "vc";refine ⟨by decide,ws.map V.str,.inl hS,by omega,by rw [List.length_map];omega,?_⟩;have e:(((ws.map V.str).length:Int)).toNat=ws.length:=by rw [List.length_map];rfl
 rw [e];refine loopR (SpI l ws c H) ⟨⟨_,_,_,_,_,rfl,rfl,ZeJ (m0 c) (m1 c)⟩,rfl⟩ ?_ ?_
 · rintro i σ H1 hi ⟨⟨t,b,v4,v5,v6,rfl,e1,lt⟩,rfl⟩
   have hx:ws[i]?=some ws[i]:=List.getElem?_eq_getElem hi;have dr:ws.drop i=ws[i]::ws.drop (i+1):=List.drop_eq_getElem_cons hi;generalize ws[i]=x at hx dr;have ix:atI (ws.map V.str) ((i:Nat):Int)=some (.str x):=ZaI (by rw [List.getElem?_map,hx];rfl);rw [dr] at e1;have lx:=hw x (List.mem_of_getElem? hx);rw [Zba,Int.zero_add];refine Zag fun k hk=>?_
   walk_at "vc";refine ⟨_,_,rfl,hk _ _ (Zag fun k hk=>?_)⟩
   have go : k [some (.ref l),some (.int c),some (.str t),some (.str b),some (.int i),some (.int (mixI c ((i:Int)+40))),some (.bl (inP b||inP x))] H1:=by
     refine hk _ _ (Zag fun k hk=>?_);have go:k [some (.ref l),some (.int c),some (.str (addB (gap1 c i b x) t)),some (.str b),some (.int i),some (.int (mixI c ((i:Int)+40))),some (.bl (inP b||inP x))] H1:=by
       refine hk _ _ (Zag fun k hk=>?_);have go:k [some (.ref l),some (.int c),some (.str (addB (gap2 c i) (addB (gap1 c i b x) t))),some (.str b),some (.int i),some (.int (mixI c ((i:Int)+40))),some (.bl (inP b||inP x))] H1:=by refine hk _ _ (Zag fun k hk=>?_);have l1:=ZdH (gap1 c i b x) t;have l2:=ZdH (gap2 c i) (addB (gap1 c i b x) t);walk_at "vc";refine ⟨_,hS,_,ix,_,rfl,small5 (by omega),hk _ _ ?_⟩;walk_at "vc";refine ⟨_,hS,_,ix,⟨⟨_,_,_,_,_,rfl,e1,?_⟩,rfl⟩⟩;rw [ZaH];omega
       have e2:gap2 c i=(decide ((i:Int)%8=0)&&decide (mixI c ((i:Int)+40)%3=0)):=rfl;have l1:=ZdH (gap1 c i b x) t;rw [e2] at go;walk_at "vc";by_cases c1:(i:Int)%8=0
       · rw [if_pos c1]
         by_cases c2:mixI c ((i:Int)+40)%3=0
         · rw [if_pos c2]
           rw [decide_eq_true c1,decide_eq_true c2] at go;exact ⟨small5 (by show _+1≤_;omega),go⟩
         · rw [if_neg c2]
           rw [decide_eq_true c1,decide_eq_false c2] at go;exact go
       · rw [if_neg c1]
         rw [decide_eq_false c1] at go;exact go
     have e2:gap1 c i b x=(decide (0<i)&&(!(inP b||inP x)||decide (mixI c ((i:Int)+40)%2=1))):=rfl;rw [e2] at go;generalize (inP b||inP x)=tg at go ⊢;walk_at "vc";by_cases c0:0<i
     · rw [if_pos (by omega)]
       rw [decide_eq_true c0] at go;cases tg with
       | false =>
         rw [if_pos rfl];exact ⟨small5 (by show _+1≤_;omega),go⟩
       | true =>
         rw [if_neg (by decide)];by_cases c2:mixI c ((i:Int)+40)%2=1
         · rw [if_pos c2]
           rw [decide_eq_true c2] at go;exact ⟨small5 (by show _+1≤_;omega),go⟩
         · rw [if_neg c2]
           rw [decide_eq_false c2] at go;exact go
     · rw [if_neg (by omega)]
       rw [decide_eq_false c0] at go;exact go
   walk_at "vc";by_cases hb:(Builtin.Str.occurrences (Str.ofString "()") b 0 (Str.ofString "()").length 1).isEmpty=false
   · rw [if_pos hb]
     have ib:inP b=true:=by unfold inP;rw [hb];rfl
     rw [ib,Bool.true_or] at go;exact go
   · rw [if_neg hb]
     have ib:inP b=false:=by unfold inP;rw [show (Builtin.Str.occurrences (Str.ofString "()") b 0 (Str.ofString "()").length 1).isEmpty=true from by simpa using hb];rfl
     rw [ib,Bool.false_or] at go;exact ⟨_,hS,_,ix,x,rfl,go⟩
 · rintro σ H1 ⟨⟨t,b,v4,v5,v6,rfl,e1,lt⟩,rfl⟩
   rw [List.drop_eq_nil_of_le (Nat.le_refl _)] at e1;have e1:t=_:=e1;walk_at "vc";have l2:=ZeJ (m0 (c/3)) (m1 (c/3));refine ⟨by decide,small5 ?_,?_⟩
   · show t.length+(two (c/3%3)).length≤_
     omega
   · rw [e1]
     exact q
end
structure TkI (H:Hp)(us:List V)(ts:List Tok):Prop where
 len:us.length=ts.length
 it:∀ (i:Nat) u t,us[i]?=some u→ts[i]?=some t→∃ a,u=.ref a∧H a=some (.tup [.int t.2,.str t.1])
theorem TkI.nil {H:Hp}:TkI H [] []:=⟨rfl,fun i u t e=>by cases e⟩
theorem TkI.keep {H H':Hp}{us:List V}{ts:List Tok}(h:TkI H us ts)(k:∀ a xs,H a=some (.tup xs)→H' a=some (.tup xs)):TkI H' us ts:=⟨h.len,fun i u t e1 e2=>let ⟨a,x,y⟩:=h.it i u t e1 e2;⟨a,x,k _ _ y⟩⟩
theorem TkI.snoc {H:Hp}{us:List V}{ts:List Tok}{a:Addr}{t:Tok}(h:TkI H us ts)(e:H a=some (.tup [.int t.2,.str t.1])):TkI H (us++[.ref a]) (ts++[t]):=by
 refine ⟨by rw [List.length_append,List.length_append,h.len];rfl,fun i u x e1 e2=>?_⟩;by_cases c:i<us.length
 · rw [List.getElem?_append_left c] at e1
   rw [List.getElem?_append_left (by rw [← h.len];exact c)] at e2;exact h.it i u x e1 e2
 · have c':us.length≤i:=by omega
   rw [List.getElem?_append_right c'] at e1;rw [List.getElem?_append_right (by rw [← h.len];exact c'),← h.len] at e2;cases z:i-us.length with
   | zero =>
     rw [z] at e1 e2;cases e1;cases e2;exact ⟨a,rfl,e⟩
   | succ n =>
     rw [z] at e1;cases e1
theorem Zjw {H H1:Hp}{l p:Addr}{us:List V}{ts:List Tok}{t:Tok}(hl:H l=none)(hp:H1 l=some (.lst us))(np:H1 p=none)(tk:TkI H1 us ts)(sm:Same H H1):upd H1 p (.tup [.int t.2,.str t.1]) l=some (.lst us)∧TkI (upd (upd H1 p (.tup [.int t.2,.str t.1])) l (.lst (us++[.ref p]))) (us++[.ref p]) (ts++[t])∧Same H (upd (upd H1 p (.tup [.int t.2,.str t.1])) l (.lst (us++[.ref p]))):=by
 have ne:l≠p:=Zaj hp np;refine ⟨by rw [Zah ne];exact hp,TkI.snoc (tk.keep fun a xs e=>?_) ?_,fun b o e=>?_⟩
 · rw [Zah (fun z=>by rw [z,hp] at e;cases e),Zah (Zaj e np)]
   exact e
 · rw [Zah (Ne.symm ne)]
   exact Zad
 · rw [Zah (Zaj e hl),Zah (Zaj (sm _ _ e) np)]
   exact sm _ _ e
def subS (z:Str)(a b:Nat):Str:=⟨((z.cps.toList.drop a).take (b-a)).toArray⟩
theorem Zke {z:Str}{a b:Nat}(h1:a≤b)(h2:b≤z.length):Txt.slice z (some (a:Int)) (some (b:Int))=subS z a b:=by
 have e:=PyProof.Rows.slice_closesL (x:=z) (i:=(a:Int)) (j:=(b:Int)) (by omega) (by omega) (by omega);rw [beq_iff_eq] at e;rw [e];unfold subS;congr 3
 omega
theorem Zjk {z:Str}{a b:Nat}(h1:a≤b)(h2:b≤z.length):(subS z a b).length=b-a:=by show (((z.cps.toList.drop a).take (b-a)).toArray).size=_;have h2:b≤z.cps.size:=h2;rw [List.size_toArray,List.length_take,List.length_drop,Array.length_toList];omega
theorem Zge (z:Str)(a:Nat):subS z a a=emS:=by unfold subS;rw [Nat.sub_self,List.take_zero];decide +kernel
theorem sub_ne {z:Str}{a b:Nat}(h1:a<b)(h2:b≤z.length):subS z a b≠emS:=fun e=>by
 have h:=Zjk (Nat.le_of_lt h1) h2;rw [e] at h;have:emS.length=0:=by decide +kernel
 omega
theorem sub_snoc {z:Str}{a b:Nat}(h1:a≤b)(h2:b<z.cps.size):subS z a b++⟨#[z.cps.getD b 0]⟩=subS z a (b+1):=by
 unfold subS;show (⟨_++_⟩:Str)=_;congr 1
 apply Array.ext'
 have e:b+1-a=(b-a)+1:=by omega
 have hb:(z.cps.toList.drop a)[b-a]?=some (z.cps.getD b 0):=by rw [List.getElem?_drop,show a+(b-a)=b by omega,Array.getElem?_toList];simp [Array.getD,h2]
 rw [e,List.take_succ,hb];simp
def spSplit:Sp:=fun vs H Q _=>∃ z:Str,vs=[.str z]∧z.length≤100000∧∀ l us ts H',Same H H'→H l=none→H' l=some (.lst us)→ts++[(emS,z.length)]=cutS z.cps.toList 0 emS→TkI H' us ts→Q (.ref l) H'
structure SplI (z:Str)(H:Hp)(i:Nat)(σ:L2.St)(H':Hp):Prop where
 ex:∃ (l:Addr) (us:List V) (st:Nat) (ts:List Tok) (v3:Option V),σ=[some (.str z),some (.ref l),some (.int st),v3]∧H l=none∧H' l=some (.lst us)∧us.length≤2*i∧st≤i∧TkI H' us ts∧(i≤z.length→ts++cutS (z.cps.toList.drop i) i (subS z st i)=cutS z.cps.toList 0 emS)∧(z.length<i→ts++[(emS,z.length)]=cutS z.cps.toList 0 emS)
 same:Same H H'
theorem in3s (c:Nat):(!(Builtin.Str.occurrences (Str.ofString " ()") ⟨#[c]⟩ 0 (Str.ofString " ()").length 1).isEmpty)=decide (c=32∨c=40∨c=41):=by
 rw [Zgh];have e:(Str.ofString " ()").cps.toList=[32,40,41]:=by decide +kernel
 rw [e];simp
section
variable {P:Program}{w:World}{K:PySem.W.Frag}{mg:Str→Option Value}{base:Heap}
theorem Ziw (B:Blt mg) (d:DefAt K mg "_law_split" ZdV ["_law_text"]):FnAt P w K mg base "_law_split" ["_law_text"] 1 spSplit:=by
 refine FnAt.of d sc_l_split (fun vs H Q E h=>?_) (fun f cdv A outer s H vs Q E hr h=>?_)
 · obtain ⟨z,rfl,_⟩:=h
   rfl
 obtain ⟨z,rfl,hz,q⟩:=h;have hz':z.cps.size≤100000:=hz;have zl:z.length=z.cps.size:=rfl;refine ⟨_,(Zab (Zao (i:=1) sc_l_split.nd rfl (by walk_at "l") (Zaz Zac))
     (Zab (Zao (i:=2) sc_l_split.nd rfl (by walk_at "l") Zak)
     (Zab (Zbs PassesOwn.never rfl (Zbm rfl B.range (Zaa (Zar ZaR (Zas Zaw rfl B.len PySem.boot_len (Zaa (pv 0) Zac)) Zak) Zac)) (ZaB (i:=3) sc_l_split.nd rfl (by walk_at "l")) (Zae (Zau (PW.pt (Zbw (Zai Zat (pv 3) (Zas Zaw rfl B.len PySem.boot_len (Zaa (pv 0) Zac)) (nomark _)) (Zbe (Zai Zbl (Zav Zda (pv 0) (pv 3) (fun _ _=>rfl)) Zaf (by with_unfolding_all rfl))))) (Zab (Zau (Zai Zg3 (pv 2) (pv 3) (nomark _)) (Zae (Zay (ZaZ K PySem.F.plainAttrs_list PySem.F.slot_list_append PySem.F.type_list_append ZaL (pv 1) (Zaa (ZbU (Zaa (pv 2) (Zaa (Zdo Zh7 (pv 0) (ZdK (pv 2)) (ZdK (pv 3))) Zac))) Zac)))) Zap)
     (Zab (Zau (PW.pt (ZaX (Zai Zg3 (pv 3) (Zas Zaw rfl B.len PySem.boot_len (Zaa (pv 0) Zac)) (nomark _)) (ZaU (Zai ZcM (Zav Zda (pv 0) (pv 3) (fun _ _=>rfl)) Zaf (nomark _))))) (Zae (Zay (ZaZ K PySem.F.plainAttrs_list PySem.F.slot_list_append PySem.F.type_list_append ZaL (pv 1) (Zaa (ZbU (Zaa (pv 3) (Zaa (Zav Zda (pv 0) (pv 3) (fun _ _=>rfl)) Zac))) Zac)))) Zap)
     (Zae (Zao (i:=2) sc_l_split.nd rfl (by walk_at "l") (Zar ZaR (pv 3) Zak))))) Zap)))
     (Zae (Zam (pv 1)))))),?_⟩
 walk_at "vc";refine ⟨by decide,fun l hl=>⟨small5 hz,by omega,by omega,?_⟩⟩;have e:((z.length:Int)+1).toNat=z.length+1:=by omega
 rw [e];refine loopR (SplI z H) ⟨⟨l,[],0,[],none,rfl,hl,Zad,Nat.le_refl _,Nat.le_refl _,TkI.nil,fun _=>by rw [Zge];rfl,fun h=>by omega⟩,Same.new hl⟩ ?_ ?_
 · rintro i σ H1 hi ⟨⟨l,us,st,ts,v3,rfl,hl,hp,lu,hst,tk,e1,_⟩,sm⟩
   have e1:=e1 (by omega);rw [Zba,Int.zero_add];have fin:∀ (us:List V) (ts:List Tok) H2,H2 l=some (.lst us)→us.length≤2*i+2→TkI H2 us ts→Same H H2→(i<z.length→ts++cutS (z.cps.toList.drop (i+1)) (i+1) emS=cutS z.cps.toList 0 emS)→(i=z.length→ts++[(emS,z.length)]=cutS z.cps.toList 0 emS)→SplI z H (i+1) [some (.str z),some (.ref l),some (.int ((i:Int)+1)),some (.int i)] H2:=fun us ts H2 h1 h2 h3 h4 h5 h6=>⟨⟨l,us,i+1,ts,_,rfl,hl,h1,by omega,Nat.le_refl _,h3,fun h=>by rw [Zge];exact h5 (by omega),fun h=>h6 (by omega)⟩,h4⟩
   generalize hT:tSeq _ _=T;have suite:(i=z.length∨i<z.length∧(z.cps.getD i 0=32∨z.cps.getD i 0=40∨z.cps.getD i 0=41))→T { nx:=SplI z H (i+1),rt:=Q,ct:=SplI z H (i+1),bk:=tRet (tVar 1) { nx:=fun x H'=>Q V.non H',rt:=Q } } [some (.str z),some (.ref l),some (.int st),some (.int i)] H1:=fun hc=>by
     subst hT;refine Zag fun k hk=>?_
     have go:∀ us1 H2,H2 l=some (.lst us1)→us1.length≤2*i+1→TkI H2 us1 (ts++endW (subS z st i) i)→Same H H2→k [some (.str z),some (.ref l),some (.int st),some (.int i)] H2:=fun us1 H2 hp2 lu2 tk2 sm2=>by
       refine hk _ _ (Zag fun k hk=>?_);walk_at "vc";refine ⟨small5 hz,?_⟩;rcases hc with rfl | ⟨ci,cs⟩
       · rw [if_neg (Int.lt_irrefl _)]
         refine hk _ _ ?_;walk_at "vc";rw [List.drop_eq_nil_of_le (by simp [zl]),cutS,← List.append_assoc] at e1;exact fin _ _ _ hp2 (by omega) tk2 sm2 (fun h=>by omega) fun _=>e1
       · rw [if_pos (by omega)]
         rw [ZdX ci] at e1;have ai:atI z.cps.toList (i:Int)=some (z.cps.getD i 0):=ZaI (by
           have ci:i<z.cps.size:=ci;rw [Array.getElem?_toList];simp [Array.getD,ci])
         generalize z.cps.getD i 0=c at cs e1 ai;rw [cutS,if_pos cs,← List.append_assoc] at e1;refine ⟨small5 hz,c,ai,?_⟩;by_cases h32:c=32
         · rw [if_pos ((ZfR c).mpr h32)]
           rw [if_pos h32,List.nil_append] at e1;refine hk _ _ ?_;walk_at "vc";exact fin _ _ _ hp2 (by omega) tk2 sm2 (fun _=>e1) fun h=>by omega
         · rw [if_neg (fun q=>h32 ((ZfR c).mp q))]
           rw [if_neg h32] at e1;refine ⟨⟨_,SqL.of hp2⟩,small5 hz,c,ai,by decide,fun p np=>?_⟩;obtain ⟨a1,a2,a3⟩:=Zjw (t:=((⟨#[c]⟩:Str),i)) hl hp2 np tk2 sm2;refine ⟨_,a1,by rw [sizeLine_eq];omega,hk _ _ ?_⟩;walk_at "vc";exact fin _ _ _ Zad (by rw [List.length_append];show _+1≤_;omega) a2 a3 (fun _=>by rw [List.append_assoc (ts++_)];exact e1) fun h=>by omega
     walk_at "vc";by_cases hs:st<i
     · rw [if_pos (by omega)]
       have ew:endW (subS z st i) i=[(subS z st i,st)]:=by unfold endW;rw [if_neg (sub_ne hs (by omega)),Zjk hst (by omega),show i-(i-st)=st by omega]
       rw [ew] at go;rw [Zke hst (by omega)];refine ⟨⟨_,SqL.of hp⟩,small5 hz,by decide,fun p np=>?_⟩;obtain ⟨a1,a2,a3⟩:=Zjw (t:=(subS z st i,st)) hl hp np tk sm;exact ⟨_,a1,by rw [sizeLine_eq];omega,go _ _ Zad (by rw [List.length_append];show _+1≤_;omega) a2 a3⟩
     · rw [if_neg (by omega)]
       have ew:endW (subS z st i) i=[]:=by unfold endW;rw [show st=i by omega,Zge,if_pos rfl]
       rw [ew,List.append_nil] at go;exact go _ _ hp (by omega) tk sm
   walk_at "vc";refine ⟨small5 hz,?_⟩;by_cases h1:i=z.length
   · rw [if_pos (by omega)]
     exact suite (.inl h1)
   · rw [if_neg (by omega)]
     have ci:i<z.cps.size:=by omega
     have ai:atI z.cps.toList (i:Int)=some (z.cps.getD i 0):=ZaI (by rw [Array.getElem?_toList];simp [Array.getD,ci]);refine ⟨small5 hz,_,ai,?_⟩;have i3:=in3s (z.cps.getD i 0);by_cases hc:z.cps.getD i 0=32∨z.cps.getD i 0=40∨z.cps.getD i 0=41
     · rw [if_pos (by rw [decide_eq_true hc] at i3;simpa using i3)]
       exact suite (.inr ⟨ci,hc⟩)
     · rw [if_neg (by rw [decide_eq_false hc] at i3;simpa using i3)]
       rw [ZdX ci,cutS,if_neg hc,sub_snoc hst ci] at e1;exact ⟨⟨l,us,st,ts,_,rfl,hl,hp,by omega,by omega,tk,fun _=>e1,fun h=>by omega⟩,sm⟩
 · rintro σ H1 ⟨⟨l,us,st,ts,v3,rfl,hl,hp,lu,hst,tk,_,e1⟩,sm⟩
   walk_at "vc";exact q l us ts H1 sm hl hp (e1 (by omega)) tk
end
theorem Zf8:∀ (ts:Ts) {i:Nat} {t:T},ts.toL[i]?=some t→t.dep≤ts.dep
 | .nil,i,t,h=>by cases h
 | .cons a r,i,t,h=>by
   cases i with
   | zero =>
     cases h;exact Nat.le_max_left _ _
   | succ i=>exact Nat.le_trans (Zf8 r (i:=i) h) (Nat.le_max_right _ _)
theorem atI_in {xs:List Nat}{i:Int}(h0:0≤i)(h1:i<(xs.length:Int)):∃ c,atI xs i=some c:=by
 obtain ⟨n,rfl⟩:=Int.eq_ofNat_of_zero_le h0;have h:n<xs.length:=by omega
 exact ⟨xs[n],ZaI (List.getElem?_eq_getElem h)⟩
theorem let26:letS.cps.toList.length=26:=by decide +kernel
def nmOf (w:Str):Str:=if inV (.str w) ws8=true then w++Str.ofString "x" else w
def spNmOf:Sp:=fun vs H Q _=>∃ w:Str,vs=[.str w]∧w.length≤1000∧∀ H',Same H H'→Q (.str (nmOf w)) H'
section
variable {P:Program}{w:World}{K:PySem.W.Frag}{mg:Str→Option Value}{base:Heap}
theorem Zh8 (B:Blt mg)(d:DefAt K mg "_law_name_of" ZcD ["_law_letters"]):FnAt P w K mg base "_law_name_of" ["_law_letters"] 1 spNmOf:=by
 refine FnAt.of d ZgC (fun vs H Q E h=>?_) (fun f cdv A outer s H vs Q E hr h=>?_)
 · obtain ⟨x,rfl,_⟩:=h
   rfl
 obtain ⟨x,rfl,hl,q⟩:=h;refine ⟨_,(Zab (Zau (Zai (Zgg K) (pv 0) (Zaz (Zaa Zaf (Zaa Zaf (Zaa Zaf (Zaa Zaf (Zaa Zaf (Zaa Zaf (Zaa Zaf (Zaa Zaf Zac))))))))) (by with_unfolding_all rfl)) (Zae (Zam (Zar ZaE (pv 0) Zaf))) Zap)
     (Zae (Zam (pv 0)))),?_⟩
 walk_at "vc";refine ⟨by decide,fun p hp=>⟨ws8,.inl (SqL.of (Zad)),rfl,flat8,?_⟩⟩;have q:=q _ (Same.new (o:=.lst ws8) hp);unfold nmOf at q;by_cases c:inV (.str x) ws8=true
 · rw [if_pos c] at q ⊢
   exact ⟨small5 (by rw [show (Str.ofString "x").length=1 by decide +kernel];omega),q⟩
 · rw [if_neg c] at q ⊢
   exact q
end
def lwJ (x:Int)(size k j:Nat):Int:=(x/(j+2)+5*j+k*(if (j:Int)=x/64%size then 1 else 0))%26
def sgS (n:Int):Str:=⟨#[(atI letS.cps.toList n).getD 0]⟩
def lwS (x:Int)(size k:Nat):Nat→Str
 | 0=>Str.ofString ""
 | j+1=>lwS x size k j++sgS (lwJ x size k j)
theorem ZeI (x:Int)(size k:Nat):∀ j,(lwS x size k j).length=j
 | 0=>rfl
 | j+1=>by
   show (_++sgS _).length=_;rw [ZaH,ZeI x size k j];rfl
def nmK (x:Int)(size k:Nat):Str:=nmOf (lwS x size k size)
def nmsX (x:Int)(m:Int):Nat:=1+(x%m).toNat
def nms (ns:List Int)(m:Int):List Str:=(List.range 3).map fun k=>nmK (mixI (ns.getD 0 0) 0) (nmsX (mixI (ns.getD 0 0) 0) m) k
def spNames (K:PySem.W.Frag):Sp:=fun vs H Q _=>∃ (a:Addr) (ns:List Int) (m:Int),vs=[.ref a,.int m]∧SqL K H a (ns.map V.int)∧0<m∧m≤8∧∀ p H',Same H H'→H' p=some (.lst ((nms ns m).map V.str))→Q (.ref p) H'
structure NmI (a p:Addr)(m x:Int)(size:Nat)(H:Hp)(k:Nat)(σ:L2.St)(H':Hp):Prop where
 ex:∃ v5 v6 v7 v8,σ=[some (.ref a),some (.int m),some (.int x),some (.int size),some (.ref p),v5,v6,v7,v8]
 sm:Same H H'
 hp:H' p=some (.lst ((List.range k).map fun i=>V.str (nmK x size i)))
structure LwI (a p:Addr)(m x:Int)(size k:Nat)(H:Hp)(j:Nat)(σ:L2.St)(H':Hp):Prop where
 ex:∃ v7 v8,σ=[some (.ref a),some (.int m),some (.int x),some (.int size),some (.ref p),some (.int k),some (.str (lwS x size k j)),v7,v8]
 hp:H'=H
section
variable {P:Program}{w:World}{K:PySem.W.Frag}{mg:Str→Option Value}{base:Heap}
theorem ok_names (B:Blt mg)(h_l_mixed:FnAt P w K mg base "_law_mixed" ["_law_cell","_law_k"] 1 spMixed)(h_l_cell_at:FnAt P w K mg base "_law_cell_at" ["_law_script","_law_k"] 1 (spCell K))(h_l_name_of:FnAt P w K mg base "_law_name_of" ["_law_letters"] 1 spNmOf)(d:DefAt K mg "_law_names" ZdY ["_law_script","_law_most"]):FnAt P w K mg base "_law_names" ["_law_script","_law_most"] 2 (spNames K):=by
 refine FnAt.of d sc_l_names (fun vs H Q E h=>?_) (fun f cdv A outer s H vs Q E hr h=>?_)
 · obtain ⟨a,ns,m,rfl,_⟩:=h
   rfl
 obtain ⟨a,ns,m,rfl,hS,m0,m1,q⟩:=h;refine ⟨_,(Zab (Zao (i:=2) sc_l_names.nd rfl (by walk_at "l") (Zaq h_l_mixed (hr.mono (by decide)) rfl (Zaa (Zaq h_l_cell_at (hr.mono (by decide)) rfl (Zaa (pv 0) (Zaa Zak Zac))) (Zaa Zak Zac))))
     (Zab (Zao (i:=3) sc_l_names.nd rfl (by walk_at "l") (Zar ZaR Zak (Zar ZaP (pv 2) (pv 1))))
     (Zab (Zao (i:=4) sc_l_names.nd rfl (by walk_at "l") (Zaz Zac))
     (Zab (Zbs PassesOwn.never rfl (Zbm rfl B.range (Zaa Zak Zac)) (ZaB (i:=5) sc_l_names.nd rfl (by walk_at "l")) (Zab (Zao (i:=6) sc_l_names.nd rfl (by walk_at "l") Zaf)
     (Zab (Zbs PassesOwn.never rfl (Zbm rfl B.range (Zaa (pv 3) Zac)) (ZaB (i:=7) sc_l_names.nd rfl (by walk_at "l")) (Zab (Zao (i:=8) sc_l_names.nd rfl (by walk_at "l") (Zar ZaR (Zar ZaR (Zar ZcR (pv 2) (Zar ZaR (pv 7) Zak)) (Zar Zen Zak (pv 7))) (Zar Zen (pv 5) (ZaK ZkB rfl B.int boot_int (Zaa (Zbp Zat (pv 7) (Zar ZaP (Zar ZcR (pv 2) Zak) (pv 3)) (nomark _)) Zac)))))
     (Zae (Zao (i:=6) sc_l_names.nd rfl (by walk_at "l") (Zar ZaE (pv 6) (Zav Zda Zaf (Zar ZaP (pv 8) Zak) (fun _ _=>rfl)))))))
     (Zae (Zay (ZaZ K PySem.F.plainAttrs_list PySem.F.slot_list_append PySem.F.type_list_append ZaL (pv 4) (Zaa (Zaq h_l_name_of (hr.mono (by decide)) rfl (Zaa (pv 6) Zac)) Zac)))))))
     (Zae (Zam (pv 4))))))),?_⟩
 walk_at "vc";refine ⟨a,ns,0,rfl,hS,⟨_,_,rfl,?_⟩⟩;refine ⟨_,rfl,m0,by decide,fun p hp=>?_⟩;generalize ex:mixI (ns.getD 0 0) 0=x;have es:(1:Int)+x%m=(nmsX x m:Int):=by have:=Int.emod_nonneg x (b:=m) (by omega);unfold nmsX;omega
 have hz:nmsX x m≤8:=by have:=Int.emod_lt_of_pos x (b:=m) m0;have:=Int.emod_nonneg x (b:=m) (by omega);unfold nmsX;omega
 have hz1:1≤nmsX x m:=by unfold nmsX;omega
 rw [es];generalize ez:nmsX x m=size at hz hz1;refine loopR (NmI a p m x size H) ⟨⟨_,_,_,_,rfl⟩,Same.new hp,Zad⟩ ?_ ?_
 · rintro k σ H1 hk ⟨⟨v5,v6,v7,v8,rfl⟩,sm,hp1⟩
   walk_at "vc";refine ⟨by omega,by omega,?_⟩;rw [Int.toNat_natCast];refine loopR (LwI a p m x size k H1) ⟨⟨_,_,rfl⟩,rfl⟩ ?_ ?_
   · rintro j σ H2 hj ⟨⟨v7,v8,rfl⟩,rfl⟩
     walk_at "vc";have ak:∃ c,atI letS.cps.toList (lwJ x size k j)=some c:=atI_in (Int.emod_nonneg _ (by decide)) (by rw [let26];exact Int.emod_lt_of_pos _ (by decide));obtain ⟨c,hc⟩:=ak;have l1:(⟨#[c]⟩:Str).length=1:=rfl;refine ⟨⟨by omega,by omega⟩,by omega,.inl ⟨by omega,by omega⟩,by decide +kernel,c,hc,small5 (by rw [l1,ZeI];omega),?_⟩;rw [show lwS x size k j++⟨#[c]⟩=lwS x size k (j+1) by show _=_++sgS _;unfold sgS;rw [hc];rfl];exact ⟨⟨_,_,rfl⟩,rfl⟩
   · rintro σ H2 ⟨⟨v7,v8,rfl⟩,rfl⟩
     walk_at "vc";refine ⟨⟨_,SqL.of hp1⟩,_,rfl,by rw [ZeI];omega,fun H3 s3=>⟨_,s3 _ _ hp1,small5 (by rw [List.length_map,List.length_range];omega),⟨⟨_,_,_,_,rfl⟩,(sm.trans s3).put hp,?_⟩⟩⟩;rw [Zad,List.range_succ,List.map_append];rfl
 · rintro σ H1 ⟨⟨v5,v6,v7,v8,rfl⟩,sm,hp1⟩
   walk_at "vc";refine q _ _ sm ?_;unfold nms;rw [ex,ez,List.map_map];exact hp1
end
section
variable {K:PySem.W.Frag}{H:Hp}{N:List Str}
theorem ZcP {ds:List PyData}(h:PyData.canLayAll0 ds=true):(PyData.tuple ds).canLay0=true:=by unfold PyData.canLay0;exact h
theorem ZeG {ds:List PyData}(h:PyData.canLayAll0 ds=true):(PyData.list ds).canLay0=true:=by unfold PyData.canLay0;exact h
theorem lay_cons {d:PyData}{ds:List PyData}(h:d.canLay0=true)(r:PyData.canLayAll0 ds=true):PyData.canLayAll0 (d::ds)=true:=by unfold PyData.canLayAll0;rw [h,r];rfl
theorem ZbB:PyData.canLayAll0 []=true:=by unfold PyData.canLayAll0;rfl
theorem Zbx {x:Str}(h:PyData.strOk x=true):(PyData.str x).canLay0=true:=by unfold PyData.canLay0;exact h
theorem Zjz {i:Int}:(PyData.int i).canLay0=true:=by unfold PyData.canLay0;rfl
theorem ZcQ {ds:List PyData}:(PyData.tuple ds).depth=PyData.depthAll ds+1:=by rw [PyData.depth]
theorem ZeD {ds:List PyData}:(PyData.list ds).depth=PyData.depthAll ds+1:=by rw [PyData.depth]
theorem ZaQ {d:PyData}{ds:List PyData}:PyData.depthAll (d::ds)=max d.depth (PyData.depthAll ds):=by rw [PyData.depthAll]
theorem Zby:PyData.depthAll []=0:=by rw [PyData.depthAll]
theorem ZbC {x:Str}:(PyData.str x).depth=0:=by rw [PyData.depth]
theorem ZiH {x:Int}:(PyData.int x).depth=0:=by rw [PyData.depth]
mutual
theorem TrAt.rd (hN:∀ x∈N,PyData.strOk x=true):∀ (t:T) {v:V},TrAt K H t v→t.ok N→∃ d,RdD K H v d∧d.canLay0=true∧d.depth≤2*t.dep+1
 | .ev,_,h,_=>by
   unfold TrAt at h;obtain ⟨p,rfl,h⟩:=h;exact ⟨_,.tup h (.cons (.str _) .nil),ZcP (lay_cons (Zbx (by decide +kernel)) ZbB),by rw [ZcQ,ZaQ,ZbC,Zby];exact Nat.le_add_left _ _⟩
 | .no,_,h,_=>by
   unfold TrAt at h;obtain ⟨p,rfl,h⟩:=h;exact ⟨_,.tup h (.cons (.str _) .nil),ZcP (lay_cons (Zbx (by decide +kernel)) ZbB),by rw [ZcQ,ZaQ,ZbC,Zby];exact Nat.le_add_left _ _⟩
 | .inn x lo hi,_,h,o=>by
   unfold TrAt at h;unfold T.ok at o;obtain ⟨p,rfl,h⟩:=h;exact ⟨_,.tup h (.cons (.str _) (.cons (.str _) (.cons (.int _) (.cons (.int _) .nil)))),ZcP (lay_cons (Zbx (by decide +kernel)) (lay_cons (Zbx (hN _ o.1)) (lay_cons Zjz (lay_cons Zjz ZbB)))),by rw [ZcQ,ZaQ,ZbC,ZaQ,ZbC,ZaQ,ZiH,ZaQ,ZiH,Zby];exact Nat.le_add_left _ _⟩
 | .opp t,_,h,o=>by
   unfold TrAt at h;unfold T.ok at o;obtain ⟨p,u,rfl,h,hu⟩:=h;obtain ⟨d,h1,h2,h3⟩:=TrAt.rd hN t hu o;refine ⟨_,.tup h (.cons (.str _) (.cons h1 .nil)),ZcP (lay_cons (Zbx (by decide +kernel)) (lay_cons h2 ZbB)),?_⟩;rw [ZcQ,ZaQ,ZbC,ZaQ,Zby];show _≤2*(t.dep+2)+1;omega
 | .al ts,_,h,o=>by
   unfold TrAt at h;unfold T.ok at o;obtain ⟨p,l,us,rfl,h,hl,hu⟩:=h;obtain ⟨ds,h1,h2,h3⟩:=TrsAt.rd hN ts hu o.2;refine ⟨_,.tup h (.cons (.str _) (.cons (.lst hl h1) .nil)),ZcP (lay_cons (Zbx (by decide +kernel)) (lay_cons (ZeG h2) ZbB)),?_⟩;rw [ZcQ,ZaQ,ZbC,ZaQ,ZeD,Zby];show _≤2*(ts.dep+1)+1;omega
 | .on ts,_,h,o=>by
   unfold TrAt at h;unfold T.ok at o;obtain ⟨p,l,us,rfl,h,hl,hu⟩:=h;obtain ⟨ds,h1,h2,h3⟩:=TrsAt.rd hN ts hu o.2;refine ⟨_,.tup h (.cons (.str _) (.cons (.lst hl h1) .nil)),ZcP (lay_cons (Zbx (by decide +kernel)) (lay_cons (ZeG h2) ZbB)),?_⟩;rw [ZcQ,ZaQ,ZbC,ZaQ,ZeD,Zby];show _≤2*(ts.dep+1)+1;omega
theorem TrsAt.rd (hN:∀ x∈N,PyData.strOk x=true):∀ (ts:Ts) {us:List V},TrsAt K H ts us→ts.ok N→∃ ds,RdDs K H us ds∧PyData.canLayAll0 ds=true∧PyData.depthAll ds≤2*ts.dep+1
 | .nil,_,h,_=>by
   unfold TrsAt at h;subst h;exact ⟨_,.nil,ZbB,by rw [Zby];exact Nat.zero_le _⟩
 | .cons t r,_,h,o=>by
   unfold TrsAt at h;unfold Ts.ok at o;obtain ⟨u,vs,rfl,a,b⟩:=h;obtain ⟨d,h1,h2,h3⟩:=TrAt.rd hN t a o.1;obtain ⟨ds,k1,k2,k3⟩:=TrsAt.rd hN r b o.2;refine ⟨_,.cons h1 k1,lay_cons h2 k2,?_⟩;rw [ZaQ];have e1:t.dep≤(Ts.cons t r).dep:=Nat.le_max_left t.dep r.dep;have e2:r.dep≤(Ts.cons t r).dep:=Nat.le_max_right t.dep r.dep;exact Nat.max_le.mpr ⟨by omega,by omega⟩
end
theorem rds_of {n:Nat}:∀ {us:List V},(∀ u∈us,∃ d,RdD K H u d∧d.canLay0=true∧d.depth≤n)→∃ ds,RdDs K H us ds∧PyData.canLayAll0 ds=true∧PyData.depthAll ds≤n∧ds.length=us.length
 | [],_=>⟨[],.nil,ZbB,by rw [Zby];exact Nat.zero_le _,rfl⟩
 | u::r,h=>by
   obtain ⟨d,h1,h2,h3⟩:=h u (.head _);obtain ⟨ds,k1,k2,k3,k4⟩:=rds_of fun u hu=>h u (.tail _ hu)
   exact ⟨_,.cons h1 k1,lay_cons h2 k2,by rw [ZaQ];exact Nat.max_le.mpr ⟨h3,k3⟩,congrArg (·+1) k4⟩
theorem shp {d:PyData}(h:d.canLay0=true)(l:d.depth≤64):SeqAt.shaped d=true:=by unfold SeqAt.shaped;rw [h,decide_eq_true l];rfl
theorem Zjm {n:Nat}{a b:Addr}{us:List V}(hn:n≤63)(h:∀ u∈us,∃ d,RdD K H u d∧d.canLay0=true∧d.depth≤n)(ha:SqL K H a us)(hb:SqL K H b []):∃ d e,RdD K H (.ref a) d∧RdD K H (.ref b) e∧SeqAt.shaped d=true∧SeqAt.shaped e=true∧SeqAt.noMix d e=true∧PySem.Spec.same d e=us.isEmpty:=by
 obtain ⟨ds,k1,k2,k3,k4⟩:=rds_of h;refine ⟨_,_,.lst ha k1,.lst hb .nil,shp (ZeG k2) (by rw [ZeD];omega),by decide +kernel,?_,?_⟩
 · unfold SeqAt.noMix
   cases ds<;>(unfold SeqAt.noMixAll;rfl)
 · unfold Spec.same
   cases ds with
   | nil =>
     cases us with
     | nil=>unfold Spec.sameAll;rfl
     | cons=>cases k4
   | cons =>
     cases us with
     | nil=>cases k4
     | cons=>unfold Spec.sameAll;rfl
theorem rEqD_nil {n:Nat}{a b:Addr}{us:List V}{Q:VK}(hn:n≤63)(h:∀ u∈us,∃ d,RdD K H u d∧d.canLay0=true∧d.depth≤n)(ha:SqL K H a us)(hb:SqL K H b [])(q:Q (.bl us.isEmpty) H):rEqD K (.ref a) (.ref b) H Q:=by obtain ⟨d,e,h1,h2,h3,h4,h5,h6⟩:=Zjm hn h ha hb;exact ⟨d,e,h1,h2,h3,h4,h5,h6 ▸ q⟩
theorem rNeD_nil {n:Nat}{a b:Addr}{us:List V}{Q:VK}(hn:n≤63)(h:∀ u∈us,∃ d,RdD K H u d∧d.canLay0=true∧d.depth≤n)(ha:SqL K H a us)(hb:SqL K H b [])(q:Q (.bl !us.isEmpty) H):rNeD K (.ref a) (.ref b) H Q:=by obtain ⟨d,e,h1,h2,h3,h4,h5,h6⟩:=Zjm hn h ha hb;exact ⟨d,e,h1,h2,h3,h4,h5,h6 ▸ q⟩
end
theorem Ts.ok_ofL {N:List Str}:∀ l:List T,(∀ t∈l,t.ok N)→(Ts.ofL l).ok N
 | [],_=>trivial
 | t::r,h=>⟨h t (.head _),Ts.ok_ofL r fun x hx=>h x (.tail _ hx)⟩
structure It (K:PySem.W.Frag)(N:List Str)(G:Hp)(u:V)(x:T × Nat):Prop where
 ex:∃ q v,u=.ref q∧SqT K G q [v,.int (x.2:Nat)]∧TrAt K G x.1 v
 dep:x.1.dep≤x.2
 top:x.2≤18
 ok:x.1.ok N
structure Its (K:PySem.W.Frag)(N:List Str)(G:Hp)(us:List V)(its:List (T × Nat)):Prop where
 len:us.length=its.length
 it:∀ (i:Nat) u x,us[i]?=some u→its[i]?=some x→It K N G u x
section
variable {K:PySem.W.Frag}{N:List Str}{G G':Hp}{us vs:List V}{its jts:List (T × Nat)}
end
theorem max_of (ns:List Nat):∃ d:Nat,(ns.map fun (n:Nat)=>(n:Int)).max?.getD 0=(d:Int)∧∀ n∈ns,n≤d:=by
 cases e:(ns.map fun (n:Nat)=>(n:Int)).max? with
 | none =>
   have:=List.max?_eq_none_iff.mp e;have:ns=[]:=List.map_eq_nil_iff.mp this;subst this;exact ⟨0,rfl,fun _ h=>by cases h⟩
 | some m =>
   obtain ⟨h1,h2⟩:=List.max?_eq_some_iff.mp e;obtain ⟨k,hk,rfl⟩:=List.mem_map.mp h1;exact ⟨k,rfl,fun n hn=>by have:=h2 _ (List.mem_map.mpr ⟨n,hn,rfl⟩);omega⟩
def opW (b:Bool):Str:=if b=true then Str.ofString "(" else Str.ofString "not"
def opR (S:List Bool):List V:=S.reverse.map fun b=>V.str (opW b)
theorem Za7 (b:Bool)(S:List Bool):opR (b::S)=opR S++[.str (opW b)]:=by unfold opR;rw [List.reverse_cons,List.map_append];rfl
theorem Zgz (S:List Bool):(opR S).length=S.length:=by unfold opR;rw [List.length_map,List.length_reverse]
theorem ZdC (b:Bool)(S:List Bool):(opR (b::S)).dropLast=opR S:=by rw [Za7,List.dropLast_concat]
theorem Zhy {K:PySem.W.Frag}(b:Bool)(S:List Bool):atI (opR (b::S)) (-1)=some (.str (opW b)):=by rw [Za7];exact ZcO _ _
theorem opW_ok (b:Bool):PyData.strOk (opW b)=true:=by cases b<;>decide +kernel
section
variable {K:PySem.W.Frag}{H:Hp}{l b:Addr}{S:List Bool}{Q:VK}
theorem opR_rd:∀ u∈opR S,∃ d,RdD K H u d∧d.canLay0=true∧d.depth≤0:=fun u hu=>by
 unfold opR at hu;obtain ⟨b,_,rfl⟩:=List.mem_map.mp hu;exact ⟨_,.str _,Zbx (opW_ok b),by rw [ZbC];exact Nat.le_refl _⟩
theorem Zi0:(opR S).isEmpty=S.isEmpty:=by
 cases S with
 | nil=>rfl
 | cons b S =>
   rw [Za7];cases opR S<;>rfl
theorem Zf6 (hl:H l=some (.lst (opR S)))(hb:H b=some (.lst []))(q:Q (.bl (!S.isEmpty)) H):rNeD K (.ref l) (.ref b) H Q:=rNeD_nil (n:=0) (by decide) opR_rd (SqL.of hl) (SqL.of hb) (by rw [Zi0];exact q)
theorem eq_nilS (hl:H l=some (.lst (opR S)))(hb:H b=some (.lst []))(q:Q (.bl S.isEmpty) H):rEqD K (.ref l) (.ref b) H Q:=rEqD_nil (n:=0) (by decide) opR_rd (SqL.of hl) (SqL.of hb) (by rw [Zi0];exact q)
end
def spEnded:Sp:=fun vs H Q _=>∃ (l:Addr) (S:List Bool),vs=[.ref l]∧H l=some (.lst (opR S))∧S.length≤1000∧∀ H',Fx l H H'→H' l=some (.lst (opR (popN S)))→Q (.str (Str.ofString "behind")) H'
theorem ZiD {l:Addr}{H H':Hp}{o:HO}(f:Fx l H H'):Fx l H (upd H' l o):=fun b ob n e=>by
 rw [Zah n];exact f b ob n e
section
variable {P:Program}{w:World}{K:PySem.W.Frag}{mg:Str→Option Value}{base:Heap}
theorem Zic (d:DefAt K mg "_law_ended" Zek ["_law_open_ones"]):FnAt P w K mg base "_law_ended" ["_law_open_ones"] 1 spEnded:=by
 refine FnAt.of d ZhV (fun vs H Q E h=>?_) (fun f cdv A outer s H vs Q E hr h=>?_)
 · obtain ⟨l,S,rfl,_⟩:=h
   rfl
 obtain ⟨l,S,rfl,hl,hS,q⟩:=h;refine ⟨_,(Zab (Zdk PassesOwn.never (PW.pt (ZaX (Zai (Zgl K (hu64 hr)) (pv 0) (Zaz Zac) (nomark _)) (ZaU (Zai Zat (Zav (Zan K) (pv 0) (ZdA Zcd Zak) (fun _ _=>rfl)) Zaf (nomark _))))) (Zae (Zay (ZdG K PySem.F.plainAttrs_list PySem.F.slot_list_pop PySem.F.type_list_pop Zfc (pv 0)))))
     (Zae (Zam Zaf))),?_⟩
 refine ⟨fun m σ' H'=>∃ S',m=S'.length∧σ'=[some (.ref l)]∧Fx l H H'∧H' l=some (.lst (opR S'))∧popN S'=popN S∧S'.length≤1000,⟨_,S,rfl,rfl,Fx.of (Same.refl _),hl,rfl,hS⟩,?_⟩;rintro m σ' H1 ⟨S',rfl,rfl,fx,h1,hp,hS'⟩;walk_at "vc";refine ⟨by decide,fun p np=>Zf6 ((Same.new np) _ _ h1) Zad ⟨_,rfl,?_⟩⟩;have s1:=Same.new (o:=.lst []) np;have h2:=s1 _ _ h1;cases S' with
 | nil =>
   rw [if_neg (by decide)];exact q _ (fx.trans (Fx.of s1)) (by rw [h2,← hp];rfl)
 | cons b S' =>
   rw [if_pos (show (!(b::S').isEmpty)=true from rfl)];refine ⟨_,SqL.of h2,_,Zhy (K:=K) b S',rfl,?_⟩;cases b with
   | true =>
     rw [if_neg (fun z=>absurd (V.str.inj z) (by decide +kernel))];exact q _ (fx.trans (Fx.of s1)) (by rw [h2,← hp];rfl)
   | false =>
     rw [if_pos (show V.str (opW false)=V.str (Str.ofString "not") from rfl)];refine ⟨fun σ2 H2=>σ2=[some (.ref l)]∧Fx l H H2∧H2 l=some (.lst (opR S')),fun σ2 H2 h=>⟨_,Nat.lt_succ_self _,S',rfl,h.1,h.2.1,h.2.2,hp,Nat.le_of_succ_le hS'⟩,⟨_,SqL.of h2⟩,?_⟩;refine ⟨l,_,.str (opW false),rfl,rfl,h2,?_,rfl,ZiD (fx.trans (Fx.of s1)),?_⟩
     · rw [Za7,List.length_append]
       exact List.getElem?_concat_length
     · rw [Zad,ZdC]
def qW:Q6→Str
 | .pc=>Str.ofString "piece"
 | .be=>Str.ofString "behind"
 | .nm=>Str.ofString "name"
 | .fi=>Str.ofString "first"
 | .to=>Str.ofString "to"
 | .la=>Str.ofString "last"
def MRes (l:Addr)(S:List Bool)(H:Hp)(Q:VK):Option (Q6 × List Bool)→Prop
 | none=>∀ H',Fx l H H'→H' l=some (.lst (opR S))→Q .non H'
 | some x=>∀ H',Fx l H H'→H' l=some (.lst (opR x.2))→Q (.str (qW x.1)) H'
def spIsN:Sp:=fun vs H Q _=>∃ w:Str,vs=[.str w]∧w≠emS∧w.length≤100000∧∀ H',Same H H'→Q (.bl (nameB w)) H'
def spAreF:Sp:=fun vs H Q _=>∃ w:Str,vs=[.str w]∧w≠emS∧w.length≤100000∧∀ H',Same H H'→Q (.bl (figB w)) H'
def spBegun:Sp:=fun vs H Q _=>∃ (w:Str) (l:Addr) (S:List Bool),vs=[.str w,.ref l]∧w≠emS∧w.length≤100000∧H l=some (.lst (opR S))∧S.length≤20∧MRes l S H Q (nx .pc S w)
def spNext:Sp:=fun vs H Q _=>∃ (q:Q6) (w:Str) (l:Addr) (S:List Bool),vs=[.str (qW q),.str w,.ref l]∧w≠emS∧w.length≤100000∧H l=some (.lst (opR S))∧S.length≤20∧MRes l S H Q (nx q S w)
theorem Ze2 {w:Str}(h:w≠emS):1≤w.length:=by
 cases w with
 | mk a =>
   show 1≤a.size;by_cases c:a.size=0
   · exfalso
     apply h
     have:a=#[]:=Array.eq_empty_of_size_eq_zero c;rw [this];decide +kernel
   · omega
theorem Zgu {x y:Str}{H:Hp}{σ:L2.St}{Q:VK}(hx:x.length≤100000)(q:∀ H',Same H H'→Q (.bl (ofS x y)) H') :
   CompJ (Itf (sgn x) x.cps.size) 1 [] (gName 0) (tTest (tOp (fun x y H Q=>∃ i,x=V.str i∧∃ j,y=V.str j∧Q (V.bl !(Builtin.Str.occurrences j i 0 j.length 1).isEmpty) H) (tVar 0) (tC (V.str y)))) (tVar 0) σ H fun x2 H1=>∃ p,x2=V.ref p∧∃ x3,(SqL K H1 p x3∨SqT K H1 p x3)∧x.length≤sizeLine∧Q (V.bl (decide ((x3.length:Int)=x.length))) H1:=by
 obtain ⟨⟨l⟩⟩:=x;refine compF (fun i=>decide ((⟨l⟩:Array Nat).getD i 0∈y.cps.toList)) (fun i=>sgn ⟨⟨l⟩⟩ i) (show l.length≤1000000 from Nat.le_trans hx (by decide)) (fun i H2 R hi s h=>?_) (fun i H2 R hi _ s h=>?_) (fun D hD=>?_)
 · walk_at "vc"
   rw [show sgn ⟨⟨l⟩⟩ i=.str ⟨#[(⟨l⟩:Array Nat).getD i 0]⟩ from rfl];refine ⟨_,rfl,?_⟩;rw [Zgh];exact h
 · walk_at "vc"
   exact h
 · refine ⟨D,rfl,_,.inl (SqL.of Zad),small5 hx,?_⟩
   have cnt:=Zj0 l fun c=>decide (c∈y.cps.toList)
   have e:decide (((((List.range l.length).filter fun i=>decide ((⟨l⟩:Array Nat).getD i 0∈y.cps.toList)).map fun i=>sgn ⟨⟨l⟩⟩ i).length:Int)=(l.length:Int))=ofS ⟨⟨l⟩⟩ y:=by
     rw [List.length_map,Bool.eq_iff_iff,decide_eq_true_eq];have:((((List.range l.length).filter fun i=>decide ((⟨l⟩:Array Nat).getD i 0∈y.cps.toList)).length:Int)=(l.length:Int))↔((List.range l.length).filter fun i=>decide ((⟨l⟩:Array Nat).getD i 0∈y.cps.toList)).length=l.length:=by omega
     rw [this,cnt];rfl
   have q':=q _ (Same.new (o:=.lst (((List.range l.length).filter fun i=>decide ((⟨l⟩:Array Nat).getD i 0∈y.cps.toList)).map fun i=>sgn ⟨⟨l⟩⟩ i)) hD);rw [← e] at q';exact q'
theorem ZgD (B:Blt mg)(d:DefAt K mg "_law_is_name" Zcq ["_law_word"]):FnAt P w K mg base "_law_is_name" ["_law_word"] 1 spIsN:=by
 refine FnAt.of d Zf9 (fun vs H Q E h=>?_) (fun f cdv A outer s H vs Q E hr h=>?_)
 · obtain ⟨x,rfl,_⟩:=h
   rfl
 obtain ⟨x,rfl,hne,hx,q⟩:=h;refine ⟨_,(Zab (Zau (PW.pt (Zbw (Zai Zhd (Zas Zaw rfl B.len PySem.boot_len (Zaa (pv 0) Zac)) Zak (nomark _)) (Zbe (Zai (Zgg K) (pv 0) (Zaz (Zaa Zaf (Zaa Zaf (Zaa Zaf (Zaa Zaf (Zaa Zaf (Zaa Zaf (Zaa Zaf (Zaa Zaf Zac))))))))) (by with_unfolding_all rfl))))) (Zae (Zam ZbL)) Zap)
     (Zae (Zam (Zbp Zat (Zas (ZaW K) rfl B.len PySem.boot_len (Zaa (Zbh ["_law_sign"] [] rfl (Zh9 (pv 0)) (fun _ _ _ _ _=>ZaB (i:=0) (by show List.Nodup (["_law_sign"]:List Str);decide +kernel) rfl (Or.inl rfl)) (fun _ _ _ _ _=>Zdx (Zai Zbl (pv 0) Zaf (by with_unfolding_all rfl))) (fun _ _ _ _ _=>(pv 0)) trivial ZaO) Zac)) (Zas Zaw rfl B.len PySem.boot_len (Zaa (pv 0) Zac)) (nomark _))))),?_⟩
 walk_at "vc";refine ⟨small5 hx,?_⟩;have l1:=Ze2 hne;have en:nameB x=(decide (1≤x.length)&&decide (x.length≤8)&&ofS x letS&&!inV (.str x) ws8):=rfl;rw [decide_eq_true l1,Bool.true_and] at en;by_cases c1:8<x.length
 · rw [if_pos (by omega)]
   rw [decide_eq_false (by omega:¬ x.length≤8)] at en;have:=q _ (Same.refl _);rw [en] at this;exact this
 · rw [if_neg (by omega)]
   rw [decide_eq_true (by omega:x.length≤8),Bool.true_and] at en;refine ⟨by decide,fun p np=>⟨ws8,.inl (SqL.of Zad),rfl,flat8,?_⟩⟩;have s1:=Same.new (o:=.lst ws8) np;by_cases c2:inV (.str x) ws8=true
   · rw [if_pos c2]
     have:=q _ s1;rw [en,c2,Bool.not_true,Bool.and_false] at this;exact this
   · rw [if_neg c2]
     refine Zgu hx fun H' s'=>?_
     have:=q _ (s1.trans s');rw [en,Bool.eq_false_iff.mpr c2,Bool.not_false,Bool.and_true] at this;exact this
theorem Zd6 (B:Blt mg) (d:DefAt K mg "_law_are_figures" Zbt ["_law_word"]):FnAt P w K mg base "_law_are_figures" ["_law_word"] 1 spAreF:=by
 refine FnAt.of d Zel (fun vs H Q E h=>?_) (fun f cdv A outer s H vs Q E hr h=>?_)
 · obtain ⟨x,rfl,_⟩:=h
   rfl
 obtain ⟨x,rfl,hne,hx,q⟩:=h;refine ⟨_,(Zab (Zau (PW.pt (Zbw (Zai Zhd (Zas Zaw rfl B.len PySem.boot_len (Zaa (pv 0) Zac)) Zak (nomark _)) (Zbe (PW.pt (ZaX (Zai Zat (Zav Zda (pv 0) Zak (fun _ _=>rfl)) Zaf (nomark _)) (ZaU (Zai Zhd (Zas Zaw rfl B.len PySem.boot_len (Zaa (pv 0) Zac)) Zak (nomark _)))))))) (Zae (Zam ZbL)) Zap)
     (Zae (Zam (Zbp Zat (Zas (ZaW K) rfl B.len PySem.boot_len (Zaa (Zbh ["_law_sign"] [] rfl (Zh9 (pv 0)) (fun _ _ _ _ _=>ZaB (i:=0) (by show List.Nodup (["_law_sign"]:List Str);decide +kernel) rfl (Or.inl rfl)) (fun _ _ _ _ _=>Zdx (Zai Zbl (pv 0) Zaf (by with_unfolding_all rfl))) (fun _ _ _ _ _=>(pv 0)) trivial ZaO) Zac)) (Zas Zaw rfl B.len PySem.boot_len (Zaa (pv 0) Zac)) (nomark _))))),?_⟩
 walk_at "vc";refine ⟨small5 hx,?_⟩;have l1:=Ze2 hne;have en:figB x=(decide (1≤x.length)&&decide (x.length≤12)&&ofS x figS&&!(decide (x.cps.toList.head?=some 48)&&decide (1<x.length))):=rfl;rw [decide_eq_true l1,Bool.true_and] at en;by_cases c1:12<x.length
 · rw [if_pos (by omega)]
   rw [decide_eq_false (by omega:¬ x.length≤12)] at en;have:=q _ (Same.refl _);rw [en] at this;exact this
 · rw [if_neg (by omega)]
   rw [decide_eq_true (by omega:x.length≤12),Bool.true_and] at en;obtain ⟨c0,r,e0⟩:∃ c r,x.cps.toList=c::r:=by
     cases h:x.cps.toList with
     | nil =>
       have:x.cps.toList.length=0:=by rw [h];rfl
       rw [Array.length_toList] at this;have l1:1≤x.cps.size:=l1;omega
     | cons c r=>exact ⟨c,r,rfl⟩
   refine ⟨small5 hx,c0,by rw [e0];exact ZaI (j:=0) rfl,?_⟩;rw [e0,List.head?_cons] at en;by_cases c2:c0=48
   · rw [if_pos ((ZdM c0).mpr c2)]
     refine ⟨small5 hx,?_⟩;rw [decide_eq_true (congrArg some c2),Bool.true_and] at en;by_cases c3:1<x.length
     · rw [if_pos (by omega)]
       have:=q _ (Same.refl _);rw [en,decide_eq_true c3,Bool.not_true,Bool.and_false] at this;exact this
     · rw [if_neg (by omega)]
       refine Zgu hx fun H' s'=>?_
       have:=q _ s';rw [en,decide_eq_false c3,Bool.not_false,Bool.and_true] at this;exact this
   · rw [if_neg (fun z=>c2 ((ZdM c0).mp z))]
     refine Zgu hx fun H' s'=>?_
     have:=q _ s';rw [en,decide_eq_false (fun z=>c2 (Option.some.inj z)),Bool.false_and,Bool.not_false,Bool.and_true] at this;exact this
theorem Zis (B:Blt mg) (h_l_is_name:FnAt P w K mg base "_law_is_name" ["_law_word"] 1 spIsN) (h_l_ended:FnAt P w K mg base "_law_ended" ["_law_open_ones"] 1 spEnded) (d:DefAt K mg "_law_begun" Zef ["_law_word","_law_open_ones"]):FnAt P w K mg base "_law_begun" ["_law_word","_law_open_ones"] 2 spBegun:=by
 refine FnAt.of d Zil (fun vs H Q E h=>?_) (fun f cdv A outer s H vs Q E hr h=>?_)
 · obtain ⟨x,l,S,rfl,_⟩:=h
   rfl
 obtain ⟨x,l,S,rfl,hne,hx,hl,hS,q⟩:=h;refine ⟨_,(Zab (Zau (PW.pt (Zbw (Zai Zat (pv 0) Zaf (nomark _)) (Zbe (Zai Zat (pv 0) Zaf (nomark _))))) (Zab (Zau (Zai Zat (Zas (ZaW K) rfl B.len PySem.boot_len (Zaa (pv 1) Zac)) Zak (nomark _)) (Zae (Zam Za6)) Zap)
     (Zab (Zay (ZaZ K PySem.F.plainAttrs_list PySem.F.slot_list_append PySem.F.type_list_append ZaL (pv 1) (Zaa (pv 0) Zac)))
     (Zae (Zam Zaf)))) Zap)
     (Zab (Zau (PW.pt (Zbw (Zai Zat (pv 0) Zaf (nomark _)) (Zbe (Zai Zat (pv 0) Zaf (nomark _))))) (Zae (Zam (Zaq h_l_ended (hr.mono (by decide)) rfl (Zaa (pv 1) Zac)))) Zap)
     (Zab (Zau (Zdc (Zaq h_l_is_name (hr.mono (by decide)) rfl (Zaa (pv 0) Zac))) (Zae (Zam Zaf)) Zap)
     (Zae (Zam Za6))))),?_⟩
 walk_at "vc";have ll:=Zgz S;have opn:(x=Str.ofString "not"∨x=Str.ofString "(")→∃ x1,(SqL K H l x1∨SqT K H l x1)∧if (x1.length:Int)=20 then Q V.non H else (∃ xs,SqL K H l xs)∧∃ x2,H l=some (HO.lst x2)∧x2.length<sizeLine∧Q (V.str (Str.ofString "piece")) (upd H l (HO.lst (x2++[V.str x]))):=fun c=>by
   refine ⟨_,.inl (SqL.of hl),?_⟩;rw [ll];by_cases c20:S.length=20
   · rw [if_pos (by omega)]
     have e:nx .pc S x=none:=by show (if _ then (if _ then _ else _) else _)=_;rw [if_pos c,if_pos c20]
     rw [e] at q;exact q _ (Fx.of (Same.refl _)) hl
   · rw [if_neg (by omega)]
     have e:=Zfk (S:=S) (by omega) c;rw [e] at q;refine ⟨⟨_,SqL.of hl⟩,_,hl,by rw [ll,sizeLine_eq];omega,q _ (ZiD (Fx.of (Same.refl _))) ?_⟩;rw [Zad];show some (HO.lst (opR S++[V.str x]))=some (.lst (opR (decide (x=Str.ofString "(")::S)));rw [Za7];rcases c with rfl | rfl
     · rfl
     · rfl
 by_cases c1:x=Str.ofString "not"
 · rw [if_pos c1]
   exact opn (.inl c1)
 · rw [if_neg c1]
   by_cases c2:x=Str.ofString "("
   · rw [if_pos c2]
     exact opn (.inr c2)
   · rw [if_neg c2]
     have e:nx .pc S x=if x=Str.ofString "all"∨x=Str.ofString "none" then some (.be,popN S) else if nameB x=true then some (.nm,S) else none:=if_neg (fun z=>z.elim c1 c2)
     by_cases c3:x=Str.ofString "all"
     · rw [if_pos c3]
       rw [e,if_pos (.inl c3)] at q;exact ⟨l,S,rfl,hl,by omega,fun H' f h=>q H' f h⟩
     · rw [if_neg c3]
       by_cases c4:x=Str.ofString "none"
       · rw [if_pos c4]
         rw [e,if_pos (.inr c4)] at q;exact ⟨l,S,rfl,hl,by omega,fun H' f h=>q H' f h⟩
       · rw [if_neg c4]
         rw [e,if_neg (fun z=>z.elim c3 c4)] at q;refine ⟨x,rfl,hne,hx,fun H' s'=>⟨_,rfl,?_⟩⟩;by_cases c5:nameB x=true
         · rw [if_pos c5]
           rw [if_pos c5] at q;exact q _ (Fx.of s') (s' _ _ hl)
         · rw [if_neg c5]
           rw [if_neg c5] at q;exact q _ (Fx.of s') (s' _ _ hl)
theorem Zkd (B:Blt mg) (h_l_begun:FnAt P w K mg base "_law_begun" ["_law_word","_law_open_ones"] 2 spBegun) (h_l_are_figures:FnAt P w K mg base "_law_are_figures" ["_law_word"] 1 spAreF) (h_l_ended:FnAt P w K mg base "_law_ended" ["_law_open_ones"] 1 spEnded) (d:DefAt K mg "_law_next" Zfm ["_law_state","_law_word","_law_open_ones"]):FnAt P w K mg base "_law_next" ["_law_state","_law_word","_law_open_ones"] 3 spNext:=by
 refine FnAt.of d ZkK (fun vs H Q E h=>?_) (fun f cdv A outer s H vs Q E hr h=>?_)
 · obtain ⟨q,x,l,S,rfl,_⟩:=h
   rfl
 obtain ⟨st,x,l,S,rfl,hne,hx,hl,hS,q⟩:=h;refine ⟨_,(Zab (Zau (Zai Zat (pv 0) Zaf (nomark _)) (Zae (Zam (Zaq h_l_begun (hr.mono (by decide)) rfl (Zaa (pv 1) (Zaa (pv 2) Zac))))) Zap)
     (Zab (Zau (PW.pt (ZaX (Zai Zat (pv 0) Zaf (nomark _)) (ZaX (Zai Zat (pv 1) Zaf (nomark _)) (ZaU (Zai (Zgl K (hu64 hr)) (pv 2) (Zaz Zac) (nomark _)))))) (Zab (Zay (ZdG K PySem.F.plainAttrs_list PySem.F.slot_list_pop PySem.F.type_list_pop Zfc (pv 2)))
     (Zae (Zam (Zaq h_l_ended (hr.mono (by decide)) rfl (Zaa (pv 2) Zac))))) Zap)
     (Zab (Zau (PW.pt (ZaX (Zai Zat (pv 0) Zaf (nomark _)) (ZaU (PW.pt (Zbw (Zai Zat (pv 1) Zaf (nomark _)) (Zbe (Zai Zat (pv 1) Zaf (nomark _)))))))) (Zae (Zam Zaf)) Zap)
     (Zab (Zau (PW.pt (Zbw (PW.pt (ZaX (Zai Zat (pv 0) Zaf (nomark _)) (ZaU (Zai Zat (pv 1) Zaf (nomark _))))) (Zbe (PW.pt (ZaX (Zai Zat (pv 0) Zaf (nomark _)) (ZaU (Zai Zat (pv 1) Zaf (nomark _)))))))) (Zae (Zam Zaf)) Zap)
     (Zab (Zau (PW.pt (ZaX (Zai Zat (pv 0) Zaf (nomark _)) (ZaU (Zai Zat (pv 1) Zaf (nomark _))))) (Zae (Zam Zaf)) Zap)
     (Zab (Zau (PW.pt (ZaX (Zai Zat (pv 0) Zaf (nomark _)) (ZaU (Zdc (Zaq h_l_are_figures (hr.mono (by decide)) rfl (Zaa (pv 1) Zac)))))) (Zae (Zam Zaf)) Zap)
     (Zab (Zau (PW.pt (ZaX (Zai Zat (pv 0) Zaf (nomark _)) (ZaU (Zdc (Zaq h_l_are_figures (hr.mono (by decide)) rfl (Zaa (pv 1) Zac)))))) (Zae (Zam (Zaq h_l_ended (hr.mono (by decide)) rfl (Zaa (pv 2) Zac)))) Zap)
     (Zae (Zam Za6))))))))),?_⟩
 refine Zag fun k hk=>?_
 walk_at "vc";cases st with
 | pc =>
   rw [if_pos (show qW .pc=Str.ofString "piece" from rfl)];exact ⟨x,l,S,rfl,hne,hx,hl,hS,q⟩
 | be =>
   rw [if_neg (by decide +kernel)];refine hk _ _ (Zag fun k hk=>?_);walk_at "vc";rw [if_pos (show qW .be=Str.ofString "behind" from rfl)];have rest:¬ (x=Str.ofString ")"∧S≠[])→∀ H1,Same H H1→k [some (.str (qW .be)),some (.str x),some (.ref l)] H1:=fun nc H1 s1=>by
     have e:nx .be S x=if x=Str.ofString "and"∨x=Str.ofString "or" then some (.pc,S) else none:=if_neg nc
     rw [e] at q;refine hk _ _ (Zag fun k hk=>?_);walk_at "vc";rw [if_pos (show qW .be=Str.ofString "behind" from rfl)];by_cases c1:x=Str.ofString "and"
     · rw [if_pos c1]
       rw [if_pos (.inl c1)] at q;exact q _ (Fx.of s1) (s1 _ _ hl)
     · rw [if_neg c1]
       by_cases c2:x=Str.ofString "or"
       · rw [if_pos c2]
         rw [if_pos (.inr c2)] at q;exact q _ (Fx.of s1) (s1 _ _ hl)
       · rw [if_neg c2]
         rw [if_neg (fun z=>z.elim c1 c2)] at q;refine hk _ _ (Zag fun k hk=>?_);walk_at "vc";rw [if_neg (by decide +kernel),if_neg (by decide +kernel)];refine hk _ _ (Zag fun k hk=>?_);walk_at "vc";rw [if_neg (by decide +kernel)];refine hk _ _ (Zag fun k hk=>?_);walk_at "vc";rw [if_neg (by decide +kernel)];refine hk _ _ (Zag fun k hk=>?_);walk_at "vc";rw [if_neg (by decide +kernel)];refine hk _ _ ?_;walk_at "vc";exact q _ (Fx.of s1) (s1 _ _ hl)
   by_cases c1:x=Str.ofString ")"
   · rw [if_pos c1]
     refine ⟨by decide,fun p np=>Zf6 ((Same.new np) _ _ hl) Zad ⟨_,rfl,?_⟩⟩;have s1:=Same.new (o:=.lst []) np;have h2:=s1 _ _ hl;cases S with
     | nil =>
       rw [if_neg (by decide)];exact rest (fun z=>z.2 rfl) _ s1
     | cons b S =>
       rw [if_pos (show (!(b::S).isEmpty)=true from rfl)];have e:nx .be (b::S) x=some (.be,popN S):=if_pos ⟨c1,fun z=>by cases z⟩;rw [e] at q;refine ⟨⟨_,SqL.of h2⟩,l,_,.str (opW b),rfl,rfl,h2,?_,l,S,rfl,by rw [Zad,ZdC],by simp only [List.length_cons] at hS;omega,fun H' f h=>q H' ((ZiD (Fx.of s1)).trans f) h⟩;rw [Za7,List.length_append];exact List.getElem?_concat_length
   · rw [if_neg c1]
     exact rest (fun z=>c1 z.1) _ (Same.refl _)
 | nm =>
   rw [if_neg (by decide +kernel)];refine hk _ _ (Zag fun k hk=>?_);walk_at "vc";rw [if_neg (by decide +kernel)];refine hk _ _ (Zag fun k hk=>?_);walk_at "vc";rw [if_neg (by decide +kernel)];refine hk _ _ (Zag fun k hk=>?_);walk_at "vc";rw [if_pos (show qW .nm=Str.ofString "name" from rfl)];have e:nx .nm S x=if x=Str.ofString "is" then some (.la,S) else if x=Str.ofString "from" then some (.fi,S) else none:=rfl
   rw [e] at q;by_cases c1:x=Str.ofString "is"
   · rw [if_pos c1]
     rw [if_pos c1] at q;exact q _ (Fx.of (Same.refl _)) hl
   · rw [if_neg c1,if_neg (by decide +kernel)]
     rw [if_neg c1] at q;refine hk _ _ (Zag fun k hk=>?_);walk_at "vc";rw [if_pos (show qW .nm=Str.ofString "name" from rfl)];by_cases c2:x=Str.ofString "from"
     · rw [if_pos c2]
       rw [if_pos c2] at q;exact q _ (Fx.of (Same.refl _)) hl
     · rw [if_neg c2]
       rw [if_neg c2] at q;refine hk _ _ (Zag fun k hk=>?_);walk_at "vc";rw [if_neg (by decide +kernel)];refine hk _ _ (Zag fun k hk=>?_);walk_at "vc";rw [if_neg (by decide +kernel)];refine hk _ _ ?_;walk_at "vc";exact q _ (Fx.of (Same.refl _)) hl
 | fi =>
   rw [if_neg (by decide +kernel)];refine hk _ _ (Zag fun k hk=>?_);walk_at "vc";rw [if_neg (by decide +kernel)];refine hk _ _ (Zag fun k hk=>?_);walk_at "vc";rw [if_neg (by decide +kernel)];refine hk _ _ (Zag fun k hk=>?_);walk_at "vc";rw [if_neg (by decide +kernel),if_neg (by decide +kernel)];refine hk _ _ (Zag fun k hk=>?_);walk_at "vc";rw [if_neg (by decide +kernel)];refine hk _ _ (Zag fun k hk=>?_);walk_at "vc";rw [if_pos (show qW .fi=Str.ofString "first" from rfl)];have e:nx .fi S x=if figB x=true then some (.to,S) else none:=rfl
   rw [e] at q;refine ⟨x,rfl,hne,hx,fun H1 s1=>⟨_,rfl,?_⟩⟩;by_cases c1:figB x=true
   · rw [if_pos c1]
     rw [if_pos c1] at q;exact q _ (Fx.of s1) (s1 _ _ hl)
   · rw [if_neg c1]
     rw [if_neg c1] at q;refine hk _ _ (Zag fun k hk=>?_);walk_at "vc";rw [if_neg (by decide +kernel)];refine hk _ _ ?_;walk_at "vc";exact q _ (Fx.of s1) (s1 _ _ hl)
 | to =>
   rw [if_neg (by decide +kernel)];refine hk _ _ (Zag fun k hk=>?_);walk_at "vc";rw [if_neg (by decide +kernel)];refine hk _ _ (Zag fun k hk=>?_);walk_at "vc";rw [if_neg (by decide +kernel)];refine hk _ _ (Zag fun k hk=>?_);walk_at "vc";rw [if_neg (by decide +kernel),if_pos (show qW .to=Str.ofString "to" from rfl)];have e:nx .to S x=if x=Str.ofString "to" then some (.la,S) else none:=rfl
   rw [e] at q;by_cases c1:x=Str.ofString "to"
   · rw [if_pos c1]
     rw [if_pos c1] at q;exact q _ (Fx.of (Same.refl _)) hl
   · rw [if_neg c1]
     rw [if_neg c1] at q;refine hk _ _ (Zag fun k hk=>?_);walk_at "vc";rw [if_neg (by decide +kernel)];refine hk _ _ (Zag fun k hk=>?_);walk_at "vc";rw [if_neg (by decide +kernel)];refine hk _ _ (Zag fun k hk=>?_);walk_at "vc";rw [if_neg (by decide +kernel)];refine hk _ _ ?_;walk_at "vc";exact q _ (Fx.of (Same.refl _)) hl
 | la =>
   rw [if_neg (by decide +kernel)];refine hk _ _ (Zag fun k hk=>?_);walk_at "vc";rw [if_neg (by decide +kernel)];refine hk _ _ (Zag fun k hk=>?_);walk_at "vc";rw [if_neg (by decide +kernel)];refine hk _ _ (Zag fun k hk=>?_);walk_at "vc";rw [if_neg (by decide +kernel),if_neg (by decide +kernel)];refine hk _ _ (Zag fun k hk=>?_);walk_at "vc";rw [if_neg (by decide +kernel)];refine hk _ _ (Zag fun k hk=>?_);walk_at "vc";rw [if_neg (by decide +kernel)];refine hk _ _ (Zag fun k hk=>?_);walk_at "vc";rw [if_pos (show qW .la=Str.ofString "last" from rfl)];have e:nx .la S x=if figB x=true then some (.be,popN S) else none:=rfl
   rw [e] at q;refine ⟨x,rfl,hne,hx,fun H1 s1=>⟨_,rfl,?_⟩⟩;by_cases c1:figB x=true
   · rw [if_pos c1]
     rw [if_pos c1] at q;exact ⟨l,S,rfl,s1 _ _ hl,by omega,fun H' f h=>q H' ((Fx.of s1).trans f) h⟩
   · rw [if_neg c1]
     rw [if_neg c1] at q;refine hk _ _ ?_;walk_at "vc";exact q _ (Fx.of s1) (s1 _ _ hl)
end
def optV:Option Nat→V
 | none=>.non
 | some p=>.int p
def spFault:Sp:=fun vs H Q _=>∃ z:Str,vs=[.str z]∧z.length≤100000∧∀ H',Same H H'→Q (optV (faultO (pQuestion (cutS z.cps.toList 0 emS)))) H'
theorem Zcu:∀ S:List Bool,(popN S).length≤S.length
 | []=>Nat.le_refl _
 | true::S=>Nat.le_refl _
 | false::S=>Nat.le_succ_of_le (Zcu S)
theorem nx_len {q q':Q6}{S S':List Bool}{w:Str}(h:nx q S w=some (q',S'))(l:S.length≤20):S'.length≤20:=by
 have p0:=Zcu S;have p1:=Zcu S.tail;have p2:S.tail.length≤S.length:=by rw [List.length_tail];omega
 unfold nx at h;cases q<;>simp only at h
 all_goals (repeat' split at h)
 all_goals cases h
 all_goals first | (simp only [List.length_cons];omega) | omega
theorem Zhh {z:Str}{ts:List Tok}(hz:z.length≤100000)(h:ts++[(emS,z.length)]=cutS z.cps.toList 0 emS):∀ t∈ts,t.1≠emS∧t.1.length≤100000:=by
 have hl:z.cps.toList.length≤100000:=by rw [Array.length_toList];exact hz
 obtain ⟨ini,e,_,a⟩:=ZbX 100000 (by decide) z.cps.toList 0 emS (by omega) (Nat.le_refl _);rw [e] at h;have:ts=ini:=(List.append_inj' h rfl).1;rw [this];exact fun t ht=>⟨(a t ht).1,(a t ht).2.2⟩
structure FtI (z:Str)(l:Addr)(ts:List Tok)(H:Hp)(i:Nat)(σ:L2.St)(H':Hp):Prop where
 ex:∃ (q:Q6) (S:List Bool) (v3 v4:Option V),σ=[some (.str z),some (.str (qW q)),some (.ref l),v3,v4]∧H' l=some (.lst (opR S))∧S.length≤20∧run .pc [] (ts++[(emS,z.length)])=run q S (ts.drop i++[(emS,z.length)])
 fx:Fx l H H'
section
variable {P:Program}{w:World}{K:PySem.W.Frag}{mg:Str→Option Value}{base:Heap}
theorem Zh5 (B:Blt mg)(h_l_split:FnAt P w K mg base "_law_split" ["_law_text"] 1 spSplit)(h_l_next:FnAt P w K mg base "_law_next" ["_law_state","_law_word","_law_open_ones"] 3 spNext)(d:DefAt K mg "_law_fault" Zd9 ["_law_text"]):FnAt P w K mg base "_law_fault" ["_law_text"] 4 spFault:=by
 refine FnAt.of d sc_l_fault (fun vs H Q E h=>?_) (fun f cdv A outer s H vs Q E hr h=>?_)
 · obtain ⟨z,rfl,_⟩:=h
   rfl
 obtain ⟨z,rfl,hz,q⟩:=h;obtain ⟨_,gd,l0⟩:=Zgv hz;have fe:=Ze3 gd l0;rw [← fe] at q;have e0:rn (cutS z.cps.toList 0 emS) .pc [] 0=run .pc [] (cutS z.cps.toList 0 emS):=by unfold rn;rw [List.drop_zero]
 rw [e0] at q;clear fe e0;refine ⟨_,(Zab (Zao (i:=1) sc_l_fault.nd rfl (by walk_at "l") Zaf)
     (Zab (Zao (i:=2) sc_l_fault.nd rfl (by walk_at "l") (Zaz Zac))
     (Zab (Zbs PassesOwn.never rfl (ZaS K (Zaq h_l_split (hr.mono (by decide)) rfl (Zaa (pv 0) Zac))) (Zjt K rfl (ZdE (ZaB (i:=3) sc_l_fault.nd rfl (by walk_at "l")) (ZdE (ZaB (i:=4) sc_l_fault.nd rfl (by walk_at "l")) ZjQ))) (Zab (Zao (i:=1) sc_l_fault.nd rfl (by walk_at "l") (Zaq h_l_next (hr.mono (by decide)) rfl (Zaa (pv 1) (Zaa (pv 4) (Zaa (pv 2) Zac)))))
     (Zae (Zau (Zai op_isN (pv 1) Za6 (nomark _)) (Zae (Zam (pv 3))) Zap))))
     (Zab (Zau (PW.pt (ZaX (Zai Zat (pv 1) Zaf (nomark _)) (ZaU (Zai (op_eqD K (hu64 hr)) (pv 2) (Zaz Zac) (nomark _))))) (Zae (Zam Za6)) Zap)
     (Zae (Zam (Zas Zaw rfl B.len PySem.boot_len (Zaa (pv 0) Zac)))))))),?_⟩
 refine Zag fun k hk=>?_
 walk_at "vc";refine hk _ _ (Zag fun k hk=>?_);walk_at "vc";refine ⟨by decide,fun l nl=>hk _ _ (Zag fun k hk=>?_)⟩;have s1:=Same.new (o:=.lst []) nl;walk_at "vc";refine ⟨z,rfl,hz,fun l5 us ts H5 s5 n5 h5 e5 tk=>⟨_,rfl,⟨_,SqL.of h5⟩,?_⟩⟩;have hl5:H5 l=some (.lst (opR [])):=s5 _ _ Zad;have ne5:l5≠l:=fun z=>by rw [z,Zad] at n5;cases n5
 have s15:=s1.trans s5;have tok:=Zhh hz e5;rw [← e5] at q;refine loopL (xs:=us) (FtI z l ts H5) ⟨⟨.pc,[],none,none,rfl,hl5,Nat.zero_le _,rfl⟩,Fx.of (Same.refl _)⟩ (fun i σ H' _ h=>SqL.of (h.fx _ _ ne5 h5)) ?_ ?_
 · rintro i y σ H6 hy ⟨⟨st,S,v3,v4,rfl,hS,lS,er⟩,fx⟩
   have il:i<us.length:=(List.getElem?_eq_some_iff.mp hy).1;obtain ⟨t,ht⟩:∃ t,ts[i]?=some t:=⟨_,List.getElem?_eq_getElem (by rw [← tk.len];exact il)⟩
   obtain ⟨a,rfl,ha⟩:=tk.it i y t hy ht;obtain ⟨tn,tl⟩:=tok t (List.mem_of_getElem? ht);have al:a≠l:=fun z=>by rw [z,hl5] at ha;cases ha
   have ha6:=fx _ _ al ha;have dr:ts.drop i=t::ts.drop (i+1):=by
     have il':i<ts.length:=by rw [← tk.len];exact il
     rw [List.drop_eq_getElem_cons il'];rw [List.getElem?_eq_getElem il'] at ht;cases ht;rfl
   rw [dr,List.cons_append] at er;have er:_=if t.1=emS then _ else match nx st S t.1 with | none=>some t.2 | some x=>run x.1 x.2 (ts.drop (i+1)++[(emS,z.length)]):=er
   rw [if_neg tn] at er;walk_at "vc";refine ⟨_,.inl (.inl ha6),rfl,_,_,rfl,_,_,rfl,rfl,st,t.1,l,S,rfl,tn,tl,hS,lS,?_⟩;cases e:nx st S t.1 with
   | none =>
     rw [e] at er;intro H7 f7 h7;rw [if_pos rfl];have q':=q H7;rw [er] at q';refine q' fun b o eb=>?_
     exact f7 _ _ (Zaj eb nl) (fx _ _ (Zaj eb nl) (s15 _ _ eb))
   | some x =>
     rw [e] at er;intro H7 f7 h7;rw [if_neg (by intro z;cases z)];exact ⟨⟨x.1,x.2,_,_,rfl,h7,nx_len (q':=x.1) (S':=x.2) e lS,er⟩,fx.trans f7⟩
 · rintro σ H6 ⟨⟨st,S,v3,v4,rfl,hS,lS,er⟩,fx⟩
   rw [tk.len,List.drop_length,List.nil_append] at er;have er:_=if emS=emS then (if st=.be∧S=[] then none else some z.length) else _:=er
   rw [if_pos rfl] at er;refine hk _ _ (Zag fun k hk=>?_);have keep:∀ H7,Fx l H6 H7→Same H H7:=fun H7 f7 b o eb=>f7 _ _ (Zaj eb nl) (fx _ _ (Zaj eb nl) (s15 _ _ eb))
   have out:¬ (st=.be∧S=[])→∀ H7,Fx l H6 H7→k [some (.str z),some (.str (qW st)),some (.ref l),v3,v4] H7:=fun nc H7 f7=>by
     refine hk _ _ ?_;walk_at "vc";rw [if_neg nc] at er;have q':=q H7 (keep H7 f7);rw [er] at q';exact ⟨small5 hz,q'⟩
   walk_at "vc";by_cases c1:st=.be
   · rw [if_pos (by rw [c1];rfl)]
     refine ⟨by decide,fun p np=>eq_nilS ((Same.new np) _ _ hS) Zad ⟨_,rfl,?_⟩⟩;have s1:=Same.new (o:=.lst []) np;cases S with
     | nil =>
       rw [if_pos (show ([]:List Bool).isEmpty=true from rfl)];rw [if_pos ⟨c1,rfl⟩] at er;have q':=q _ (keep _ (Fx.of s1));rw [er] at q';exact q'
     | cons b S =>
       rw [if_neg (show ¬ (b::S).isEmpty=true from Bool.false_ne_true)];exact out (fun z=>by cases z.2) _ (Fx.of s1)
   · rw [if_neg (by cases st<;>first | exact absurd rfl c1 | decide +kernel)]
     exact out (fun z=>c1 z.1) _ (Fx.of (Same.refl _))
end
theorem ZcS {n:Int}(h0:0≤n)(h1:n<10^12):(Str.ofString (toString n)).length≤12:=by
 obtain ⟨m,rfl⟩:=Int.eq_ofNat_of_zero_le h0;have e:=PySem.W.KIN.signs_num m;have l:(Str.ofString (toString ((m:Nat):Int))).length=(Nat.toDigits 10 m).length:=by show (Str.ofString (toString ((m:Nat):Int))).cps.size=_;rw [← Array.length_toList,e,List.length_map]
 rw [l];exact (Nat.length_toDigits_le_iff (by decide) (by decide)).mpr (by omega)
theorem Za4 {n:Int}(h0:0≤n)(h1:n<10^12):n.natAbs.log2<1920:=by
 by_cases hz:n.natAbs=0
 · rw [hz]
   decide
 · rw [Nat.log2_lt hz]
   have:n.natAbs<10^12:=by omega
   exact Nat.lt_of_lt_of_le this (Nat.le_trans (show 10^12≤2^100 by decide) (Nat.pow_le_pow_right (by decide) (by decide)))
def wdV (ws:List Str):List V:=ws.map V.str
def wrapB (must:Bool)(lo:Int)(n:Nat):Bool:=must||(decide (0<lo)&&decide ((n:Int)%lo=0))
def wrapW (must:Bool)(lo:Int)(ws:List Str):List Str:=if wrapB must lo ws.length=true then Str.ofString "("::(ws++[Str.ofString ")"]) else ws
def T.hd:T→Str
 | .ev=>Str.ofString "all"
 | .no=>Str.ofString "none"
 | .inn _ _ _=>Str.ofString "in"
 | .opp _=>Str.ofString "not"
 | .al _=>Str.ofString "and"
 | .on _=>Str.ofString "or"
def T.ao:T→Bool
 | .al _=>true
 | .on _=>true
 | _=>false
def T.mu (t:T)(a:Bool):Bool:=match t with
 | .al _=>a
 | .on _=>true
 | _=>false
mutual
def T.words (lo:Int):T→List Str
 | .ev=>[Str.ofString "all"]
 | .no=>[Str.ofString "none"]
 | .inn x l h=>if l=h then [x,Str.ofString "is",toString l] else [x,Str.ofString "from",toString l,Str.ofString "to",toString h]
 | .opp t=>Str.ofString "not"::wrapW t.ao lo (t.words lo)
 | .al ts=>(ts.words lo true).drop 1
 | .on ts=>(ts.words lo false).drop 1
def Ts.words (lo:Int)(a:Bool):Ts→List Str
 | .nil=>[]
 | .cons t r=>(if a=true then Str.ofString "and" else Str.ofString "or")::(wrapW (t.mu a) lo (t.words lo)++r.words lo a)
end
theorem Zg0 (m:Bool)(lo:Int)(ws:List Str):(wrapW m lo ws).length≤ws.length+2:=by
 unfold wrapW;split
 · rw [List.length_cons,List.length_append]
   exact Nat.le_refl _
 · exact Nat.le_add_right _ _
mutual
theorem T.words_len (lo:Int):∀ t:T,(t.words lo).length+3≤8*t.nums.length
 | .ev=>(by decide:1+3≤8*1)
 | .no=>(by decide:1+3≤8*1)
 | .inn x l h=>by
   show (if l=h then _ else _:List Str).length+3≤8*1;split
   · exact (by decide:3+3≤8*1)
   · exact (by decide:5+3≤8*1)
 | .opp t=>by
   have h1:=T.words_len lo t;have h2:=Zg0 t.ao lo (t.words lo);show (wrapW t.ao lo (t.words lo)).length+1+3≤8*(t.nums.length+1);omega
 | .al ts=>by
   have h1:=Ts.words_len lo true ts;show ((ts.words lo true).drop 1).length+3≤8*(ts.nums.length+1);rw [List.length_drop];omega
 | .on ts=>by
   have h1:=Ts.words_len lo false ts;show ((ts.words lo false).drop 1).length+3≤8*(ts.nums.length+1);rw [List.length_drop];omega
theorem Ts.words_len (lo:Int)(a:Bool):∀ ts:Ts,(ts.words lo a).length≤8*ts.nums.length
 | .nil=>Nat.le_refl _
 | .cons t r=>by
   have h1:=T.words_len lo t;have h2:=Zg0 (t.mu a) lo (t.words lo);have h3:=Ts.words_len lo a r;show (wrapW (t.mu a) lo (t.words lo)++r.words lo a).length+1≤8*(t.nums++r.nums).length;rw [List.length_append,List.length_append];omega
end
def Ok20 (ws:List Str):Prop:=∀ w∈ws,w.length≤20
theorem ZjB {m:Bool} {lo:Int} {ws:List Str} (h:Ok20 ws):Ok20 (wrapW m lo ws):=fun w hw=>by
 unfold wrapW at hw;split at hw
 · rcases List.mem_cons.mp hw with rfl | hw
   · decide +kernel
   · rcases List.mem_append.mp hw with hw | hw
     · exact h w hw
     · rw [List.mem_singleton.mp hw]
       decide +kernel
 · exact h w hw
section
variable {N:List Str}
mutual
theorem T.words_20 (hN:Ok20 N)(lo:Int):∀ t:T,t.ok N→Ok20 (t.words lo)
 | .ev,_=>fun w hw=>by rw [List.mem_singleton.mp hw];decide +kernel
 | .no,_=>fun w hw=>by rw [List.mem_singleton.mp hw];decide +kernel
 | .inn x l h,o=>fun w hw=>by
   unfold T.ok at o;obtain ⟨o1,o2,o3,o4,o5⟩:=o;unfold T.words at hw;have n1:=ZcS o2 o3;have n2:=ZcS o4 o5;split at hw
   · simp only [List.mem_cons,List.not_mem_nil,or_false] at hw
     rcases hw with rfl | rfl | rfl
     · exact hN _ o1
     · decide +kernel
     · exact Nat.le_trans n1 (by decide)
   · simp only [List.mem_cons,List.not_mem_nil,or_false] at hw
     rcases hw with rfl | rfl | rfl | rfl | rfl
     · exact hN _ o1
     · decide +kernel
     · exact Nat.le_trans n1 (by decide)
     · decide +kernel
     · exact Nat.le_trans n2 (by decide)
 | .opp t,o=>fun w hw=>by
   unfold T.ok at o;unfold T.words at hw;rcases List.mem_cons.mp hw with rfl | hw
   · decide +kernel
   · exact ZjB (T.words_20 hN lo t o) w hw
 | .al ts,o=>fun w hw=>by
   unfold T.ok at o;unfold T.words at hw;exact Ts.words_20 hN lo true ts o.2 w (List.mem_of_mem_drop hw)
 | .on ts,o=>fun w hw=>by
   unfold T.ok at o;unfold T.words at hw;exact Ts.words_20 hN lo false ts o.2 w (List.mem_of_mem_drop hw)
theorem Ts.words_20 (hN:Ok20 N)(lo:Int)(a:Bool):∀ ts:Ts,ts.ok N→Ok20 (ts.words lo a)
 | .nil,_=>fun w hw=>by unfold Ts.words at hw;cases hw
 | .cons t r,o=>fun w hw=>by
   unfold Ts.ok at o;unfold Ts.words at hw;rcases List.mem_cons.mp hw with rfl | hw
   · cases a<;>decide +kernel
   · rcases List.mem_append.mp hw with hw | hw
     · exact ZjB (T.words_20 hN lo t o.1) w hw
     · exact Ts.words_20 hN lo a r o.2 w hw
end
end
def pre (lo:Int)(a:Bool)(ts:Ts)(i:Nat):List Str:=(ts.toL.take i).flatMap fun t=>(if a=true then Str.ofString "and" else Str.ofString "or")::wrapW (t.mu a) lo (t.words lo)
theorem Ts.words_eq (lo:Int)(a:Bool):∀ ts:Ts,ts.words lo a=ts.toL.flatMap fun t=>(if a=true then Str.ofString "and" else Str.ofString "or")::wrapW (t.mu a) lo (t.words lo)
 | .nil=>rfl
 | .cons t r=>by
   show _::(_++r.words lo a)=_::_++_;rw [Ts.words_eq lo a r];rfl
theorem ZgO (lo:Int)(a:Bool)(ts:Ts){i:Nat}{t:T}(h:ts.toL[i]?=some t):pre lo a ts (i+1)=pre lo a ts i++((if a=true then Str.ofString "and" else Str.ofString "or")::wrapW (t.mu a) lo (t.words lo))∧(pre lo a ts i).length≤(ts.words lo a).length∧t.nums.length≤ts.nums.length:=by
 refine ⟨?_,?_,?_⟩
 · unfold pre
   rw [List.take_add_one,h,List.flatMap_append];simp
 · rw [Ts.words_eq]
   unfold pre
   conv=>rhs;rw [← List.take_append_drop i ts.toL,List.flatMap_append,List.length_append]
   exact Nat.le_add_right _ _
 · rw [Ts.nums_eq]
   have hm:=List.mem_of_getElem? h;obtain ⟨l1,l2,e⟩:=List.append_of_mem hm;rw [e,List.flatMap_append,List.flatMap_cons,List.length_append,List.length_append];omega
theorem ok_at {N:List Str}:∀ (ts:Ts) {i:Nat} {t:T},ts.toL[i]?=some t→ts.ok N→t.ok N
 | .nil,i,t,h,_=>by cases h
 | .cons a r,i,t,h,o=>by
   unfold Ts.ok at o;cases i with
   | zero =>
     cases h;exact o.1
   | succ i=>exact ok_at r (i:=i) h o.2
def dg (n:Nat):List Nat:=if h:n<10 then [48+n] else dg (n/10)++[48+n%10]
termination_by n
decreasing_by omega
theorem ZbW {n:Nat}(h:n<10):dg n=[48+n]:=by rw [dg,dif_pos h]
theorem Zgt {n:Nat}(h:¬ n<10):dg n=dg (n/10)++[48+n%10]:=by rw [dg,dif_neg h]
theorem Zih:∀ n,PySem.NumText.AllDigits (dg n):=fun n=>by
 induction n using Nat.strongRecOn with
 | ind n ih =>
   by_cases h:n<10
   · rw [ZbW h]
     intro c hc;rw [List.mem_singleton.mp hc];omega
   · rw [Zgt h]
     intro c hc;rcases List.mem_append.mp hc with hc | hc
     · exact ih (n/10) (by omega) c hc
     · rw [List.mem_singleton.mp hc]
       omega
theorem dg_val:∀ n,PySem.NumText.digitsVal (dg n)=n:=fun n=>by
 induction n using Nat.strongRecOn with
 | ind n ih =>
   by_cases h:n<10
   · rw [ZbW h,← List.nil_append [48+n],PySem.NumText.digitsVal_snoc]
     show 0*10+_=_;omega
   · rw [Zgt h,PySem.NumText.digitsVal_snoc,ih (n/10) (by omega)]
     omega
theorem ZjN:∀ n,∃ c r,dg n=c::r∧(0<n→49≤c):=fun n=>by
 induction n using Nat.strongRecOn with
 | ind n ih =>
   by_cases h:n<10
   · rw [ZbW h]
     exact ⟨_,_,rfl,fun _=>by omega⟩
   · rw [Zgt h]
     obtain ⟨c,r,e,hc⟩:=ih (n/10) (by omega);rw [e];exact ⟨c,r++_,rfl,fun _=>hc (by omega)⟩
theorem dg_one {n:Nat}(h:1<(dg n).length):0<n:=by
 by_cases c:n<10
 · rw [ZbW c] at h
   exact absurd h (show ¬ 1<1 by decide)
 · omega
theorem dg_len {n:Nat}:∀ k,n<10^(k+1)→(dg n).length≤k+1:=fun k=>by
 induction k generalizing n with
 | zero =>
   intro h;rw [ZbW (by omega)];exact Nat.le_refl _
 | succ k ih =>
   intro h;by_cases c:n<10
   · rw [ZbW c]
     exact Nat.succ_le_succ (Nat.zero_le _)
   · rw [Zgt c,List.length_append]
     have:n/10<10^(k+1):=by rw [Nat.div_lt_iff_lt_mul (by decide)];rw [Nat.pow_succ] at h;exact h
     exact Nat.succ_le_succ (ih this)
theorem chr_nat {c:Nat}(h:c<58):(Char.ofNat c).toNat=c:=by
 have:∀ c:Fin 58,(Char.ofNat c.val).toNat=c.val:=by decide +kernel
 exact this ⟨c,h⟩
theorem num_dg (n:Nat):(Str.ofString (toString ((n:Nat):Int))).cps.toList=dg n:=by
 obtain ⟨c,r,e,hc⟩:=ZjN n;have t:=PySem.NumText.toDigits_digitsVal ((dg n).length-1) (dg n) (by rw [e,List.length_cons];rfl) (Zih n) (by
   by_cases h:(dg n).length-1=0
   · exact .inl h
   · exact .inr ⟨c,r,e,hc (dg_one (by omega))⟩)
 rw [dg_val] at t;rw [PySem.W.KIN.signs_num n,t,List.map_map];have all:=Zih n;generalize dg n=l at all;induction l with
 | nil=>rfl
 | cons a l ih =>
   rw [List.map_cons,ih fun c hc=>all c (List.mem_cons_of_mem _ hc)];congr 1
   exact chr_nat (by have:=all a List.mem_cons_self;omega)
theorem ZdN {n:Int}(h0:0≤n)(h1:n<10^12):figB (Str.ofString (toString n))=true∧figI (Str.ofString (toString n))=n:=by
 obtain ⟨m,rfl⟩:=Int.eq_ofNat_of_zero_le h0;have e:=num_dg m;have hl:=dg_len (n:=m) 11 (by omega);obtain ⟨c,r,e2,hc⟩:=ZjN m;have sz:(Str.ofString (toString ((m:Nat):Int))).length=(dg m).length:=by show (Str.ofString (toString ((m:Nat):Int))).cps.size=_;rw [← Array.length_toList,e]
 refine ⟨?_,by unfold figI;rw [e,dg_val]⟩;unfold figB;rw [sz,e];have o:ofS (Str.ofString (toString ((m:Nat):Int))) figS=true:=by
   unfold ofS;rw [e,List.all_eq_true];intro c hc;have f:figS.cps.toList=[48,49,50,51,52,53,54,55,56,57]:=by decide +kernel
   rw [f];have:=Zih m c hc;refine decide_eq_true ?_;simp only [List.mem_cons,List.not_mem_nil,or_false];omega
 rw [o,decide_eq_true (show 1≤(dg m).length by rw [e2];exact Nat.succ_le_succ (Nat.zero_le _)),decide_eq_true (show (dg m).length≤12 by omega)];simp only [Bool.true_and,Bool.not_eq_true',Bool.and_eq_false_iff,decide_eq_false_iff_not];by_cases h:1<(dg m).length
 · left
   rw [e2,List.head?_cons];intro z;have:=hc (dg_one h);have:=Option.some.inj z;omega
 · exact .inr h
theorem ZcN {w:Str} {s:Str} (hs:∀ c∈s.cps.toList,¬ sepC c) (h0:w≠emS) (h:ofS w s=true):plainW w=true:=by
 have hp:∀ c∈w.cps.toList,¬ sepC c:=fun c hc=>hs c (of_decide_eq_true (List.all_eq_true.mp h c hc))
 unfold plainW;simp only [Bool.and_eq_true,Bool.not_eq_true',decide_eq_false_iff_not,List.all_eq_true];refine ⟨⟨?_,h0⟩,hp⟩;unfold inP Builtin.Str.occurrences;have l2:(Str.ofString "()").length=2:=by decide +kernel
 have no:∀ i,Builtin.Str.subAt (Str.ofString "()") w i=false:=fun i=>by
   unfold Builtin.Str.subAt;rw [beq_eq_false_iff_ne];intro z;have l1:=Ze2 h0;have ⟨c,hc⟩:∃ c,c∈w.cps.toList:=by
     cases e:w.cps.toList with
     | nil =>
       have:w.cps.toList.length=0:=by rw [e];rfl
       rw [Array.length_toList] at this;have l1:1≤w.cps.size:=l1;omega
     | cons c r=>exact ⟨c,List.mem_cons_self⟩
   have hc2:=hc;rw [← z] at hc2;have hm:c∈(Str.ofString "()").cps.toList:=by rw [Array.toList_extract] at hc2;exact List.mem_of_mem_drop (List.mem_of_mem_take hc2)
   have e2:(Str.ofString "()").cps.toList=[40,41]:=by decide +kernel
   rw [e2] at hm;simp only [List.mem_cons,List.not_mem_nil,or_false] at hm;exact hp c hc (.inr hm)
 rw [l2];simp only [no,Bool.and_false,Bool.false_eq_true,if_false];decide +kernel
theorem ZhH {item:Nat→Res}{sep:Str}{ts:List Tok}{r:Nat}{acc:List T}(h:(tk ts r).1≠sep):∀ k,pLoop item sep ts k r acc=.inr (acc,r)
 | 0=>rfl
 | k+1=>by
   unfold pLoop;rw [if_neg h]
theorem Zbf {item:Nat→Res}{sep:Str}{mk:Ts→T}{ts:List Tok}{r r':Nat}{t:T}(h:item r=.inr (t,r'))(n:(tk ts r').1≠sep):pChain item sep mk ts r=.inr (t,r'):=by unfold pChain;rw [h];simp only [bnd,ZhH n];rfl
theorem ZjI:∀ ts:Ts,Ts.ofL ts.toL=ts
 | .nil=>rfl
 | .cons t r=>by
   show Ts.cons t (Ts.ofL r.toL)=_;rw [ZjI r]
section
variable {ts:List Tok}{lo:Int}{N:List Str}
theorem Zji {r:Nat}{u v w:List Str}{x:Str}(e:v=x::w)(h:Ws ts r (u++v)):Ws ts r (u++[x]):=by obtain ⟨a,b⟩:=ws_app.mp h;rw [e] at b;exact ws_app.mpr ⟨a,b.1,trivial⟩
def partsW (sep:Str)(wf:T→List Str)(l:List T):List Str:=l.flatMap fun t=>sep::wf t
theorem ZeQ (sep e:Str)(wf:T→List Str):∀ l:List T,∃ x r,partsW sep wf l++[e]=x::r∧(x=sep∨x=e)
 | []=>⟨e,[],rfl,.inr rfl⟩
 | a::l=>⟨sep,_,rfl,.inl rfl⟩
theorem Zfi {item:Nat→Res}{sep e:Str}{wf:T→List Str}(hs:e≠sep):∀ (l:List T) (r:Nat) (acc:List T) (k:Nat),(∀ t∈l,∀ r x,(x=sep∨x=e)→Ws ts r (wf t++[x])→item r=.inr (t,r+(wf t).length))→l.length≤k→Ws ts r (partsW sep wf l++[e])→pLoop item sep ts k r acc=.inr (acc++l,r+(partsW sep wf l).length)
 | [],r,acc,k,_,_,h=>by
   rw [ZhH (by rw [h.1];exact hs),List.append_nil];rfl
 | a::l,r,acc,0,_,hk,_=>absurd hk (Nat.not_succ_le_zero _)
 | a::l,r,acc,k+1,it,hk,h=>by
   obtain ⟨h0,h⟩:=h;have h:Ws ts (r+1) ((wf a++partsW sep wf l)++[e]):=h;rw [List.append_assoc] at h;obtain ⟨x,q,e1,hx⟩:=ZeQ sep e wf l;have i1:=it a List.mem_cons_self (r+1) x hx (Zji e1 h);unfold pLoop;rw [if_pos h0,i1];simp only [bnd];rw [Zfi hs l _ _ k (fun t ht=>it t (List.mem_cons_of_mem _ ht)) (Nat.le_of_succ_le_succ hk) (ws_app.mp h).2];show Sum.inr (acc++[a]++l,r+1+(wf a).length+(partsW sep wf l).length)=Sum.inr (acc++(a::l),r+((wf a++partsW sep wf l).length+1));rw [List.append_assoc,List.length_append];congr 2
   omega
theorem ZbP {item:Nat→Res} {sep e:Str} {wf:T→List Str} {mk:Ts→T} (hs:e≠sep) (us:Ts) (h2:2≤us.toL.length) (hk:us.toL.length≤ts.length) {r:Nat} (it:∀ t∈us.toL,∀ r x,(x=sep∨x=e)→Ws ts r (wf t++[x])→item r=.inr (t,r+(wf t).length)) (h:Ws ts r ((partsW sep wf us.toL).drop 1++[e])):pChain item sep mk ts r=.inr (mk us,r+((partsW sep wf us.toL).drop 1).length):=by
 match us,h2 with
 | .nil,h2=>exact absurd h2 (by decide)
 | .cons a us,h2 =>
   have h:Ws ts r ((wf a++partsW sep wf us.toL)++[e]):=h;rw [List.append_assoc] at h;obtain ⟨x,q,e1,hx⟩:=ZeQ sep e wf us.toL;have i1:=it a List.mem_cons_self r x hx (Zji e1 h);unfold pChain;rw [i1];simp only [bnd];rw [Zfi hs us.toL _ _ ts.length (fun t ht=>it t (List.mem_cons_of_mem _ ht)) (Nat.le_of_succ_le hk) (ws_app.mp h).2];have f:fold1 mk ([a]++us.toL)=mk (.cons a us):=by
     unfold fold1;have:¬ ([a]++us.toL).length=1:=by have:2≤us.toL.length+1:=h2;show ¬ us.toL.length+1=1;omega
     rw [if_neg this];show mk (Ts.cons a (Ts.ofL us.toL))=_;rw [ZjI]
   show Sum.inr (fold1 mk ([a]++us.toL),_)=Sum.inr (mk (.cons a us),r+(wf a++partsW sep wf us.toL).length);rw [f,List.length_append,Nat.add_assoc]
structure Par (ts:List Tok)(lo:Int)(t:T):Prop where
 ch:∀ n d r x,20<n+d→d+t.dep≤20→x≠Str.ofString "and"→x≠Str.ofString "or"→Ws ts r (t.words lo++[x])→pChains ts n d r=.inr (t,r+(t.words lo).length)
 pc:t.ao=false→∀ n d r,20<n+d→d+t.dep≤20→Ws ts r (t.words lo)→pPiece ts n d r=.inr (t,r+(t.words lo).length)
 al:t.mu false=false→∀ n d r x,20<n+d→d+t.dep≤20→x≠Str.ofString "and"→Ws ts r (t.words lo++[x])→pChain (pPiece ts n d) (Str.ofString "and") .al ts r=.inr (t,r+(t.words lo).length)
theorem Par.of {t:T}(ha:t.ao=false)(pc:∀ n d r,20<n+d→d+t.dep≤20→Ws ts r (t.words lo)→pPiece ts n d r=.inr (t,r+(t.words lo).length)):Par ts lo t :=
 have al:∀ n d r x,20<n+d→d+t.dep≤20→x≠Str.ofString "and"→Ws ts r (t.words lo++[x])→pChain (pPiece ts n d) (Str.ofString "and") .al ts r=.inr (t,r+(t.words lo).length):=fun n d r x h1 h2 h3 h=>Zbf (pc n d r h1 h2 (ws_app.mp h).1) (by rw [(ws_app.mp h).2.1];exact h3)
 ⟨fun n d r x h1 h2 h3 h4 h=>Zbf (al n d r x h1 h2 h3 h) (by rw [(ws_app.mp h).2.1];exact h4),fun _=>pc,fun _=>al⟩
theorem Par.wr {t:T}(p:Par ts lo t){m:Bool}(hm:t.ao=true→m=true){n d r:Nat}(h1:20<n+d)(h2:d+t.dep+1≤20)(h:Ws ts r (wrapW m lo (t.words lo))):pPiece ts n d r=.inr (t,r+(wrapW m lo (t.words lo)).length):=by
 unfold wrapW at h ⊢;by_cases c:wrapB m lo (t.words lo).length=true
 · rw [if_pos c] at h ⊢
   match n,h1 with
   | 0,h1=>omega
   | n+1,h1 =>
     obtain ⟨h0,h⟩:=h;have e:=p.ch n (d+1) (r+1) (Str.ofString ")") (by omega) (by omega) (by decide +kernel) (by decide +kernel) h;have h3:=(ws_app.mp h).2.1;unfold pPiece;unfold pChains at e;rw [h0,if_pos ⟨.inr rfl,by omega⟩,if_neg (by decide +kernel),e];have e3:pPass ts (Str.ofString ")") (r+1+(t.words lo).length)=.inr (r+1+(t.words lo).length+1):=if_pos h3;simp only [bnd,e3];rw [List.length_cons,List.length_append];show Sum.inr (t,r+1+(t.words lo).length+1)=Sum.inr (t,r+((t.words lo).length+1+1));congr 2
     omega
 · rw [if_neg c] at h ⊢
   refine p.pc ?_ n d r h1 (by omega) h;cases e:t.ao with
   | false=>rfl
   | true =>
     exfalso
     apply c
     unfold wrapB;rw [hm e];rfl
theorem Par.it {t:T}(p:Par ts lo t){n d r:Nat}{x:Str}(h1:20<n+d)(h2:d+t.dep+1≤20)(hx:x≠Str.ofString "and")(h:Ws ts r (wrapW (t.mu false) lo (t.words lo)++[x])):pChain (pPiece ts n d) (Str.ofString "and") .al ts r=.inr (t,r+(wrapW (t.mu false) lo (t.words lo)).length):=by
 obtain ⟨a,b⟩:=ws_app.mp h;by_cases c:wrapB (t.mu false) lo (t.words lo).length=true
 · have e:wrapW (t.mu false) lo (t.words lo)=wrapW true lo (t.words lo):=by
     unfold wrapW;rw [if_pos c,if_pos (show wrapB true lo (t.words lo).length=true from rfl)]
   rw [e] at a b ⊢;exact Zbf (p.wr (fun _=>rfl) h1 h2 a) (by rw [b.1];exact hx)
 · have e:wrapW (t.mu false) lo (t.words lo)=t.words lo:=by
     unfold wrapW;rw [if_neg c]
   rw [e] at h ⊢;refine p.al ?_ n d r x h1 (by omega) hx h;cases z:t.mu false with
   | false=>rfl
   | true =>
     exfalso
     apply c
     rw [z];rfl
theorem mu_ao (t:T):t.mu true=t.ao:=by cases t<;>rfl
theorem ZgQ (us:Ts):(T.al us).words lo=(partsW (Str.ofString "and") (fun t=>wrapW t.ao lo (t.words lo)) us.toL).drop 1:=by show (us.words lo true).drop 1=_;rw [Ts.words_eq];unfold partsW;simp only [mu_ao];rfl
theorem ZhN (us:Ts):(T.on us).words lo=(partsW (Str.ofString "or") (fun t=>wrapW (t.mu false) lo (t.words lo)) us.toL).drop 1:=by show (us.words lo false).drop 1=_;rw [Ts.words_eq];rfl
theorem Zjc (us:Ts){t:T}(h:t∈us.toL):t.dep≤us.dep:=by obtain ⟨i,hi⟩:=List.getElem?_of_mem h;exact Zf8 us hi
theorem T.nums_pos (t:T):0<t.nums.length:=by cases t<;>exact Nat.succ_pos _
theorem Ts.len_nums:∀ us:Ts,us.toL.length≤us.nums.length
 | .nil=>Nat.le_refl _
 | .cons t r=>by
   have h1:=T.nums_pos t;have h2:=Ts.len_nums r;show r.toL.length+1≤(t.nums++r.nums).length;rw [List.length_append];omega
mutual
theorem T.parse (hN:∀ x∈N,nameB x=true):∀ t:T,t.ok N→t.nums.length≤ts.length→Par ts lo t
 | .ev,_,_=>Par.of rfl fun n d r h1 _ h=>by
   match n,h1 with
   | 0,h1=>omega
   | n+1,_ =>
     obtain ⟨h0,_⟩:=h;unfold pPiece;rw [h0,if_neg (fun z=>z.1.elim (by decide +kernel) (by decide +kernel)),if_pos rfl];rfl
 | .no,_,_=>Par.of rfl fun n d r h1 _ h=>by
   match n,h1 with
   | 0,h1=>omega
   | n+1,_ =>
     obtain ⟨h0,_⟩:=h;unfold pPiece;rw [h0,if_neg (fun z=>z.1.elim (by decide +kernel) (by decide +kernel)),if_neg (by decide +kernel),if_pos rfl];rfl
 | .inn x l hh,o,_=>Par.of rfl fun n d r h1 _ h=>by
   unfold T.ok at o;obtain ⟨o1,o2,o3,o4,o5⟩:=o;have nn:=hN x o1;have ne:∀ w,nameB w=false→x≠w:=fun w hw z=>by rw [z,hw] at nn;cases nn
   obtain ⟨f1,f2⟩:=ZdN o2 o3;obtain ⟨g1,g2⟩:=ZdN o4 o5
   match n,h1 with
   | 0,h1=>omega
   | n + 1,_ =>
     unfold T.words at h ⊢;by_cases c:l=hh
     · rw [if_pos c] at h ⊢
       obtain ⟨h0,h1,h2,_⟩:=h;unfold pPiece;rw [h0,if_neg (fun z=>z.1.elim (ne _ (by decide +kernel)) (ne _ (by decide +kernel))),if_neg (ne _ (by decide +kernel)),if_neg (ne _ (by decide +kernel)),if_pos nn];unfold pWithin;rw [h1,if_pos rfl];have e2:pFig ts (r+1+1)=.inr (l,r+1+1+1):=by unfold pFig;rw [h2,if_pos f1,f2]
       rw [e2,← c];rfl
     · rw [if_neg c] at h ⊢
       obtain ⟨h0,h1,h2,h3,h4,_⟩:=h;unfold pPiece;rw [h0,if_neg (fun z=>z.1.elim (ne _ (by decide +kernel)) (ne _ (by decide +kernel))),if_neg (ne _ (by decide +kernel)),if_neg (ne _ (by decide +kernel)),if_pos nn];unfold pWithin;rw [h1,if_neg (by decide +kernel)];have e1:pPass ts (Str.ofString "from") (r+1)=.inr (r+1+1):=if_pos h1;have e2:pFig ts (r+1+1)=.inr (l,r+1+1+1):=by unfold pFig;rw [h2,if_pos f1,f2]
       have e3:pPass ts (Str.ofString "to") (r+1+1+1)=.inr (r+1+1+1+1):=if_pos h3;have e4:pFig ts (r+1+1+1+1)=.inr (hh,r+1+1+1+1+1):=by unfold pFig;rw [h4,if_pos g1,g2]
       rw [e1];simp only [bnd,e2,e3,e4];rfl
 | .opp t,o,hn=>Par.of rfl fun n d r h1 h2 h=>by
   unfold T.ok at o;have hn:t.nums.length+1≤ts.length:=hn;have ih:=T.parse hN t o (by omega);have h2:d+(t.dep+2)≤20:=h2
   match n,h1 with
   | 0,h1=>omega
   | n+1,h1 =>
     obtain ⟨h0,h⟩:=h;have e:=ih.wr (m:=t.ao) (fun z=>z) (n:=n) (d:=d+1) (r:=r+1) (by omega) (by omega) h;unfold pPiece;rw [h0,if_pos ⟨.inl rfl,by omega⟩,if_pos rfl,e];show Sum.inr (T.opp t,r+1+(wrapW t.ao lo (t.words lo)).length)=Sum.inr (T.opp t,r+((wrapW t.ao lo (t.words lo)).length+1));congr 2
     omega
 | .al us,o,hn=>by
   unfold T.ok at o;have hn:us.nums.length+1≤ts.length:=hn;have ih:=Ts.parse hN us o.2 (by omega);have lk:=Ts.len_nums us;have A:∀ n d r x,20<n+d→d+(T.al us).dep≤20→x≠Str.ofString "and"→Ws ts r ((T.al us).words lo++[x])→pChain (pPiece ts n d) (Str.ofString "and") .al ts r=.inr (T.al us,r+((T.al us).words lo).length):=fun n d r x h1 h2 hx h=>by
     have h2:d+(us.dep+1)≤20:=h2;rw [ZgQ] at h ⊢;exact ZbP hx us o.1.1 (by omega) (fun t ht r x _ hw=>(ih t ht).wr (fun z=>z) h1 (by have:=Zjc us ht;omega) (ws_app.mp hw).1) h
   exact ⟨fun n d r x h1 h2 h3 h4 h=>Zbf (A n d r x h1 h2 h3 h) (by rw [(ws_app.mp h).2.1];exact h4),(fun z=>(by cases z)),fun _=>A⟩
 | .on us,o,hn=>by
   unfold T.ok at o;have hn:us.nums.length+1≤ts.length:=hn;have ih:=Ts.parse hN us o.2 (by omega);have lk:=Ts.len_nums us;refine ⟨fun n d r x h1 h2 h3 h4 h=>?_,(fun z=>(by cases z)),(fun z=>(by cases z))⟩;have h2:d+(us.dep+1)≤20:=h2;rw [ZhN] at h ⊢;unfold pChains;exact ZbP h4 us o.1.1 (by omega) (fun t ht r y hy hw=>(ih t ht).it h1 (by have:=Zjc us ht;omega) (by rcases hy with hy | hy;(rw [hy];decide +kernel);(rw [hy];exact h3)) hw) h
theorem Ts.parse (hN:∀ x∈N,nameB x=true):∀ us:Ts,us.ok N→us.nums.length≤ts.length→∀ t∈us.toL,Par ts lo t
 | .nil,_,_,t,h=>by cases h
 | .cons a r,o,hn,t,h=>by
   unfold Ts.ok at o;have hn:(a.nums++r.nums).length≤ts.length:=hn;rw [List.length_append] at hn;have h1:=T.parse hN a o.1 (by omega);have h2:=Ts.parse hN r o.2 (by omega);rcases List.mem_cons.mp h with e | h
   · rw [e]
     exact h1
   · exact h2 t h
end
end
structure PW (p:Str→Prop)(N:List Str):Prop where
 a:p (Str.ofString "(")∧p (Str.ofString ")")∧p (Str.ofString "all")∧p (Str.ofString "none")∧p (Str.ofString "is")∧p (Str.ofString "from")∧p (Str.ofString "to")∧p (Str.ofString "not")∧p (Str.ofString "and")∧p (Str.ofString "or")
 n:∀ x∈N,p x
 f:∀ n:Int,0≤n→n<10^12→p (toString n:Str)
theorem ZhI {p:Str→Prop} {N:List Str} (A:PW p N) {m:Bool} {lo:Int} {ws:List Str} (h:∀ w∈ws,p w):∀ w∈wrapW m lo ws,p w:=fun w hw=>by
 unfold wrapW at hw;split at hw
 · rcases List.mem_cons.mp hw with rfl | hw
   · exact A.a.1
   · rcases List.mem_append.mp hw with hw | hw
     · exact h w hw
     · rw [List.mem_singleton.mp hw]
       exact A.a.2.1
 · exact h w hw
section
variable {p:Str→Prop}{N:List Str}
mutual
theorem T.words_all (A:PW p N)(lo:Int):∀ t:T,t.ok N→∀ w∈t.words lo,p w
 | .ev,_,w,hw=>by rw [List.mem_singleton.mp hw];exact A.a.2.2.1
 | .no,_,w,hw=>by rw [List.mem_singleton.mp hw];exact A.a.2.2.2.1
 | .inn x l h,o,w,hw=>by
   unfold T.ok at o;obtain ⟨o1,o2,o3,o4,o5⟩:=o;unfold T.words at hw;obtain ⟨_,_,_,_,a1,a2,a3,_⟩:=A.a;have n1:=A.f l o2 o3;have n2:=A.f h o4 o5;have n3:=A.n x o1;split at hw
   · simp only [List.mem_cons,List.not_mem_nil,or_false] at hw
     rcases hw with rfl | rfl | rfl<;>assumption
   · simp only [List.mem_cons,List.not_mem_nil,or_false] at hw
     rcases hw with rfl | rfl | rfl | rfl | rfl<;>assumption
 | .opp t,o,w,hw=>by
   unfold T.ok at o;unfold T.words at hw;rcases List.mem_cons.mp hw with rfl | hw
   · exact A.a.2.2.2.2.2.2.2.1
   · exact ZhI A (T.words_all A lo t o) w hw
 | .al ts,o,w,hw=>by
   unfold T.ok at o;unfold T.words at hw;exact Ts.words_all A lo true ts o.2 w (List.mem_of_mem_drop hw)
 | .on ts,o,w,hw=>by
   unfold T.ok at o;unfold T.words at hw;exact Ts.words_all A lo false ts o.2 w (List.mem_of_mem_drop hw)
theorem Ts.words_all (A:PW p N)(lo:Int)(a:Bool):∀ ts:Ts,ts.ok N→∀ w∈ts.words lo a,p w
 | .nil,_,w,hw=>by unfold Ts.words at hw;cases hw
 | .cons t r,o,w,hw=>by
   unfold Ts.ok at o;unfold Ts.words at hw;rcases List.mem_cons.mp hw with rfl | hw
   · cases a
     · exact A.a.2.2.2.2.2.2.2.2.2
     · exact A.a.2.2.2.2.2.2.2.2.1
   · rcases List.mem_append.mp hw with hw | hw
     · exact ZhI A (T.words_all A lo t o.1) w hw
     · exact Ts.words_all A lo a r o.2 w hw
end
theorem Zjp (m:Bool)(lo:Int)(ws:List Str):ws.length≤(wrapW m lo ws).length:=by
 unfold wrapW;split
 · rw [List.length_cons,List.length_append]
   show _≤_+1+1;omega
 · exact Nat.le_refl _
mutual
theorem T.nums_words (lo:Int):∀ t:T,t.ok N→t.nums.length≤(t.words lo).length
 | .ev,_=>Nat.le_refl 1
 | .no,_=>Nat.le_refl 1
 | .inn x l h,_=>by
   unfold T.words;split<;>exact Nat.succ_le_succ (Nat.zero_le _)
 | .opp t,o=>by
   unfold T.ok at o;have h1:=T.nums_words lo t o;have h2:=Zjp t.ao lo (t.words lo);show t.nums.length+1≤(wrapW t.ao lo (t.words lo)).length+1;omega
 | .al ts,o=>by
   unfold T.ok at o;have h1:=Ts.nums_words lo true ts o.2;have h2:=o.1.1;show ts.nums.length+1≤((ts.words lo true).drop 1).length;rw [List.length_drop];omega
 | .on ts,o=>by
   unfold T.ok at o;have h1:=Ts.nums_words lo false ts o.2;have h2:=o.1.1;show ts.nums.length+1≤((ts.words lo false).drop 1).length;rw [List.length_drop];omega
theorem Ts.nums_words (lo:Int)(a:Bool):∀ ts:Ts,ts.ok N→ts.nums.length+ts.toL.length≤(ts.words lo a).length
 | .nil,_=>Nat.le_refl 0
 | .cons t r,o=>by
   unfold Ts.ok at o;have h1:=T.nums_words lo t o.1;have h2:=Zjp (t.mu a) lo (t.words lo);have h3:=Ts.nums_words lo a r o.2;show (t.nums++r.nums).length+(r.toL.length+1)≤(wrapW (t.mu a) lo (t.words lo)++r.words lo a).length+1;rw [List.length_append,List.length_append];omega
end
end
theorem ZfJ:∀ c∈letS.cps.toList,¬ sepC c:=by decide +kernel
theorem Zd0:∀ c∈figS.cps.toList,¬ sepC c:=by decide +kernel
theorem pw_ok {N:List Str}(hN:∀ x∈N,nameB x=true):PW (fun w=>okw w=true) N:=by
 refine ⟨by decide +kernel,fun x hx=>?_,fun n h0 h1=>?_⟩
 · have h:=hN x hx
   have h':=h;unfold nameB at h';simp only [Bool.and_eq_true] at h';show (_||_||plainW x)=true;rw [ZcN ZfJ (Zb8 h) h'.1.2,Bool.or_true]
 · have h:=(ZdN h0 h1).1
   have h':=h;unfold figB at h';simp only [Bool.and_eq_true] at h';show (_||_||plainW _)=true;rw [ZcN Zd0 (Zcc h) h'.1.2,Bool.or_true]
theorem ofS_app {a b s:Str}(h:ofS a s=true)(k:ofS b s=true):ofS (a++b) s=true:=by
 unfold ofS at *;have e:(a++b).cps.toList=a.cps.toList++b.cps.toList:=by show (a.cps++b.cps).toList=_;exact Array.toList_append
 rw [e,List.all_append,h,k];rfl
theorem sg_let (n:Int)(h0:0≤n)(h1:n<26):ofS (sgS n) letS=true:=by
 obtain ⟨m,rfl⟩:=Int.eq_ofNat_of_zero_le h0;have:∀ m:Fin 26,ofS (sgS ((m.val:Nat):Int)) letS=true:=by decide +kernel
 exact this ⟨m,by omega⟩
theorem lw_let (x:Int)(size k:Nat):∀ j,ofS (lwS x size k j) letS=true
 | 0=>by show ofS (Str.ofString "") letS=true;decide +kernel
 | j+1=>ofS_app (lw_let x size k j) (sg_let _ (Int.emod_nonneg _ (by decide)) (Int.emod_lt_of_pos _ (by decide)))
theorem ws8_x:∀ w:Str,inV (.str w) ws8=true→nameB (w++Str.ofString "x")=true:=fun w h=>by
 have:w=Str.ofString "and"∨w=Str.ofString "or"∨w=Str.ofString "not"∨w=Str.ofString "all"∨w=Str.ofString "none"∨w=Str.ofString "is"∨w=Str.ofString "from"∨w=Str.ofString "to":=by have h:(eqV (.str (Str.ofString "and")) (.str w)||(eqV (.str (Str.ofString "or")) (.str w)||(eqV (.str (Str.ofString "not")) (.str w)||(eqV (.str (Str.ofString "all")) (.str w)||(eqV (.str (Str.ofString "none")) (.str w)||(eqV (.str (Str.ofString "is")) (.str w)||(eqV (.str (Str.ofString "from")) (.str w)||(eqV (.str (Str.ofString "to")) (.str w)||false))))))))=true:=h;simp only [Bool.or_eq_true,ZeH,Bool.or_false,eq_comm (b:=w)] at h;exact h
 rcases this with rfl | rfl | rfl | rfl | rfl | rfl | rfl | rfl<;>decide +kernel
theorem nm_names (ns:List Int){m:Int}(h1:0<m)(h2:m≤8):∀ x∈nms ns m,nameB x=true:=fun w hw=>by
 unfold nms at hw;obtain ⟨k,_,rfl⟩:=List.mem_map.mp hw;have m0:1≤nmsX (mixI (ns.getD 0 0) 0) m∧nmsX (mixI (ns.getD 0 0) 0) m≤8:=by unfold nmsX;have:=Int.emod_lt_of_pos (mixI (ns.getD 0 0) 0) h1;have:=Int.emod_nonneg (mixI (ns.getD 0 0) 0) (b:=m) (by omega);omega
 unfold nmK nmOf;have l:=ZeI (mixI (ns.getD 0 0) 0) (nmsX (mixI (ns.getD 0 0) 0) m) k (nmsX (mixI (ns.getD 0 0) 0) m);have lt:=lw_let (mixI (ns.getD 0 0) 0) (nmsX (mixI (ns.getD 0 0) 0) m) k (nmsX (mixI (ns.getD 0 0) 0) m);generalize lwS (mixI (ns.getD 0 0) 0) (nmsX (mixI (ns.getD 0 0) 0) m) k (nmsX (mixI (ns.getD 0 0) 0) m)=w at l lt;split
 · rename_i c
   exact ws8_x w c
 · rename_i c
   unfold nameB;rw [l,lt,decide_eq_true m0.1,decide_eq_true m0.2,Bool.eq_false_iff.mpr c];rfl
def bAnd:Str:=Str.ofString " and "
def bOr:Str:=Str.ofString " or "
def brk (m:Bool)(z:Str):Str:=if m=true then Str.ofString "("++z++Str.ofString ")" else z
mutual
def T.shown:T→Str
 | .ev=>Str.ofString "all"
 | .no=>Str.ofString "none"
 | .inn x l h=>if l=h then x++Str.ofString " is "++toString l else x++Str.ofString " from "++toString l++Str.ofString " to "++toString h
 | .opp t=>Str.ofString "not "++brk t.ao t.shown
 | .al ts=>ts.shown true
 | .on ts=>ts.shown false
def Ts.shown (a:Bool):Ts→Str
 | .nil=>emS
 | .cons t .nil=>brk (t.mu a) t.shown
 | .cons t (.cons t2 r)=>brk (t.mu a) t.shown++(if a=true then bAnd else bOr)++(Ts.cons t2 r).shown a
end
def Scan (z:Str)(ws:List Str):Prop:=∀ ds,(scn (ds,emS) z.cps.toList).1++ew (scn (ds,emS) z.cps.toList).2=ds++ws
theorem scn_blk (s:List Str × Str):scn s blk.cps.toList=(s.1++ew s.2,emS):=by
 have e:blk.cps.toList=[32]:=by decide +kernel
 rw [e];show stp s 32=_;unfold stp;rw [if_pos (show sepC 32 from .inl rfl),if_pos rfl,List.append_nil]
theorem Scan.app {a b:Str}{u v:List Str}(ha:Scan a u)(hb:Scan b v):Scan (a++blk++b) (u++v):=fun ds=>by
 rw [Zcg,Zcg,scn_blk,ha ds,hb (ds++u),List.append_assoc]
theorem Scan.word {w:Str}(h:plainW w=true):Scan w [w]:=fun ds=>by
 unfold plainW at h;simp only [Bool.and_eq_true,Bool.not_eq_true',decide_eq_false_iff_not,List.all_eq_true] at h;rw [Zd1 _ _ _ h.2];have e:emS++(⟨⟨w.cps.toList⟩⟩:Str)=w:=Ziy w;rw [e];show ds++ew w=_;unfold ew;rw [if_neg h.1.2]
theorem Zja (s:List Str × Str){c:Nat}(h:c=40∨c=41):scn s [c]=(s.1++ew s.2++[⟨#[c]⟩],emS):=by show stp s c=_;unfold stp;rw [if_pos (show sepC c from .inr h),if_neg (by omega)]
theorem Scan.brk {z:Str}{ws:List Str}(h:Scan z ws)(m:Bool):Scan (My.brk m z) (wrapW m 0 ws):=fun ds=>by
 unfold My.brk wrapW wrapB;cases m with
 | false=>exact h ds
 | true =>
   rw [if_pos rfl,Bool.true_or,if_pos rfl,Zcg,Zcg];have e1:(Str.ofString "(").cps.toList=[40]:=by decide +kernel
   have e2:(Str.ofString ")").cps.toList=[41]:=by decide +kernel
   rw [e1,e2,Zja _ (.inl rfl),ZeN,List.append_nil,Zja _ (.inr rfl),h,ZeN,List.append_nil];have e3:Str.ofString "("=⟨#[40]⟩:=by decide +kernel
   have e4:Str.ofString ")"=⟨#[41]⟩:=by decide +kernel
   rw [e3,e4];simp
theorem bAnd_eq:bAnd=blk++Str.ofString "and"++blk:=by decide +kernel
theorem bOr_eq:bOr=blk++Str.ofString "or"++blk:=by decide +kernel
theorem not_eq:Str.ofString "not "=Str.ofString "not"++blk:=by decide +kernel
theorem is_eq:Str.ofString " is "=blk++Str.ofString "is"++blk:=by decide +kernel
theorem from_eq:Str.ofString " from "=blk++Str.ofString "from"++blk:=by decide +kernel
theorem to_eq:Str.ofString " to "=blk++Str.ofString "to"++blk:=by decide +kernel
theorem plain_w:plainW (Str.ofString "and")=true∧plainW (Str.ofString "or")=true∧plainW (Str.ofString "not")=true∧plainW (Str.ofString "is")=true∧plainW (Str.ofString "from")=true∧plainW (Str.ofString "to")=true∧plainW (Str.ofString "all")=true∧plainW (Str.ofString "none")=true:=by decide +kernel
theorem Zh2 {x:Str}(h:nameB x=true):plainW x=true:=by have h':=h;unfold nameB at h';simp only [Bool.and_eq_true] at h';exact ZcN ZfJ (Zb8 h) h'.1.2
theorem ZfB {n:Int}(h0:0≤n)(h1:n<10^12):plainW (toString n:Str)=true:=by have h:=(ZdN h0 h1).1;have h':=h;unfold figB at h';simp only [Bool.and_eq_true] at h';exact ZcN Zd0 (Zcc h) h'.1.2
section
variable {N:List Str}
mutual
theorem T.scan (hN:∀ x∈N,nameB x=true):∀ t:T,t.ok N→Scan t.shown (t.words 0)
 | .ev,_=>Scan.word plain_w.2.2.2.2.2.2.1
 | .no,_=>Scan.word plain_w.2.2.2.2.2.2.2
 | .inn x l h,o=>by
   unfold T.ok at o;obtain ⟨o1,o2,o3,o4,o5⟩:=o;have n0:=Scan.word (Zh2 (hN x o1));have n1:=Scan.word (ZfB o2 o3);have n2:=Scan.word (ZfB o4 o5);obtain ⟨_,_,_,p1,p2,p3,_⟩:=plain_w;unfold T.shown T.words;by_cases c:l=h
   · rw [if_pos c,if_pos c,is_eq,ZaV,ZaV]
     exact (n0.app (Scan.word p1)).app n1
   · rw [if_neg c,if_neg c,from_eq,to_eq,ZaV,ZaV,ZaV,ZaV]
     exact (((n0.app (Scan.word p2)).app n1).app (Scan.word p3)).app n2
 | .opp t,o=>by
   unfold T.ok at o;have ih:=T.scan hN t o;unfold T.shown T.words;rw [not_eq];exact (Scan.word plain_w.2.2.1).app (ih.brk t.ao)
 | .al ts,o=>by
   unfold T.ok at o;unfold T.shown T.words;exact Ts.scan hN true ts o.2 (by have:=o.1.1;omega)
 | .on ts,o=>by
   unfold T.ok at o;unfold T.shown T.words;exact Ts.scan hN false ts o.2 (by have:=o.1.1;omega)
theorem Ts.scan (hN:∀ x∈N,nameB x=true)(a:Bool):∀ ts:Ts,ts.ok N→0<ts.toL.length→Scan (ts.shown a) ((ts.words 0 a).drop 1)
 | .nil,_,h=>absurd h (Nat.lt_irrefl 0)
 | .cons t .nil,o,_=>by
   unfold Ts.ok at o;have ih:=T.scan hN t o.1;show Scan (My.brk (t.mu a) t.shown) (wrapW (t.mu a) 0 (t.words 0)++[]);rw [List.append_nil];exact ih.brk _
 | .cons t (.cons t2 r),o,_=>by
   unfold Ts.ok at o;have ih:=T.scan hN t o.1;have ih2:=Ts.scan hN a (.cons t2 r) o.2 (Nat.succ_pos _);have e:(Ts.cons t2 r).words 0 a=(if a=true then Str.ofString "and" else Str.ofString "or")::((Ts.cons t2 r).words 0 a).drop 1:=rfl;show Scan (My.brk (t.mu a) t.shown++(if a=true then bAnd else bOr)++(Ts.cons t2 r).shown a) (wrapW (t.mu a) 0 (t.words 0)++(Ts.cons t2 r).words 0 a);rw [e];cases a with
   | true =>
     rw [if_pos rfl,if_pos rfl,bAnd_eq,ZaV,ZaV];have:=((ih.brk (t.mu true)).app (Scan.word plain_w.1)).app ih2;rw [List.append_assoc] at this;exact this
   | false =>
     rw [if_neg Bool.false_ne_true,if_neg Bool.false_ne_true,bOr_eq,ZaV,ZaV];have:=((ih.brk (t.mu false)).app (Scan.word plain_w.2.1)).app ih2;rw [List.append_assoc] at this;exact this
end
end
theorem QAt.objS {C:Kd→Addr}{H:Hp}:∀ (t:T) {v:V},QAt C H t v→∃ p dx fs,v=.ref p∧H p=some (.ins (C t.kd) dx fs)∧fs.lookup ("shown":Str)=none
 | .ev,_,h=>by
   unfold QAt at h;obtain ⟨p,dx,q,r⟩:=h;exact ⟨p,dx,_,q,r,rfl⟩
 | .no,_,h=>by
   unfold QAt at h;obtain ⟨p,dx,q,r⟩:=h;exact ⟨p,dx,_,q,r,rfl⟩
 | .inn _ _ _,_,h=>by
   unfold QAt at h;obtain ⟨p,dx,q,r⟩:=h;exact ⟨p,dx,_,q,r,rfl⟩
 | .opp t,_,h=>by
   unfold QAt at h;obtain ⟨p,dx,u,q,r,_⟩:=h;exact ⟨p,dx,_,q,r,rfl⟩
 | .al ts,_,h=>by
   unfold QAt at h;obtain ⟨p,dx,l,us,q,r,_⟩:=h;exact ⟨p,dx,_,q,r,rfl⟩
 | .on ts,_,h=>by
   unfold QAt at h;obtain ⟨p,dx,l,us,q,r,_⟩:=h;exact ⟨p,dx,_,q,r,rfl⟩
theorem Zdn (m:Bool)(z:Str):(brk m z).length≤z.length+2:=by
 unfold brk;split
 · rw [ZaH,ZaH]
   show 1+_+1≤_;omega
 · omega
section
variable {N:List Str}
mutual
theorem T.shown_len (hN:Ok20 N):∀ t:T,t.ok N→t.shown.length+10≤80*t.nums.length
 | .ev,_=>by show 3+10≤80*1;decide
 | .no,_=>by show 4+10≤80*1;decide
 | .inn x l h,o=>by
   unfold T.ok at o;obtain ⟨o1,o2,o3,o4,o5⟩:=o;have n1:=ZcS o2 o3;have n2:=ZcS o4 o5;have n3:=hN x o1;unfold T.shown;show _+10≤80*1;split
   · rw [ZaH,ZaH]
     show _+4+_+10≤_;omega
   · rw [ZaH,ZaH,ZaH,ZaH]
     show _+6+_+4+_+10≤_;omega
 | .opp t,o=>by
   unfold T.ok at o;have h1:=T.shown_len hN t o;have h2:=Zdn t.ao t.shown;unfold T.shown;show _+10≤80*(t.nums.length+1);rw [ZaH];show 4+_+10≤_;omega
 | .al ts,o=>by
   unfold T.ok at o;have h1:=Ts.shown_len hN true ts o.2;unfold T.shown;show _+10≤80*(ts.nums.length+1);omega
 | .on ts,o=>by
   unfold T.ok at o;have h1:=Ts.shown_len hN false ts o.2;unfold T.shown;show _+10≤80*(ts.nums.length+1);omega
theorem Ts.shown_len (hN:Ok20 N)(a:Bool):∀ ts:Ts,ts.ok N→(ts.shown a).length≤80*ts.nums.length
 | .nil,_=>Nat.le_refl 0
 | .cons t .nil,o=>by
   unfold Ts.ok at o;have h1:=T.shown_len hN t o.1;have h2:=Zdn (t.mu a) t.shown;show (brk (t.mu a) t.shown).length≤80*(t.nums++[]).length;rw [List.append_nil];omega
 | .cons t (.cons t2 r),o=>by
   unfold Ts.ok at o;have h1:=T.shown_len hN t o.1;have h2:=Zdn (t.mu a) t.shown;have h3:=Ts.shown_len hN a (.cons t2 r) o.2;show (brk (t.mu a) t.shown++(if a=true then bAnd else bOr)++(Ts.cons t2 r).shown a).length≤80*(t.nums++(Ts.cons t2 r).nums).length;rw [ZaH,ZaH,List.length_append];have h4:(if a=true then bAnd else bOr).length≤5:=by cases a<;>decide +kernel
   omega
end
end
theorem Zed {N:List Str}(hN:Ok20 N)(a:Bool):∀ ts:Ts,ts.ok N→((ts.toL.map fun t=>brk (t.mu a) t.shown).map (·.length)).sum≤80*ts.nums.length
 | .nil,_=>Nat.le_refl 0
 | .cons t r,o=>by
   unfold Ts.ok at o;have h1:=T.shown_len hN t o.1;have h2:=Zdn (t.mu a) t.shown;have h3:=Zed hN a r o.2;show (brk (t.mu a) t.shown).length+((r.toL.map fun t=>brk (t.mu a) t.shown).map (·.length)).sum≤80*(t.nums++r.nums).length;rw [List.length_append];omega
theorem Zht (g:Array Nat):∀ (l:List Str) (a b:Array Nat),l.foldl (fun acc (p:Str)=>acc++g++p.cps) (a++b)=a++l.foldl (fun acc (p:Str)=>acc++g++p.cps) b
 | [],_,_=>rfl
 | x::l,a,b=>by
   rw [List.foldl_cons,List.foldl_cons,← Zht g l a (b++g++x.cps)];congr 1
   rw [Array.append_assoc,Array.append_assoc,Array.append_assoc]
theorem join_two (g a b:Str)(r:List Str):Txt.join g (a::b::r)=a++g++Txt.join g (b::r):=by
 show (⟨r.foldl (fun acc (p:Str)=>acc++g.cps++p.cps) (a.cps++g.cps++b.cps)⟩:Str)=⟨a.cps++g.cps++r.foldl (fun acc (p:Str)=>acc++g.cps++p.cps) b.cps⟩
 rw [Zht g.cps r (a.cps++g.cps) b.cps]
theorem Zdd (a:Bool):∀ ts:Ts,Txt.join (if a=true then bAnd else bOr) (ts.toL.map fun t=>brk (t.mu a) t.shown)=ts.shown a
 | .nil=>by
   cases a<;>decide +kernel
 | .cons t .nil=>rfl
 | .cons t (.cons t2 r)=>by
   show Txt.join _ (brk (t.mu a) t.shown::brk (t2.mu a) t2.shown::r.toL.map fun t=>brk (t.mu a) t.shown)=_;rw [join_two];have ih:=Zdd a (.cons t2 r);have ih:Txt.join (if a=true then bAnd else bOr) (brk (t2.mu a) t2.shown::r.toL.map fun t=>brk (t.mu a) t.shown)=_:=ih;rw [ih];rfl
def Kd.isA:Kd→Bool
 | .al=>true
 | _=>false
def Kd.isO:Kd→Bool
 | .on=>true
 | _=>false
theorem ao_kd (t:T):t.ao=(t.kd.isA||t.kd.isO):=by cases t<;>rfl
theorem mu_kd (t:T):t.mu false=t.kd.isO:=by cases t<;>rfl
structure SQ (K:PySem.W.Frag)(mg:Str→Option Value)(C:Kd→Addr):Prop where
 c:∀ k,Cls K (C k)
 t:∀ k,TyIns K (C k)
 gA:mg "AllOf"=some (.ref (C .al))
 gO:mg "OneOf"=some (.ref (C .on))
 iA:∀ k,IsiTo K mg (C k) "AllOf" k.isA
 iO:∀ k,IsiTo K mg (C k) "OneOf" k.isO
def spShown (C:Kd→Addr)(N:List Str)(n:Nat)(k:Kd):Sp:=fun vs H Q _=>∃ (t:T) (v:V),vs=[v]∧t.kd=k∧QAt C H t v∧t.ok N∧t.dep<n∧t.nums.length≤200∧∀ H',Same H H'→Q (.str t.shown) H'
def spShownIn (C:Kd→Addr)(N:List Str)(n:Nat):Sp:=fun vs H Q _=>∃ (t:T) (v:V) (m:Bool),vs=[v,.bl m]∧QAt C H t v∧t.ok N∧t.dep<n∧t.nums.length≤200∧∀ H',Same H H'→Q (.str (brk m t.shown)) H'
section
variable {P:Program}{w:World}{K:PySem.W.Frag}{mg:Str→Option Value}{base:Heap}{C:Kd→Addr}{N:List Str}{n:Nat}
theorem ZhK (hN:Ok20 N)(ih:∀ k,MethAt P w K mg base (C k) "shown" ["self"] (2*n+1) (spShown C N n k))(d:DefAt K mg "shown_in" Zb9 ["question","in_brackets"]):FnAt P w K mg base "shown_in" ["question","in_brackets"] (2*n+2) (spShownIn C N n):=by
 refine FnAt.of d ZhJ (fun vs H Q E h=>?_) (fun f cdv A outer s H vs Q E hr h=>?_)
 · obtain ⟨t,v,m,rfl,_⟩:=h
   rfl
 obtain ⟨t,v,m,rfl,hq,ok,hd,hn,q⟩:=h;have sl:=T.shown_len hN t ok;obtain ⟨p1,dx1,fs,rfl,h1,lk⟩:=QAt.objS t hq;refine ⟨_,(Zae (Zam (ZdJ (Zdc (pv 1)) (Zar ZaE (Zar ZaE Zaf (Zax (P:=P) (w:=w) (K:=K) (mg:=mg) (base:=base) (2*n+1) (hr.mono (by omega)) (pv 0))) Zaf) (Zax (P:=P) (w:=w) (K:=K) (mg:=mg) (base:=base) (2*n+1) (hr.mono (by omega)) (pv 0))))),?_⟩;walk_at "vc";cases m with
 | true =>
   rw [if_pos rfl];refine ⟨_,_,_,h1,lk,_,_,ih t.kd,t,_,rfl,rfl,hq,ok,hd,hn,fun H' s'=>?_⟩;exact ⟨_,rfl,small5 (by show 1+_≤_;omega),small5 (by rw [ZaH];show 1+_+1≤_;omega),q H' s'⟩
 | false =>
   rw [if_neg Bool.false_ne_true];exact ⟨_,_,_,h1,lk,_,_,ih t.kd,t,_,rfl,rfl,hq,ok,hd,hn,fun H' s'=>q H' s'⟩
theorem ZiF (cd:CD_Every K mg (C .ev))(n:Nat):MethAt P w K mg base (C .ev) "shown" ["self"] (2*n+1) (spShown C N n .ev):=by
 refine MethAt.of cd.c cd.m_shown Ze9 (fun vs H Q E h=>?_) (fun f cdv A outer s H vs Q E hr h=>?_)
 · obtain ⟨t,v,rfl,_⟩:=h
   rfl
 obtain ⟨t,v,rfl,hk,hq,ok,hd,hn,q⟩:=h;refine ⟨_,(Zae (Zam Zaf)),?_⟩;walk_at "vc";cases t with
 | ev=>exact q H (Same.refl _)
 | _=>cases hk
theorem ZiO (cd:CD_Nobody K mg (C .no))(n:Nat):MethAt P w K mg base (C .no) "shown" ["self"] (2*n+1) (spShown C N n .no):=by
 refine MethAt.of cd.c cd.m_shown Zet (fun vs H Q E h=>?_) (fun f cdv A outer s H vs Q E hr h=>?_)
 · obtain ⟨t,v,rfl,_⟩:=h
   rfl
 obtain ⟨t,v,rfl,hk,hq,ok,hd,hn,q⟩:=h;refine ⟨_,(Zae (Zam Zaf)),?_⟩;walk_at "vc";cases t with
 | no=>exact q H (Same.refl _)
 | _=>cases hk
theorem Zjr (B:Blt mg)(hN:Ok20 N)(cd:CD_Within K mg (C .wi))(n:Nat):MethAt P w K mg base (C .wi) "shown" ["self"] (2*n+1) (spShown C N n .wi):=by
 refine MethAt.of cd.c cd.m_shown Zex (fun vs H Q E h=>?_) (fun f cdv A outer s H vs Q E hr h=>?_)
 · obtain ⟨t,v,rfl,_⟩:=h
   rfl
 obtain ⟨t,v,rfl,hk,hq,ok,hd,hn,q⟩:=h;refine ⟨_,(Zab (Zau (Zai Zat (ZaG K (pv 0)) (ZaG K (pv 0)) (nomark _)) (Zae (Zam (Zar ZaE (Zar ZaE (ZaG K (pv 0)) Zaf) (ZaK Za5 rfl B.str boot_str (Zaa (ZaG K (pv 0)) Zac))))) Zap)
     (Zae (Zam (Zar ZaE (Zar ZaE (Zar ZaE (Zar ZaE (ZaG K (pv 0)) Zaf) (ZaK Za5 rfl B.str boot_str (Zaa (ZaG K (pv 0)) Zac))) Zaf) (ZaK Za5 rfl B.str boot_str (Zaa (ZaG K (pv 0)) Zac)))))),?_⟩
 cases t with
 | inn x lo hi =>
   obtain ⟨p,dx,rfl,hp⟩:=hq;unfold T.ok at ok;obtain ⟨o1,o2,o3,o4,o5⟩:=ok;have n1:=ZcS o2 o3;have n2:=ZcS o4 o5;have n3:=hN x o1;have q:=q H (Same.refl _);unfold T.shown at q;walk_at "vc";refine ⟨_,_,_,hp,cd.c,cd.n_low,_,rfl,_,_,_,hp,cd.c,cd.n_high,_,rfl,rfl,?_⟩;by_cases c:lo=hi
   · rw [if_pos (by rw [c])]
     rw [if_pos c] at q;exact ⟨_,_,_,hp,cd.c,cd.n_name,_,rfl,_,rfl,small5 (by show _+4≤_;omega),_,_,_,hp,cd.c,cd.n_low,_,rfl,_,rfl,Za4 o2 o3,small5 (by rw [ZaH];show _+4+_≤_;omega),q⟩
   · rw [if_neg (fun z=>c (V.int.inj z))]
     rw [if_neg c] at q;exact ⟨_,_,_,hp,cd.c,cd.n_name,_,rfl,_,rfl,small5 (by show _+6≤_;omega),_,_,_,hp,cd.c,cd.n_low,_,rfl,_,rfl,Za4 o2 o3,small5 (by rw [ZaH];show _+6+_≤_;omega),small5 (by rw [ZaH,ZaH];show _+6+_+4≤_;omega),_,_,_,hp,cd.c,cd.n_high,_,rfl,_,rfl,Za4 o4 o5,small5 (by rw [ZaH,ZaH,ZaH];show _+6+_+4+_≤_;omega),q⟩
 | _=>cases hk
theorem ok_s_op (B:Blt mg)(S:SQ K mg C)(hN:Ok20 N)(h_shown_in:FnAt P w K mg base "shown_in" ["question","in_brackets"] (2*n+2) (spShownIn C N n))(cd:CD_Opposite K mg (C .op)):MethAt P w K mg base (C .op) "shown" ["self"] (2*(n+1)+1) (spShown C N (n+1) .op):=by
 have g_AllOf:=S.gA;have g_OneOf:=S.gO;refine MethAt.of cd.c cd.m_shown ZbN (fun vs H Q E h=>?_) (fun f cdv A outer s H vs Q E hr h=>?_)
 · obtain ⟨t,v,rfl,_⟩:=h
   rfl
 obtain ⟨t,v,rfl,hk,hq,ok,hd,hn,q⟩:=h;refine ⟨_,(Zae (Zam (Zar ZaE Zaf (Zaq h_shown_in (hr.mono (by omega)) rfl (Zaa (ZaG K (pv 0)) (Zaa (Zas (ZfZ K) rfl B.isi ZcE (Zaa (ZaG K (pv 0)) (Zaa (ZbU (Zaa (Zbk (v:=.ref _) rfl g_AllOf rfl) (Zaa (Zbk (v:=.ref _) rfl g_OneOf rfl) Zac))) Zac))) Zac)))))),?_⟩;cases t with
 | opp t =>
   obtain ⟨p,dx,u,rfl,hp,hu⟩:=hq;obtain ⟨p1,dx1,fs,rfl,h1,lk⟩:=QAt.objS t hu;have hd:t.dep+2<n+1:=hd;have hn:t.nums.length+1≤200:=hn;have ok:t.ok N:=ok;have sl:=T.shown_len hN t ok;have bl:=Zdn t.ao t.shown;walk_at "vc";refine ⟨_,_,_,hp,cd.c,cd.n_one,_,rfl,_,_,_,hp,cd.c,cd.n_one,_,rfl,by decide,fun p2 n2=>?_⟩;have s2:=Same.new (o:=.tup [V.ref (C Kd.al),V.ref (C Kd.on)]) n2;refine ⟨_,_,_,_,_,_,_,_,_,rfl,s2 _ _ h1,S.c _,S.t _,Zad,S.iA _ _ S.gA,S.iO _ _ S.gO,t,_,_,rfl,QAt.same s2 t hu,ok,by omega,by omega,fun H3 s3=>?_⟩;rw [← ao_kd];exact ⟨_,rfl,small5 (by show 4+_≤_;omega),q H3 (s2.trans s3)⟩
 | _=>cases hk
theorem ok_s_al (B:Blt mg) (S:SQ K mg C) (hN:Ok20 N) (h_shown_in:FnAt P w K mg base "shown_in" ["question","in_brackets"] (2*n+2) (spShownIn C N n)) (cd:CD_AllOf K mg (C .al)):MethAt P w K mg base (C .al) "shown" ["self"] (2*(n+1)+1) (spShown C N (n+1) .al):=by
 have g_AllOf:=S.gA;have g_OneOf:=S.gO;refine MethAt.of cd.c cd.m_shown ZcA (fun vs H Q E h=>?_) (fun f cdv A outer s H vs Q E hr h=>?_)
 · obtain ⟨t,v,rfl,_⟩:=h
   rfl
 obtain ⟨t,v,rfl,hk,hq,ok,hd,hn,q⟩:=h;refine ⟨_,(Zae (Zam (ZaZ K PySem.F.plainAttrs_str PySem.F.slot_str_join PySem.F.type_str_join (ZiN K) Zaf (Zaa (Zbh ["part"] [] rfl (ZaS K (ZaG K (pv 0))) (fun _ _ _ _ _=>ZaB (i:=0) (by show List.Nodup (["part"]:List Str);decide +kernel) rfl (Or.inl rfl)) (fun _ _ _ _ _=>ZbR) (fun _ _ _ _ _=>(Zaq h_shown_in (hr.mono (by omega)) rfl (Zaa (pv 0) (Zaa (Zas (ZfZ K) rfl B.isi ZcE (Zaa (pv 0) (Zaa (ZbU (Zaa (Zbk (v:=.ref _) rfl g_AllOf rfl) (Zaa (Zbk (v:=.ref _) rfl g_OneOf rfl) Zac))) Zac))) Zac)))) trivial ZaO) Zac)))),?_⟩;cases t with
 | al ts =>
   obtain ⟨p,dx,l,us,rfl,hp,hl,hu⟩:=hq;have dp:ts.dep+1<n+1:=hd;have hn:ts.nums.length+1≤200:=hn;unfold T.ok at ok;have ln:=QsAt.len ts hu;have lk:=Ts.len_nums ts;walk_at "vc";refine ⟨_,_,_,hp,cd.c,cd.n_parts,_,rfl,l,rfl,⟨_,SqL.of hl⟩,compA (xs:=us) (fun i y _=>∀ t,ts.toL[i]?=some t→y=.str (brk (t.mu true) t.shown)) (fun _ _ _ _ _ h=>h) (SqL.of hl) (by omega) (fun i x H2 R hx s2 q2=>?_) (fun D ys H2 hD s2 h2 l2 h3=>?_)⟩
   · obtain ⟨t,ht,hq⟩:=QsAt.at ts hu hx
     obtain ⟨p1,dx1,fs,rfl,h1,lk⟩:=QAt.objS t hq;have dt:=Zf8 ts ht;obtain ⟨_,_,e3⟩:=ZgO 0 true ts ht;walk_at "vc";refine ⟨by decide,fun p2 n2=>?_⟩;have s3:=Same.new (o:=.tup [V.ref (C Kd.al),V.ref (C Kd.on)]) n2;refine ⟨_,_,_,_,_,_,_,_,_,rfl,(s2.trans s3) _ _ h1,S.c _,S.t _,Zad,S.iA _ _ S.gA,S.iO _ _ S.gO,t,_,_,rfl,QAt.same (s2.trans s3) t hq,ok_at ts ht ok.2,by omega,by omega,fun H3 s4=>q2 _ H3 (s3.trans s4) fun t' ht'=>?_⟩;cases ht.symm.trans ht';rw [← ao_kd,mu_ao]
   · have e:ys=(ts.toL.map fun t=>brk (t.mu true) t.shown).map V.str:=by
       refine List.ext_getElem (by rw [List.length_map,List.length_map,l2,ln]) fun i a1 a2=>?_
       rw [List.length_map,List.length_map] at a2;rw [h3 i _ (List.getElem?_eq_getElem a1) _ (List.getElem?_eq_getElem a2),List.getElem_map,List.getElem_map]
     have sm:=Zed hN true ts ok.2;refine ⟨D,rfl,_,SqL.of (e ▸ h2),?_,?_⟩
     · rw [List.length_map]
       show _+_*5≤_;omega
     · have j:=Zdd true ts
       rw [if_pos rfl] at j;show Q (.str (Txt.join bAnd _)) H2;rw [j];exact q H2 s2
 | _=>cases hk
theorem ok_s_on (B:Blt mg) (S:SQ K mg C) (hN:Ok20 N) (h_shown_in:FnAt P w K mg base "shown_in" ["question","in_brackets"] (2*n+2) (spShownIn C N n)) (cd:CD_OneOf K mg (C .on)):MethAt P w K mg base (C .on) "shown" ["self"] (2*(n+1)+1) (spShown C N (n+1) .on):=by
 have g_OneOf:=S.gO;refine MethAt.of cd.c cd.m_shown ZcG (fun vs H Q E h=>?_) (fun f cdv A outer s H vs Q E hr h=>?_)
 · obtain ⟨t,v,rfl,_⟩:=h
   rfl
 obtain ⟨t,v,rfl,hk,hq,ok,hd,hn,q⟩:=h;refine ⟨_,(Zae (Zam (ZaZ K PySem.F.plainAttrs_str PySem.F.slot_str_join PySem.F.type_str_join (ZiN K) Zaf (Zaa (Zbh ["part"] [] rfl (ZaS K (ZaG K (pv 0))) (fun _ _ _ _ _=>ZaB (i:=0) (by show List.Nodup (["part"]:List Str);decide +kernel) rfl (Or.inl rfl)) (fun _ _ _ _ _=>ZbR) (fun _ _ _ _ _=>(Zaq h_shown_in (hr.mono (by omega)) rfl (Zaa (pv 0) (Zaa (Zas (ZdR K) rfl B.isi ZcE (Zaa (pv 0) (Zaa (Zbk (v:=.ref _) rfl g_OneOf rfl) Zac))) Zac)))) trivial ZaO) Zac)))),?_⟩;cases t with
 | on ts =>
   obtain ⟨p,dx,l,us,rfl,hp,hl,hu⟩:=hq;have dp:ts.dep+1<n+1:=hd;have hn:ts.nums.length+1≤200:=hn;unfold T.ok at ok;have ln:=QsAt.len ts hu;have lk:=Ts.len_nums ts;walk_at "vc";refine ⟨_,_,_,hp,cd.c,cd.n_parts,_,rfl,l,rfl,⟨_,SqL.of hl⟩,compA (xs:=us) (fun i y _=>∀ t,ts.toL[i]?=some t→y=.str (brk (t.mu false) t.shown)) (fun _ _ _ _ _ h=>h) (SqL.of hl) (by omega) (fun i x H2 R hx s2 q2=>?_) (fun D ys H2 hD s2 h2 l2 h3=>?_)⟩
   · obtain ⟨t,ht,hq⟩:=QsAt.at ts hu hx
     obtain ⟨p1,dx1,fs,rfl,h1,lk⟩:=QAt.objS t hq;have dt:=Zf8 ts ht;obtain ⟨_,_,e3⟩:=ZgO 0 false ts ht;walk_at "vc";refine rIsi_ins (s2 _ _ h1) (S.c _) (S.t _) (S.iO _) S.gO ⟨t,_,_,rfl,QAt.same s2 t hq,ok_at ts ht ok.2,by omega,by omega,fun H3 s4=>q2 _ H3 s4 fun t' ht'=>?_⟩;cases ht.symm.trans ht';rw [mu_kd]
   · have e:ys=(ts.toL.map fun t=>brk (t.mu false) t.shown).map V.str:=by
       refine List.ext_getElem (by rw [List.length_map,List.length_map,l2,ln]) fun i a1 a2=>?_
       rw [List.length_map,List.length_map] at a2;rw [h3 i _ (List.getElem?_eq_getElem a1) _ (List.getElem?_eq_getElem a2),List.getElem_map,List.getElem_map]
     have sm:=Zed hN false ts ok.2;refine ⟨D,rfl,_,SqL.of (e ▸ h2),?_,?_⟩
     · rw [List.length_map]
       show _+_*4≤_;omega
     · have j:=Zdd false ts
       rw [if_neg Bool.false_ne_true] at j;show Q (.str (Txt.join bOr _)) H2;rw [j];exact q H2 s2
 | _=>cases hk
theorem Zkh (B:Blt mg)(S:SQ K mg C)(hN:Ok20 N)(c1:CD_Every K mg (C .ev))(c2:CD_Nobody K mg (C .no))(c3:CD_Within K mg (C .wi))(c4:CD_Opposite K mg (C .op))(c5:CD_AllOf K mg (C .al))(c6:CD_OneOf K mg (C .on))(d:DefAt K mg "shown_in" Zb9 ["question","in_brackets"]):∀ n k,MethAt P w K mg base (C k) "shown" ["self"] (2*n+1) (spShown C N n k):=by
 intro n;induction n with
 | zero =>
   intro k;cases k with
   | ev=>exact ZiF c1 0
   | no=>exact ZiO c2 0
   | wi=>exact Zjr B hN c3 0
   | op=>exact MethAt.of c4.c c4.m_shown ZbN (fun vs H Q E h=>by obtain ⟨t,v,rfl,_⟩:=h;rfl) (fun f cdv A outer s H vs Q E hr h=>by obtain ⟨t,v,rfl,hk,hq,ok,hd,_⟩:=h;omega)
   | al=>exact MethAt.of c5.c c5.m_shown ZcA (fun vs H Q E h=>by obtain ⟨t,v,rfl,_⟩:=h;rfl) (fun f cdv A outer s H vs Q E hr h=>by obtain ⟨t,v,rfl,hk,hq,ok,hd,_⟩:=h;omega)
   | on=>exact MethAt.of c6.c c6.m_shown ZcG (fun vs H Q E h=>by obtain ⟨t,v,rfl,_⟩:=h;rfl) (fun f cdv A outer s H vs Q E hr h=>by obtain ⟨t,v,rfl,hk,hq,ok,hd,_⟩:=h;omega)
 | succ n ih =>
   have si:=ZhK hN ih d;intro k;cases k with
   | ev=>exact ZiF c1 _
   | no=>exact ZiO c2 _
   | wi=>exact Zjr B hN c3 _
   | op=>exact ok_s_op B S hN si c4
   | al=>exact ok_s_al B S hN si c5
   | on=>exact ok_s_on B S hN si c6
end
mutual
def T.nst:T→Nat
 | .opp t=>(if t.ao=true then t.nst+1 else t.nst)+1
 | .al ts=>ts.nst true
 | .on ts=>ts.nst false
 | _=>0
def Ts.nst (a:Bool):Ts→Nat
 | .nil=>0
 | .cons t r=>Nat.max (if t.mu a=true then t.nst+1 else t.nst) (r.nst a)
end
def T.pn (t:T):Nat:=if t.ao=true then t.nst+1 else t.nst
def T.an (t:T):Nat:=if t.mu false=true then t.nst+1 else t.nst
theorem Zgb (a:Bool):∀ (us:Ts) {t:T},t∈us.toL→(if t.mu a=true then t.nst+1 else t.nst)≤us.nst a
 | .nil,t,h=>by cases h
 | .cons x r,t,h=>by
   rcases List.mem_cons.mp h with e | h
   · rw [e]
     exact Nat.le_max_left _ _
   · exact Nat.le_trans (Zgb a r h) (Nat.le_max_right _ _)
theorem Zia (a:Bool){k:Nat}:∀ (l:List T),(∀ t∈l,(if t.mu a=true then t.nst+1 else t.nst)≤k)→(Ts.ofL l).nst a≤k
 | [],_=>Nat.zero_le _
 | t::r,h=>Nat.max_le.mpr ⟨h t List.mem_cons_self,Zia a r fun x hx=>h x (List.mem_cons_of_mem _ hx)⟩
theorem wrap0 (m:Bool)(ws:List Str):wrapW m 0 ws=if m=true then Str.ofString "("::(ws++[Str.ofString ")"]) else ws:=by unfold wrapW wrapB;cases m<;>rfl
section
variable {ts:List Tok}{N:List Str}
structure Pa0 (ts:List Tok)(t:T):Prop where
 ch:∀ n d r x,20<n+d→d+t.nst≤20→x≠Str.ofString "and"→x≠Str.ofString "or"→Ws ts r (t.words 0++[x])→pChains ts n d r=.inr (t,r+(t.words 0).length)
 pc:t.ao=false→∀ n d r,20<n+d→d+t.nst≤20→Ws ts r (t.words 0)→pPiece ts n d r=.inr (t,r+(t.words 0).length)
 al:t.mu false=false→∀ n d r x,20<n+d→d+t.nst≤20→x≠Str.ofString "and"→Ws ts r (t.words 0++[x])→pChain (pPiece ts n d) (Str.ofString "and") .al ts r=.inr (t,r+(t.words 0).length)
theorem Pa0.of {t:T}(ha:t.ao=false)(pc:∀ n d r,20<n+d→d+t.nst≤20→Ws ts r (t.words 0)→pPiece ts n d r=.inr (t,r+(t.words 0).length)):Pa0 ts t :=
 have al:∀ n d r x,20<n+d→d+t.nst≤20→x≠Str.ofString "and"→Ws ts r (t.words 0++[x])→pChain (pPiece ts n d) (Str.ofString "and") .al ts r=.inr (t,r+(t.words 0).length):=fun n d r x h1 h2 h3 h=>Zbf (pc n d r h1 h2 (ws_app.mp h).1) (by rw [(ws_app.mp h).2.1];exact h3)
 ⟨fun n d r x h1 h2 h3 h4 h=>Zbf (al n d r x h1 h2 h3 h) (by rw [(ws_app.mp h).2.1];exact h4),fun _=>pc,fun _=>al⟩
theorem Pa0.wr {t:T}(p:Pa0 ts t){n d r:Nat}(h1:20<n+d)(h2:d+t.pn≤20)(h:Ws ts r (wrapW t.ao 0 (t.words 0))):pPiece ts n d r=.inr (t,r+(wrapW t.ao 0 (t.words 0)).length):=by
 unfold T.pn at h2;rw [wrap0] at h ⊢;cases c:t.ao with
 | true =>
   rw [c,if_pos rfl] at h;rw [if_pos c] at h2;rw [if_pos rfl]
   match n,h1 with
   | 0,h1=>omega
   | n+1,h1 =>
     obtain ⟨h0,h⟩:=h;have e:=p.ch n (d+1) (r+1) (Str.ofString ")") (by omega) (by omega) (by decide +kernel) (by decide +kernel) h;have h3:=(ws_app.mp h).2.1;unfold pPiece;unfold pChains at e;rw [h0,if_pos ⟨.inr rfl,by omega⟩,if_neg (by decide +kernel),e];have e3:pPass ts (Str.ofString ")") (r+1+(t.words 0).length)=.inr (r+1+(t.words 0).length+1):=if_pos h3;simp only [bnd,e3];rw [List.length_cons,List.length_append];show Sum.inr (t,r+1+(t.words 0).length+1)=Sum.inr (t,r+((t.words 0).length+1+1));congr 2
     omega
 | false =>
   rw [c,if_neg Bool.false_ne_true] at h;rw [if_neg (by rw [c];exact Bool.false_ne_true)] at h2;rw [if_neg Bool.false_ne_true];exact p.pc c n d r h1 h2 h
theorem Pa0.it {t:T}(p:Pa0 ts t){n d r:Nat}{x:Str}(h1:20<n+d)(h2:d+t.an≤20)(hx:x≠Str.ofString "and")(h:Ws ts r (wrapW (t.mu false) 0 (t.words 0)++[x])):pChain (pPiece ts n d) (Str.ofString "and") .al ts r=.inr (t,r+(wrapW (t.mu false) 0 (t.words 0)).length):=by
 unfold T.an at h2;cases c:t.mu false with
 | true =>
   rw [c] at h;rw [if_pos c] at h2;have ao:t.ao=true:=by cases t<;>first | rfl | cases c
   obtain ⟨a,b⟩:=ws_app.mp h;have e:=p.wr (n:=n) (d:=d) (r:=r) h1 (by unfold T.pn;rw [if_pos ao];exact h2) (by rw [ao];exact a);rw [ao] at e;exact Zbf e (by rw [b.1];exact hx)
 | false =>
   rw [c] at h;rw [if_neg (by rw [c];exact Bool.false_ne_true)] at h2;have e:wrapW false 0 (t.words 0)=t.words 0:=by rw [wrap0,if_neg Bool.false_ne_true]
   rw [e] at h ⊢;exact p.al c n d r x h1 h2 hx h
mutual
theorem T.pars0 (hN:∀ x∈N,nameB x=true):∀ t:T,t.ok N→t.nums.length≤ts.length→Pa0 ts t
 | .ev,_,_=>Pa0.of rfl fun n d r h1 _ h=>by
   match n,h1 with
   | 0,h1=>omega
   | n+1,_ =>
     obtain ⟨h0,_⟩:=h;unfold pPiece;rw [h0,if_neg (fun z=>z.1.elim (by decide +kernel) (by decide +kernel)),if_pos rfl];rfl
 | .no,_,_=>Pa0.of rfl fun n d r h1 _ h=>by
   match n,h1 with
   | 0,h1=>omega
   | n+1,_ =>
     obtain ⟨h0,_⟩:=h;unfold pPiece;rw [h0,if_neg (fun z=>z.1.elim (by decide +kernel) (by decide +kernel)),if_neg (by decide +kernel),if_pos rfl];rfl
 | .inn x l hh,o,hn=>Pa0.of rfl fun n d r h1 h2 h=>(T.parse hN (.inn x l hh) o hn).pc rfl n d r h1 h2 h
 | .opp t,o,hn=>Pa0.of rfl fun n d r h1 h2 h=>by
   unfold T.ok at o;have hn:t.nums.length+1≤ts.length:=hn;have ih:=T.pars0 hN t o (by omega);have h2:d+(t.pn+1)≤20:=h2
   match n,h1 with
   | 0,h1=>omega
   | n+1,h1 =>
     obtain ⟨h0,h⟩:=h;have e:=ih.wr (n:=n) (d:=d+1) (r:=r+1) (by omega) (by omega) h;unfold pPiece;rw [h0,if_pos ⟨.inl rfl,by omega⟩,if_pos rfl,e];show Sum.inr (T.opp t,r+1+(wrapW t.ao 0 (t.words 0)).length)=Sum.inr (T.opp t,r+((wrapW t.ao 0 (t.words 0)).length+1));congr 2
     omega
 | .al us,o,hn=>by
   unfold T.ok at o;have hn:us.nums.length+1≤ts.length:=hn;have ih:=Ts.pars0 hN us o.2 (by omega);have lk:=Ts.len_nums us;have A:∀ n d r x,20<n+d→d+(T.al us).nst≤20→x≠Str.ofString "and"→Ws ts r ((T.al us).words 0++[x])→pChain (pPiece ts n d) (Str.ofString "and") .al ts r=.inr (T.al us,r+((T.al us).words 0).length):=fun n d r x h1 h2 hx h=>by
     have h2:d+us.nst true≤20:=h2;rw [ZgQ] at h ⊢;exact ZbP hx us o.1.1 (by omega) (fun t ht r x _ hw=>(ih t ht).wr h1 (by have:=Zgb true us ht;rw [mu_ao] at this;unfold T.pn;omega) (ws_app.mp hw).1) h
   exact ⟨fun n d r x h1 h2 h3 h4 h=>Zbf (A n d r x h1 h2 h3 h) (by rw [(ws_app.mp h).2.1];exact h4),(fun z=>(by cases z)),fun _=>A⟩
 | .on us,o,hn=>by
   unfold T.ok at o;have hn:us.nums.length+1≤ts.length:=hn;have ih:=Ts.pars0 hN us o.2 (by omega);have lk:=Ts.len_nums us;refine ⟨fun n d r x h1 h2 h3 h4 h=>?_,(fun z=>(by cases z)),(fun z=>(by cases z))⟩;have h2:d+us.nst false≤20:=h2;rw [ZhN] at h ⊢;unfold pChains;exact ZbP h4 us o.1.1 (by omega) (fun t ht r y hy hw=>(ih t ht).it h1 (by have:=Zgb false us ht;unfold T.an;omega) (by rcases hy with hy | hy;(rw [hy];decide +kernel);(rw [hy];exact h3)) hw) h
theorem Ts.pars0 (hN:∀ x∈N,nameB x=true):∀ us:Ts,us.ok N→us.nums.length≤ts.length→∀ t∈us.toL,Pa0 ts t
 | .nil,_,_,t,h=>by cases h
 | .cons a r,o,hn,t,h=>by
   unfold Ts.ok at o;have hn:(a.nums++r.nums).length≤ts.length:=hn;rw [List.length_append] at hn;have h1:=T.pars0 hN a o.1 (by omega);have h2:=Ts.pars0 hN r o.2 (by omega);rcases List.mem_cons.mp h with e | h
   · rw [e]
     exact h1
   · exact h2 t h
end
end
theorem Zg1 {t:T}{N:List Str}(hN:∀ x∈N,nameB x=true)(o:t.ok N)(hd:t.nst≤20):pQuestion (cutS t.shown.cps.toList 0 emS)=.inr t:=by have z:=ZeE t.shown.cps.toList 0 emS [];rw [List.nil_append,T.scan hN t o []] at z;have w:=ws_map _ 0 z;have l:=congrArg List.length z;rw [List.length_map,List.length_append,List.length_append] at l;have nw:=T.nums_words 0 t o;have l:(cutS t.shown.cps.toList 0 emS).length=0+(t.words 0).length+1:=l;rw [List.nil_append] at w;generalize cutS t.shown.cps.toList 0 emS=ts at w l;have e:=(T.pars0 (ts:=ts) hN t o (by omega)).ch 21 0 0 emS (by decide) (by omega) (by decide +kernel) (by decide +kernel) w;unfold pQuestion;rw [e];have e2:pPass ts emS (0+(t.words 0).length)=.inr (0+(t.words 0).length+1):=if_pos (ws_app.mp w).2.1;simp only [bnd,e2]
theorem val_lt:∀ (n:Nat) (cs:List Nat),cs.length=n→PySem.NumText.AllDigits cs→PySem.NumText.digitsVal cs<10^n
 | 0,cs,h,_=>by
   rw [List.length_eq_zero_iff.mp h];exact Nat.one_pos
 | n + 1,cs,h,a=>by
   obtain ⟨ds,c,rfl⟩:∃ ds c,cs=ds++[c]:=by
     have ne:cs≠[]:=fun z=>by rw [z] at h;cases h
     exact ⟨cs.dropLast,cs.getLast ne,(List.dropLast_concat_getLast ne).symm⟩
   rw [List.length_append] at h;have h:ds.length+1=n+1:=h;have ih:=val_lt n ds (by omega) fun x hx=>a x (List.mem_append_left _ hx)
   have hc:=a c (List.mem_append_right _ List.mem_cons_self);rw [PySem.NumText.digitsVal_snoc,Nat.pow_succ];omega
theorem ZiK {w:Str}(h:figB w=true):0≤figI w∧figI w<10^12:=by
 unfold figB at h;simp only [Bool.and_eq_true,decide_eq_true_eq] at h;have l:w.cps.toList.length≤12:=by rw [Array.length_toList];exact h.1.1.2
 have v:=val_lt _ w.cps.toList rfl (ZiL (l:=w.cps.toList) h.1.2);have p:10^w.cps.toList.length≤10^12:=Nat.pow_le_pow_right (by decide) l;unfold figI;omega
section
variable {ts:List Tok}{item:Nat→Res}{sep:Str}{R:T→Prop}
theorem ZgR (g:Gd ts) (hs:sep≠emS) (on:On ts item) (it:∀ r t r',r<ts.length→item r=.inr (t,r')→R t):∀ k r acc z,r<ts.length→(∀ t∈acc,R t)→pLoop item sep ts k r acc=.inr z→(∀ t∈z.1,R t)∧acc.length≤z.1.length∧z.1.length≤acc.length+k
 | 0,r,acc,z,_,ha,e=>by
   cases e;exact ⟨ha,Nat.le_refl _,Nat.le_refl _⟩
 | k + 1,r,acc,z,h,ha,e=>by
   unfold pLoop at e;split at e
   · rename_i c
     have h1:=g.next h (by rw [c];exact hs);obtain ⟨y,e1,e⟩:=Zal e;obtain ⟨a,b⟩:=on (r+1) y.1 y.2 h1 e1;obtain ⟨p,q,s⟩:=ZgR g hs on it k y.2 _ z b (fun t ht=>by
       rcases List.mem_append.mp ht with ht | ht
       · exact ha t ht
       · rw [List.mem_singleton.mp ht]
         exact it (r+1) y.1 y.2 h1 e1) e
     rw [List.length_append] at q s;have q:acc.length+1≤z.1.length:=q;have s:z.1.length≤acc.length+1+k:=s;exact ⟨p,by omega,by omega⟩
   · cases e
     exact ⟨ha,Nat.le_refl _,Nat.le_add_right _ _⟩
theorem ZfU {mk:Ts→T}(g:Gd ts)(hs:sep≠emS)(on:On ts item)(it:∀ r t r',r<ts.length→item r=.inr (t,r')→R t){r r':Nat}{t:T}(h:r<ts.length)(e:pChain item sep mk ts r=.inr (t,r')):R t∨∃ l:List T,t=mk (Ts.ofL l)∧2≤l.length∧l.length≤ts.length+1∧∀ x∈l,R x:=by
 unfold pChain at e;obtain ⟨y,e1,e⟩:=Zal e;obtain ⟨z,e2,e⟩:=Zal e;cases e;have ry:=it r y.1 y.2 h e1;obtain ⟨p,q,s⟩:=ZgR g hs on it ts.length y.2 [y.1] z (on r y.1 y.2 h e1).2 (fun t ht=>by rw [List.mem_singleton.mp ht];exact ry) e2;unfold fold1;have q:1≤z.1.length:=q;have s:z.1.length≤1+ts.length:=s;by_cases c:z.1.length=1
 · rw [if_pos c]
   left
   cases zz:z.1 with
   | nil=>rw [zz] at c;cases c
   | cons a l =>
     rw [zz] at p;exact p a List.mem_cons_self
 · rw [if_neg c]
   exact .inr ⟨z.1,rfl,by omega,by omega,p⟩
end
def nmT (ts:List Tok):List Str:=(ts.map (·.1)).filter nameB
theorem nmT_ok (ts:List Tok):∀ x∈nmT ts,nameB x=true:=fun x hx=>(List.mem_filter.mp hx).2
theorem nmT_at {ts:List Tok}{r:Nat}(h:r<ts.length)(n:nameB (tk ts r).1=true):(tk ts r).1∈nmT ts:=List.mem_filter.mpr ⟨List.mem_map.mpr ⟨_,List.mem_of_getElem? (ZbO h),rfl⟩,n⟩
section
variable {ts:List Tok}
theorem Zin {nm:Str}{r:Nat}{t:T}{r':Nat}(hn:nm∈nmT ts)(e:pWithin ts nm r=.inr (t,r')):t.ok (nmT ts)∧t.nst=0∧t.ao=false:=by
 have fg:∀ {q:Nat} {y:Int × Nat},pFig ts q=.inr y→0≤y.1∧y.1<10^12:=fun {q y} h=>by
   unfold pFig at h;split at h
   · rename_i c
     cases h;exact ZiK c
   · cases h
 unfold pWithin at e;split at e
 · obtain ⟨y,e1,e⟩:=Zal e
   cases e;exact ⟨⟨hn,(fg e1).1,(fg e1).2,(fg e1).1,(fg e1).2⟩,rfl,rfl⟩
 · obtain ⟨r1,e1,e⟩:=Zal e
   obtain ⟨lo,e2,e⟩:=Zal e;obtain ⟨r2,e3,e⟩:=Zal e;obtain ⟨hi,e4,e⟩:=Zal e;cases e;exact ⟨⟨hn,(fg e2).1,(fg e2).2,(fg e4).1,(fg e4).2⟩,rfl,rfl⟩
theorem an_le (t:T):t.an≤t.pn:=by unfold T.an T.pn;cases t<;>simp [T.mu,T.ao]
theorem nst_an (t:T):t.nst≤t.an:=by unfold T.an;split<;>omega
theorem Zj9 (hl:ts.length≤999)(g:Gd ts){n d:Nat}(it:∀ r t r',r<ts.length→pPiece ts n d r=.inr (t,r')→t.ok (nmT ts)∧d+t.pn≤20){r r':Nat}{t:T}(h:r<ts.length)(e:pChain (pPiece ts n d) (Str.ofString "and") .al ts r=.inr (t,r')):t.ok (nmT ts)∧d+t.an≤20:=by
 rcases ZfU (R:=fun t=>t.ok (nmT ts)∧d+t.pn≤20) g (by decide +kernel) (ZaC g n d) it h e with p | ⟨l,rfl,l2,l3,p⟩
 · have:=an_le t
   exact ⟨p.1,by omega⟩
 · refine ⟨⟨⟨by rw [Ts.toL_ofL];exact l2,by rw [Ts.toL_ofL];omega⟩,Ts.ok_ofL _ fun x hx=>(p x hx).1⟩,?_⟩
   show d+(Ts.ofL l).nst true≤20;have:d≤20:=by
     cases l with
     | nil=>exact absurd l2 (by decide)
     | cons a l=>have:=(p a List.mem_cons_self).2;omega
   have:=Zia true (k:=20-d) l fun x hx=>by
     have:=(p x hx).2;rw [mu_ao];unfold T.pn at this;omega
   omega
theorem Zff (hl:ts.length≤999)(g:Gd ts){n d:Nat}(it:∀ r t r',r<ts.length→pPiece ts n d r=.inr (t,r')→t.ok (nmT ts)∧d+t.pn≤20){r r':Nat}{t:T}(h:r<ts.length)(e:pChains ts n d r=.inr (t,r')):t.ok (nmT ts)∧d+t.nst≤20:=by
 unfold pChains at e;rcases ZfU (R:=fun t=>t.ok (nmT ts)∧d+t.an≤20) g (by decide +kernel) (ZaD g (by decide +kernel) (ZaC g n d)) (fun r t r' h e=>Zj9 hl g it h e) h e with p | ⟨l,rfl,l2,l3,p⟩
 · have:=nst_an t
   exact ⟨p.1,by omega⟩
 · refine ⟨⟨⟨by rw [Ts.toL_ofL];exact l2,by rw [Ts.toL_ofL];omega⟩,Ts.ok_ofL _ fun x hx=>(p x hx).1⟩,?_⟩
   show d+(Ts.ofL l).nst false≤20;have:d≤20:=by
     cases l with
     | nil=>exact absurd l2 (by decide)
     | cons a l=>have:=(p a List.mem_cons_self).2;omega
   have:=Zia false (k:=20-d) l fun x hx=>by
     have:=(p x hx).2;unfold T.an at this;omega
   omega
theorem Zeg (hl:ts.length≤999) (g:Gd ts):∀ n d r t r',r<ts.length→d≤20→pPiece ts n d r=.inr (t,r')→t.ok (nmT ts)∧d+t.pn≤20
 | 0,d,r,t,r',_,_,e=>by cases e
 | n + 1,d,r,t,r',h,hd,e=>by
   unfold pPiece at e;split at e
   · rename_i c
     have h1:=g.next h (by rcases c.1 with c | c<;>rw [c]<;>decide +kernel);have d20:=c.2;split at e
     · obtain ⟨y,e1,e⟩:=Zal e
       obtain ⟨a,b⟩:=Zeg hl g n (d+1) (r+1) y.1 y.2 h1 (by omega) e1;cases e;exact ⟨a,by show d+(y.1.pn+1)≤20;omega⟩
     · obtain ⟨y,e1,e⟩:=Zal e
       obtain ⟨r2,e2,e⟩:=Zal e;cases e;obtain ⟨a,b⟩:=Zff hl g (fun r t r' h e=>Zeg hl g n (d+1) r t r' h (by omega) e) h1 (show pChains ts n (d+1) (r+1)=.inr (y.1,y.2) from e1);refine ⟨a,?_⟩;unfold T.pn;split<;>omega
   · split at e
     · cases e
       exact ⟨trivial,hd⟩
     · split at e
       · cases e
         exact ⟨trivial,hd⟩
       · split at e
         · rename_i c
           obtain ⟨a,b,c2⟩:=Zin (nmT_at h c) e;refine ⟨a,?_⟩;unfold T.pn;rw [c2,if_neg Bool.false_ne_true,b];exact hd
         · cases e
theorem got_ok (hl:ts.length≤999)(g:Gd ts)(h0:0<ts.length){t:T}(e:pQuestion ts=.inr t):t.ok (nmT ts)∧t.nst≤20:=by unfold pQuestion at e;obtain ⟨y,e1,e⟩:=Zal e;obtain ⟨r2,e2,e⟩:=Zal e;cases e;obtain ⟨a,b⟩:=Zff hl g (fun r t r' h e=>Zeg hl g 21 0 r t r' h (by decide) e) h0 (show pChains ts 21 0 0=.inr (y.1,y.2) from e1);exact ⟨a,by omega⟩
end
abbrev Lv:=Bool × Bool
def unw:List Bool→Bool→Bool × List Bool
 | false::S,b=>unw S (!b)
 | true::S,b=>(b,true::S)
 | [],b=>(b,[])
def putL (L:List Lv)(b:Bool):List Lv:=match L with | x::L=>(x.1,x.2&&b)::L | []=>[]
def finL (L:List Lv)(S:List Bool)(b:Bool):List Lv × List Bool:=(putL L (unw S b).1,(unw S b).2)
def tst (ts:List Tok)(isL:Str→Bool)(lf:Nat→Bool)(r:Nat)(s:List Lv × List Bool):List Lv × List Bool :=
 if (tk ts r).1=Str.ofString "not" then (s.1,false::s.2)
 else if (tk ts r).1=Str.ofString "(" then ((false,true)::s.1,true::s.2)
 else if (tk ts r).1=Str.ofString "or" then (match s.1 with | x::L=>(x.1||x.2,true)::L | []=>[],s.2)
 else if (tk ts r).1=Str.ofString ")" then (match s.1 with | x::L=>finL L s.2.tail (x.1||x.2) | []=>s)
 else if isL (tk ts r).1=true then finL s.1 s.2 (lf r)
 else s
def trn (ts:List Tok)(isL:Str→Bool)(lf:Nat→Bool):Nat→Nat→List Lv × List Bool→List Lv × List Bool
 | _,0,s=>s
 | r,k+1,s=>trn ts isL lf (r+1) k (tst ts isL lf r s)
mutual
def T.hol (f:Str→Int):T→Bool
 | .ev=>true
 | .no=>false
 | .inn x lo hi=>decide (lo≤f x)&&decide (f x≤hi)
 | .opp t=>!t.hol f
 | .al ts=>ts.allH f
 | .on ts=>ts.anyH f
def Ts.allH (f:Str→Int):Ts→Bool
 | .nil=>true
 | .cons t r=>t.hol f&&r.allH f
def Ts.anyH (f:Str→Int):Ts→Bool
 | .nil=>false
 | .cons t r=>t.hol f||r.anyH f
end
section
variable {ts:List Tok}{isL:Str→Bool}{lf:Nat→Bool}{f:Str→Int}
theorem Zgk:∀ (a b r:Nat) (s:List Lv × List Bool),trn ts isL lf r (a+b) s=trn ts isL lf (r+a) b (trn ts isL lf r a s)
 | 0,b,r,s=>by rw [Nat.zero_add];rfl
 | a+1,b,r,s=>by
   rw [Nat.succ_add];show trn ts isL lf (r+1) (a+b) _=trn ts isL lf (r+(a+1)) b (trn ts isL lf (r+1) a _);rw [Zgk a b (r+1),show r+1+a=r+(a+1) by omega]
structure LfOk (ts:List Tok)(isL:Str→Bool)(lf:Nat→Bool)(f:Str→Int):Prop where
 al:isL (Str.ofString "all")=true
 no:isL (Str.ofString "none")=true
 an:isL (Str.ofString "and")=false
 nm:∀ w,nameB w=true→w∈ts.map (·.1)→isL w=true
 fg:∀ w,figB w=true→isL w=false
 kw:isL (Str.ofString "is")=false∧isL (Str.ofString "from")=false∧isL (Str.ofString "to")=false
 v:∀ r t r' n d,r<ts.length→pPiece ts n d r=.inr (t,r')→t.ao=false→(∀ u,t≠.opp u)→(tk ts r).1≠Str.ofString "("→lf r=t.hol f
def Tr (ts:List Tok)(isL:Str→Bool)(lf:Nat→Bool)(r r':Nat)(s s':List Lv × List Bool):Prop:=r≤r'∧trn ts isL lf r (r'-r) s=s'
theorem Tr.trans {r r1 r2:Nat}{s s1 s2:List Lv × List Bool}(a:Tr ts isL lf r r1 s s1)(b:Tr ts isL lf r1 r2 s1 s2):Tr ts isL lf r r2 s s2:=by
 refine ⟨Nat.le_trans a.1 b.1,?_⟩;have e:r2-r=(r1-r)+(r2-r1):=by have:=a.1;have:=b.1;omega
 rw [e,Zgk,a.2,show r+(r1-r)=r1 by have:=a.1;omega,b.2]
theorem Tr.one {r:Nat}{s s':List Lv × List Bool}(h:tst ts isL lf r s=s'):Tr ts isL lf r (r+1) s s':=by refine ⟨Nat.le_succ _,?_⟩;rw [show r+1-r=1 by omega];exact h
theorem Tr.refl {r:Nat}{s:List Lv × List Bool}:Tr ts isL lf r r s s:=by refine ⟨Nat.le_refl _,?_⟩;rw [Nat.sub_self];rfl
theorem Tr.skip {r:Nat}{s:List Lv × List Bool}(h1:(tk ts r).1≠Str.ofString "not")(h2:(tk ts r).1≠Str.ofString "(")(h3:(tk ts r).1≠Str.ofString "or")(h4:(tk ts r).1≠Str.ofString ")")(h5:isL (tk ts r).1=false):Tr ts isL lf r (r+1) s s:=Tr.one (by
 unfold tst;rw [if_neg h1,if_neg h2,if_neg h3,if_neg h4,h5,if_neg Bool.false_ne_true])
theorem Tr.leaf {r:Nat}{L:List Lv}{S:List Bool}(h1:(tk ts r).1≠Str.ofString "not")(h2:(tk ts r).1≠Str.ofString "(")(h3:(tk ts r).1≠Str.ofString "or")(h4:(tk ts r).1≠Str.ofString ")")(h5:isL (tk ts r).1=true):Tr ts isL lf r (r+1) (L,S) (finL L S (lf r)):=Tr.one (by
 unfold tst;rw [if_neg h1,if_neg h2,if_neg h3,if_neg h4,h5,if_pos rfl])
def PT (ts:List Tok)(isL:Str→Bool)(lf:Nat→Bool)(f:Str→Int)(item:Nat→Res):Prop:=∀ r t r' L S,r<ts.length→item r=.inr (t,r')→Tr ts isL lf r r' (L,S) (finL L S (t.hol f))
theorem ZjE (f:Str→Int):∀ l:List T,(Ts.ofL l).allH f=l.all (T.hol f)
 | []=>rfl
 | t::r=>by
   show (t.hol f&&(Ts.ofL r).allH f)=_;rw [ZjE f r];rfl
theorem ZiQ (f:Str→Int):∀ l:List T,(Ts.ofL l).anyH f=l.any (T.hol f)
 | []=>rfl
 | t::r=>by
   show (t.hol f||(Ts.ofL r).anyH f)=_;rw [ZiQ f r];rfl
theorem ZhF (K:LfOk ts isL lf f){item:Nat→Res}(g:Gd ts)(on:On ts item)(it:PT ts isL lf f item){S:List Bool}(hS:∀ b,unw S b=(b,S)):∀ k r acc z x L,r<ts.length→pLoop item (Str.ofString "and") ts k r acc=.inr z→∃ l,z.1=acc++l∧Tr ts isL lf r z.2 (x::L,S) ((x.1,x.2&&l.all (T.hol f))::L,S)
 | 0,r,acc,z,x,L,_,e=>by
   cases e;refine ⟨[],by rw [List.append_nil],?_⟩;show Tr ts isL lf r r (x::L,S) ((x.1,x.2&&true)::L,S);rw [Bool.and_true];exact Tr.refl
 | k + 1,r,acc,z,x,L,h,e=>by
   unfold pLoop at e;split at e
   · rename_i c
     have h1:=g.next h (by rw [c];decide +kernel);obtain ⟨y,e1,e⟩:=Zal e;have hy:=(on (r+1) y.1 y.2 h1 e1).2;obtain ⟨l,e2,t2⟩:=ZhF K g on it hS k y.2 _ z (x.1,x.2&&y.1.hol f) L hy e;refine ⟨y.1::l,by rw [e2,List.append_assoc];rfl,?_⟩;have t0:Tr ts isL lf r (r+1) (x::L,S) (x::L,S):=Tr.skip (by rw [c];decide +kernel) (by rw [c];decide +kernel) (by rw [c];decide +kernel) (by rw [c];decide +kernel) (by rw [c];exact K.an);have t1:=it (r+1) y.1 y.2 (x::L) S h1 e1;unfold finL at t1;rw [hS] at t1;have t:=(t0.trans t1).trans t2;show Tr ts isL lf r z.2 (x::L,S) ((x.1,x.2&&(y.1.hol f&&l.all (T.hol f)))::L,S);rw [← Bool.and_assoc];exact t
   · cases e
     refine ⟨[],by rw [List.append_nil],?_⟩;show Tr ts isL lf r r (x::L,S) ((x.1,x.2&&true)::L,S);rw [Bool.and_true];exact Tr.refl
theorem Zf3 (K:LfOk ts isL lf f){item:Nat→Res}(g:Gd ts)(on:On ts item)(it:PT ts isL lf f item){S:List Bool}(hS:∀ b,unw S b=(b,S)){r r':Nat}{t:T}(x:Lv)(L:List Lv)(h:r<ts.length)(e:pChain item (Str.ofString "and") .al ts r=.inr (t,r')):Tr ts isL lf r r' (x::L,S) ((x.1,x.2&&t.hol f)::L,S):=by
 unfold pChain at e;obtain ⟨y,e1,e⟩:=Zal e;obtain ⟨z,e2,e⟩:=Zal e;cases e;have t1:=it r y.1 y.2 (x::L) S h e1;unfold finL at t1;rw [hS] at t1;obtain ⟨l,el,t2⟩:=ZhF K g on it hS ts.length y.2 [y.1] z (x.1,x.2&&y.1.hol f) L (on r y.1 y.2 h e1).2 e2;have t:=Tr.trans t1 t2;have v:(fold1 .al z.1).hol f=(y.1.hol f&&l.all (T.hol f)):=by
   rw [el];unfold fold1;cases l with
   | nil=>show y.1.hol f=(y.1.hol f&&true);rw [Bool.and_true]
   | cons a l =>
     rw [if_neg (by show ¬ (l.length+1+1=1);omega)];show (Ts.ofL ([y.1]++a::l)).allH f=_;rw [ZjE];rfl
 rw [v,← Bool.and_assoc];exact t
end
section
variable {ts:List Tok}{isL:Str→Bool}{lf:Nat→Bool}{f:Str→Int}
theorem ZjL (K:LfOk ts isL lf f) {item:Nat→Res} (g:Gd ts) (on:On ts item) (it:PT ts isL lf f item) {S:List Bool} (hS:∀ b,unw S b=(b,S)):∀ k r acc z x L,r<ts.length→pLoop (pChain item (Str.ofString "and") .al ts) (Str.ofString "or") ts k r acc=.inr z→∃ l x',z.1=acc++l∧Tr ts isL lf r z.2 (x::L,S) (x'::L,S)∧(x'.1||x'.2)=((x.1||x.2)||l.any (T.hol f))
 | 0,r,acc,z,x,L,_,e=>by
   cases e;exact ⟨[],x,by rw [List.append_nil],Tr.refl,by show _=(_||false);rw [Bool.or_false]⟩
 | k + 1,r,acc,z,x,L,h,e=>by
   unfold pLoop at e;split at e
   · rename_i c
     have h1:=g.next h (by rw [c];decide +kernel);obtain ⟨y,e1,e⟩:=Zal e;have hy:=(ZaD g (by decide +kernel) on (r+1) y.1 y.2 h1 e1).2;have t0:Tr ts isL lf r (r+1) (x::L,S) ((x.1||x.2,true)::L,S):=Tr.one (by
       unfold tst;rw [c,if_neg (by decide +kernel),if_neg (by decide +kernel),if_pos rfl])
     have t1:=Zf3 K g on it hS (x.1||x.2,true) L h1 e1;obtain ⟨l,x',e2,t2,v⟩:=ZjL K g on it hS k y.2 _ z (x.1||x.2,true&&y.1.hol f) L hy e;refine ⟨y.1::l,x',by rw [e2,List.append_assoc];rfl,(t0.trans t1).trans t2,?_⟩;rw [v];show ((x.1||x.2||(true&&y.1.hol f))||_)=((x.1||x.2)||(y.1.hol f||_))
     rw [Bool.true_and,Bool.or_assoc (x.1||x.2)]
   · cases e
     exact ⟨[],x,by rw [List.append_nil],Tr.refl,by show _=(_||false);rw [Bool.or_false]⟩
theorem ZhE (K:LfOk ts isL lf f){item:Nat→Res}(g:Gd ts)(on:On ts item)(it:PT ts isL lf f item){S:List Bool}(hS:∀ b,unw S b=(b,S)){r r':Nat}{t:T}(a:Bool)(L:List Lv)(h:r<ts.length)(e:pChain (pChain item (Str.ofString "and") .al ts) (Str.ofString "or") .on ts r=.inr (t,r')):∃ x',Tr ts isL lf r r' ((a,true)::L,S) (x'::L,S)∧(x'.1||x'.2)=(a||t.hol f):=by
 have on2:=ZaD (mk:=T.al) (sep:=Str.ofString "and") g (by decide +kernel) on;rw [pChain] at e;obtain ⟨y,e1,e⟩:=Zal e;obtain ⟨z,e2,e⟩:=Zal e;cases e;have t1:=Zf3 K g on it hS (a,true) L h e1;obtain ⟨l,x',el,t2,v⟩:=ZjL K g on it hS ts.length y.2 [y.1] z (a,true&&y.1.hol f) L (on2 r y.1 y.2 h e1).2 e2;refine ⟨x',t1.trans t2,?_⟩;rw [v];have w:(fold1 .on z.1).hol f=(y.1.hol f||l.any (T.hol f)):=by
   rw [el];unfold fold1;cases l with
   | nil=>show y.1.hol f=(y.1.hol f||false);rw [Bool.or_false]
   | cons b l =>
     rw [if_neg (by show ¬ (l.length+1+1=1);omega)];show (Ts.ofL ([y.1]++b::l)).anyH f=_;rw [ZiQ];rfl
 rw [w];show ((a||(true&&y.1.hol f))||_)=_;rw [Bool.true_and,Bool.or_assoc]
theorem Zi2 {x:Str}(n:nameB x=true):x≠Str.ofString "not"∧x≠Str.ofString "("∧x≠Str.ofString "or"∧x≠Str.ofString ")":=by refine ⟨?_,?_,?_,?_⟩<;>(intro z;rw [z] at n;revert n;decide +kernel)
theorem Zh1 {x:Str}(n:figB x=true):x≠Str.ofString "not"∧x≠Str.ofString "("∧x≠Str.ofString "or"∧x≠Str.ofString ")":=by refine ⟨?_,?_,?_,?_⟩<;>(intro z;rw [z] at n;revert n;decide +kernel)
theorem Zko (K:LfOk ts isL lf f){nm:Str}{r r':Nat}{t:T}{s:List Lv × List Bool}(e:pWithin ts nm r=.inr (t,r')):Tr ts isL lf r r' s s:=by
 have fg:∀ {q:Nat} {y:Int × Nat},pFig ts q=.inr y→y.2=q+1∧Tr ts isL lf q y.2 s s:=fun {q y} h=>by
   unfold pFig at h;split at h
   · rename_i c
     cases h;obtain ⟨a1,a2,a3,a4⟩:=Zh1 c;exact ⟨rfl,Tr.skip a1 a2 a3 a4 (K.fg _ c)⟩
   · cases h
 have pw:∀ {q q':Nat} {w:Str},w≠Str.ofString "not"→w≠Str.ofString "("→w≠Str.ofString "or"→w≠Str.ofString ")"→isL w=false→pPass ts w q=.inr q'→Tr ts isL lf q q' s s:=fun {q q' w} a1 a2 a3 a4 a5 h=>by
   unfold pPass at h;split at h
   · rename_i c
     cases h;rw [← c] at a1 a2 a3 a4 a5;exact Tr.skip a1 a2 a3 a4 a5
   · cases h
 unfold pWithin at e;split at e
 · rename_i c
   obtain ⟨y,e1,e⟩:=Zal e;cases e;have t0:Tr ts isL lf r (r+1) s s:=Tr.skip (by rw [c];decide +kernel) (by rw [c];decide +kernel) (by rw [c];decide +kernel) (by rw [c];decide +kernel) (by rw [c];exact K.kw.1);exact t0.trans (fg e1).2
 · obtain ⟨r1,e1,e⟩:=Zal e
   obtain ⟨lo,e2,e⟩:=Zal e;obtain ⟨r2,e3,e⟩:=Zal e;obtain ⟨hi,e4,e⟩:=Zal e;cases e;have t1:=pw (by decide +kernel) (by decide +kernel) (by decide +kernel) (by decide +kernel) K.kw.2.1 e1;have t3:=pw (by decide +kernel) (by decide +kernel) (by decide +kernel) (by decide +kernel) K.kw.2.2 e3;exact ((t1.trans (fg e2).2).trans t3).trans (fg e4).2
theorem Ze8 (K:LfOk ts isL lf f) (g:Gd ts):∀ n d,PT ts isL lf f (pPiece ts n d)
 | 0,d=>fun r t r' L S h e=>by cases e
 | n + 1, d => fun r t r' L S h e=>by
   have e0:=e;unfold pPiece at e;split at e
   · rename_i c
     have h1:=g.next h (by rcases c.1 with c | c<;>rw [c]<;>decide +kernel);split at e
     · rename_i c1
       obtain ⟨y,e1,e⟩:=Zal e;cases e;have t0:Tr ts isL lf r (r+1) (L,S) (L,false::S):=Tr.one (by unfold tst;rw [if_pos c1]);exact t0.trans (Ze8 K g n (d+1) (r+1) y.1 y.2 L (false::S) h1 e1)
     · rename_i c1
       have c2:=c.1.resolve_left c1;obtain ⟨y,e1,e⟩:=Zal e;obtain ⟨r2,e2,e⟩:=Zal e;cases e;have t0:Tr ts isL lf r (r+1) (L,S) ((false,true)::L,true::S):=Tr.one (by unfold tst;rw [if_neg c1,if_pos c2]);obtain ⟨x',t1,v⟩:=ZhE K g (ZaC g n (d+1)) (Ze8 K g n (d+1)) (S:=true::S) (fun _=>rfl) false L h1 (show pChain _ _ _ _ _=.inr (y.1,y.2) from e1);unfold pPass at e2;split at e2
       · rename_i c3
         cases e2;refine (t0.trans t1).trans (Tr.one ?_);unfold tst;rw [c3,if_neg (by decide +kernel),if_neg (by decide +kernel),if_neg (by decide +kernel),if_pos rfl];show finL L S (x'.1||x'.2)=_;rw [v,Bool.false_or]
       · cases e2
   · rename_i c
     have lv:t.ao=false→(∀ u,t≠.opp u)→(tk ts r).1≠Str.ofString "("→lf r=t.hol f:=K.v r t r' (n+1) d h e0;split at e
     · rename_i c1
       cases e;have v:=lv rfl (fun u z=>by cases z) (by rw [c1];decide +kernel);rw [← v];exact Tr.leaf (by rw [c1];decide +kernel) (by rw [c1];decide +kernel) (by rw [c1];decide +kernel) (by rw [c1];decide +kernel) (by rw [c1];exact K.al)
     · split at e
       · rename_i c1
         cases e;have v:=lv rfl (fun u z=>by cases z) (by rw [c1];decide +kernel);rw [← v];exact Tr.leaf (by rw [c1];decide +kernel) (by rw [c1];decide +kernel) (by rw [c1];decide +kernel) (by rw [c1];decide +kernel) (by rw [c1];exact K.no)
       · split at e
         · rename_i c1
           obtain ⟨a1,a2,a3,a4⟩:=Zi2 c1;have ty:t.ao=false∧∀ u,t≠.opp u:=by
             unfold pWithin at e;split at e
             · obtain ⟨y,_,e⟩:=Zal e
               cases e;exact ⟨rfl,fun u z=>by cases z⟩
             · obtain ⟨_,_,e⟩:=Zal e
               obtain ⟨_,_,e⟩:=Zal e;obtain ⟨_,_,e⟩:=Zal e;obtain ⟨_,_,e⟩:=Zal e;cases e;exact ⟨rfl,fun u z=>by cases z⟩
           have v:=lv ty.1 ty.2 a2;rw [← v];have hm:(tk ts r).1∈ts.map (·.1):=List.mem_map.mpr ⟨_,List.mem_of_getElem? (ZbO h),rfl⟩;exact (Tr.leaf a1 a2 a3 a4 (K.nm _ c1 hm)).trans (Zko K e)
         · cases e
theorem truth_eq (K:LfOk ts isL lf f)(g:Gd ts)(h0:0<ts.length){t:T}(e:pQuestion ts=.inr t):∃ r' x',Tr ts isL lf 0 r' ([(false,true)],[]) ([x'],[])∧(tk ts r').1=emS∧r'<ts.length∧(x'.1||x'.2)=t.hol f:=by
 unfold pQuestion pChains at e;obtain ⟨y,e1,e⟩:=Zal e;obtain ⟨r2,e2,e⟩:=Zal e;cases e;obtain ⟨x',t1,v⟩:=ZhE K g (ZaC g 21 0) (Ze8 K g 21 0) (S:=[]) (fun _=>rfl) false [] h0 (show pChain _ _ _ _ _=.inr (y.1,y.2) from e1);have hy:=(ZaD g (by decide +kernel) (ZaD g (by decide +kernel) (ZaC g 21 0)) 0 y.1 y.2 h0 e1).2;unfold pPass at e2;split at e2
 · rename_i c
   exact ⟨y.2,x',t1,c,hy,by rw [v,Bool.false_or]⟩
 · cases e2
end
mutual
def T.lw:T→List Str
 | .ev=>[Str.ofString "all"]
 | .no=>[Str.ofString "none"]
 | .inn x _ _=>[x]
 | .opp t=>t.lw
 | .al ts=>ts.lw
 | .on ts=>ts.lw
def Ts.lw:Ts→List Str
 | .nil=>[]
 | .cons t r=>t.lw++r.lw
end
theorem lw_ofL:∀ l:List T,(Ts.ofL l).lw=l.flatMap T.lw
 | []=>rfl
 | t::r=>by
   show t.lw++(Ts.ofL r).lw=_;rw [lw_ofL r];rfl
section
variable {ts:List Tok}{isL:Str→Bool}
def sgw (ts:List Tok)(isL:Str→Bool):Nat→Nat→List Str
 | _,0=>[]
 | r,k+1=>(if isL (tk ts r).1=true then [(tk ts r).1] else [])++sgw ts isL (r+1) k
theorem Zjd:∀ a b r,sgw ts isL r (a+b)=sgw ts isL r a++sgw ts isL (r+a) b
 | 0,b,r=>by rw [Nat.zero_add];rfl
 | a+1,b,r=>by
   rw [Nat.succ_add];show _++sgw ts isL (r+1) (a+b)=(_++sgw ts isL (r+1) a)++sgw ts isL (r+(a+1)) b;rw [Zjd a b (r+1),List.append_assoc,show r+1+a=r+(a+1) by omega]
def Lw (ts:List Tok)(isL:Str→Bool)(r r':Nat)(l:List Str):Prop:=r≤r'∧sgw ts isL r (r'-r)=l
theorem Lw.trans {r r1 r2:Nat}{a b:List Str}(x:Lw ts isL r r1 a)(y:Lw ts isL r1 r2 b):Lw ts isL r r2 (a++b):=by
 refine ⟨Nat.le_trans x.1 y.1,?_⟩;have e:r2-r=(r1-r)+(r2-r1):=by have:=x.1;have:=y.1;omega
 rw [e,Zjd,x.2,show r+(r1-r)=r1 by have:=x.1;omega,y.2]
theorem Lw.refl {r:Nat}:Lw ts isL r r []:=⟨Nat.le_refl _,by rw [Nat.sub_self];rfl⟩
theorem Lw.skip {r:Nat}(h:isL (tk ts r).1=false):Lw ts isL r (r+1) []:=by
 refine ⟨Nat.le_succ _,?_⟩;rw [show r+1-r=1 by omega];show (if isL (tk ts r).1=true then _ else [])++[]=[]
 rw [h];rfl
theorem Lw.one {r:Nat}(h:isL (tk ts r).1=true):Lw ts isL r (r+1) [(tk ts r).1]:=by refine ⟨Nat.le_succ _,?_⟩;rw [show r+1-r=1 by omega];show (if isL (tk ts r).1=true then _ else [])++[]=_;rw [if_pos h];rfl
structure NoL (ts:List Tok)(isL:Str→Bool):Prop where
 a:isL (Str.ofString "not")=false∧isL (Str.ofString "(")=false∧isL (Str.ofString ")")=false∧isL (Str.ofString "and")=false∧isL (Str.ofString "or")=false∧isL (Str.ofString "is")=false∧isL (Str.ofString "from")=false∧isL (Str.ofString "to")=false
 fg:∀ w,figB w=true→isL w=false
 al:isL (Str.ofString "all")=true
 no:isL (Str.ofString "none")=true
 nm:∀ w,nameB w=true→w∈ts.map (·.1)→isL w=true
def PL (ts:List Tok)(isL:Str→Bool)(item:Nat→Res):Prop:=∀ r t r',r<ts.length→item r=.inr (t,r')→Lw ts isL r r' t.lw
theorem Zjs {item:Nat→Res}{sep:Str}(g:Gd ts)(hs:sep≠emS)(h0:isL sep=false)(on:On ts item)(it:PL ts isL item):∀ k r acc z,r<ts.length→pLoop item sep ts k r acc=.inr z→∃ l,z.1=acc++l∧Lw ts isL r z.2 (l.flatMap T.lw)
 | 0,r,acc,z,_,e=>by
   cases e;exact ⟨[],by rw [List.append_nil],Lw.refl⟩
 | k + 1,r,acc,z,h,e=>by
   unfold pLoop at e;split at e
   · rename_i c
     have h1:=g.next h (by rw [c];exact hs);obtain ⟨y,e1,e⟩:=Zal e;obtain ⟨l,e2,t2⟩:=Zjs g hs h0 on it k y.2 _ z (on (r+1) y.1 y.2 h1 e1).2 e;exact ⟨y.1::l,by rw [e2,List.append_assoc];rfl,((Lw.skip (by rw [c];exact h0)).trans (it (r+1) y.1 y.2 h1 e1)).trans t2⟩
   · cases e
     exact ⟨[],by rw [List.append_nil],Lw.refl⟩
theorem Zdu {item:Nat→Res}{sep:Str}{mk:Ts→T}(hm:∀ us,(mk us).lw=us.lw)(g:Gd ts)(hs:sep≠emS)(h0:isL sep=false)(on:On ts item)(it:PL ts isL item):PL ts isL (pChain item sep mk ts):=fun r t r' h e=>by
 unfold pChain at e;obtain ⟨y,e1,e⟩:=Zal e;obtain ⟨z,e2,e⟩:=Zal e;cases e;obtain ⟨l,el,t2⟩:=Zjs g hs h0 on it ts.length y.2 [y.1] z (on r y.1 y.2 h e1).2 e2;have v:(fold1 mk z.1).lw=y.1.lw++l.flatMap T.lw:=by
   rw [el];unfold fold1;cases l with
   | nil=>show y.1.lw=y.1.lw++[];rw [List.append_nil]
   | cons b l =>
     rw [if_neg (by show ¬ (l.length+1+1=1);omega),hm,lw_ofL];rfl
 rw [v];exact (it r y.1 y.2 h e1).trans t2
theorem Zj7 (K:NoL ts isL){nm:Str}{r r':Nat}{t:T}(e:pWithin ts nm r=.inr (t,r')):Lw ts isL r r' []∧t.lw=[nm]:=by
 have fg:∀ {q:Nat} {y:Int × Nat},pFig ts q=.inr y→Lw ts isL q y.2 []:=fun {q y} h=>by
   unfold pFig at h;split at h
   · rename_i c
     cases h;exact Lw.skip (K.fg _ c)
   · cases h
 have pw:∀ {q q':Nat} {w:Str},isL w=false→pPass ts w q=.inr q'→Lw ts isL q q' []:=fun {q q' w} a h=>by
   unfold pPass at h;split at h
   · rename_i c
     cases h;exact Lw.skip (by rw [c];exact a)
   · cases h
 obtain ⟨_,_,_,_,_,a1,a2,a3⟩:=K.a;unfold pWithin at e;split at e
 · rename_i c
   obtain ⟨y,e1,e⟩:=Zal e;cases e;exact ⟨(Lw.skip (by rw [c];exact a1)).trans (fg e1),rfl⟩
 · obtain ⟨r1,e1,e⟩:=Zal e
   obtain ⟨lo,e2,e⟩:=Zal e;obtain ⟨r2,e3,e⟩:=Zal e;obtain ⟨hi,e4,e⟩:=Zal e;cases e;exact ⟨(((pw a2 e1).trans (fg e2)).trans (pw a3 e3)).trans (fg e4),rfl⟩
theorem ZeY (K:NoL ts isL) (g:Gd ts):∀ n d,PL ts isL (pPiece ts n d)
 | 0,d=>fun r t r' h e=>by cases e
 | n + 1,d=>fun r t r' h e=>by
   obtain ⟨k1,k2,k3,k4,k5,_⟩:=K.a;unfold pPiece at e;split at e
   · rename_i c
     have h1:=g.next h (by rcases c.1 with c | c<;>rw [c]<;>decide +kernel);split at e
     · rename_i c1
       obtain ⟨y,e1,e⟩:=Zal e;cases e;exact (Lw.skip (by rw [c1];exact k1)).trans (ZeY K g n (d+1) (r+1) y.1 y.2 h1 e1)
     · rename_i c1
       have c2:=c.1.resolve_left c1;obtain ⟨y,e1,e⟩:=Zal e;obtain ⟨r2,e2,e⟩:=Zal e;cases e;have t1:=Zdu (mk:=T.on) (fun _=>rfl) g (by decide +kernel) k5 (ZaD g (by decide +kernel) (ZaC g n (d+1))) (Zdu (mk:=T.al) (fun _=>rfl) g (by decide +kernel) k4 (ZaC g n (d+1)) (ZeY K g n (d+1))) (r+1) y.1 y.2 h1 e1;unfold pPass at e2;split at e2
       · rename_i c3
         cases e2;have t:=((Lw.skip (by rw [c2];exact k2)).trans t1).trans (Lw.skip (isL:=isL) (by rw [c3];exact k3));rw [List.append_nil] at t;exact t
       · cases e2
   · split at e
     · rename_i c1
       cases e;have t:=Lw.one (ts:=ts) (isL:=isL) (r:=r) (by rw [c1];exact K.al);rw [c1] at t;exact t
     · split at e
       · rename_i c1
         cases e;have t:=Lw.one (ts:=ts) (isL:=isL) (r:=r) (by rw [c1];exact K.no);rw [c1] at t;exact t
       · split at e
         · rename_i c1
           have hm:(tk ts r).1∈ts.map (·.1):=List.mem_map.mpr ⟨_,List.mem_of_getElem? (ZbO h),rfl⟩;obtain ⟨t2,v⟩:=Zj7 K e;have t:=(Lw.one (ts:=ts) (isL:=isL) (r:=r) (K.nm _ c1 hm)).trans t2;rw [List.append_nil] at t;rw [v];exact t
         · cases e
theorem lw_eq (K:NoL ts isL)(g:Gd ts)(h0:0<ts.length){t:T}(e:pQuestion ts=.inr t):∃ r',Lw ts isL 0 r' t.lw∧(tk ts r').1=emS∧r'<ts.length:=by
 obtain ⟨k1,k2,k3,k4,k5,_⟩:=K.a;unfold pQuestion pChains at e;obtain ⟨y,e1,e⟩:=Zal e;obtain ⟨r2,e2,e⟩:=Zal e;cases e;have on1:=ZaC g 21 0;have on2:=ZaD (mk:=T.al) (sep:=Str.ofString "and") g (by decide +kernel) on1;have t1:=Zdu (mk:=T.on) (fun _=>rfl) g (by decide +kernel) k5 on2 (Zdu (mk:=T.al) (fun _=>rfl) g (by decide +kernel) k4 on1 (ZeY K g 21 0)) 0 y.1 y.2 h0 e1;have hy:=(ZaD g (by decide +kernel) on2 0 y.1 y.2 h0 e1).2;unfold pPass at e2;split at e2
 · rename_i c
   exact ⟨y.2,t1,c,hy⟩
 · cases e2
end
mutual
theorem T.dep_nst:∀ t:T,t.dep≤2*t.nst+(if t.ao=true then (if t.mu false=true then 2 else 1) else 0)
 | .ev=>Nat.zero_le _
 | .no=>Nat.zero_le _
 | .inn _ _ _=>Nat.zero_le _
 | .opp t=>by
   have h:=T.dep_nst t;show t.dep+2≤2*((if t.ao=true then t.nst+1 else t.nst)+1)+0;by_cases c:t.ao=true
   · rw [if_pos c] at h ⊢
     split at h<;>omega
   · rw [if_neg c] at h ⊢
     omega
 | .al ts=>by
   have h:=Ts.dep_nst true ts;show ts.dep+1≤2*ts.nst true+1;exact Nat.succ_le_succ h
 | .on ts=>by
   have h:=Ts.dep_nst false ts;show ts.dep+1≤2*ts.nst false+2;exact Nat.succ_le_succ h
theorem Ts.dep_nst (a:Bool):∀ ts:Ts,ts.dep≤2*ts.nst a+(if a=true then 0 else 1)
 | .nil=>Nat.zero_le _
 | .cons t r=>by
   have h1:=T.dep_nst t;have h2:=Ts.dep_nst a r;show Nat.max t.dep r.dep≤2*Nat.max (if t.mu a=true then t.nst+1 else t.nst) (r.nst a)+_;have l1:(if t.mu a=true then t.nst+1 else t.nst)≤Nat.max (if t.mu a=true then t.nst+1 else t.nst) (r.nst a):=Nat.le_max_left _ _;have l2:r.nst a≤Nat.max (if t.mu a=true then t.nst+1 else t.nst) (r.nst a):=Nat.le_max_right _ _;generalize Nat.max (if t.mu a=true then t.nst+1 else t.nst) (r.nst a)=m at l1 l2;refine Nat.max_le.mpr ⟨?_,by omega⟩;cases a<;>cases t<;>simp [T.mu,T.ao] at h1 l1 ⊢<;>omega
end
theorem T.dep_42 {t:T}(h:t.nst≤20):t.dep≤42:=by
 have:=T.dep_nst t;split at this
 · split at this<;>omega
 · omega
theorem Zg7:∀ l:List T,(Ts.ofL l).nums.length+l.length=(l.map fun t=>t.nums.length+1).sum
 | []=>rfl
 | t::r=>by
   show (t.nums++(Ts.ofL r).nums).length+(r.length+1)=t.nums.length+1+(r.map fun t=>t.nums.length+1).sum;rw [List.length_append,← Zg7 r];omega
section
variable {ts:List Tok}{item:Nat→Res}{sep:Str}
def NmB (ts:List Tok)(item:Nat→Res):Prop:=∀ r t r',r<ts.length→item r=.inr (t,r')→t.nums.length+1+2*r≤2*r'
theorem ZjD (g:Gd ts)(hs:sep≠emS)(on:On ts item)(it:NmB ts item):∀ k r acc z,r<ts.length→pLoop item sep ts k r acc=.inr z→∃ l,z.1=acc++l∧(l.map fun t=>t.nums.length+1).sum+2*r≤2*z.2
 | 0,r,acc,z,_,e=>by
   cases e;exact ⟨[],by rw [List.append_nil],by show 0+_≤_;omega⟩
 | k + 1,r,acc,z,h,e=>by
   unfold pLoop at e;split at e
   · rename_i c
     have h1:=g.next h (by rw [c];exact hs);obtain ⟨y,e1,e⟩:=Zal e;obtain ⟨l,e2,t2⟩:=ZjD g hs on it k y.2 _ z (on (r+1) y.1 y.2 h1 e1).2 e;have:=it (r+1) y.1 y.2 h1 e1;refine ⟨y.1::l,by rw [e2,List.append_assoc];rfl,?_⟩;show y.1.nums.length+1+(l.map fun t=>t.nums.length+1).sum+_≤_;omega
   · cases e
     exact ⟨[],by rw [List.append_nil],by show 0+_≤_;omega⟩
theorem ZdD {mk:Ts→T}(hm:∀ us,(mk us).nums.length=us.nums.length+1)(g:Gd ts)(hs:sep≠emS)(on:On ts item)(it:NmB ts item):NmB ts (pChain item sep mk ts):=fun r t r' h e=>by
 unfold pChain at e;obtain ⟨y,e1,e⟩:=Zal e;obtain ⟨z,e2,e⟩:=Zal e;cases e;obtain ⟨l,el,t2⟩:=ZjD g hs on it ts.length y.2 [y.1] z (on r y.1 y.2 h e1).2 e2;have t1:=it r y.1 y.2 h e1;rw [el];unfold fold1;cases l with
 | nil =>
   have t2:0+2*y.2≤2*z.2:=t2;show y.1.nums.length+1+_≤_;omega
 | cons b l =>
   rw [if_neg (by show ¬ (l.length+1+1=1);omega),hm];have e:=Zg7 ([y.1]++b::l);have e:_+(l.length+1+1)=y.1.nums.length+1+((b::l).map fun t=>t.nums.length+1).sum:=e;omega
theorem ZeX (g:Gd ts):∀ n d,NmB ts (pPiece ts n d)
 | 0,d=>fun r t r' h e=>by cases e
 | n + 1, d => fun r t r' h e=>by
   have on:=ZaC g (n+1) d r t r' h e;unfold pPiece at e;split at e
   · rename_i c
     have h1:=g.next h (by rcases c.1 with c | c<;>rw [c]<;>decide +kernel);split at e
     · rename_i c1
       obtain ⟨y,e1,e⟩:=Zal e;cases e;have:=ZeX g n (d+1) (r+1) y.1 y.2 h1 e1;show y.1.nums.length+1+1+_≤_;omega
     · rename_i c1
       obtain ⟨y,e1,e⟩:=Zal e;obtain ⟨r2,e2,e⟩:=Zal e;cases e;have t1:=ZdD (mk:=T.on) (fun _=>rfl) g (by decide +kernel) (ZaD g (by decide +kernel) (ZaC g n (d+1))) (ZdD (mk:=T.al) (fun _=>rfl) g (by decide +kernel) (ZaC g n (d+1)) (ZeX g n (d+1))) (r+1) y.1 y.2 h1 e1;unfold pPass at e2;split at e2
       · cases e2
         omega
       · cases e2
   · have lf : t.nums.length=1:=by
       split at e
       · cases e
         rfl
       · split at e
         · cases e
           rfl
         · split at e
           · unfold pWithin at e
             split at e
             · obtain ⟨y,_,e⟩:=Zal e
               cases e;rfl
             · obtain ⟨_,_,e⟩:=Zal e
               obtain ⟨_,_,e⟩:=Zal e;obtain ⟨_,_,e⟩:=Zal e;obtain ⟨_,_,e⟩:=Zal e;cases e;rfl
           · cases e
     rw [lf];have:=on.1;omega
theorem nums_got (g:Gd ts)(h0:0<ts.length){t:T}(e:pQuestion ts=.inr t):t.nums.length+1≤2*ts.length:=by unfold pQuestion pChains at e;obtain ⟨y,e1,e⟩:=Zal e;obtain ⟨r2,e2,e⟩:=Zal e;cases e;have on2:=ZaD (mk:=T.al) (sep:=Str.ofString "and") g (by decide +kernel) (ZaC g 21 0);have t1:=ZdD (mk:=T.on) (fun _=>rfl) g (by decide +kernel) on2 (ZdD (mk:=T.al) (fun _=>rfl) g (by decide +kernel) (ZaC g 21 0) (ZeX g 21 0)) 0 y.1 y.2 h0 e1;have hy:=(ZaD g (by decide +kernel) on2 0 y.1 y.2 h0 e1).2;omega
end
def l14:List Str:=[Str.ofString "(",Str.ofString ")",Str.ofString "and",Str.ofString "or",Str.ofString "not",Str.ofString "all",Str.ofString "none",Str.ofString "is",Str.ofString "from",Str.ofString "to",Str.ofString "7",Str.ofString "0",Str.ofString "007",Str.ofString "1234567890123"]
def l12:List Str:=[Str.ofString "a",Str.ofString "abcdefghi",Str.ofString "a1",Str.ofString "And",Str.ofString "-1",Str.ofString "1.5",Str.ofString "=",Str.ofString "a_b",Str.ofString "x,",Str.ofString "<",Str.ofString "1a",Str.ofString "all1"]
def aS:Str:=Str.ofString "a"
theorem odd_all:∀ w∈l14++l12,w.length≤20∧okw w=true∧(nameB w=true→w=aS):=by decide +kernel
def WP (N:List Str)(w:Str):Prop:=w∈l14++l12∨w∈N∨figB w=true
theorem Zgy {w:Str}(h:figB w=true):nameB w=false:=by
 rw [Bool.eq_false_iff];intro n;have l1:=Ze2 (Zcc h);unfold figB at h;unfold nameB at n;simp only [Bool.and_eq_true] at h n;obtain ⟨c,r,e0⟩:∃ c r,w.cps.toList=c::r:=by
   cases hc:w.cps.toList with
   | nil =>
     have:w.cps.toList.length=0:=by rw [hc];rfl
     rw [Array.length_toList] at this;have l1:1≤w.cps.size:=l1;omega
   | cons c r=>exact ⟨c,r,rfl⟩
 have a:=h.1.2;have b:=n.1.2;unfold ofS at a b;rw [e0] at a b;simp only [List.all_cons,Bool.and_eq_true,decide_eq_true_eq] at a b;have:∀ c∈figS.cps.toList,¬ c∈letS.cps.toList:=by decide +kernel
 exact this c a.1 b.1
theorem ZeC {w:Str}(h:nameB w=true):w.length≤20:=by unfold nameB at h;simp only [Bool.and_eq_true,decide_eq_true_eq] at h;exact Nat.le_trans h.1.1.2 (by decide)
theorem fig_20 {w:Str}(h:figB w=true):w.length≤20:=by unfold figB at h;simp only [Bool.and_eq_true,decide_eq_true_eq] at h;exact Nat.le_trans h.1.1.2 (by decide)
theorem fig_okw {w:Str}(h:figB w=true):okw w=true:=by have h':=h;unfold figB at h';simp only [Bool.and_eq_true] at h';show (_||_||plainW _)=true;rw [ZcN Zd0 (Zcc h) h'.1.2,Bool.or_true]
theorem WP.all {N:List Str}(hN:∀ x∈N,nameB x=true){w:Str}(h:WP N w):w.length≤20∧okw w=true∧(nameB w=true→w∈N++[aS]):=by
 rcases h with h | h | h
 · obtain ⟨a,b,c⟩:=odd_all w h
   exact ⟨a,b,fun n=>List.mem_append_right _ (by rw [c n];exact List.mem_cons_self)⟩
 · exact ⟨ZeC (hN w h),(pw_ok hN).n w h,fun _=>List.mem_append_left _ h⟩
 · exact ⟨fig_20 h,fig_okw h,fun n=>by rw [Zgy h] at n;cases n⟩
def kwL:List Str:=[Str.ofString "not",Str.ofString "(",Str.ofString ")",Str.ofString "and",Str.ofString "or",Str.ofString "is",Str.ofString "from",Str.ofString "to",Str.ofString "all",Str.ofString "none"]
theorem nx_kind {q:Q6}{S:List Bool}{w:Str}{x:Q6 × List Bool}(h:nx q S w=some x):w∈kwL∨nameB w=true∨figB w=true:=by
 unfold nx at h;have k:∀ z,w=z→z∈kwL→w∈kwL:=fun z e m=>e ▸ m
 cases q<;>simp only at h
 all_goals (repeat' split at h)
 all_goals first
   | cases h;done
   | (rename_i c;exact .inr (.inl c))
   | (rename_i c;exact .inr (.inr c))
   | (rename_i c;exact .inl (k _ c (by decide +kernel)))
   | (rename_i c;exact .inl (k _ c.1 (by decide +kernel)))
   | (rename_i c;rcases c with c | c<;>exact .inl (k _ c (by decide +kernel)))
   | (rename_i c _;rcases c with c | c<;>exact .inl (k _ c (by decide +kernel)))
theorem Zho (e:Tok):∀ (l:List Tok) (q:Q6) (S:List Bool),run q S (l++[e])=none→(∀ u∈l,u.1≠emS)→∀ u∈l,u.1∈kwL∨nameB u.1=true∨figB u.1=true
 | [],_,_,_,_,u,h=>by cases h
 | v :: l,q,S,h,ne,u,hu=>by
   rw [List.cons_append] at h;unfold run at h;rw [if_neg (ne v List.mem_cons_self)] at h;cases x:nx q S v.1 with
   | none =>
     rw [x] at h;cases h
   | some y =>
     rw [x] at h;rcases List.mem_cons.mp hu with rfl | hu
     · exact nx_kind x
     · exact Zho e l y.1 y.2 h (fun z hz=>ne z (List.mem_cons_of_mem _ hz)) u hu
structure Acc (us:List Tok)(e:Nat)(t:T):Prop where
 ne:∀ u∈us,u.1≠emS
 q:pQuestion (us++[(emS,e)])=.inr t
 g:Gd (us++[(emS,e)])
section
variable {us:List Tok}{e:Nat}{t:T}
theorem Acc.pos (_:Acc us e t):0<(us++[(emS,e)]).length:=by rw [List.length_append];exact Nat.succ_pos _
theorem Acc.run (a:Acc us e t):My.run .pc [] (us++[(emS,e)])=none:=by have f:=Ze3 a.g a.pos;rw [a.q] at f;exact f
theorem Acc.kind (a:Acc us e t):∀ u∈us,u.1∈kwL∨nameB u.1=true∨figB u.1=true:=Zho _ us .pc [] a.run a.ne
theorem Acc.tk (a:Acc us e t){r:Nat}(h:r<us.length):us[r]?=some (My.tk (us++[(emS,e)]) r)∧(My.tk (us++[(emS,e)]) r).1≠emS:=by have e1:=ZbO (ts:=us++[(emS,e)]) (r:=r) (by rw [List.length_append];omega);rw [List.getElem?_append_left h] at e1;exact ⟨e1,a.ne _ (List.mem_of_getElem? e1)⟩
theorem Acc.end (a:Acc us e t){r:Nat}(h:r<(us++[(emS,e)]).length)(z:(My.tk (us++[(emS,e)]) r).1=emS):r=us.length:=by
 rw [List.length_append] at h;have h:r<us.length+1:=h;by_cases c:r<us.length
 · exact absurd z (a.tk c).2
 · omega
end
theorem sgw_eq {ts:List Tok}{isL:Str→Bool}:∀ k r,r+k≤ts.length→sgw ts isL r k=(((ts.drop r).take k).map (·.1)).filter isL
 | 0,r,_=>by rw [List.take_zero];rfl
 | k+1,r,h=>by
   rw [ZdF (by omega),List.take_succ_cons,List.map_cons,List.filter_cons,← sgw_eq k (r+1) (by omega)];show (if isL (tk ts r).1=true then [(tk ts r).1] else [])++_=_;split<;>rfl
def isLw (N:List Str)(w:Str):Bool:=decide (w∈N)||decide (w=Str.ofString "all")||decide (w=Str.ofString "none")
theorem isLw_no {N:List Str}(hN:∀ x∈N,nameB x=true){w:Str}(h:nameB w=false)(h1:w≠Str.ofString "all")(h2:w≠Str.ofString "none"):isLw N w=false:=by unfold isLw;rw [decide_eq_false (fun z=>by rw [hN w z] at h;cases h),decide_eq_false h1,decide_eq_false h2];rfl
theorem fig_all {w:Str}(h:figB w=true):w≠Str.ofString "all"∧w≠Str.ofString "none":=by refine ⟨?_,?_⟩<;>(intro z;rw [z] at h;revert h;decide +kernel)
theorem ZgP {w:Str}(h:nameB w=true):w≠Str.ofString "all"∧w≠Str.ofString "none":=by refine ⟨?_,?_⟩<;>(intro z;rw [z] at h;revert h;decide +kernel)
section
variable {us:List Tok}{e:Nat}{t:T}{N:List Str}
theorem noL (hN:∀ x∈N,nameB x=true){ts:List Tok}(hw:∀ w,nameB w=true→w∈ts.map (·.1)→w∈N):NoL ts (isLw N):=by
 have no:∀ {w:Str},nameB w=false∧w≠Str.ofString "all"∧w≠Str.ofString "none"→isLw N w=false:=fun h=>isLw_no hN h.1 h.2.1 h.2.2
 refine ⟨⟨no (by decide +kernel),no (by decide +kernel),no (by decide +kernel),no (by decide +kernel),no (by decide +kernel),no (by decide +kernel),no (by decide +kernel),no (by decide +kernel)⟩,fun w h=>no ⟨Zgy h,fig_all h⟩,?_,?_,fun w h m=>?_⟩
 · unfold isLw
   rw [decide_eq_true (rfl:Str.ofString "all"=_),Bool.or_true,Bool.true_or]
 · unfold isLw
   rw [decide_eq_true (rfl:Str.ofString "none"=_),Bool.or_true]
 · unfold isLw
   rw [decide_eq_true (hw w h m)];rfl
theorem ZdQ (a:Acc us e t)(hw:∀ u∈us,nameB u.1=true→u.1∈N):∀ w,nameB w=true→w∈(us++[(emS,e)]).map (·.1)→w∈N:=fun w n m=>by
 obtain ⟨u,hu,rfl⟩:=List.mem_map.mp m;rcases List.mem_append.mp hu with hu | hu
 · exact hw u hu n
 · rw [List.mem_singleton.mp hu] at n
   exact absurd rfl (Zb8 n)
theorem Acc.lw (a:Acc us e t)(hN:∀ x∈N,nameB x=true)(hw:∀ u∈us,nameB u.1=true→u.1∈N):t.lw=(us.map (·.1)).filter (isLw N):=by obtain ⟨r,l,z,hr⟩:=lw_eq (noL hN (ZdQ a hw)) a.g a.pos a.q;have er:=a.end hr z;subst er;rw [← l.2,sgw_eq _ _ (by omega),List.drop_zero,Nat.sub_zero,List.take_left]
end
def lfP (ts:List Tok)(f:Str→Int)(r:Nat):Bool :=
 if (tk ts r).1=Str.ofString "all"∨(tk ts r).1=Str.ofString "none" then decide ((tk ts r).1=Str.ofString "all")
 else if (tk ts (r+1)).1=Str.ofString "is" then decide (figI (tk ts (r+2)).1=f (tk ts r).1)
 else decide (figI (tk ts (r+2)).1≤f (tk ts r).1)&&decide (f (tk ts r).1≤figI (tk ts (r+4)).1)
theorem lf_v {ts:List Tok} {f:Str→Int}:∀ r t r' n d,r<ts.length→pPiece ts n d r=.inr (t,r')→t.ao=false→(∀ u,t≠.opp u)→(tk ts r).1≠Str.ofString "("→lfP ts f r=t.hol f:=by
 intro r t r' n d h e ha ho hb;cases n with
 | zero=>cases e
 | succ n =>
   unfold pPiece at e;split at e
   · split at e
     · obtain ⟨y,_,e⟩:=Zal e
       cases e;exact absurd rfl (ho y.1)
     · rename_i c c1
       exact absurd (c.1.resolve_left c1) hb
   · split at e
     · rename_i c1
       cases e;unfold lfP;rw [c1,if_pos (.inl rfl),decide_eq_true rfl];rfl
     · split at e
       · rename_i c1
         cases e;unfold lfP;rw [c1,if_pos (.inr rfl),decide_eq_false (by decide +kernel)];rfl
       · split at e
         · rename_i c2 c1 c3
           unfold lfP;rw [if_neg (fun z=>z.elim c2 c1)];have fg:∀ {q:Nat} {y:Int × Nat},pFig ts q=.inr y→y=(figI (tk ts q).1,q+1):=fun {q y} h=>by
             unfold pFig at h;split at h
             · cases h
               rfl
             · cases h
           have ps:∀ {q q':Nat} {w:Str},pPass ts w q=.inr q'→q'=q+1:=fun {q q' w} h=>by
             unfold pPass at h;split at h
             · cases h
               rfl
             · cases h
           unfold pWithin at e;split at e
           · rename_i c4
             obtain ⟨y,e1,e⟩:=Zal e;cases e;rw [if_pos c4,fg e1];show _=(decide (_≤_)&&decide (_≤_))
             rw [Bool.eq_iff_iff,Bool.and_eq_true,decide_eq_true_eq,decide_eq_true_eq,decide_eq_true_eq];show figI (tk ts (r+2)).1=_↔figI (tk ts (r+2)).1≤_∧_≤figI (tk ts (r+2)).1;omega
           · rename_i c4
             obtain ⟨r1,e1,e⟩:=Zal e;obtain ⟨lo,e2,e⟩:=Zal e;obtain ⟨r2,e3,e⟩:=Zal e;obtain ⟨hi,e4,e⟩:=Zal e;cases e;rw [if_neg c4];have a1:=ps e1;subst a1;have a2:=fg e2;subst a2;have a3:=ps e3;subst a3;have a4:=fg e4;subst a4;rfl
         · cases e
theorem lfOk {us:List Tok}{e:Nat}{t:T}{N:List Str}{f:Str→Int}(a:Acc us e t)(hN:∀ x∈N,nameB x=true)(hw:∀ u∈us,nameB u.1=true→u.1∈N):LfOk (us++[(emS,e)]) (isLw N) (lfP (us++[(emS,e)]) f) f:=by have n:=noL hN (ZdQ a hw);obtain ⟨_,_,_,h1,_,h2,h3,h4⟩:=n.a;exact ⟨n.al,n.no,h1,n.nm,n.fg,⟨h2,h3,h4⟩,lf_v⟩
theorem rstep {ts:List Tok}{q:Q6}{S:List Bool}{k:Nat}(g:Gd ts)(h:k<ts.length)(hr:run q S (ts.drop k)=none)(hn:(tk ts k).1≠emS∨q≠.be):∃ x,nx q S (tk ts k).1=some x∧run x.1 x.2 (ts.drop (k+1))=none∧(tk ts k).1≠emS∧k+1<ts.length:=by
 rw [ZdF h] at hr;unfold run at hr;split at hr
 · rename_i c
   rw [if_neg (fun z=>hn.elim (fun y=>y c) (fun y=>y z.1))] at hr;cases hr
 · rename_i c
   cases x:nx q S (tk ts k).1 with
   | none =>
     rw [x] at hr;cases hr
   | some y =>
     rw [x] at hr;exact ⟨y,rfl,hr,c,g.next h c⟩
theorem ZeB:∀ S:List Bool,popN (popN S)=popN S
 | []=>rfl
 | true::S=>rfl
 | false::S=>ZeB S
theorem ZjJ:∀ S:List Bool,(popN S).count true=S.count true
 | []=>rfl
 | true::S=>rfl
 | false::S=>by
   show (popN S).count true=_;rw [ZjJ S,List.count_cons_of_ne (by decide)]
theorem ZeK:∀ (S:List Bool) (b:Bool),(unw S b).2=popN S
 | [],_=>rfl
 | true::S,_=>rfl
 | false::S,b=>ZeK S (!b)
theorem putL_len (L:List Lv)(b:Bool):(putL L b).length=L.length:=by cases L<;>rfl
def LOk (ts:List Tok)(N:List Str)(r:Nat):Prop:=((tk ts r).1=Str.ofString "all"∨(tk ts r).1=Str.ofString "none")∨((tk ts r).1∈N∧figB (tk ts (r+2)).1=true∧((tk ts (r+1)).1=Str.ofString "is"∨(tk ts (r+1)).1=Str.ofString "from"∧figB (tk ts (r+4)).1=true))
def stS (q:Q6)(S:List Bool):List Bool:=match q with | .pc=>S | .be=>S | _=>popN S
structure TG (ts:List Tok)(k:Nat)(s:List Lv × List Bool)(q:Q6)(S:List Bool):Prop where
 r:run q S (ts.drop k)=none
 st:s.2=stS q S
 ln:s.1.length=1+s.2.count true
 be:q=.be→popN S=S
section
variable {ts:List Tok}{N:List Str}{lf:Nat→Bool}{k:Nat}{s:List Lv × List Bool}{q:Q6}{S:List Bool}
theorem Zbq (h1:(tk ts k).1≠Str.ofString "not")(h2:(tk ts k).1≠Str.ofString "(")(h3:(tk ts k).1≠Str.ofString "or")(h4:(tk ts k).1≠Str.ofString ")")(h5:isLw N (tk ts k).1=false):tst ts (isLw N) lf k s=s:=by unfold tst;rw [if_neg h1,if_neg h2,if_neg h3,if_neg h4,h5,if_neg Bool.false_ne_true]
theorem Zcs (h1:(tk ts k).1≠Str.ofString "not")(h2:(tk ts k).1≠Str.ofString "(")(h3:(tk ts k).1≠Str.ofString "or")(h4:(tk ts k).1≠Str.ofString ")")(h5:isLw N (tk ts k).1=true):tst ts (isLw N) lf k s=finL s.1 s.2 (lf k):=by unfold tst;rw [if_neg h1,if_neg h2,if_neg h3,if_neg h4,h5,if_pos rfl]
theorem ZhU {L:List Lv}{S:List Bool}{b:Bool}(h:L.length=1+S.count true):(finL L S b).2=popN S∧(finL L S b).1.length=1+(finL L S b).2.count true:=by unfold finL;refine ⟨ZeK S b,?_⟩;show (putL L _).length=1+(unw S b).2.count true;rw [putL_len,ZeK,ZjJ];exact h
theorem TG.step (n:NoL ts (isLw N)) (hw:∀ w,nameB w=true→w∈ts.map (·.1)→w∈N) (g:Gd ts) (hk:k<ts.length) (ne:(tk ts k).1≠emS) (h:TG ts k s q S):((tk ts k).1=Str.ofString ")"→∃ S1,s.2=true::S1)∧(isLw N (tk ts k).1=true→LOk ts N k)∧∃ q' S',TG ts (k+1) (tst ts (isLw N) lf k s) q' S':=by
 obtain ⟨hr,st,ln,be⟩:=h;obtain ⟨x,ex,r1,_,k1⟩:=rstep g hk hr (.inl ne);have mem:(tk ts k).1∈ts.map (·.1):=List.mem_map.mpr ⟨_,List.mem_of_getElem? (ZbO hk),rfl⟩;obtain ⟨n1,n2,n3,n4,n5,n6,n7,n8⟩:=n.a;have ex0:=ex;cases q with
 | pc =>
   have st:s.2=S:=st;unfold nx at ex;simp only at ex;by_cases c0:(tk ts k).1=Str.ofString "not"
   · rw [if_pos (.inl c0)] at ex
     split at ex
     · cases ex
     · cases ex
       refine ⟨fun z=>absurd (c0.symm.trans z) (by decide +kernel),fun z=>(by rw [c0,n1] at z;cases z),.pc,_,r1,?_,?_,fun z=>by cases z⟩
       · unfold tst
         rw [if_pos c0,st,c0];rw [decide_eq_false (by decide +kernel)];rfl
       · unfold tst
         rw [if_pos c0];show s.1.length=1+(false::s.2).count true;rw [List.count_cons_of_ne (by decide)];exact ln
   · by_cases c1 : (tk ts k).1=Str.ofString "("
     · rw [if_pos (.inr c1)] at ex
       split at ex
       · cases ex
       · cases ex
         refine ⟨fun z=>absurd (c1.symm.trans z) (by decide +kernel),fun z=>(by rw [c1,n2] at z;cases z),.pc,_,r1,?_,?_,fun z=>by cases z⟩
         · unfold tst
           rw [if_neg c0,if_pos c1,st,c1];rw [decide_eq_true rfl];rfl
         · unfold tst
           rw [if_neg c0,if_pos c1];show s.1.length+1=1+(true::s.2).count true;rw [List.count_cons_self,ln];omega
     · rw [if_neg (fun z=>z.elim c0 c1)] at ex
       by_cases c2:(tk ts k).1=Str.ofString "all"∨(tk ts k).1=Str.ofString "none"
       · rw [if_pos c2] at ex
         cases ex;have o:(tk ts k).1≠Str.ofString "or"∧(tk ts k).1≠Str.ofString ")":=by rcases c2 with c | c<;>rw [c]<;>decide +kernel
         have il:isLw N (tk ts k).1=true:=by
           rcases c2 with c | c<;>rw [c]
           · exact n.al
           · exact n.no
         obtain ⟨f1,f2⟩:=ZhU (b:=lf k) ln;refine ⟨fun z=>absurd z o.2,fun _=>.inl c2,.be,_,r1,?_,?_,fun _=>ZeB S⟩
         · rw [Zcs c0 c1 o.1 o.2 il,f1,st]
           rfl
         · rw [Zcs c0 c1 o.1 o.2 il]
           exact f2
       · rw [if_neg c2] at ex
         split at ex
         · rename_i c3
           cases ex;have o:=Zi2 c3;have il:=n.nm _ c3 mem;obtain ⟨f1,f2⟩:=ZhU (b:=lf k) ln;refine ⟨fun z=>absurd z o.2.2.2,fun _=>.inr ⟨hw _ c3 mem,?_⟩,.nm,_,r1,?_,?_,fun z=>by cases z⟩
           · obtain ⟨x1,e1,r2,m1,k2⟩:=rstep g k1 r1 (.inr (fun z=>by cases z))
             unfold nx at e1;simp only at e1;split at e1
             · rename_i c4
               cases e1;obtain ⟨x2,e2,_⟩:=rstep g k2 r2 (.inr (fun z=>by cases z));unfold nx at e2;simp only at e2;split at e2
               · rename_i c5
                 exact ⟨c5,.inl c4⟩
               · cases e2
             · split at e1
               · rename_i c4
                 cases e1;obtain ⟨x2,e2,r3,_,k3⟩:=rstep g k2 r2 (.inr (fun z=>by cases z));unfold nx at e2;simp only at e2;split at e2
                 · rename_i c5
                   cases e2;obtain ⟨x3,e3,r4,_,k4⟩:=rstep g k3 r3 (.inr (fun z=>by cases z));unfold nx at e3;simp only at e3;split at e3
                   · cases e3
                     obtain ⟨x4,e4,_⟩:=rstep g k4 r4 (.inr (fun z=>by cases z));unfold nx at e4;simp only at e4;split at e4
                     · rename_i c7
                       exact ⟨c5,.inr ⟨c4,c7⟩⟩
                     · cases e4
                   · cases e3
                 · cases e2
               · cases e1
           · rw [Zcs c0 c1 o.2.2.1 o.2.2.2 il,f1,st]
             rfl
           · rw [Zcs c0 c1 o.2.2.1 o.2.2.2 il]
             exact f2
         · cases ex
 | be =>
   have st:s.2=S:=st;have be:=be rfl;unfold nx at ex;simp only at ex;split at ex
   · rename_i c
     cases ex;obtain ⟨S1,rfl⟩:∃ S1,S=true::S1:=by
       cases S with
       | nil=>exact absurd rfl c.2
       | cons b S1 =>
         cases b with
         | true=>exact ⟨S1,rfl⟩
         | false =>
           have be:popN S1=false::S1:=be;have:=congrArg List.length be;have l:=Zcu S1;simp only [List.length_cons] at this;omega
     obtain ⟨y,L,eL⟩:∃ y L,s.1=y::L:=by
       cases z:s.1 with
       | nil =>
         rw [z] at ln;have ln:0=1+List.count true s.snd:=ln;omega
       | cons y L=>exact ⟨y,L,rfl⟩
     rw [eL,st,List.count_cons_self] at ln;have ln:L.length+1=1+(S1.count true+1):=ln;obtain ⟨f1,f2⟩:=ZhU (L:=L) (S:=S1) (b:=y.1||y.2) (by omega);have et:tst ts (isLw N) lf k s=finL L S1 (y.1||y.2):=by unfold tst;rw [c.1,if_neg (by decide +kernel),if_neg (by decide +kernel),if_neg (by decide +kernel),if_pos rfl,eL,st];rfl
     refine ⟨fun _=>⟨S1,st⟩,fun z=>(by rw [c.1,n3] at z;cases z),.be,_,r1,?_,?_,fun _=>ZeB _⟩
     · rw [et,f1]
       rfl
     · rw [et]
       exact f2
   · split at ex
     · rename_i c
       cases ex;rcases c with c | c
       · refine ⟨fun z=>absurd (c.symm.trans z) (by decide +kernel),fun z=>(by rw [c,n4] at z;cases z),.pc,_,r1,?_,?_,fun z=>by cases z⟩
         · rw [Zbq (by rw [c];decide +kernel) (by rw [c];decide +kernel) (by rw [c];decide +kernel) (by rw [c];decide +kernel) (by rw [c];exact n4)]
           exact st
         · rw [Zbq (by rw [c];decide +kernel) (by rw [c];decide +kernel) (by rw [c];decide +kernel) (by rw [c];decide +kernel) (by rw [c];exact n4)]
           exact ln
       · have et:tst ts (isLw N) lf k s=(match s.1 with | x::L=>(x.1||x.2,true)::L | []=>[],s.2):=by
           unfold tst;rw [c,if_neg (by decide +kernel),if_neg (by decide +kernel),if_pos rfl]
           all_goals (cases s.1<;>rfl)
         refine ⟨fun z=>absurd (c.symm.trans z) (by decide +kernel),fun z=>(by rw [c,n5] at z;cases z),.pc,_,r1,?_,?_,fun z=>by cases z⟩
         · rw [et]
           exact st
         · rw [et]
           have:(match s.1 with | x::L=>(x.1||x.2,true)::L | []=>[]:List Lv).length=s.1.length:=by cases s.1<;>rfl
           exact this.trans ln
     · cases ex
 | nm =>
   unfold nx at ex;simp only at ex;split at ex
   · rename_i c
     cases ex;have sk:=Zbq (N:=N) (lf:=lf) (s:=s) (ts:=ts) (k:=k) (by rw [c];decide +kernel) (by rw [c];decide +kernel) (by rw [c];decide +kernel) (by rw [c];decide +kernel) (by rw [c];exact n6);exact ⟨fun z=>absurd (c.symm.trans z) (by decide +kernel),fun z=>(by rw [c,n6] at z;cases z),.la,_,r1,by rw [sk];exact st,by rw [sk];exact ln,fun z=>by cases z⟩
   · split at ex
     · rename_i c
       cases ex;have sk:=Zbq (N:=N) (lf:=lf) (s:=s) (ts:=ts) (k:=k) (by rw [c];decide +kernel) (by rw [c];decide +kernel) (by rw [c];decide +kernel) (by rw [c];decide +kernel) (by rw [c];exact n7);exact ⟨fun z=>absurd (c.symm.trans z) (by decide +kernel),fun z=>(by rw [c,n7] at z;cases z),.fi,_,r1,by rw [sk];exact st,by rw [sk];exact ln,fun z=>by cases z⟩
     · cases ex
 | to =>
   unfold nx at ex;simp only at ex;split at ex
   · rename_i c
     cases ex;have sk:=Zbq (N:=N) (lf:=lf) (s:=s) (ts:=ts) (k:=k) (by rw [c];decide +kernel) (by rw [c];decide +kernel) (by rw [c];decide +kernel) (by rw [c];decide +kernel) (by rw [c];exact n8);exact ⟨fun z=>absurd (c.symm.trans z) (by decide +kernel),fun z=>(by rw [c,n8] at z;cases z),.la,_,r1,by rw [sk];exact st,by rw [sk];exact ln,fun z=>by cases z⟩
   · cases ex
 | fi =>
   unfold nx at ex;simp only at ex;split at ex
   · rename_i c
     cases ex;have o:=Zh1 c;have sk:=Zbq (N:=N) (lf:=lf) (s:=s) o.1 o.2.1 o.2.2.1 o.2.2.2 (n.fg _ c);exact ⟨fun z=>absurd z o.2.2.2,fun z=>(by rw [n.fg _ c] at z;cases z),.to,_,r1,by rw [sk];exact st,by rw [sk];exact ln,fun z=>by cases z⟩
   · cases ex
 | la =>
   unfold nx at ex;simp only at ex;split at ex
   · rename_i c
     cases ex;have o:=Zh1 c;have sk:=Zbq (N:=N) (lf:=lf) (s:=s) o.1 o.2.1 o.2.2.1 o.2.2.2 (n.fg _ c);exact ⟨fun z=>absurd z o.2.2.2,fun z=>(by rw [n.fg _ c] at z;cases z),.be,_,r1,by rw [sk];exact st,by rw [sk];exact ln,fun _=>ZeB S⟩
   · cases ex
end
theorem QAt.objH {C:Kd→Addr}{H:Hp}:∀ (t:T) {v:V},QAt C H t v→∃ p dx fs,v=.ref p∧H p=some (.ins (C t.kd) dx fs)∧fs.lookup ("holds":Str)=none
 | .ev,_,h=>by
   unfold QAt at h;obtain ⟨p,dx,q,r⟩:=h;exact ⟨p,dx,_,q,r,rfl⟩
 | .no,_,h=>by
   unfold QAt at h;obtain ⟨p,dx,q,r⟩:=h;exact ⟨p,dx,_,q,r,rfl⟩
 | .inn _ _ _,_,h=>by
   unfold QAt at h;obtain ⟨p,dx,q,r⟩:=h;exact ⟨p,dx,_,q,r,rfl⟩
 | .opp t,_,h=>by
   unfold QAt at h;obtain ⟨p,dx,u,q,r,_⟩:=h;exact ⟨p,dx,_,q,r,rfl⟩
 | .al ts,_,h=>by
   unfold QAt at h;obtain ⟨p,dx,l,us,q,r,_⟩:=h;exact ⟨p,dx,_,q,r,rfl⟩
 | .on ts,_,h=>by
   unfold QAt at h;obtain ⟨p,dx,l,us,q,r,_⟩:=h;exact ⟨p,dx,_,q,r,rfl⟩
def Ts.hols (f:Str→Int)(ts:Ts):List Bool:=ts.toL.map (T.hol f)
theorem Ts.hols_eq (f:Str→Int)(ts:Ts):ts.hols f=ts.toL.map (T.hol f):=rfl
theorem Ts.allH_eq (f:Str→Int):∀ ts:Ts,ts.allH f=(ts.hols f).all id
 | .nil=>rfl
 | .cons t r=>by
   show (t.hol f&&r.allH f)=(t.hol f&&(r.hols f).all id)
   rw [Ts.allH_eq f r]
theorem Ts.anyH_eq (f:Str→Int):∀ ts:Ts,ts.anyH f=(ts.hols f).any id
 | .nil=>rfl
 | .cons t r=>by
   show (t.hol f||r.anyH f)=(t.hol f||(r.hols f).any id)
   rw [Ts.anyH_eq f r]
theorem Ts.dep_le:∀ (ts:Ts) {t:T},t∈ts.toL→t.dep≤ts.dep
 | .nil,_,h=>by cases h
 | .cons t r,x,h=>by
   show x.dep≤Nat.max t.dep r.dep;rcases List.mem_cons.mp h with rfl | h
   · exact Nat.le_max_left _ _
   · exact Nat.le_trans (Ts.dep_le r h) (Nat.le_max_right _ _)
theorem Ts.ok_mem {N:List Str}:∀ (ts:Ts) {t:T},ts.ok N→t∈ts.toL→t.ok N
 | .nil,_,_,h=>by cases h
 | .cons t r,x,o,h=>by
   unfold Ts.ok at o;rcases List.mem_cons.mp h with rfl | h
   · exact o.1
   · exact Ts.ok_mem r o.2 h
def VOk (N:List Str)(kvs:List (Key × V))(f:Str→Int):Prop:=∀ x∈N,valV kvs (.inr x)=some (.int (f x))
def spHolds (C:Kd→Addr)(N:List Str)(n:Nat)(k:Kd):Sp:=fun vs H Q _=>∃ (t:T) (v:V) (d:Addr) (kvs:List (Key × V)) (f:Str→Int),vs=[v,.ref d]∧t.kd=k∧QAt C H t v∧t.ok N∧t.dep<n∧H d=some (.dK kvs)∧VOk N kvs f∧∀ H',Same H H'→Q (.bl (t.hol f)) H'
section
variable {P:Program}{w:World}{K:PySem.W.Frag}{mg:Str→Option Value}{base:Heap}{C:Kd→Addr}{N:List Str}{n:Nat}
theorem ZiM (cd:CD_Every K mg (C .ev))(n:Nat):MethAt P w K mg base (C .ev) "holds" ["self","values"] (n+1) (spHolds C N n .ev):=by
 refine MethAt.of cd.c cd.m_holds ZeO (fun vs H Q E h=>?_) (fun f cdv A outer s H vs Q E hr h=>?_)
 · obtain ⟨t,v,d,kvs,f,rfl,_⟩:=h
   rfl
 obtain ⟨t,v,d,kvs,f,rfl,hk,hq,ok,hd,hv,vo,q⟩:=h;refine ⟨_,(Zae (Zam ZbL)),?_⟩;walk_at "vc";cases t<;>try cases hk
 exact q _ (Same.refl _)
theorem Zjj (cd:CD_Nobody K mg (C .no))(n:Nat):MethAt P w K mg base (C .no) "holds" ["self","values"] (n+1) (spHolds C N n .no):=by
 refine MethAt.of cd.c cd.m_holds Zev (fun vs H Q E h=>?_) (fun f cdv A outer s H vs Q E hr h=>?_)
 · obtain ⟨t,v,d,kvs,f,rfl,_⟩:=h
   rfl
 obtain ⟨t,v,d,kvs,f,rfl,hk,hq,ok,hd,hv,vo,q⟩:=h;refine ⟨_,(Zae (Zam ZbL)),?_⟩;walk_at "vc";cases t<;>try cases hk
 exact q _ (Same.refl _)
theorem ZjC (cd:CD_Within K mg (C .wi))(n:Nat):MethAt P w K mg base (C .wi) "holds" ["self","values"] (n+1) (spHolds C N n .wi):=by
 refine MethAt.of cd.c cd.m_holds Zeu (fun vs H Q E h=>?_) (fun f cdv A outer s H vs Q E hr h=>?_)
 · obtain ⟨t,v,d,kvs,f,rfl,_⟩:=h
   rfl
 obtain ⟨t,v,d,kvs,f,rfl,hk,hq,ok,hd,hv,vo,q⟩:=h;refine ⟨_,(Zae (Zam (Zdv Zc4 Zc4 (ZaG K (pv 0)) (Zgw (hu1 hr) (pv 1) (ZaG K (pv 0)) (fun _ _=>rfl)) (ZaG K (pv 0))))),?_⟩;cases t with
 | inn x lo hi =>
   obtain ⟨p,dx,rfl,hp⟩:=hq;walk_at "vc";refine ⟨_,_,_,hp,cd.c,cd.n_low,_,rfl,_,_,_,hp,cd.c,cd.n_name,_,rfl,_,.inl ⟨kvs,.inr x,.inl hv,rfl,(vo x ok.1).symm⟩,_,rfl,_,rfl,?_⟩;have q:=q _ (Same.refl _);unfold T.hol at q;split
   · rename_i c
     refine ⟨_,_,_,hp,cd.c,cd.n_high,_,rfl,_,rfl,_,rfl,?_⟩;rw [decide_eq_true c] at q;exact q
   · rename_i c
     rw [decide_eq_false c] at q;exact q
 | _=>cases hk
variable (ih:∀ k,MethAt P w K mg base (C k) "holds" ["self","values"] (n+1) (spHolds C N n k))
include ih
theorem ok_h_op (cd:CD_Opposite K mg (C .op)):MethAt P w K mg base (C .op) "holds" ["self","values"] (n+2) (spHolds C N (n+1) .op):=by
 refine MethAt.of cd.c cd.m_holds ZbJ (fun vs H Q E h=>?_) (fun f cdv A outer s H vs Q E hr h=>?_)
 · obtain ⟨t,v,d,kvs,f,rfl,_⟩:=h
   rfl
 obtain ⟨t,v,d,kvs,f,rfl,hk,hq,ok,hd,hv,vo,q⟩:=h;refine ⟨_,(Zae (Zam (Zib (Zfg (P:=P) (w:=w) (K:=K) (mg:=mg) (base:=base) (n+1) (hr.mono (by omega)) (ZaG K (pv 0)) (Zaa (pv 1) Zac))))),?_⟩;cases t with
 | opp t =>
   obtain ⟨p,dx,u,rfl,hp,hu⟩:=hq;obtain ⟨p1,dx1,fs,rfl,h1,lk⟩:=QAt.objH t hu;walk_at "vc";refine ⟨_,_,_,hp,cd.c,cd.n_one,_,rfl,p1,rfl,_,_,_,h1,lk,_,_,ih t.kd,t,_,d,kvs,f,rfl,rfl,hu,ok,Nat.lt_of_succ_lt (Nat.lt_of_succ_lt_succ hd),hv,vo,fun H' s=>?_⟩;exact ⟨_,rfl,q H' s⟩
 | _=>cases hk
theorem ok_h_al (B:Blt mg) (cd:CD_AllOf K mg (C .al)):MethAt P w K mg base (C .al) "holds" ["self","values"] (n+2) (spHolds C N (n+1) .al):=by
 refine MethAt.of cd.c cd.m_holds ZcL (fun vs H Q E h=>?_) (fun f cdv A outer s H vs Q E hr h=>?_)
 · obtain ⟨t,v,d,kvs,f,rfl,_⟩:=h
   rfl
 obtain ⟨t,v,d,kvs,f,rfl,hk,hq,ok,hd,hv,vo,q⟩:=h;refine ⟨_,(Zae (Zam (Zas (ZfW K) rfl B.all ZfN (Zaa (Zbh ["part"] [1] rfl (ZaS K (ZaG K (pv 0))) (fun _ _ _ _ _=>ZaB (i:=0) (by show List.Nodup (["part","values"]:List Str);decide +kernel) rfl (Or.inl rfl)) (fun _ _ _ _ _=>ZbR) (fun _ _ _ _ _=>(Zfg (P:=P) (w:=w) (K:=K) (mg:=mg) (base:=base) (n+1) (hr.mono (by omega)) (pv 0) (Zaa (pv 1) Zac))) ⟨⟨_,rfl,rfl,.inl rfl⟩,trivial⟩ ZaO) Zac)))),?_⟩;cases t with
 | al ts =>
   obtain ⟨p,dx,l,us,rfl,hp,hl,hu⟩:=hq;have dp:ts.dep<n:=Nat.lt_of_succ_lt_succ hd;have ln:=QsAt.len ts hu;have l0:=ok.1;walk_at "vc";refine ⟨_,_,_,hp,cd.c,cd.n_parts,_,rfl,l,rfl,⟨_,SqL.of hl⟩,compA (xs:=us) (fun i y _=>y=.bl ((ts.hols f).getD i false)) (fun _ _ _ _ _ h=>h) (SqL.of hl) (by omega) (fun i x H2 R hx s2 q2=>?_) (fun D ys H2 hD s2 h2 l2 h3=>?_)⟩
   · obtain ⟨t,ht,hq⟩:=QsAt.at ts hu hx
     obtain ⟨p1,dx1,fs,rfl,h1,lk⟩:=QAt.objH t hq;have tm:=List.mem_of_getElem? ht;walk_at "vc";refine ⟨_,_,_,s2 _ _ h1,lk,_,_,ih t.kd,t,_,d,kvs,f,rfl,rfl,QAt.same s2 t hq,Ts.ok_mem ts ok.2 tm,Nat.lt_of_le_of_lt (Ts.dep_le ts tm) dp,s2 _ _ hv,vo,fun H3 s3=>q2 _ H3 s3 ?_⟩;rw [Ts.hols_eq,List.getD_eq_getElem?_getD,List.getElem?_map,ht];rfl
   · have e:ys=(ts.hols f).map V.bl:=by
       refine List.ext_getElem (by rw [List.length_map,Ts.hols_eq,List.length_map,l2,ln]) fun i a1 a2=>?_
       have:=h3 i _ (List.getElem?_eq_getElem a1);rw [this,List.getElem_map,List.getD_eq_getElem?_getD,List.getElem?_eq_getElem (by rw [List.length_map] at a2;exact a2)];rfl
     refine ⟨D,rfl,_,SqL.of (e ▸ h2),?_⟩;have q:=q H2 s2;rw [show T.hol f (.al ts)=(ts.hols f).all id from Ts.allH_eq f ts] at q;exact q
 | _=>cases hk
theorem ok_h_on (B:Blt mg) (cd:CD_OneOf K mg (C .on)):MethAt P w K mg base (C .on) "holds" ["self","values"] (n+2) (spHolds C N (n+1) .on):=by
 refine MethAt.of cd.c cd.m_holds Zct (fun vs H Q E h=>?_) (fun f cdv A outer s H vs Q E hr h=>?_)
 · obtain ⟨t,v,d,kvs,f,rfl,_⟩:=h
   rfl
 obtain ⟨t,v,d,kvs,f,rfl,hk,hq,ok,hd,hv,vo,q⟩:=h;refine ⟨_,(Zae (Zam (Zas (Zkq K) rfl B.any ZkG (Zaa (Zbh ["part"] [1] rfl (ZaS K (ZaG K (pv 0))) (fun _ _ _ _ _=>ZaB (i:=0) (by show List.Nodup (["part","values"]:List Str);decide +kernel) rfl (Or.inl rfl)) (fun _ _ _ _ _=>ZbR) (fun _ _ _ _ _=>(Zfg (P:=P) (w:=w) (K:=K) (mg:=mg) (base:=base) (n+1) (hr.mono (by omega)) (pv 0) (Zaa (pv 1) Zac))) ⟨⟨_,rfl,rfl,.inl rfl⟩,trivial⟩ ZaO) Zac)))),?_⟩;cases t with
 | on ts =>
   obtain ⟨p,dx,l,us,rfl,hp,hl,hu⟩:=hq;have dp:ts.dep<n:=Nat.lt_of_succ_lt_succ hd;have ln:=QsAt.len ts hu;have l0:=ok.1;walk_at "vc";refine ⟨_,_,_,hp,cd.c,cd.n_parts,_,rfl,l,rfl,⟨_,SqL.of hl⟩,compA (xs:=us) (fun i y _=>y=.bl ((ts.hols f).getD i false)) (fun _ _ _ _ _ h=>h) (SqL.of hl) (by omega) (fun i x H2 R hx s2 q2=>?_) (fun D ys H2 hD s2 h2 l2 h3=>?_)⟩
   · obtain ⟨t,ht,hq⟩:=QsAt.at ts hu hx
     obtain ⟨p1,dx1,fs,rfl,h1,lk⟩:=QAt.objH t hq;have tm:=List.mem_of_getElem? ht;walk_at "vc";refine ⟨_,_,_,s2 _ _ h1,lk,_,_,ih t.kd,t,_,d,kvs,f,rfl,rfl,QAt.same s2 t hq,Ts.ok_mem ts ok.2 tm,Nat.lt_of_le_of_lt (Ts.dep_le ts tm) dp,s2 _ _ hv,vo,fun H3 s3=>q2 _ H3 s3 ?_⟩;rw [Ts.hols_eq,List.getD_eq_getElem?_getD,List.getElem?_map,ht];rfl
   · have e:ys=(ts.hols f).map V.bl:=by
       refine List.ext_getElem (by rw [List.length_map,Ts.hols_eq,List.length_map,l2,ln]) fun i a1 a2=>?_
       have:=h3 i _ (List.getElem?_eq_getElem a1);rw [this,List.getElem_map,List.getD_eq_getElem?_getD,List.getElem?_eq_getElem (by rw [List.length_map] at a2;exact a2)];rfl
     refine ⟨D,rfl,_,SqL.of (e ▸ h2),?_⟩;have q:=q H2 s2;rw [show T.hol f (.on ts)=(ts.hols f).any id from Ts.anyH_eq f ts] at q;exact q
 | _=>cases hk
omit ih
theorem Zj8 (B:Blt mg)(c1:CD_Every K mg (C .ev))(c2:CD_Nobody K mg (C .no))(c3:CD_Within K mg (C .wi))(c4:CD_Opposite K mg (C .op))(c5:CD_AllOf K mg (C .al))(c6:CD_OneOf K mg (C .on)):∀ n k,MethAt P w K mg base (C k) "holds" ["self","values"] (n+1) (spHolds C N n k):=by
 intro n;induction n with
 | zero =>
   intro k;cases k with
   | ev=>exact ZiM c1 0
   | no=>exact Zjj c2 0
   | wi=>exact ZjC c3 0
   | op=>exact MethAt.of c4.c c4.m_holds ZbJ (fun vs H Q E h=>by obtain ⟨t,v,d,kvs,f,rfl,_⟩:=h;rfl) (fun f cdv A outer s H vs Q E hr h=>by obtain ⟨t,v,d,kvs,f,rfl,hk,hq,ok,hd,_⟩:=h;omega)
   | al=>exact MethAt.of c5.c c5.m_holds ZcL (fun vs H Q E h=>by obtain ⟨t,v,d,kvs,f,rfl,_⟩:=h;rfl) (fun f cdv A outer s H vs Q E hr h=>by obtain ⟨t,v,d,kvs,f,rfl,hk,hq,ok,hd,_⟩:=h;omega)
   | on=>exact MethAt.of c6.c c6.m_holds Zct (fun vs H Q E h=>by obtain ⟨t,v,d,kvs,f,rfl,_⟩:=h;rfl) (fun f cdv A outer s H vs Q E hr h=>by obtain ⟨t,v,d,kvs,f,rfl,hk,hq,ok,hd,_⟩:=h;omega)
 | succ n ih =>
   intro k;cases k with
   | ev=>exact ZiM c1 _
   | no=>exact Zjj c2 _
   | wi=>exact ZjC c3 _
   | op=>exact ok_h_op ih c4
   | al=>exact ok_h_al ih B c5
   | on=>exact ok_h_on ih B c6
end
mutual
def T.lv:T→Nat
 | .opp t=>t.lv
 | .al ts=>ts.lv
 | .on ts=>ts.lv
 | _=>1
def Ts.lv:Ts→Nat
 | .nil=>0
 | .cons t r=>t.lv+r.lv
end
mutual
def T.mn:T→List Str
 | .inn x _ _=>[x]
 | .opp t=>t.mn
 | .al ts=>ts.mn
 | .on ts=>ts.mn
 | _=>[]
def Ts.mn:Ts→List Str
 | .nil=>[]
 | .cons t r=>t.mn++r.mn
end
mutual
def T.dph:T→Nat
 | .opp t=>t.dph+1
 | .al ts=>ts.dph+1
 | .on ts=>ts.dph+1
 | _=>0
def Ts.dph:Ts→Nat
 | .nil=>0
 | .cons t r=>Nat.max t.dph r.dph
end
theorem Ts.dph_le:∀ (ts:Ts) {t:T},t∈ts.toL→t.dph≤ts.dph
 | .nil,_,h=>by cases h
 | .cons t r,x,h=>by
   show x.dph≤Nat.max t.dph r.dph;rcases List.mem_cons.mp h with rfl | h
   · exact Nat.le_max_left _ _
   · exact Nat.le_trans (Ts.dph_le r h) (Nat.le_max_right _ _)
def T.kids:T→Ts
 | .opp t=>.cons t .nil
 | .al ts=>ts
 | .on ts=>ts
 | _=>.nil
theorem Ts.lv_eq:∀ ts:Ts,(ts.lv:Int)=(ts.toL.map fun t=>(t.lv:Int)).sum
 | .nil=>rfl
 | .cons t r=>by
   show ((t.lv+r.lv:Nat):Int)=(t.lv:Int)+(r.toL.map fun t=>(t.lv:Int)).sum;rw [← Ts.lv_eq r];omega
theorem Ts.mn_eq:∀ ts:Ts,ts.mn=ts.toL.flatMap T.mn
 | .nil=>rfl
 | .cons t r=>by
   show t.mn++r.mn=t.mn++r.toL.flatMap T.mn;rw [Ts.mn_eq r]
mutual
theorem T.mn_le:∀ t:T,t.mn.length≤t.nums.length
 | .ev=>Nat.zero_le _
 | .no=>Nat.zero_le _
 | .inn _ _ _=>Nat.le_refl _
 | .opp t=>Nat.le_succ_of_le (T.mn_le t)
 | .al ts=>Nat.le_succ_of_le (Ts.mn_le ts)
 | .on ts=>Nat.le_succ_of_le (Ts.mn_le ts)
theorem Ts.mn_le:∀ ts:Ts,ts.mn.length≤ts.nums.length
 | .nil=>Nat.zero_le _
 | .cons t r=>by
   show (t.mn++r.mn).length≤(t.nums++r.nums).length;rw [List.length_append,List.length_append];exact Nat.add_le_add (T.mn_le t) (Ts.mn_le r)
end
def fstM (ts:Ts)(i:Nat):List Str:=(ts.toL.take i).flatMap T.mn
theorem Zkw {ts:Ts}{i:Nat}{t:T}(h:ts.toL[i]?=some t):fstM ts (i+1)=fstM ts i++t.mn:=by unfold fstM;rw [List.take_add_one,h,List.flatMap_append];simp
theorem fstM_le (ts:Ts)(i:Nat):(fstM ts i).length≤ts.mn.length:=by have:=congrArg List.length (congrArg (List.flatMap T.mn) (List.take_append_drop i ts.toL));rw [List.flatMap_append,List.length_append,← Ts.mn_eq] at this;unfold fstM;omega
theorem fstM_all (ts:Ts):fstM ts ts.toL.length=ts.mn:=by unfold fstM;rw [List.take_length,Ts.mn_eq]
theorem T.kids_ok {N:List Str}:∀ {t:T},t.ok N→t.kids.ok N∧t.kids.toL.length≤1000
 | .ev,_=>⟨trivial,Nat.zero_le _⟩
 | .no,_=>⟨trivial,Nat.zero_le _⟩
 | .inn _ _ _,_=>⟨trivial,Nat.zero_le _⟩
 | .opp t,h=>⟨⟨h,trivial⟩,by show 1≤1000;decide⟩
 | .al ts,h=>⟨h.2,h.1.2⟩
 | .on ts,h=>⟨h.2,h.1.2⟩
theorem T.kids_dep:∀ {t:T} {n:Nat},t.dep<n+1→∀ x∈t.kids.toL,x.dep<n
 | .ev,_,_,x,h=>by cases h
 | .no,_,_,x,h=>by cases h
 | .inn _ _ _,_,_,x,h=>by cases h
 | .opp t,n,hd,x,h=>by
   rw [List.mem_singleton.mp h];exact Nat.lt_of_succ_lt (Nat.lt_of_succ_lt_succ hd)
 | .al ts,n,hd,x,h=>Nat.lt_of_le_of_lt (Ts.dep_le ts h) (Nat.lt_of_succ_lt_succ hd)
 | .on ts,n,hd,x,h=>Nat.lt_of_le_of_lt (Ts.dep_le ts h) (Nat.lt_of_succ_lt_succ hd)
theorem T.kids_mn:∀ {t:T},t.kd≠.wi→t.mn=t.kids.mn
 | .ev,_=>rfl
 | .no,_=>rfl
 | .inn _ _ _,h=>absurd rfl h
 | .opp t,_=>(List.append_nil _).symm
 | .al ts,_=>rfl
 | .on ts,_=>rfl
def Kd.low:Kd→Bool
 | .op=>true
 | .al=>true
 | .on=>true
 | _=>false
theorem T.kids_lv:∀ {t:T},t.kd.low=true→t.lv=t.kids.lv∧t.dph=t.kids.dph+1
 | .opp t,_=>⟨by show t.lv=t.lv+0;rfl,by show t.dph+1=Nat.max t.dph 0+1;rw [show Nat.max t.dph 0=t.dph from Nat.max_zero _]⟩
 | .al ts,_=>⟨rfl,rfl⟩
 | .on ts,_=>⟨rfl,rfl⟩
 | .ev,h=>by cases h
 | .no,h=>by cases h
 | .inn _ _ _,h=>by cases h
def spBen (C:Kd→Addr)(k:Kd):Sp:=fun vs H Q _=>∃ (t:T) (v:V) (G:Hp),vs=[v]∧t.kd=k∧QAt C G t v∧Same G H∧∀ p us H',Same H H'→H p=none→H' p=some (.lst us)→QsAt C G t.kids us→Q (.ref p) H'
section
variable {P:Program}{w:World}{K:PySem.W.Frag}{mg:Str→Option Value}{base:Heap}{C:Kd→Addr}{N:List Str}{n:Nat}
theorem Zga (k:Kd)(hk:k=.ev∨k=.no∨k=.wi)(c:Cls K (C k))(d:MDefAt K (C k) "beneath" "Leaf.beneath" Za2 ["self"]):MethAt P w K mg base (C k) "beneath" ["self"] 1 (spBen C k):=by
 refine MethAt.of c d Zey (fun vs H Q E h=>?_) (fun f cdv A outer s H vs Q E hr h=>?_)
 · obtain ⟨t,v,G,rfl,_⟩:=h
   rfl
 obtain ⟨t,v,G,rfl,tk,hq,sG,q⟩:=h;refine ⟨_,(Zae (Zam (Zaz Zac))),?_⟩;walk_at "vc";refine ⟨Nat.zero_le _,fun p hp=>q p [] _ (Same.new hp) hp Zad ?_⟩;have e:t.kids=.nil:=by cases t<;>first | rfl | (rcases hk with z | z | z<;>(rw [z] at tk;cases tk))
 rw [e];unfold QsAt;rfl
theorem ok_benO (cd:CD_Opposite K mg (C .op)):MethAt P w K mg base (C .op) "beneath" ["self"] 1 (spBen C .op):=by
 refine MethAt.of cd.c cd.m_beneath ZcU (fun vs H Q E h=>?_) (fun f cdv A outer s H vs Q E hr h=>?_)
 · obtain ⟨t,v,G,rfl,_⟩:=h
   rfl
 obtain ⟨t,v,G,rfl,tk,hq,sG,q⟩:=h;refine ⟨_,(Zae (Zam (Zaz (Zaa (ZaG K (pv 0)) Zac)))),?_⟩;cases t with
 | opp t =>
   obtain ⟨p,dx,u,rfl,hp,hu⟩:=hq;walk_at "vc";refine ⟨_,_,_,sG _ _ hp,cd.c,cd.n_one,_,rfl,by decide,fun p1 f1=>q p1 [u] _ (Same.new f1) f1 Zad ?_⟩;unfold T.kids QsAt;refine ⟨u,[],rfl,hu,?_⟩;unfold QsAt;rfl
 | _=>cases tk
theorem ok_benA (B:Blt mg)(cd:CD_AllOf K mg (C .al)):MethAt P w K mg base (C .al) "beneath" ["self"] 1 (spBen C .al):=by
 refine MethAt.of cd.c cd.m_beneath ZdT (fun vs H Q E h=>?_) (fun f cdv A outer s H vs Q E hr h=>?_)
 · obtain ⟨t,v,G,rfl,_⟩:=h
   rfl
 obtain ⟨t,v,G,rfl,tk,hq,sG,q⟩:=h;refine ⟨_,(Zae (Zam (ZaK (Zca K) rfl B.lst boot_list (Zaa (ZaG K (pv 0)) Zac)))),?_⟩;cases t with
 | al ts =>
   obtain ⟨p,dx,l,us,rfl,hp,hl,hu⟩:=hq;walk_at "vc";exact ⟨_,_,_,sG _ _ hp,cd.c,cd.n_parts,_,rfl,l,rfl,_,.inl (SqL.of (sG _ _ hl)),fun p1 f1=>q p1 us _ (Same.new f1) f1 Zad hu⟩
 | _=>cases tk
theorem ok_benN (B:Blt mg)(cd:CD_OneOf K mg (C .on)):MethAt P w K mg base (C .on) "beneath" ["self"] 1 (spBen C .on):=by
 refine MethAt.of cd.c cd.m_beneath Zd3 (fun vs H Q E h=>?_) (fun f cdv A outer s H vs Q E hr h=>?_)
 · obtain ⟨t,v,G,rfl,_⟩:=h
   rfl
 obtain ⟨t,v,G,rfl,tk,hq,sG,q⟩:=h;refine ⟨_,(Zae (Zam (ZaK (Zca K) rfl B.lst boot_list (Zaa (ZaG K (pv 0)) Zac)))),?_⟩;cases t with
 | on ts =>
   obtain ⟨p,dx,l,us,rfl,hp,hl,hu⟩:=hq;walk_at "vc";exact ⟨_,_,_,sG _ _ hp,cd.c,cd.n_parts,_,rfl,l,rfl,_,.inl (SqL.of (sG _ _ hl)),fun p1 f1=>q p1 us _ (Same.new f1) f1 Zad hu⟩
 | _=>cases tk
end
def spLv (C:Kd→Addr)(N:List Str)(n:Nat)(k:Kd):Sp:=fun vs H Q _=>∃ (t:T) (v:V) (G:Hp),vs=[v]∧t.kd=k∧QAt C G t v∧Same G H∧t.ok N∧t.dep<n∧∀ H',Same H H'→Q (.int t.lv) H'
def spDp (C:Kd→Addr)(N:List Str)(n:Nat)(k:Kd):Sp:=fun vs H Q _=>∃ (t:T) (v:V) (G:Hp),vs=[v]∧t.kd=k∧QAt C G t v∧Same G H∧t.ok N∧t.dep<n∧∀ H',Same H H'→Q (.int t.dph) H'
def spMn (C:Kd→Addr)(N:List Str)(n:Nat)(k:Kd):Sp:=fun vs H Q _=>∃ (t:T) (v:V) (G:Hp),vs=[v]∧t.kd=k∧QAt C G t v∧Same G H∧t.ok N∧t.dep<n∧t.nums.length≤10000∧∀ p H',Same H H'→H p=none→H' p=some (.lst (t.mn.map V.str))→Q (.ref p) H'
theorem QAt.obj2 {C:Kd→Addr}{H:Hp}(m:Str)(hm:m≠"name"∧m≠"low"∧m≠"high"∧m≠"one"∧m≠"parts"):∀ (t:T) {v:V},QAt C H t v→∃ p dx fs,v=.ref p∧H p=some (.ins (C t.kd) dx fs)∧fs.lookup m=none:=by
 obtain ⟨h1,h2,h3,h4,h5⟩:=hm;intro t v h;cases t with
 | ev =>
   obtain ⟨p,dx,q,r⟩:=h;exact ⟨p,dx,_,q,r,rfl⟩
 | no =>
   obtain ⟨p,dx,q,r⟩:=h;exact ⟨p,dx,_,q,r,rfl⟩
 | inn _ _ _ =>
   obtain ⟨p,dx,q,r⟩:=h;refine ⟨p,dx,_,q,r,?_⟩;simp [List.lookup,beq_eq_false_iff_ne.mpr h1,beq_eq_false_iff_ne.mpr h2,beq_eq_false_iff_ne.mpr h3]
 | opp t =>
   obtain ⟨p,dx,u,q,r,_⟩:=h;refine ⟨p,dx,_,q,r,?_⟩;simp [List.lookup,beq_eq_false_iff_ne.mpr h4]
 | al ts =>
   obtain ⟨p,dx,l,us,q,r,_⟩:=h;refine ⟨p,dx,_,q,r,?_⟩;simp [List.lookup,beq_eq_false_iff_ne.mpr h5]
 | on ts =>
   obtain ⟨p,dx,l,us,q,r,_⟩:=h;refine ⟨p,dx,_,q,r,?_⟩;simp [List.lookup,beq_eq_false_iff_ne.mpr h5]
theorem max_dep (ts:Ts):(ts.toL.map fun t=>(t.dph:Int)).max?.getD 0=(ts.dph:Int):=by
 obtain ⟨d,e,h⟩:=max_of (ts.toL.map T.dph);rw [List.map_map] at e;have e:(ts.toL.map fun t=>(t.dph:Int)).max?.getD 0=(d:Int):=e;have l1:ts.dph≤d:=by
   have:∀ ts:Ts,(∀ t∈ts.toL,t.dph≤d)→ts.dph≤d:=fun ts=>by
     refine Ts.rec (motive_1:=fun _=>True) (motive_2:=fun ts=>(∀ t∈ts.toL,t.dph≤d)→ts.dph≤d) trivial trivial (fun _ _ _=>trivial) (fun _ _=>trivial) (fun _ _=>trivial) (fun _ _=>trivial) (fun _=>Nat.zero_le _) (fun t r _ ih h=>?_) ts;exact Nat.max_le.mpr ⟨h t (.head _),ih fun x hx=>h x (.tail _ hx)⟩
   exact this ts fun t ht=>h _ (List.mem_map.mpr ⟨t,ht,rfl⟩)
 have l2:d≤ts.dph:=by
   cases em:(ts.toL.map fun t=>(t.dph:Int)).max? with
   | none =>
     rw [em] at e;have e:(0:Int)=d:=e;omega
   | some m =>
     obtain ⟨h1,_⟩:=List.max?_eq_some_iff.mp em;obtain ⟨t,ht,rfl⟩:=List.mem_map.mp h1;rw [em] at e;have e:(t.dph:Int)=d:=e;have:=Ts.dph_le ts ht;omega
 rw [e];omega
theorem Ts.nums_mem:∀ (ts:Ts) {t:T},t∈ts.toL→t.nums.length≤ts.nums.length
 | .nil,_,h=>by cases h
 | .cons t r,x,h=>by
   show _≤(t.nums++r.nums).length;rw [List.length_append];rcases List.mem_cons.mp h with rfl | h
   · exact Nat.le_add_right _ _
   · exact Nat.le_trans (Ts.nums_mem r h) (Nat.le_add_left _ _)
theorem T.kids_nums:∀ t:T,t.kids.nums.length≤t.nums.length
 | .ev=>Nat.zero_le _
 | .no=>Nat.zero_le _
 | .inn _ _ _=>Nat.zero_le _
 | .opp t=>by
   show (t.nums++[]).length≤t.nums.length+1;rw [List.append_nil];exact Nat.le_succ _
 | .al ts=>Nat.le_succ _
 | .on ts=>Nat.le_succ _
structure MnI (ts:Ts)(v:V)(p l:Addr)(us:List V)(H:Hp)(i:Nat)(σ:L2.St)(H':Hp):Prop where
 ex:∃ v2,σ=[some v,some (.ref p),v2]
 hp:H' p=some (.lst ((fstM ts i).map V.str))
 hl:H' l=some (.lst us)
 sm:Same H H'
section
variable {P:Program}{w:World}{K:PySem.W.Frag}{mg:Str→Option Value}{base:Heap}{C:Kd→Addr}{N:List Str}{n:Nat}
theorem ZdZ (k:Kd)(hk:k=.ev∨k=.no∨k=.wi)(c:Cls K (C k))(d:MDefAt K (C k) "leaves" "Leaf.leaves" Za9 ["self"]):MethAt P w K mg base (C k) "leaves" ["self"] (n+2) (spLv C N n k):=by
 refine MethAt.of c d Ze1 (fun vs H Q E h=>?_) (fun f cdv A outer s H vs Q E hr h=>?_)
 · obtain ⟨t,v,G,rfl,_⟩:=h
   rfl
 obtain ⟨t,v,G,rfl,tk,hq,sG,ok,hd,q⟩:=h;refine ⟨_,(Zae (Zam Zak)),?_⟩;walk_at "vc";have e:t.lv=1:=by cases t<;>first | rfl | (rcases hk with z | z | z<;>(rw [z] at tk;cases tk))
 have q:=q _ (Same.refl _);rw [e] at q;exact q
theorem Zd8 (k:Kd)(hk:k=.ev∨k=.no∨k=.wi)(c:Cls K (C k))(d:MDefAt K (C k) "depth" "Leaf.depth" Zbj ["self"]):MethAt P w K mg base (C k) "depth" ["self"] (n+2) (spDp C N n k):=by
 refine MethAt.of c d Zfp (fun vs H Q E h=>?_) (fun f cdv A outer s H vs Q E hr h=>?_)
 · obtain ⟨t,v,G,rfl,_⟩:=h
   rfl
 obtain ⟨t,v,G,rfl,tk,hq,sG,ok,hd,q⟩:=h;refine ⟨_,(Zae (Zam Zak)),?_⟩;walk_at "vc";have e:t.dph=0:=by cases t<;>first | rfl | (rcases hk with z | z | z<;>(rw [z] at tk;cases tk))
 have q:=q _ (Same.refl _);rw [e] at q;exact q
theorem ok_mnW (cd:CD_Within K mg (C .wi)):MethAt P w K mg base (C .wi) "mentions" ["self"] (n+2) (spMn C N n .wi):=by
 refine MethAt.of cd.c cd.m_mentions Zc5 (fun vs H Q E h=>?_) (fun f cdv A outer s H vs Q E hr h=>?_)
 · obtain ⟨t,v,G,rfl,_⟩:=h
   rfl
 obtain ⟨t,v,G,rfl,tk,hq,sG,ok,hd,hn,q⟩:=h;refine ⟨_,(Zae (Zam (Zaz (Zaa (ZaG K (pv 0)) Zac)))),?_⟩;cases t with
 | inn x lo hi =>
   obtain ⟨p,dx,rfl,hp⟩:=hq;walk_at "vc";exact ⟨_,_,_,sG _ _ hp,cd.c,cd.n_name,_,rfl,by decide,fun p1 f1=>q p1 _ (Same.new f1) f1 Zad⟩
 | _=>cases tk
theorem ZhX (B:Blt mg)(k:Kd)(hk:k.low=true)(ih:∀ k,MethAt P w K mg base (C k) "leaves" ["self"] (n+2) (spLv C N n k))(hb:MethAt P w K mg base (C k) "beneath" ["self"] 1 (spBen C k))(c:Cls K (C k))(d:MDefAt K (C k) "leaves" "Question.leaves" ZaM ["self"]):MethAt P w K mg base (C k) "leaves" ["self"] (n+3) (spLv C N (n+1) k):=by
 refine MethAt.of c d ZbF (fun vs H Q E h=>?_) (fun f cdv A outer s H vs Q E hr h=>?_)
 · obtain ⟨t,v,G,rfl,_⟩:=h
   rfl
 obtain ⟨t,v,G,rfl,tk,hq,sG,ok,hd,q⟩:=h;refine ⟨_,(Zae (Zam (Zas (Zky K) rfl B.sum Zj4 (Zaa (Zbh ["question"] [] rfl (ZaS K (Zax (P:=P) (w:=w) (K:=K) (mg:=mg) (base:=base) 1 (hr.mono (by omega)) (pv 0))) (fun _ _ _ _ _=>ZaB (i:=0) (by show List.Nodup (["question"]:List Str);decide +kernel) rfl (Or.inl rfl)) (fun _ _ _ _ _=>ZbR) (fun _ _ _ _ _=>(Zax (P:=P) (w:=w) (K:=K) (mg:=mg) (base:=base) (n+2) (hr.mono (by omega)) (pv 0))) trivial ZaO) Zac)))),?_⟩;obtain ⟨p,dx,fs,rfl,hp,lk⟩:=QAt.obj2 "beneath" (by decide) t hq;obtain ⟨ko,kl⟩:=T.kids_ok ok;have kd:=T.kids_dep hd;walk_at "vc";refine ⟨_,_,_,sG _ _ hp,lk,_,_,tk ▸ hb,t,_,G,rfl,tk ▸ rfl,hq,sG,fun l us H1 s1 f1 h1 qs=>?_⟩;have ln:=QsAt.len _ qs;refine ⟨l,rfl,⟨_,SqL.of h1⟩,compA (xs:=us) (fun i y _=>∀ x,t.kids.toL[i]?=some x→y=.int x.lv) (fun _ _ _ _ _ h=>h) (SqL.of h1) (by omega) (fun i x H2 R hx s2 q2=>?_) (fun D ys H2 hD s2 h2 l2 h3=>?_)⟩
 · obtain ⟨t',ht,hq'⟩:=QsAt.at _ qs hx
   obtain ⟨p1,dx1,fs1,rfl,h4,lk1⟩:=QAt.obj2 "leaves" (by decide) t' hq';have tm:=List.mem_of_getElem? ht;walk_at "vc";refine ⟨_,_,_,((sG.trans s1).trans s2) _ _ h4,lk1,_,_,ih t'.kd,t',_,G,rfl,rfl,hq',(sG.trans s1).trans s2,Ts.ok_mem _ ko tm,kd t' tm,fun H3 s3=>q2 _ H3 s3 fun x hx'=>?_⟩;cases ht.symm.trans hx';rfl
 · have e:ys=(t.kids.toL.map fun t=>(t.lv:Int)).map V.int:=by
     refine List.ext_getElem (by rw [List.length_map,List.length_map,l2,ln]) fun i a1 a2=>?_
     have hl:i<t.kids.toL.length:=by rw [← ln,← l2];exact a1
     have:=h3 i _ (List.getElem?_eq_getElem a1) _ (List.getElem?_eq_getElem hl);rw [this,List.getElem_map,List.getElem_map]
   refine ⟨D,rfl,_,SqL.of (e ▸ h2),?_⟩;have q:=q H2 (s1.trans s2);rw [(T.kids_lv (tk ▸ hk)).1,Ts.lv_eq] at q;exact q
theorem Zit (B:Blt mg)(k:Kd)(hk:k.low=true)(ih:∀ k,MethAt P w K mg base (C k) "depth" ["self"] (n+2) (spDp C N n k))(hb:MethAt P w K mg base (C k) "beneath" ["self"] 1 (spBen C k))(c:Cls K (C k))(d:MDefAt K (C k) "depth" "Question.depth" ZaN ["self"]):MethAt P w K mg base (C k) "depth" ["self"] (n+3) (spDp C N (n+1) k):=by
 refine MethAt.of c d ZbM (fun vs H Q E h=>?_) (fun f cdv A outer s H vs Q E hr h=>?_)
 · obtain ⟨t,v,G,rfl,_⟩:=h
   rfl
 obtain ⟨t,v,G,rfl,tk,hq,sG,ok,hd,q⟩:=h;refine ⟨_,(Zae (Zam (Zar ZaR Zak (Zku (Zh3 K) rfl B.max ZfQ (Zaa (Zbh ["question"] [] rfl (ZaS K (Zax (P:=P) (w:=w) (K:=K) (mg:=mg) (base:=base) 1 (hr.mono (by omega)) (pv 0))) (fun _ _ _ _ _=>ZaB (i:=0) (by show List.Nodup (["question"]:List Str);decide +kernel) rfl (Or.inl rfl)) (fun _ _ _ _ _=>ZbR) (fun _ _ _ _ _=>(Zax (P:=P) (w:=w) (K:=K) (mg:=mg) (base:=base) (n+2) (hr.mono (by omega)) (pv 0))) trivial ZaO) Zac) (pk_cons Zak pk_nil))))),?_⟩;obtain ⟨p,dx,fs,rfl,hp,lk⟩:=QAt.obj2 "beneath" (by decide) t hq;obtain ⟨ko,kl⟩:=T.kids_ok ok;have kd:=T.kids_dep hd;walk_at "vc";refine ⟨_,_,_,sG _ _ hp,lk,_,_,tk ▸ hb,t,_,G,rfl,tk ▸ rfl,hq,sG,fun l us H1 s1 f1 h1 qs=>?_⟩;have ln:=QsAt.len _ qs;refine ⟨l,rfl,⟨_,SqL.of h1⟩,compA (xs:=us) (fun i y _=>∀ x,t.kids.toL[i]?=some x→y=.int x.dph) (fun _ _ _ _ _ h=>h) (SqL.of h1) (by omega) (fun i x H2 R hx s2 q2=>?_) (fun D ys H2 hD s2 h2 l2 h3=>?_)⟩
 · obtain ⟨t',ht,hq'⟩:=QsAt.at _ qs hx
   obtain ⟨p1,dx1,fs1,rfl,h4,lk1⟩:=QAt.obj2 "depth" (by decide) t' hq';have tm:=List.mem_of_getElem? ht;walk_at "vc";refine ⟨_,_,_,((sG.trans s1).trans s2) _ _ h4,lk1,_,_,ih t'.kd,t',_,G,rfl,rfl,hq',(sG.trans s1).trans s2,Ts.ok_mem _ ko tm,kd t' tm,fun H3 s3=>q2 _ H3 s3 fun x hx'=>?_⟩;cases ht.symm.trans hx';rfl
 · have e:ys=(t.kids.toL.map fun t=>(t.dph:Int)).map V.int:=by
     refine List.ext_getElem (by rw [List.length_map,List.length_map,l2,ln]) fun i a1 a2=>?_
     have hl:i<t.kids.toL.length:=by rw [← ln,← l2];exact a1
     have:=h3 i _ (List.getElem?_eq_getElem a1) _ (List.getElem?_eq_getElem hl);rw [this,List.getElem_map,List.getElem_map]
   refine ⟨D,rfl,_,SqL.of (e ▸ h2),?_⟩;have q:=q H2 (s1.trans s2);rw [(T.kids_lv (tk ▸ hk)).2] at q;rw [max_dep];rw [show (1:Int)+(t.kids.dph:Int)=((t.kids.dph+1:Nat):Int) by omega];exact q
theorem ZeT (k:Kd)(hk:k≠.wi)(ih:∀ k,MethAt P w K mg base (C k) "mentions" ["self"] (n+2) (spMn C N n k))(hb:MethAt P w K mg base (C k) "beneath" ["self"] 1 (spBen C k))(c:Cls K (C k))(d:MDefAt K (C k) "mentions" "Question.mentions" ZaA ["self"]):MethAt P w K mg base (C k) "mentions" ["self"] (n+3) (spMn C N (n+1) k):=by
 refine MethAt.of c d sc_Question_mentions (fun vs H Q E h=>?_) (fun f cdv A outer s H vs Q E hr h=>?_)
 · obtain ⟨t,v,G,rfl,_⟩:=h
   rfl
 obtain ⟨t,v,G,rfl,tk,hq,sG,ok,hd,hn,q⟩:=h;refine ⟨_,(Zab (Zao (i:=1) sc_Question_mentions.nd rfl (by walk_at "l") (Zaz Zac))
     (Zab (Zbs PassesOwn.never rfl (ZaS K (Zax (P:=P) (w:=w) (K:=K) (mg:=mg) (base:=base) 1 (hr.mono (by omega)) (pv 0))) (ZaB (i:=2) sc_Question_mentions.nd rfl (by walk_at "l")) (Zae (Zay (ZaZ K PySem.F.plainAttrs_list PySem.F.slot_list_extend PySem.F.type_list_extend Zkb (pv 1) (Zaa (Zax (P:=P) (w:=w) (K:=K) (mg:=mg) (base:=base) (n+2) (hr.mono (by omega)) (pv 2)) Zac)))))
     (Zae (Zam (pv 1))))),?_⟩
 obtain ⟨p,dx,fs,rfl,hp,lk⟩:=QAt.obj2 "beneath" (by decide) t hq;obtain ⟨ko,kl⟩:=T.kids_ok ok;have kd:=T.kids_dep hd;walk_at "vc";refine ⟨Nat.zero_le _,fun p0 f0=>?_⟩;have sG0:=sG.trans (Same.new (o:=.lst []) f0);refine ⟨_,_,_,sG0 _ _ hp,lk,_,_,tk ▸ hb,t,_,G,rfl,tk ▸ rfl,hq,sG0,fun l us H1 s1 f1 h1 qs=>?_⟩;have ln:=QsAt.len _ qs;have nl:l≠p0:=fun z=>by rw [z,Zad] at f1;cases f1
 have kn:=T.kids_nums t;have km:=Ts.mn_le t.kids;refine ⟨l,rfl,⟨_,SqL.of h1⟩,loopL (K:=K) (xs:=us) (MnI t.kids (.ref p) p0 l us H) ⟨⟨_,rfl⟩,s1 _ _ Zad,h1,(Same.new f0).trans s1⟩ (fun i σ H' _ h=>SqL.of h.hl) ?_ ?_⟩
 · rintro i u σ H2 hu ⟨⟨v2,rfl⟩,hp2,hl2,s2⟩
   obtain ⟨t',ht,hq'⟩:=QsAt.at _ qs hu;obtain ⟨p1,dx1,fs1,rfl,h4,lk1⟩:=QAt.obj2 "mentions" (by decide) t' hq';have tm:=List.mem_of_getElem? ht;have tn:=Ts.nums_mem _ tm;have st:=Zkw ht;have le:=fstM_le t.kids (i+1);rw [st,List.length_append] at le;walk_at "vc";refine ⟨⟨_,SqL.of hp2⟩,_,_,_,(sG.trans s2) _ _ h4,lk1,_,_,ih t'.kd,t',_,G,rfl,rfl,hq',sG.trans s2,Ts.ok_mem _ ko tm,kd t' tm,by omega,fun p3 H3 s3 f3 h3=>?_⟩;refine ⟨p3,rfl,_,s3 _ _ hp2,_,h3,small5 (by rw [List.length_map,List.length_map];omega),⟨_,rfl⟩,?_,?_,(s2.trans s3).put f0⟩
   · rw [Zad,st,List.map_append]
   · rw [Zah nl]
     exact s3 _ _ hl2
 · rintro σ H2 ⟨⟨v2,rfl⟩,hp2,hl2,s2⟩
   walk_at "vc";rw [ln,fstM_all,← T.kids_mn (tk ▸ hk)] at hp2;exact q _ _ s2 f0 hp2
variable (cd1:CD_Every K mg (C .ev))(cd2:CD_Nobody K mg (C .no))(cd3:CD_Within K mg (C .wi))(cd4:CD_Opposite K mg (C .op))(cd5:CD_AllOf K mg (C .al))(cd6:CD_OneOf K mg (C .on))
include cd1 cd2 cd3 cd4 cd5 cd6
theorem Zip (B:Blt mg):∀ k,MethAt P w K mg base (C k) "beneath" ["self"] 1 (spBen C k)
 | .ev=>Zga .ev (.inl rfl) cd1.c cd1.m_beneath
 | .no=>Zga .no (.inr (.inl rfl)) cd2.c cd2.m_beneath
 | .wi=>Zga .wi (.inr (.inr rfl)) cd3.c cd3.m_beneath
 | .op=>ok_benO cd4
 | .al=>ok_benA B cd5
 | .on=>ok_benN B cd6
theorem ok_lv (B:Blt mg):∀ n k,MethAt P w K mg base (C k) "leaves" ["self"] (n+2) (spLv C N n k):=by
 intro n;induction n with
 | zero =>
   have z:∀ k (c:Cls K (C k)),MDefAt K (C k) "leaves" "Question.leaves" ZaM ["self"]→MethAt P w K mg base (C k) "leaves" ["self"] 2 (spLv C N 0 k):=fun k c d=>MethAt.of c d ZbF (fun vs H Q E h=>by obtain ⟨t,v,G,rfl,_⟩:=h;rfl) (fun f cdv A outer s H vs Q E hr h=>by obtain ⟨t,v,G,rfl,_,_,_,_,hd,_⟩:=h;omega)
   exact fun k=>match k with
     | .ev=>ZdZ .ev (.inl rfl) cd1.c cd1.m_leaves
     | .no=>ZdZ .no (.inr (.inl rfl)) cd2.c cd2.m_leaves
     | .wi=>ZdZ .wi (.inr (.inr rfl)) cd3.c cd3.m_leaves
     | .op=>z .op cd4.c cd4.m_leaves
     | .al=>z .al cd5.c cd5.m_leaves
     | .on=>z .on cd6.c cd6.m_leaves
 | succ n ih =>
   have hb:=Zip (P:=P) (w:=w) (base:=base) cd1 cd2 cd3 cd4 cd5 cd6 B;exact fun k=>match k with
     | .ev=>ZdZ .ev (.inl rfl) cd1.c cd1.m_leaves
     | .no=>ZdZ .no (.inr (.inl rfl)) cd2.c cd2.m_leaves
     | .wi=>ZdZ .wi (.inr (.inr rfl)) cd3.c cd3.m_leaves
     | .op=>ZhX B .op rfl ih (hb .op) cd4.c cd4.m_leaves
     | .al=>ZhX B .al rfl ih (hb .al) cd5.c cd5.m_leaves
     | .on=>ZhX B .on rfl ih (hb .on) cd6.c cd6.m_leaves
theorem ok_dp (B:Blt mg):∀ n k,MethAt P w K mg base (C k) "depth" ["self"] (n+2) (spDp C N n k):=by
 intro n;induction n with
 | zero =>
   have z:∀ k (c:Cls K (C k)),MDefAt K (C k) "depth" "Question.depth" ZaN ["self"]→MethAt P w K mg base (C k) "depth" ["self"] 2 (spDp C N 0 k):=fun k c d=>MethAt.of c d ZbM (fun vs H Q E h=>by obtain ⟨t,v,G,rfl,_⟩:=h;rfl) (fun f cdv A outer s H vs Q E hr h=>by obtain ⟨t,v,G,rfl,_,_,_,_,hd,_⟩:=h;omega)
   exact fun k=>match k with
     | .ev=>Zd8 .ev (.inl rfl) cd1.c cd1.m_depth
     | .no=>Zd8 .no (.inr (.inl rfl)) cd2.c cd2.m_depth
     | .wi=>Zd8 .wi (.inr (.inr rfl)) cd3.c cd3.m_depth
     | .op=>z .op cd4.c cd4.m_depth
     | .al=>z .al cd5.c cd5.m_depth
     | .on=>z .on cd6.c cd6.m_depth
 | succ n ih =>
   have hb:=Zip (P:=P) (w:=w) (base:=base) cd1 cd2 cd3 cd4 cd5 cd6 B;exact fun k=>match k with
     | .ev=>Zd8 .ev (.inl rfl) cd1.c cd1.m_depth
     | .no=>Zd8 .no (.inr (.inl rfl)) cd2.c cd2.m_depth
     | .wi=>Zd8 .wi (.inr (.inr rfl)) cd3.c cd3.m_depth
     | .op=>Zit B .op rfl ih (hb .op) cd4.c cd4.m_depth
     | .al=>Zit B .al rfl ih (hb .al) cd5.c cd5.m_depth
     | .on=>Zit B .on rfl ih (hb .on) cd6.c cd6.m_depth
theorem ok_mn (B:Blt mg):∀ n k,MethAt P w K mg base (C k) "mentions" ["self"] (n+2) (spMn C N n k):=by
 intro n;induction n with
 | zero =>
   have z:∀ k (c:Cls K (C k)),MDefAt K (C k) "mentions" "Question.mentions" ZaA ["self"]→MethAt P w K mg base (C k) "mentions" ["self"] 2 (spMn C N 0 k):=fun k c d=>MethAt.of c d sc_Question_mentions (fun vs H Q E h=>by obtain ⟨t,v,G,rfl,_⟩:=h;rfl) (fun f cdv A outer s H vs Q E hr h=>by obtain ⟨t,v,G,rfl,_,_,_,_,hd,_⟩:=h;omega)
   exact fun k=>match k with
     | .ev=>z .ev cd1.c cd1.m_mentions
     | .no=>z .no cd2.c cd2.m_mentions
     | .wi=>ok_mnW cd3
     | .op=>z .op cd4.c cd4.m_mentions
     | .al=>z .al cd5.c cd5.m_mentions
     | .on=>z .on cd6.c cd6.m_mentions
 | succ n ih =>
   have hb:=Zip (P:=P) (w:=w) (base:=base) cd1 cd2 cd3 cd4 cd5 cd6 B;exact fun k=>match k with
     | .ev=>ZeT .ev (fun z=>by cases z) ih (hb .ev) cd1.c cd1.m_mentions
     | .no=>ZeT .no (fun z=>by cases z) ih (hb .no) cd2.c cd2.m_mentions
     | .wi=>ok_mnW cd3
     | .op=>ZeT .op (fun z=>by cases z) ih (hb .op) cd4.c cd4.m_mentions
     | .al=>ZeT .al (fun z=>by cases z) ih (hb .al) cd5.c cd5.m_mentions
     | .on=>ZeT .on (fun z=>by cases z) ih (hb .on) cd6.c cd6.m_mentions
end
mutual
theorem T.lw_ok {N:List Str}(hN:∀ x∈N,nameB x=true):∀ t:T,t.ok N→t.mn=t.lw.filter nameB∧t.lv=t.lw.length
 | .ev,_=>⟨rfl,rfl⟩
 | .no,_=>⟨rfl,rfl⟩
 | .inn x _ _,o=>⟨by
     show [x]=[x].filter nameB;rw [List.filter_cons,if_pos (hN x o.1)];rfl,rfl⟩
 | .opp t,o=>T.lw_ok hN t o
 | .al ts,o=>Ts.lw_ok hN ts o.2
 | .on ts,o=>Ts.lw_ok hN ts o.2
theorem Ts.lw_ok {N:List Str}(hN:∀ x∈N,nameB x=true):∀ ts:Ts,ts.ok N→ts.mn=ts.lw.filter nameB∧ts.lv=ts.lw.length
 | .nil,_=>⟨rfl,rfl⟩
 | .cons t r,o=>by
   obtain ⟨a,b⟩:=T.lw_ok hN t o.1;obtain ⟨c,d⟩:=Ts.lw_ok hN r o.2;refine ⟨?_,?_⟩
   · show t.mn++r.mn=(t.lw++r.lw).filter nameB
     rw [List.filter_append,a,c]
   · show t.lv+r.lv=(t.lw++r.lw).length
     rw [List.length_append,b,d]
end
theorem lw_cnt {N:List Str} (hN:∀ x∈N,nameB x=true):∀ ws:List Str,((ws.filter (isLw N)).filter nameB=ws.filter fun w=>decide (w∈N))∧(ws.filter (isLw N)).length=(ws.filter fun w=>decide (w∈N)).length+ws.countP (·==Str.ofString "all")+ws.countP (·==Str.ofString "none")
 | []=>⟨rfl,rfl⟩
 | w :: ws=>by
   obtain ⟨a,b⟩:=lw_cnt hN ws;rw [List.filter_cons,List.filter_cons (p:=fun w=>decide (w∈N)),List.countP_cons,List.countP_cons];by_cases c:w∈N
   · have n:=hN w c
     have il:isLw N w=true:=by unfold isLw;rw [decide_eq_true c];rfl
     rw [if_pos il,if_pos (decide_eq_true c),List.filter_cons,if_pos n,a];refine ⟨rfl,?_⟩;rw [if_neg (fun z=>(ZgP n).1 (eq_of_beq z)),if_neg (fun z=>(ZgP n).2 (eq_of_beq z)),List.length_cons,List.length_cons,b];omega
   · rw [if_neg (fun z=>c (of_decide_eq_true z))]
     by_cases c1:w=Str.ofString "all"
     · have il:isLw N w=true:=by unfold isLw;rw [decide_eq_true c1,Bool.or_true];rfl
       rw [if_pos il,List.filter_cons,if_neg (by rw [c1];decide +kernel),a];refine ⟨rfl,?_⟩;rw [if_pos (by rw [c1];exact beq_self_eq_true _),if_neg (by rw [c1];decide +kernel),List.length_cons,b];omega
     · by_cases c2:w=Str.ofString "none"
       · have il:isLw N w=true:=by unfold isLw;rw [decide_eq_true c2,Bool.or_true]
         rw [if_pos il,List.filter_cons,if_neg (by rw [c2];decide +kernel),a];refine ⟨rfl,?_⟩;rw [if_neg (by rw [c2];decide +kernel),if_pos (by rw [c2];exact beq_self_eq_true _),List.length_cons,b];omega
       · have il:¬ isLw N w=true:=by unfold isLw;rw [decide_eq_false c,decide_eq_false c1,decide_eq_false c2];decide
         rw [if_neg il];refine ⟨a,?_⟩;rw [if_neg (fun z=>c1 (eq_of_beq z)),if_neg (fun z=>c2 (eq_of_beq z)),b];omega
def spGood:Sp:=fun vs H Q _=>∃ (q:Q6) (x:Int) (l:Addr) (N:List Str),vs=[.str (qW q),.int x,.ref l]∧H l=some (.lst (N.map V.str))∧N.length=3∧0≤x∧∀ w H',Same H H'→WP N w→Q (.str w) H'
def spOdd:Sp:=fun vs H Q _=>∃ x:Int,vs=[.int x]∧∀ (w:Str) H',Same H H'→w∈l14++l12→Q (.str w) H'
theorem ZeF {xs:List V}{i:Int}(h0:0≤i)(h1:i<(xs.length:Int)):∃ c∈xs,atI xs i=some c:=by
 obtain ⟨n,rfl⟩:=Int.eq_ofNat_of_zero_le h0;have h:n<xs.length:=by omega
 exact ⟨xs[n],List.getElem_mem h,ZaI (List.getElem?_eq_getElem h)⟩
section
variable {P:Program}{w:World}{K:PySem.W.Frag}{mg:Str→Option Value}{base:Heap}
theorem Zfq (d:DefAt K mg "_law_odd_word" Zcf ["_law_x"]):FnAt P w K mg base "_law_odd_word" ["_law_x"] 1 spOdd:=by
 refine FnAt.of d sc_l_odd_word (fun vs H Q E h=>?_) (fun f cdv A outer s H vs Q E hr h=>?_)
 · obtain ⟨x,rfl,_⟩:=h
   rfl
 obtain ⟨x,rfl,q⟩:=h;refine ⟨tSeq (tAsg (tLst (tLits l14)) (gName 1)) (tRet (tOp (rIxL K) (tOp rCat (tVar 1) (tLst (tLits l12))) (tOp (rI (fun x j=>0<j) fun i j=>V.int (i%j)) (tVar 0) (tC (V.int 26))))),?_,?_⟩
 · refine Zab ?_ ?_
   · refine @Zao _ _ 1 _ _ _ _ ?_ ?_ ?_ ?_ ?_ ?_
     · exact sc_l_odd_word.nd
     · rfl
     · first | exact Or.inl rfl | exact Or.inr rfl
     · refine Zaz ?_
       refine @ZgG _ _ _ ?_;rfl
     · rfl
     · first | exact .inl rfl | exact .inr rfl
   · refine Zae ?_
     refine Zam ?_;refine Zav (Zan K) ?_ (Zar ZaP (pv 0) Zak) (fun _ _=>rfl);refine Zar Zc9 (pv 1) ?_;refine Zaz ?_;refine @ZgG _ _ _ ?_;rfl
 walk_at "vc";refine ⟨by decide,fun p1 n1=>⟨by decide,fun p2 n2=>?_⟩⟩;have t1:=Same.new (o:=.lst (l14.map V.str)) n1;have t2:=Same.new (o:=.lst (l12.map V.str)) n2;refine ⟨_,t2 _ _ Zad,_,Zad,by decide,fun p3 n3=>⟨_,SqL.of Zad,?_⟩⟩;obtain ⟨c,hc,e⟩:=ZeF (xs:=l14.map V.str++l12.map V.str) (i:=x%26) (Int.emod_nonneg _ (by decide)) (Int.emod_lt_of_pos _ (by decide));obtain ⟨w,rfl,hw⟩:∃ w,c=V.str w∧w∈l14++l12:=by rw [← List.map_append] at hc;obtain ⟨w,hw,rfl⟩:=List.mem_map.mp hc;exact ⟨w,rfl,hw⟩
 exact ⟨_,e,q w _ ((t1.trans t2).trans (Same.new n3)) hw⟩
end
section
variable {P:Program}{w:World}{K:PySem.W.Frag}{mg:Str→Option Value}{base:Heap}
theorem Zfb (B:Blt mg) (d:DefAt K mg "_law_good_word" ZbT ["_law_state","_law_x","_law_names_here"]):FnAt P w K mg base "_law_good_word" ["_law_state","_law_x","_law_names_here"] 1 spGood:=by
 refine FnAt.of d Zfh (fun vs H Q E h=>?_) (fun f cdv A outer s H vs Q E hr h=>?_)
 · obtain ⟨q,x,l,N,rfl,_⟩:=h
   rfl
 obtain ⟨q,x,l,N,rfl,hl,hN,x0,k⟩:=h;refine ⟨_,(Zab (Zau (Zai Zat (pv 0) Zaf (nomark _)) (Zae (Zam (Zav (Zan K) (Zar Zc9 (Zar Zc9 (Zaz (Zaa Zaf (Zaa Zaf (Zaa Zaf (Zaa Zaf (Zaa Zaf Zac)))))) (pv 2)) (pv 2)) (Zar ZaP (pv 1) Zak) (fun _ _=>rfl)))) Zap)
     (Zab (Zau (Zai Zat (pv 0) Zaf (nomark _)) (Zae (Zam (Zav (Zan K) (Zaz (Zaa Zaf (Zaa Zaf Zac))) (Zar ZaP (pv 1) Zak) (fun _ _=>rfl)))) Zap)
     (Zab (Zau (Zai Zat (pv 0) Zaf (nomark _)) (Zae (Zam Zaf)) Zap)
     (Zab (Zau (Zai Zat (pv 0) Zaf (nomark _)) (Zae (Zam (Zav (Zan K) (Zaz (Zaa Zaf (Zaa Zaf (Zaa Zaf (Zaa Zaf (Zaa Zaf (Zaa Zaf Zac))))))) (Zar ZaP (pv 1) Zak) (fun _ _=>rfl)))) Zap)
     (Zae (Zam (Zav (Zan K) (Zaz (Zaa (ZaK Za5 rfl B.str boot_str (Zaa (Zar ZaP (pv 1) Zak) Zac)) (Zaa (ZaK Za5 rfl B.str boot_str (Zaa (Zar ZaP (pv 1) Zak) Zac)) (Zaa (ZaK Za5 rfl B.str boot_str (Zaa (Zar ZaP (pv 1) (Zar op_pow Zak Zak)) Zac)) Zac)))) (Zar ZaP (Zar ZcR (pv 1) Zak) Zak) (fun _ _=>rfl)))))))),?_⟩
 walk_at "vc";have fx:∀ w∈l14,WP N w:=fun w h=>.inl (List.mem_append_left _ h)
 have pick:∀ {ws:List Str} {i:Int},0≤i→i<(ws.length:Int)→(∀ w∈ws,WP N w)→∃ w,atI (ws.map V.str) i=some (.str w)∧WP N w:=fun {ws i} h0 h1 hw=>by
   obtain ⟨c,hc,e⟩:=ZeF (xs:=ws.map V.str) h0 (by rw [List.length_map];exact h1);obtain ⟨w,hw',rfl⟩:=List.mem_map.mp hc;exact ⟨w,e,hw w hw'⟩
 have d0:=Int.emod_nonneg x (b:=12) (by decide);have d1:=Int.emod_lt_of_pos x (b:=12) (by decide);have d2:=Int.emod_nonneg x (b:=1000000000000) (by decide);have d3:=Int.emod_lt_of_pos x (b:=1000000000000) (by decide);have nums3:∀ w∈[Str.ofString (toString (x%12)),Str.ofString (toString (x%12)),Str.ofString (toString (x%1000000000000))],WP N w:=fun w hw=>by
   have fg:∀ n:Int,0≤n→n<10^12→WP N (Str.ofString (toString n)):=fun n h0 h1=>.inr (.inr (ZdN h0 h1).1)
   rcases List.mem_cons.mp hw with rfl | hw
   · exact fg _ (by omega) (by omega)
   · rcases List.mem_cons.mp hw with rfl | hw
     · exact fg _ (by omega) (by omega)
     · rw [List.mem_singleton.mp hw]
       exact fg _ (by omega) (by omega)
 cases q with
 | pc =>
   rw [if_pos (show qW .pc=Str.ofString "piece" from rfl)];refine ⟨by decide,fun p1 n1=>⟨_,Zad,_,(Same.new n1) _ _ hl,by rw [List.length_map,hN];decide,fun p2 n2=>⟨_,Zad,_,(Same.new n2) _ _ ((Same.new n1) _ _ hl),by rw [List.length_append,List.length_map,hN];decide,fun p3 n3=>⟨_,SqL.of Zad,?_⟩⟩⟩⟩;obtain ⟨w,e,hw⟩:=pick (ws:=[Str.ofString "not",Str.ofString "(",Str.ofString "(",Str.ofString "all",Str.ofString "none"]++N++N) (i:=x%11) (Int.emod_nonneg _ (by decide)) (by rw [List.length_append,List.length_append,hN];exact Int.emod_lt_of_pos _ (by decide)) (fun w hw=>by
     rcases List.mem_append.mp hw with hw | hw
     · rcases List.mem_append.mp hw with hw | hw
       · exact fx w ((by decide +kernel:∀ w∈[Str.ofString "not",Str.ofString "(",Str.ofString "(",Str.ofString "all",Str.ofString "none"],w∈l14) w hw)
       · exact .inr (.inl hw)
     · exact .inr (.inl hw))
   rw [List.map_append,List.map_append] at e;exact ⟨_,e,k w _ (((Same.new n1).trans (Same.new n2)).trans (Same.new n3)) hw⟩
 | nm =>
   rw [if_neg (show ¬ qW .nm=Str.ofString "piece" by decide +kernel),if_pos (show qW .nm=Str.ofString "name" from rfl)];refine ⟨by decide,fun p1 n1=>⟨_,SqL.of Zad,?_⟩⟩;obtain ⟨w,e,hw⟩:=pick (ws:=[Str.ofString "is",Str.ofString "from"]) (i:=x%2) (Int.emod_nonneg _ (by decide)) (Int.emod_lt_of_pos _ (by decide)) (fun w hw=>fx w ((by decide +kernel:∀ w∈[Str.ofString "is",Str.ofString "from"],w∈l14) w hw));exact ⟨_,e,k w _ (Same.new n1) hw⟩
 | to =>
   rw [if_neg (show ¬ qW .to=Str.ofString "piece" by decide +kernel),if_neg (show ¬ qW .to=Str.ofString "name" by decide +kernel),if_pos (show qW .to=Str.ofString "to" from rfl)];exact k _ _ (Same.refl _) (fx _ (by decide +kernel))
 | be =>
   rw [if_neg (show ¬ qW .be=Str.ofString "piece" by decide +kernel),if_neg (show ¬ qW .be=Str.ofString "name" by decide +kernel),if_neg (show ¬ qW .be=Str.ofString "to" by decide +kernel),if_pos (show qW .be=Str.ofString "behind" from rfl)];refine ⟨by decide,fun p1 n1=>⟨_,SqL.of Zad,?_⟩⟩;obtain ⟨w,e,hw⟩:=pick (ws:=[Str.ofString "and",Str.ofString "or",Str.ofString ")",Str.ofString "and",Str.ofString "or",Str.ofString ")"]) (i:=x%6) (Int.emod_nonneg _ (by decide)) (Int.emod_lt_of_pos _ (by decide)) (fun w hw=>fx w ((by decide +kernel:∀ w∈[Str.ofString "and",Str.ofString "or",Str.ofString ")",Str.ofString "and",Str.ofString "or",Str.ofString ")"],w∈l14) w hw));exact ⟨_,e,k w _ (Same.new n1) hw⟩
 | fi =>
   rw [if_neg (show ¬ qW .fi=Str.ofString "piece" by decide +kernel),if_neg (show ¬ qW .fi=Str.ofString "name" by decide +kernel),if_neg (show ¬ qW .fi=Str.ofString "to" by decide +kernel),if_neg (show ¬ qW .fi=Str.ofString "behind" by decide +kernel)];refine ⟨Za4 (by omega) (by omega),Za4 (by omega) (by omega),by decide,Za4 (by omega) (by omega),by decide,fun p1 n1=>⟨_,SqL.of Zad,?_⟩⟩;obtain ⟨w,e,hw⟩:=pick (ws:=[Str.ofString (toString (x%12)),Str.ofString (toString (x%12)),Str.ofString (toString (x%1000000000000))]) (i:=x/12%3) (Int.emod_nonneg _ (by decide)) (Int.emod_lt_of_pos _ (by decide)) nums3;exact ⟨_,e,k w _ (Same.new n1) hw⟩
 | la =>
   rw [if_neg (show ¬ qW .la=Str.ofString "piece" by decide +kernel),if_neg (show ¬ qW .la=Str.ofString "name" by decide +kernel),if_neg (show ¬ qW .la=Str.ofString "to" by decide +kernel),if_neg (show ¬ qW .la=Str.ofString "behind" by decide +kernel)];refine ⟨Za4 (by omega) (by omega),Za4 (by omega) (by omega),by decide,Za4 (by omega) (by omega),by decide,fun p1 n1=>⟨_,SqL.of Zad,?_⟩⟩;obtain ⟨w,e,hw⟩:=pick (ws:=[Str.ofString (toString (x%12)),Str.ofString (toString (x%12)),Str.ofString (toString (x%1000000000000))]) (i:=x/12%3) (Int.emod_nonneg _ (by decide)) (Int.emod_lt_of_pos _ (by decide)) nums3;exact ⟨_,e,k w _ (Same.new n1) hw⟩
end
theorem ZbK (ws:List Str):(wdV ws).length=ws.length:=List.length_map _
def spEnding:Sp:=fun vs H Q _=>∃ (q:Q6) (l:Addr) (S:List Bool),vs=[.str (qW q),.ref l]∧H l=some (.lst (opR S))∧S.length≤20∧∀ p ws H',Same H H'→H' p=some (.lst (wdV ws))→ws.length≤23→(∀ w∈ws,WP [] w)→Q (.ref p) H'
section
variable {P:Program}{w:World}{K:PySem.W.Frag}{mg:Str→Option Value}{base:Heap}
theorem ZgJ         (B:Blt mg) (d:DefAt K mg "_law_ending" Zc6 ["_law_state","_law_open_ones"]):FnAt P w K mg base "_law_ending" ["_law_state","_law_open_ones"] 1 spEnding:=by
 refine FnAt.of d sc_l_ending (fun vs H Q E h=>?_) (fun f cdv A outer s H vs Q E hr h=>?_)
 · obtain ⟨q,l,S,rfl,_⟩:=h
   rfl
 obtain ⟨q,l,S,rfl,hl,hS,q'⟩:=h;refine ⟨_,(Zab (Zao (i:=2) sc_l_ending.nd rfl (by walk_at "l") (Zaz Zac))
     (Zab (Zau (Zai Zat (pv 0) Zaf (nomark _)) (Zae (Zao (i:=2) sc_l_ending.nd rfl (by walk_at "l") (Zaz (Zaa Zaf Zac)))) Zap)
     (Zab (Zau (Zai Zat (pv 0) Zaf (nomark _)) (Zae (Zao (i:=2) sc_l_ending.nd rfl (by walk_at "l") (Zaz (Zaa Zaf (Zaa Zaf Zac))))) Zap)
     (Zab (Zau (Zai Zat (pv 0) Zaf (nomark _)) (Zae (Zao (i:=2) sc_l_ending.nd rfl (by walk_at "l") (Zaz (Zaa Zaf (Zaa Zaf (Zaa Zaf Zac)))))) Zap)
     (Zab (Zau (Zai Zat (pv 0) Zaf (nomark _)) (Zae (Zao (i:=2) sc_l_ending.nd rfl (by walk_at "l") (Zaz (Zaa Zaf (Zaa Zaf Zac))))) Zap)
     (Zab (Zau (Zai Zat (pv 0) Zaf (nomark _)) (Zae (Zao (i:=2) sc_l_ending.nd rfl (by walk_at "l") (Zaz (Zaa Zaf Zac)))) Zap)
     (Zae (Zam (Zar Zc9 (pv 2) (Zar op_rep (Zaz (Zaa Zaf Zac)) (Zas (ZaW K) rfl B.len PySem.boot_len (Zaa (Zbh ["_law_word"] [] rfl (ZaS K (pv 1)) (fun _ _ _ _ _=>ZaB (i:=0) (by show List.Nodup (["_law_word"]:List Str);decide +kernel) rfl (Or.inl rfl)) (fun _ _ _ _ _=>Zdx (Zai Zat (pv 0) Zaf (nomark _))) (fun _ _ _ _ _=>(pv 0)) trivial ZaO) Zac)))))))))))),?_⟩
 let I:L2.St→Hp→Prop:=fun σ H'=>∃ p ws,σ=[some (.str (qW q)),some (.ref l),some (.ref p)]∧Same H H'∧H' p=some (.lst (wdV ws))∧ws.length≤3∧∀ w∈ws,WP [] w
 have fx:∀ w∈l14,WP [] w:=fun w h=>.inl (List.mem_append_left _ h)
 have f3:WP [] (Str.ofString "3"):=.inr (.inr (by decide +kernel));have f5:WP [] (Str.ofString "5"):=.inr (.inr (by decide +kernel));have fto:WP [] (Str.ofString "to"):=fx _ (by decide +kernel);refine Zag fun k1 hk1=>?_
 have fin:∀ σ H',I σ H'→k1 σ H':=by
   refine fun σ H1 h1=>hk1 _ _ (Zag fun k2 hk2=>?_)
   have c2 : ∀ σ H', I σ H'→k2 σ H':=by
     refine fun σ H2 h2=>hk2 _ _ (Zag fun k3 hk3=>?_)
     have c3 : ∀ σ H', I σ H'→k3 σ H':=by
       refine fun σ H3 h3=>hk3 _ _ (Zag fun k4 hk4=>?_)
       have c4 : ∀ σ H',I σ H'→k4 σ H':=by
         refine fun σ H4 h4=>hk4 _ _ (Zag fun k5 hk5=>?_)
         have c5 : ∀ σ H',I σ H'→k5 σ H':=by
           refine fun σ H5 h5=>hk5 _ _ (Zag fun k6 hk6=>?_)
           have c6 : ∀ σ H',I σ H'→k6 σ H':=by
             rintro σ H6 ⟨p,ws,rfl,sm,hp,wl,hw⟩;refine hk6 _ _ ?_;walk_at "vc";refine ⟨by decide,fun p1 n1=>⟨⟨_,((sm.trans (Same.new n1)).seq (SqL.of hl))⟩,?_⟩⟩;have t1:=Same.new (o:=.lst [V.str (Str.ofString ")")]) n1;have hl1:=(sm.trans t1) _ _ hl;have ol:=Zgz S;refine compL (K:=K) (xs:=opR S) (fun v=>decide (v=.str (Str.ofString "("))) id (SqL.of hl1) (by omega) (fun v H2 R hv _ h=>?_) (fun v H2 R hv _ _ h=>?_) (fun D hD=>?_)
             · obtain ⟨b,_,rfl⟩:=List.mem_map.mp hv
               walk_at "vc";have e:decide (V.str (opW b)=V.str (Str.ofString "("))=decide (opW b=Str.ofString "("):=decide_eq_decide.mpr ⟨V.str.inj,congrArg V.str⟩;rw [e] at h;exact h
             · walk_at "vc"
               exact h
             · have t2 := Same.new (o:=.lst (((opR S).filter fun v=>decide (v=.str (Str.ofString "("))).map id)) hD
               have cl:(((opR S).filter fun v=>decide (v=.str (Str.ofString "("))).map id).length≤20:=by rw [List.length_map];exact Nat.le_trans (List.length_filter_le _ _) (by omega)
               generalize ((opR S).filter fun v=>decide (v=.str (Str.ofString "("))).map id=fs at t2 cl ⊢;refine ⟨D,rfl,fs,.inl (SqL.of Zad),_,t2 _ _ Zad,by omega,by omega,?_,fun p3 n3=>?_⟩
               · rw [Int.toNat_natCast]
                 exact small5 (by show 1*_≤_;omega)
               · rw [Int.toNat_natCast]
                 have n3:=n3;have e:(List.replicate fs.length [V.str (Str.ofString ")")]).flatten=wdV (List.replicate fs.length (Str.ofString ")")):=by
                   unfold wdV;rw [List.map_replicate];induction fs.length with
                   | zero=>rfl
                   | succ n ih =>
                     rw [List.replicate_succ,List.flatten_cons,ih,List.replicate_succ];rfl
                 rw [e];have t3:=Same.new (o:=.lst (wdV (List.replicate fs.length (Str.ofString ")")))) n3;refine ⟨_,t3 _ _ (t2 _ _ (t1 _ _ hp)),_,Zad,?_,fun p4 n4=>?_⟩
                 · rw [ZbK,ZbK,List.length_replicate]
                   exact small5 (by omega)
                 · refine q' p4 (ws++List.replicate fs.length (Str.ofString ")")) _ (((sm.trans t1).trans t2).trans (t3.trans (Same.new n4))) ?_ ?_ fun w hw'=>?_
                   · rw [Zad]
                     unfold wdV;rw [List.map_append]
                   · rw [List.length_append,List.length_replicate]
                     omega
                   · rcases List.mem_append.mp hw' with hw' | hw'
                     · exact hw w hw'
                     · rw [(List.mem_replicate.mp hw').2]
                       exact fx _ (by decide +kernel)
           obtain ⟨p,ws,rfl,sm,hp,wl,hw⟩:=h5;walk_at "vc";split
           · exact ⟨by decide,fun p' np=>c6 _ _ ⟨p',[Str.ofString "5"],rfl,sm.trans (Same.new np),Zad,by decide,fun w hw=>by rw [List.mem_singleton.mp hw];exact f5⟩⟩
           · exact c6 _ _ ⟨p,ws,rfl,sm,hp,wl,hw⟩
         obtain ⟨p,ws,rfl,sm,hp,wl,hw⟩:=h4;walk_at "vc";split
         · refine ⟨by decide,fun p' np=>c5 _ _ ⟨p',[Str.ofString "to",Str.ofString "5"],rfl,sm.trans (Same.new np),Zad,by decide,fun w hw=>?_⟩⟩
           rcases List.mem_cons.mp hw with rfl | hw
           · exact fto
           · rw [List.mem_singleton.mp hw]
             exact f5
         · exact c5 _ _ ⟨p,ws,rfl,sm,hp,wl,hw⟩
       obtain ⟨p,ws,rfl,sm,hp,wl,hw⟩:=h3;walk_at "vc";split
       · refine ⟨by decide,fun p' np=>c4 _ _ ⟨p',[Str.ofString "3",Str.ofString "to",Str.ofString "5"],rfl,sm.trans (Same.new np),Zad,by decide,fun w hw=>?_⟩⟩
         rcases List.mem_cons.mp hw with rfl | hw
         · exact f3
         · rcases List.mem_cons.mp hw with rfl | hw
           · exact fto
           · rw [List.mem_singleton.mp hw]
             exact f5
       · exact c4 _ _ ⟨p,ws,rfl,sm,hp,wl,hw⟩
     obtain ⟨p,ws,rfl,sm,hp,wl,hw⟩:=h2;walk_at "vc";split
     · refine ⟨by decide,fun p' np=>c3 _ _ ⟨p',[Str.ofString "is",Str.ofString "3"],rfl,sm.trans (Same.new np),Zad,by decide,fun w hw=>?_⟩⟩
       rcases List.mem_cons.mp hw with rfl | hw
       · exact fx _ (by decide +kernel)
       · rw [List.mem_singleton.mp hw]
         exact f3
     · exact c3 _ _ ⟨p,ws,rfl,sm,hp,wl,hw⟩
   obtain ⟨p,ws,rfl,sm,hp,wl,hw⟩:=h1;walk_at "vc";split
   · refine ⟨by decide,fun p' np=>c2 _ _ ⟨p',[Str.ofString "all"],rfl,sm.trans (Same.new np),Zad,by decide,fun w hw=>?_⟩⟩
     rw [List.mem_singleton.mp hw];exact fx _ (by decide +kernel)
   · exact c2 _ _ ⟨p,ws,rfl,sm,hp,wl,hw⟩
 walk_at "vc";exact ⟨by decide,fun p np=>fin _ _ ⟨p,[],rfl,Same.new np,Zad,Nat.zero_le _,fun w hw=>by cases hw⟩⟩
end
def spWordsG (K:PySem.W.Frag):Sp:=fun vs H Q _=>∃ (a l:Addr) (ns:List Int) (N:List Str),vs=[.ref a,.ref l]∧SqL K H a (ns.map V.int)∧H l=some (.lst (N.map V.str))∧N.length=3∧(∀ x∈N,nameB x=true)∧ns.length≤63∧∀ p ws H',Same H H'→H' p=some (.lst (wdV ws))→ws.length≤90→(∀ w∈ws,WP N w)→Q (.ref p) H'
structure WdI (a l p o c:Addr)(N:List Str)(H:Hp)(i:Nat)(σ:L2.St)(H':Hp):Prop where
 ex:∃ (q:Q6) (S:List Bool) (ws:List Str) (room:Int) (v6 v7 v8 v9:Option V),σ=[some (.ref a),some (.ref l),some (.ref p),some (.ref o),some (.str (qW q)),some (.int room),v6,v7,v8,v9]∧H' p=some (.lst (wdV ws))∧ws.length≤i∧(∀ w∈ws,WP N w)∧H' o=some (.lst (opR S))∧S.length≤20
 fx:∀ b ob,b≠p→b≠o→H b=some ob→H' b=some ob
theorem cut_int (ns:List Int)(lo hi:Option Int):∃ sub:List Int,cutV (ns.map V.int) lo hi=sub.map V.int∧sub.length≤ns.length:=by unfold cutV;refine ⟨(ns.drop _).take _,by rw [List.map_take,List.map_drop],?_⟩;rw [List.length_take,List.length_drop];omega
theorem mix_nn (c k:Int):0≤mixI c k:=Int.emod_nonneg _ (by decide)
section
variable {P:Program}{w:World}{K:PySem.W.Frag}{mg:Str→Option Value}{base:Heap}
theorem ZhA (B:Blt mg) (h_l_mixed:FnAt P w K mg base "_law_mixed" ["_law_cell","_law_k"] 1 spMixed) (h_l_cell_at:FnAt P w K mg base "_law_cell_at" ["_law_script","_law_k"] 1 (spCell K)) (h_l_good_word:FnAt P w K mg base "_law_good_word" ["_law_state","_law_x","_law_names_here"] 1 spGood) (h_l_odd_word:FnAt P w K mg base "_law_odd_word" ["_law_x"] 1 spOdd) (h_l_ending:FnAt P w K mg base "_law_ending" ["_law_state","_law_open_ones"] 1 spEnding) (h_l_next:FnAt P w K mg base "_law_next" ["_law_state","_law_word","_law_open_ones"] 3 spNext) (d:DefAt K mg "_law_words" Zeb ["_law_script","_law_names_here"]):FnAt P w K mg base "_law_words" ["_law_script","_law_names_here"] 4 (spWordsG K):=by
 refine FnAt.of d sc_l_words (fun vs H Q E h=>?_) (fun f cdv A outer s H vs Q E hr h=>?_)
 · obtain ⟨a,l,ns,N,rfl,_⟩:=h
   rfl
 obtain ⟨a,l,ns,N,rfl,ha,hl,n3,hN,h63,q⟩:=h;refine ⟨_,(Zab (Zao (i:=2) sc_l_words.nd rfl (by walk_at "l") (Zaz Zac))
     (Zab (Zao (i:=3) sc_l_words.nd rfl (by walk_at "l") (Zaz Zac))
     (Zab (Zao (i:=4) sc_l_words.nd rfl (by walk_at "l") Zaf)
     (Zab (Zao (i:=5) sc_l_words.nd rfl (by walk_at "l") Zak)
     (Zab (Zbs PassesOwn.never rfl (ZaS K (Zdo (sl_listK K) (pv 0) (ZdK Zak) Zgd)) (ZaB (i:=6) sc_l_words.nd rfl (by walk_at "l")) (Zab (Zao (i:=7) sc_l_words.nd rfl (by walk_at "l") (Zaq h_l_mixed (hr.mono (by omega)) rfl (Zaa (pv 6) (Zaa Zak Zac))))
     (Zab (Zao (i:=8) sc_l_words.nd rfl (by walk_at "l") (Zaq h_l_good_word (hr.mono (by omega)) rfl (Zaa (pv 4) (Zaa (Zar ZcR (pv 7) Zak) (Zaa (pv 1) Zac)))))
     (Zab (Zau (PW.pt (ZaX (Zai Zat (Zar ZaP (pv 7) Zak) Zak (nomark _)) (ZaU (Zai Zat (Zar ZaP (Zaq h_l_cell_at (hr.mono (by omega)) rfl (Zaa (pv 0) (Zaa Zak Zac))) Zak) Zak (nomark _))))) (Zae (Zao (i:=8) sc_l_words.nd rfl (by walk_at "l") (Zaq h_l_odd_word (hr.mono (by omega)) rfl (Zaa (Zaq h_l_mixed (hr.mono (by omega)) rfl (Zaa (pv 6) (Zaa Zak Zac))) Zac)))) Zap)
     (Zab (Zao (i:=5) sc_l_words.nd rfl (by walk_at "l") (Zar Zgn (Zar Zgn (pv 5) (Zas Zaw rfl B.len PySem.boot_len (Zaa (pv 8) Zac))) Zak))
     (Zab (Zau (Zai Zg3 (pv 5) Zak (nomark _)) (Zae (ps_break)) Zap)
     (Zab (Zay (ZaZ K PySem.F.plainAttrs_list PySem.F.slot_list_append PySem.F.type_list_append ZaL (pv 2) (Zaa (pv 8) Zac)))
     (Zab (Zao (i:=9) sc_l_words.nd rfl (by walk_at "l") (Zaq h_l_next (hr.mono (by omega)) rfl (Zaa (pv 4) (Zaa (pv 8) (Zaa (pv 3) Zac)))))
     (Zae (Zau (Zai Zdw (pv 9) Za6 (nomark _)) (Zae (Zao (i:=4) sc_l_words.nd rfl (by walk_at "l") (pv 9))) Zap))))))))))
     (Zab (Zau (Zai Zhd (Zar ZaP (Zaq h_l_cell_at (hr.mono (by omega)) rfl (Zaa (pv 0) (Zaa Zak Zac))) Zak) Zak (nomark _)) (Zae (Zao (i:=2) sc_l_words.nd rfl (by walk_at "l") (Zar Zc9 (pv 2) (Zaq h_l_ending (hr.mono (by omega)) rfl (Zaa (pv 4) (Zaa (pv 3) Zac)))))) Zap)
     (Zae (Zam (pv 2))))))))),?_⟩
 refine Zag fun k hk=>?_
 walk_at "vc";refine ⟨by decide,fun p np=>hk _ _ (Zag fun k hk=>?_)⟩;have s1:=Same.new (o:=.lst []) np;walk_at "vc";refine ⟨by decide,fun o no=>hk _ _ (Zag fun k hk=>?_)⟩;have s2:=Same.new (o:=.lst []) no;have po:p≠o:=fun z=>by rw [← z,Zad] at no;cases no
 walk_at "vc";refine hk _ _ (Zag fun k hk=>?_);walk_at "vc";refine hk _ _ (Zag fun k hk=>?_);walk_at "vc";refine ⟨_,(s1.trans s2).seq ha,fun c nc=>⟨⟨_,SqL.of Zad⟩,?_⟩⟩;have s3:=Same.new (o:=.lst (cutV (ns.map V.int) (some 2) none)) nc;obtain ⟨sub,es,ls⟩:=cut_int ns (some 2) none;rw [es] at s3 ⊢;have hp0:upd (upd (upd H p (HO.lst [])) o (HO.lst [])) c (HO.lst (sub.map V.int)) p=some (.lst []):=s3 _ _ (s2 _ _ Zad);have ho0:upd (upd (upd H p (HO.lst [])) o (HO.lst [])) c (HO.lst (sub.map V.int)) o=some (.lst []):=s3 _ _ Zad;have hc0:upd (upd (upd H p (HO.lst [])) o (HO.lst [])) c (HO.lst (sub.map V.int)) c=some (.lst (sub.map V.int)):=Zad;have sm0:=(s1.trans s2).trans s3;generalize upd (upd (upd H p (HO.lst [])) o (HO.lst [])) c (HO.lst (sub.map V.int))=H0 at hp0 ho0 hc0 sm0 s3;have cp:c≠p:=fun z=>by rw [z] at nc;rw [s2 _ _ Zad] at nc;cases nc
 have co:c≠o:=fun z=>by rw [z,Zad] at nc;cases nc
 have out:∀ b ob,H b=some ob→b≠p∧b≠o:=fun b ob e=>⟨Zaj e np,Zaj (s1 _ _ e) no⟩
 have keep:∀ {i:Nat} {σ:L2.St} {H' H'':Hp},WdI a l p o c N H0 i σ H'→Same H' H''→Same H H'':=fun {i σ H' H''} h s b ob e=>s _ _ (h.fx _ _ (out b ob e).1 (out b ob e).2 (sm0 _ _ e))
 have aft:∀ i σ H',i≤63→WdI a l p o c N H0 i σ H'→k σ H':=fun i σ H1 hi h=>by
   have h0:=h;obtain ⟨⟨qq,S,ws,room,v6,v7,v8,v9,rfl,hp,wl,hw,ho,hS⟩,fx⟩:=h;refine hk _ _ (Zag fun k hk=>?_);walk_at "vc";refine ⟨a,ns,1,rfl,(keep h0 (Same.refl _)).seq ha,_,rfl,?_⟩;split
   · refine ⟨qq,o,S,rfl,ho,hS,fun p2 ws2 H2 sm2 hp2 wl2 hw2=>⟨p2,rfl,_,sm2 _ _ hp,_,hp2,?_,fun p3 n3=>hk _ _ ?_⟩⟩
     · rw [ZbK,ZbK]
       exact small5 (by omega)
     · walk_at "vc"
       refine q p3 (ws++ws2) _ (keep h0 (sm2.trans (Same.new n3))) ?_ ?_ fun w hw'=>?_
       · rw [Zad]
         unfold wdV;rw [List.map_append]
       · rw [List.length_append]
         omega
       · rcases List.mem_append.mp hw' with hw' | hw'
         · exact hw w hw'
         · rcases hw2 w hw' with z | z | z
           · exact .inl z
           · cases z
           · exact .inr (.inr z)
   · refine hk _ _ ?_
     walk_at "vc";exact q p ws _ (keep h0 (Same.refl _)) hp (by omega) hw
 refine loopL (xs:=sub.map V.int) (WdI a l p o c N H0) ⟨⟨.pc,[],[],420,none,none,none,none,rfl,hp0,Nat.zero_le _,fun w hw=>(by cases hw),ho0,Nat.zero_le _⟩,fun b ob _ _ e=>e⟩ (fun i σ H' _ h=>SqL.of (h.fx _ _ cp co hc0)) ?_ ?_
 · intro i y σ H1 hy h
   have h0:=h;obtain ⟨⟨qq,S,ws,room,v6,v7,v8,v9,rfl,hp,wl,hw,ho,hS⟩,fx⟩:=h;have il:i<sub.length:=by have:=(List.getElem?_eq_some_iff.mp hy).1;rw [List.length_map] at this;exact this
   obtain ⟨cell,rfl⟩:∃ z:Int,y=.int z:=by obtain ⟨z,_,e⟩:=List.mem_map.mp (List.mem_of_getElem? hy);exact ⟨z,e.symm⟩
   rw [Zba];refine Zag fun k2 hk2=>?_
   walk_at "vc";refine ⟨_,_,rfl,hk2 _ _ (Zag fun k2 hk2=>?_)⟩;have mn:=mix_nn cell 1;generalize mixI cell 1=x at mn;walk_at "vc";refine ⟨qq,x/16,l,N,rfl,fx _ _ (out _ _ hl).1 (out _ _ hl).2 (sm0 _ _ hl),n3,Int.ediv_nonneg mn (by decide),fun w2 H2 sm2 wp2=>hk2 _ _ (Zag fun k2 hk2=>?_)⟩
   have go : ∀ w3 H3,Same H1 H3→WP N w3→k2 [some (.ref a),some (.ref l),some (.ref p),some (.ref o),some (.str (qW qq)),some (.int room),some (.int cell),some (.int x),some (.str w3),v9] H3:=fun w3 H3 sm3 wp3=>by
     obtain ⟨wl3,ok3,_⟩:=wp3.all hN;refine hk2 _ _ (Zag fun k2 hk2=>?_);walk_at "vc";refine ⟨small5 (by omega),hk2 _ _ (Zag fun k2 hk2=>?_)⟩;generalize room-(w3.length:Int)-2=room';walk_at "vc";have h3:∀ v9,WdI a l p o c N H0 i [some (.ref a),some (.ref l),some (.ref p),some (.ref o),some (.str (qW qq)),some (.int room'),some (.int cell),some (.int x),some (.str w3),v9] H3:=fun v9=>⟨⟨qq,S,ws,room',_,_,_,_,rfl,sm3 _ _ hp,wl,hw,sm3 _ _ ho,hS⟩,fun b ob h1 h2 e=>sm3 _ _ (fx _ _ h1 h2 e)⟩
     split
     · exact aft i _ _ (by omega) (h3 _)
     · refine hk2 _ _ (Zag fun k2 hk2=>?_)
       have hp3:=sm3 _ _ hp;have ho3:=sm3 _ _ ho;walk_at "vc";refine ⟨⟨_,SqL.of hp3⟩,_,hp3,?_,hk2 _ _ (Zag fun k2 hk2=>?_)⟩
       · rw [ZbK]
         exact small5 (by omega)
       · have w3n:w3≠emS:=fun z=>by
           rw [z] at ok3;revert ok3;decide +kernel
         have hp4:upd H3 p (.lst (wdV ws++[.str w3])) p=some (.lst (wdV (ws++[w3]))):=by rw [Zad];unfold wdV;rw [List.map_append];rfl
         have ho4:upd H3 p (.lst (wdV ws++[.str w3])) o=some (.lst (opR S)):=by rw [Zah (Ne.symm po)];exact ho3
         have fx4:∀ b ob,b≠p→b≠o→H0 b=some ob→upd H3 p (.lst (wdV ws++[.str w3])) b=some ob:=fun b ob h1 h2 e=>by
           rw [Zah h1];exact sm3 _ _ (fx _ _ h1 h2 e)
         generalize upd H3 p (.lst (wdV ws++[.str w3]))=H4 at hp4 ho4 fx4;have wp4:∀ w∈ws++[w3],WP N w:=fun w hw'=>by
           rcases List.mem_append.mp hw' with hw' | hw'
           · exact hw w hw'
           · rw [List.mem_singleton.mp hw']
             exact wp3
         have wl4:(ws++[w3]).length≤i+1:=by rw [List.length_append];show _+1≤_;omega
         walk_at "vc";refine ⟨qq,w3,o,S,rfl,w3n,by omega,ho4,hS,?_⟩;cases e:nx qq S w3 with
         | none =>
           intro H5 f5 h5;refine hk2 _ _ ?_;walk_at "vc";exact ⟨⟨qq,S,ws++[w3],room',_,_,_,_,rfl,f5 _ _ po hp4,wl4,wp4,h5,hS⟩,fun b ob h1 h2 e=>f5 _ _ h2 (fx4 _ _ h1 h2 e)⟩
         | some y =>
           intro H5 f5 h5;refine hk2 _ _ ?_;walk_at "vc";exact ⟨⟨y.1,y.2,ws++[w3],room',_,_,_,_,rfl,f5 _ _ po hp4,wl4,wp4,h5,nx_len (q':=y.1) (S':=y.2) e hS⟩,fun b ob h1 h2 e=>f5 _ _ h2 (fx4 _ _ h1 h2 e)⟩
   walk_at "vc";split
   · refine ⟨a,ns,0,rfl,((keep h0 sm2).seq ha),_,rfl,?_⟩
     split
     · exact ⟨_,_,rfl,_,rfl,fun w3 H3 sm3 hw3=>go w3 H3 (sm2.trans sm3) (.inl hw3)⟩
     · exact go w2 H2 sm2 wp2
   · exact go w2 H2 sm2 wp2
 · intro σ H1 h
   rw [List.length_map] at h;exact aft _ _ _ (by omega) h
end
def spLeafT:Sp:=fun vs H Q _=>∃ (l d:Addr) (us:List Tok) (e r:Nat) (kvs:List (Key × V)) (f:Str→Int) (N:List Str),vs=[.ref l,.int r,.ref d]∧H l=some (.lst (wdV (us.map (·.1))))∧H d=some (.dK kvs)∧VOk N kvs f∧r<us.length∧LOk (us++[(emS,e)]) N r∧Q (.bl (lfP (us++[(emS,e)]) f r)) H
def spTruth:Sp:=fun vs H Q _=>∃ (l d:Addr) (us:List Tok) (e:Nat) (t:T) (kvs:List (Key × V)) (f:Str→Int) (N:List Str),vs=[.ref l,.ref d]∧H l=some (.lst (wdV (us.map (·.1))))∧H d=some (.dK kvs)∧VOk N kvs f∧(∀ x,x∉N→valV kvs (.inr x)=none)∧Acc us e t∧(∀ x∈N,nameB x=true)∧(∀ u∈us,nameB u.1=true→u.1∈N)∧us.length≤1000∧∀ H',Same H H'→Q (.bl (t.hol f)) H'
theorem ZfV {us:List Tok}{e r:Nat}{i:Int}(hi:i=(r:Int))(h:r<us.length):atI (wdV (us.map (·.1))) i=some (.str (tk (us++[(emS,e)]) r).1):=by subst hi;refine ZaI ?_;have e1:=ZbO (ts:=us++[(emS,e)]) (r:=r) (by rw [List.length_append];omega);rw [List.getElem?_append_left h] at e1;unfold wdV;rw [List.getElem?_map,List.getElem?_map,e1];rfl
theorem tk_lt {us:List Tok}{e r:Nat}(h:(tk (us++[(emS,e)]) r).1≠emS):r<us.length:=by
 by_cases c:r<us.length
 · exact c
 · exfalso
   apply h
   unfold tk;rw [List.getD_eq_getElem?_getD,List.getElem?_append_right (by omega)];cases r-us.length with
   | zero=>rfl
   | succ j=>rfl
theorem Zgx {w:Str}(h:figB w=true):w.length≤640∧intText? w=some (figI w):=by have h':=h;have ne:=Zcc h;unfold figB at h';simp only [Bool.and_eq_true,decide_eq_true_eq] at h';refine ⟨Nat.le_trans h'.1.1.2 (by decide),?_⟩;obtain ⟨⟨l⟩⟩:=w;exact ZgV h'.1.2 (fun z=>ne (by rw [z];decide +kernel)) h'.1.1.2
section
variable {P:Program}{w:World}{K:PySem.W.Frag}{mg:Str→Option Value}{base:Heap}
theorem ZeA (B:Blt mg) (d:DefAt K mg "_law_leaf_truth" ZbE ["_law_words_here","_law_k","_law_values"]):FnAt P w K mg base "_law_leaf_truth" ["_law_words_here","_law_k","_law_values"] 1 spLeafT:=by
 refine FnAt.of d Zez (fun vs H Q E h=>?_) (fun f cdv A outer s H vs Q E hr h=>?_)
 · obtain ⟨l,d,us,e,r,kvs,f,N,rfl,_⟩:=h
   rfl
 obtain ⟨l,d,us,e,r,kvs,f,N,rfl,hl,hd,vo,hr',lo,q⟩:=h;refine ⟨_,(Zab (Zau (PW.pt (Zbw (Zai Zat (Zav (Zan K) (pv 0) (pv 1) (fun _ _=>rfl)) Zaf (nomark _)) (Zbe (Zai Zat (Zav (Zan K) (pv 0) (pv 1) (fun _ _=>rfl)) Zaf (nomark _))))) (Zae (Zam (Zbp Zat (Zav (Zan K) (pv 0) (pv 1) (fun _ _=>rfl)) Zaf (nomark _)))) Zap)
     (Zab (Zau (Zai Zat (Zav (Zan K) (pv 0) (Zar ZaR (pv 1) Zak) (fun _ _=>rfl)) Zaf (nomark _)) (Zae (Zam (Zbp Zat (ZaK Zb0 rfl B.int boot_int (Zaa (Zav (Zan K) (pv 0) (Zar ZaR (pv 1) Zak) (fun _ _=>rfl)) Zac)) (Zgw (hu1 hr) (pv 2) (Zav (Zan K) (pv 0) (pv 1) (fun _ _=>rfl)) (fun _ _=>rfl)) (nomark _)))) Zap)
     (Zae (Zam (Zdv Zc4 Zc4 (ZaK Zb0 rfl B.int boot_int (Zaa (Zav (Zan K) (pv 0) (Zar ZaR (pv 1) Zak) (fun _ _=>rfl)) Zac)) (Zgw (hu1 hr) (pv 2) (Zav (Zan K) (pv 0) (pv 1) (fun _ _=>rfl)) (fun _ _=>rfl)) (ZaK Zb0 rfl B.int boot_int (Zaa (Zav (Zan K) (pv 0) (Zar ZaR (pv 1) Zak) (fun _ _=>rfl)) Zac))))))),?_⟩
 walk_at "vc";have hS:=SqL.of (K:=K) hl;have a0:=ZfV (e:=e) (i:=(r:Int)) rfl hr';unfold lfP at q;refine ⟨_,hS,_,a0,rfl,?_⟩;by_cases c1:(tk (us++[(emS,e)]) r).1=Str.ofString "all"
 · rw [if_pos (congrArg V.str c1)]
   rw [if_pos (.inl c1),decide_eq_true c1] at q;refine ⟨_,hS,_,a0,rfl,?_⟩;rw [decide_eq_true (congrArg V.str c1)];exact q
 · rw [if_neg (fun z=>c1 (V.str.inj z))]
   refine ⟨_,hS,_,a0,rfl,?_⟩;by_cases c2:(tk (us++[(emS,e)]) r).1=Str.ofString "none"
   · rw [if_pos (congrArg V.str c2)]
     rw [if_pos (.inr c2),decide_eq_false c1] at q;refine ⟨_,hS,_,a0,rfl,?_⟩;rw [decide_eq_false (fun z=>c1 (V.str.inj z))];exact q
   · rw [if_neg (fun z=>c2 (V.str.inj z))]
     rw [if_neg (fun z=>z.elim c1 c2)] at q;obtain ⟨hm,f2,kd⟩:=lo.resolve_left fun z=>z.elim c1 c2
     have v:=vo _ hm;obtain ⟨g1,g2⟩:=Zgx f2;have l2:=tk_lt (Zcc f2);refine ⟨_,hS,_,ZfV (e:=e) (r:=r+1) (by omega) (by omega),rfl,?_⟩;by_cases c3:(tk (us++[(emS,e)]) (r+1)).1=Str.ofString "is"
     · rw [if_pos (congrArg V.str c3)]
       rw [if_pos c3] at q;refine ⟨_,hS,_,ZfV (e:=e) (r:=r+2) (by omega) l2,_,rfl,g1,_,g2,_,hS,_,a0,_,.inl ⟨kvs,.inr _,.inl hd,rfl,v.symm⟩,rfl,?_⟩;rw [show decide (V.int (figI (tk (us++[(emS,e)]) (r+2)).1)=V.int (f (tk (us++[(emS,e)]) r).1))=decide (figI (tk (us++[(emS,e)]) (r+2)).1=f (tk (us++[(emS,e)]) r).1) from decide_eq_decide.mpr ⟨V.int.inj,congrArg V.int⟩];exact q
     · rw [if_neg (fun z=>c3 (V.str.inj z))]
       rw [if_neg c3] at q;obtain ⟨_,f4⟩:=kd.resolve_left c3;obtain ⟨g3,g4⟩:=Zgx f4;have l4:=tk_lt (Zcc f4);refine ⟨_,hS,_,ZfV (e:=e) (r:=r+2) (by omega) l2,_,rfl,g1,_,g2,_,hS,_,a0,_,.inl ⟨kvs,.inr _,.inl hd,rfl,v.symm⟩,_,rfl,?_⟩;split
       · rename_i c4
         rw [decide_eq_true c4,Bool.true_and] at q;exact ⟨_,hS,_,ZfV (e:=e) (r:=r+4) (by omega) l4,_,rfl,g3,_,g4,_,rfl,q⟩
       · rename_i c4
         rw [decide_eq_false c4,Bool.false_and] at q;exact q
end
def LvAt (H:Hp)(lv op:Addr):List Lv→List V→Prop
 | [],us=>us=[]
 | x::L,us=>∃ vs a,us=vs++[.ref a]∧H a=some (.lst [.bl x.1,.bl x.2])∧a≠lv∧a≠op∧LvAt H lv op L vs
theorem LvAt.keep {H H':Hp}{lv op:Addr}(k:∀ b o,b≠lv→b≠op→H b=some o→H' b=some o):∀ {L:List Lv} {us:List V},LvAt H lv op L us→LvAt H' lv op L us
 | [],_,h=>h
 | x::L,_,⟨vs,a,e,h,n1,n2,r⟩=>⟨vs,a,e,k _ _ n1 n2 h,n1,n2,LvAt.keep k r⟩
theorem LvAt.len {H:Hp}{lv op:Addr}:∀ {L:List Lv} {us:List V},LvAt H lv op L us→us.length=L.length
 | [],_,h=>by rw [show _=[] from h];rfl
 | x::L,_,⟨vs,a,e,h,n1,n2,r⟩=>by
   rw [e,List.length_append,LvAt.len r];rfl
theorem ZdI {vs:List V}{v:V}:ixN (vs++[v]).length (-1)=some vs.length:=by
 unfold ixN;rw [List.length_append];show (if (0:Int)≤-1 then _ else if -((vs.length+1:Nat):Int)≤-1 then some (-1+((vs.length+1:Nat):Int)).toNat else none)=_;rw [if_neg (by decide),if_pos (by omega)];congr 1
 omega
theorem Zir {H:Hp}{lv op p:Addr}{us vs:List V}{L:List Lv}{a b:Bool}{o1 o2:HO}(hlv:H lv=some o1)(hop:H op=some o2)(lo:lv≠op)(np:H p=none)(hL:LvAt H lv op L vs)(hus:us=vs++[.ref p]):upd (upd H p (.lst [.bl a,.bl b])) lv (.lst us) lv=some (.lst us)∧LvAt (upd (upd H p (.lst [.bl a,.bl b])) lv (.lst us)) lv op ((a,b)::L) us∧upd (upd H p (.lst [.bl a,.bl b])) lv (.lst us) op=some o2∧∀ c oc,c≠lv→c≠op→H c=some oc→upd (upd H p (.lst [.bl a,.bl b])) lv (.lst us) c=some oc:=by
 have pl:p≠lv:=fun z=>by rw [z,hlv] at np;cases np
 have po:p≠op:=fun z=>by rw [z,hop] at np;cases np
 have k:∀ c oc,c≠lv→c≠op→H c=some oc→upd (upd H p (.lst [.bl a,.bl b])) lv (.lst us) c=some oc:=fun c oc n1 n2 e=>by
   rw [Zah n1,Zah (Zaj e np)];exact e
 refine ⟨Zad,⟨vs,p,hus,?_,pl,po,hL.keep k⟩,?_,k⟩
 · rw [Zah pl,Zad]
 · rw [Zah (Ne.symm lo),Zah (Ne.symm po)]
   exact hop
structure TrI (l d lv op:Addr)(ts:List Tok)(isL:Str→Bool)(lf:Nat→Bool)(H:Hp)(i:Nat)(σ:L2.St)(H':Hp):Prop where
 ex:∃ (q:Q6) (S:List Bool) (us:List V) (v4 v5 v6:Option V),σ=[some (.ref l),some (.ref d),some (.ref lv),some (.ref op),v4,v5,v6]∧H' lv=some (.lst us)∧LvAt H' lv op (trn ts isL lf 0 i ([(false,true)],[])).1 us∧H' op=some (.lst (opR (trn ts isL lf 0 i ([(false,true)],[])).2))∧TG ts i (trn ts isL lf 0 i ([(false,true)],[])) q S∧(trn ts isL lf 0 i ([(false,true)],[])).2.length≤i
 fx:∀ b o,b≠lv→b≠op→H b=some o→H' b=some o
theorem tst_len {ts:List Tok} {isL:Str→Bool} {lf:Nat→Bool} {k:Nat} {s:List Lv × List Bool}:(tst ts isL lf k s).2.length≤s.2.length+1:=by
 have f:∀ (L:List Lv) (S:List Bool) (b:Bool),(finL L S b).2.length≤S.length:=fun L S b=>by
   show (unw S b).2.length≤_;rw [ZeK];exact Zcu S
 unfold tst;split
 · exact Nat.le_refl _
 · split
   · exact Nat.le_refl _
   · split
     · exact Nat.le_succ _
     · split
       · have t:s.2.tail.length≤s.2.length:=by rw [List.length_tail];omega
         split
         · exact Nat.le_trans (f _ _ _) (by omega)
         · exact Nat.le_succ _
       · split
         · exact Nat.le_succ_of_le (f _ _ _)
         · exact Nat.le_succ _
section
variable {P:Program}{w:World}{K:PySem.W.Frag}{mg:Str→Option Value}{base:Heap}
theorem Zii (B:Blt mg)(h_l_leaf_truth:FnAt P w K mg base "_law_leaf_truth" ["_law_words_here","_law_k","_law_values"] 1 spLeafT)(d:DefAt K mg "_law_truth" ZdS ["_law_words_here","_law_values"]):FnAt P w K mg base "_law_truth" ["_law_words_here","_law_values"] 2 spTruth:=by
 refine FnAt.of d sc_l_truth (fun vs H Q E h=>?_) (fun f cdv A outer s H vs Q E hr h=>?_)
 · obtain ⟨l,d,us,e,t,kvs,f,N,rfl,_⟩:=h
   rfl
 obtain ⟨l,d,us,e,t,kvs,f,N,rfl,hl,hd,vo,vn,acc,hN,hw,hu,q⟩:=h;refine ⟨_,(Zab (Zao (i:=2) sc_l_truth.nd rfl (by walk_at "l") (Zaz (Zaa (Zaz (Zaa ZbL (Zaa ZbL Zac))) Zac)))
     (Zab (Zao (i:=3) sc_l_truth.nd rfl (by walk_at "l") (Zaz Zac))
     (Zab (Zbs PassesOwn.never rfl (Zbm rfl B.range (Zaa (Zas (ZaW K) rfl B.len PySem.boot_len (Zaa (pv 0) Zac)) Zac)) (ZaB (i:=4) sc_l_truth.nd rfl (by walk_at "l")) (Zab (Zao (i:=5) sc_l_truth.nd rfl (by walk_at "l") Za6)
     (Zab (Zau (PW.pt (Zbw (Zai Zat (Zav (Zan K) (pv 0) (pv 4) (fun _ _=>rfl)) Zaf (nomark _)) (Zbe (Zai Zat (Zav (Zan K) (pv 0) (pv 4) (fun _ _=>rfl)) Zaf (nomark _))))) (Zab (Zay (ZaZ K PySem.F.plainAttrs_list PySem.F.slot_list_append PySem.F.type_list_append ZaL (pv 3) (Zaa (Zav (Zan K) (pv 0) (pv 4) (fun _ _=>rfl)) Zac)))
     (Zae (Zau (Zai Zat (Zav (Zan K) (pv 0) (pv 4) (fun _ _=>rfl)) Zaf (nomark _)) (Zae (Zay (ZaZ K PySem.F.plainAttrs_list PySem.F.slot_list_append PySem.F.type_list_append ZaL (pv 2) (Zaa (Zaz (Zaa ZbL (Zaa ZbL Zac))) Zac)))) Zap))) (Zae (Zau (Zai Zat (Zav (Zan K) (pv 0) (pv 4) (fun _ _=>rfl)) Zaf (nomark _)) (Zae (ps_asg (Zaz (Zaa (pe_or (Zav (Zan K) (Zav (Zan K) (pv 2) (ZdA Zcd Zak) (fun _ _=>rfl)) Zak (fun _ _=>rfl)) (ZcI (Zav (Zan K) (Zav (Zan K) (pv 2) (ZdA Zcd Zak) (fun _ _=>rfl)) Zak (fun _ _=>rfl)))) (Zaa ZbL Zac))) (pg_sub (pv 2) (ZdA Zcd Zak) Zha))) (Zae (Zau (Zai Zat (Zav (Zan K) (pv 0) (pv 4) (fun _ _=>rfl)) Zaf (nomark _)) (Zab (Zay (ZdG K PySem.F.plainAttrs_list PySem.F.slot_list_pop PySem.F.type_list_pop Zfc (pv 3)))
     (Zab (Zao (i:=6) sc_l_truth.nd rfl (by walk_at "l") (ZdG K PySem.F.plainAttrs_list PySem.F.slot_list_pop PySem.F.type_list_pop Zfc (pv 2)))
     (Zae (Zao (i:=5) sc_l_truth.nd rfl (by walk_at "l") (pe_or (Zav (Zan K) (pv 6) Zak (fun _ _=>rfl)) (ZcI (Zav (Zan K) (pv 6) Zak (fun _ _=>rfl)))))))) (Zae (Zau (PW.pt (Zbw (pt_cmp (pc_din (hu1 hr) (Zav (Zan K) (pv 0) (pv 4) (fun _ _=>rfl)) (pv 1)) (by with_unfolding_all rfl)) (Zbw (Zai Zat (Zav (Zan K) (pv 0) (pv 4) (fun _ _=>rfl)) Zaf (nomark _)) (Zbe (Zai Zat (Zav (Zan K) (pv 0) (pv 4) (fun _ _=>rfl)) Zaf (nomark _)))))) (Zae (Zao (i:=5) sc_l_truth.nd rfl (by walk_at "l") (Zaq h_l_leaf_truth (hr.mono (by decide)) rfl (Zaa (pv 0) (Zaa (pv 4) (Zaa (pv 1) Zac)))))) Zap)))))))
     (Zab (Zdk PassesOwn.never (PW.pt (ZaX (Zai Zdw (pv 5) Za6 (nomark _)) (ZaX (Zai (Zgl K (hu64 hr)) (pv 3) (Zaz Zac) (nomark _)) (ZaU (Zai Zat (Zav (Zan K) (pv 3) (ZdA Zcd Zak) (fun _ _=>rfl)) Zaf (nomark _)))))) (Zab (Zay (ZdG K PySem.F.plainAttrs_list PySem.F.slot_list_pop PySem.F.type_list_pop Zfc (pv 3)))
     (Zae (Zao (i:=5) sc_l_truth.nd rfl (by walk_at "l") (Zib (pv 5))))))
     (Zae (Zau (Zai Zdw (pv 5) Za6 (nomark _)) (Zae (ps_asg (Zaz (Zaa (Zav (Zan K) (Zav (Zan K) (pv 2) (ZdA Zcd Zak) (fun _ _=>rfl)) Zak (fun _ _=>rfl)) (Zaa (Zee (Zav (Zan K) (Zav (Zan K) (pv 2) (ZdA Zcd Zak) (fun _ _=>rfl)) Zak (fun _ _=>rfl)) (ZcI (pv 5))) Zac))) (pg_sub (pv 2) (ZdA Zcd Zak) Zha))) Zap))))))
     (Zae (Zam (pe_or (Zav (Zan K) (Zav (Zan K) (pv 2) Zak (fun _ _=>rfl)) Zak (fun _ _=>rfl)) (ZcI (Zav (Zan K) (Zav (Zan K) (pv 2) Zak (fun _ _=>rfl)) Zak (fun _ _=>rfl))))))))),?_⟩
 have bo:LfOk (us++[(emS,e)]) (isLw N) (lfP (us++[(emS,e)]) f) f:=lfOk acc hN hw;have nl:=noL hN (ZdQ acc hw);have te:=truth_eq bo acc.g acc.pos acc.q;have tl:(us++[(emS,e)]).length=us.length+1:=List.length_append;refine Zag fun k hk=>?_
 walk_at "vc";refine ⟨by decide,fun p1 n1=>⟨by decide,fun lv nlv=>hk _ _ (Zag fun k hk=>?_)⟩⟩;have s1:=(Same.new (o:=.lst [V.bl false,V.bl true]) n1).trans (Same.new (o:=.lst [V.ref p1]) nlv);have hp1:upd (upd H p1 (HO.lst [V.bl false,V.bl true])) lv (HO.lst [V.ref p1]) p1=some (.lst [V.bl false,V.bl true]):=(Same.new nlv) _ _ Zad;have p1l:p1≠lv:=fun z=>by rw [z,Zad] at nlv;cases nlv
 walk_at "vc";refine ⟨by decide,fun op nop=>hk _ _ (Zag fun k hk=>?_)⟩;have s2:=Same.new (o:=.lst []) nop;have p1o:p1≠op:=fun z=>by rw [← z,hp1] at nop;cases nop
 have lo:lv≠op:=fun z=>by rw [← z,Zad] at nop;cases nop
 have hlv0:upd (upd (upd H p1 (HO.lst [V.bl false,V.bl true])) lv (HO.lst [V.ref p1])) op (HO.lst []) lv=some (.lst [V.ref p1]):=s2 _ _ Zad;have hop0:upd (upd (upd H p1 (HO.lst [V.bl false,V.bl true])) lv (HO.lst [V.ref p1])) op (HO.lst []) op=some (.lst []):=Zad;have hp0:=s2 _ _ hp1;have sm0:=s1.trans s2;generalize upd (upd (upd H p1 (HO.lst [V.bl false,V.bl true])) lv (HO.lst [V.ref p1])) op (HO.lst [])=H0 at hlv0 hop0 hp0 sm0 s2;have out:∀ b ob,H b=some ob→b≠lv∧b≠op:=fun b ob e=>⟨Zaj ((Same.new n1) _ _ e) nlv,Zaj (s1 _ _ e) nop⟩
 have hl0:=sm0 _ _ hl;have hd0:=sm0 _ _ hd;have ol:=out _ _ hl;have od:=out _ _ hd;walk_at "vc";refine ⟨_,.inl (SqL.of hl0),?_⟩;rw [ZbK,List.length_map];have e0:((us.length:Int)).toNat=us.length:=Int.toNat_natCast _
 try rw [e0]
 refine ⟨by omega,by omega,?_⟩;refine loopR (TrI l d lv op (us++[(emS,e)]) (isLw N) (lfP (us++[(emS,e)]) f) H0) ⟨⟨.pc,[],_,none,none,none,rfl,hlv0,⟨[],p1,rfl,hp0,p1l,p1o,rfl⟩,hop0,⟨acc.run,rfl,rfl,fun z=>by cases z⟩,Nat.zero_le _⟩,fun b ob _ _ e=>e⟩ ?_ ?_
 · rintro i σ H1 hi ⟨⟨qq,S,ls,v4,v5,v6,rfl,hlv,hL,hop,tg,sl⟩,fx⟩
   have hl1:=fx _ _ ol.1 ol.2 hl0;have hd1:=fx _ _ od.1 od.2 hd0;have hS1:=SqL.of (K:=K) hl1;have wi:=ZfV (e:=e) (i:=(i:Int)) (r:=i) rfl hi;have tne:=(acc.tk hi).2;obtain ⟨gp,gl,q',S',tg'⟩:=tg.step (lf:=lfP (us++[(emS,e)]) f) nl (ZdQ acc hw) acc.g (by omega) tne;have en:trn (us++[(emS,e)]) (isLw N) (lfP (us++[(emS,e)]) f) 0 (i+1) ([(false,true)],[])=tst (us++[(emS,e)]) (isLw N) (lfP (us++[(emS,e)]) f) i (trn (us++[(emS,e)]) (isLw N) (lfP (us++[(emS,e)]) f) 0 i ([(false,true)],[])):=by rw [Zgk i 1 0,Nat.zero_add];rfl
   have tl':=tst_len (ts:=us++[(emS,e)]) (isL:=isLw N) (lf:=lfP (us++[(emS,e)]) f) (k:=i) (s:=trn (us++[(emS,e)]) (isLw N) (lfP (us++[(emS,e)]) f) 0 i ([(false,true)],[]));have nxt:∀ H2 ls2 v5 v6,H2 lv=some (.lst ls2)→LvAt H2 lv op (tst (us++[(emS,e)]) (isLw N) (lfP (us++[(emS,e)]) f) i (trn (us++[(emS,e)]) (isLw N) (lfP (us++[(emS,e)]) f) 0 i ([(false,true)],[]))).1 ls2→H2 op=some (.lst (opR (tst (us++[(emS,e)]) (isLw N) (lfP (us++[(emS,e)]) f) i (trn (us++[(emS,e)]) (isLw N) (lfP (us++[(emS,e)]) f) 0 i ([(false,true)],[]))).2))→(∀ b ob,b≠lv→b≠op→H1 b=some ob→H2 b=some ob)→TrI l d lv op (us++[(emS,e)]) (isLw N) (lfP (us++[(emS,e)]) f) H0 (i+1) [some (.ref l),some (.ref d),some (.ref lv),some (.ref op),some (.int (i:Int)),v5,v6] H2:=fun H2 ls2 v5 v6 a1 a2 a3 a4=>by
     refine ⟨⟨q',S',ls2,_,v5,v6,rfl,a1,?_,?_,?_,?_⟩,fun b ob h1 h2 e=>a4 _ _ h1 h2 (fx _ _ h1 h2 e)⟩
     · rw [en];exact a2
     · rw [en];exact a3
     · rw [en];exact tg'
     · rw [en];omega
   generalize trn (us++[(emS,e)]) (isLw N) (lfP (us++[(emS,e)]) f) 0 i ([(false,true)],[])=st at hL hop tg sl gp gl tg' nxt en tl';generalize elf:lfP (us++[(emS,e)]) f=lf at tg' nxt en tl' ⊢;rw [Zba];refine Zag fun k2 hk2=>?_
   walk_at "vc";refine hk2 _ _ (Zag fun k2 hk2=>?_);have cnone:∀ H2 ls2 v6,H2 lv=some (.lst ls2)→LvAt H2 lv op (tst (us++[(emS,e)]) (isLw N) lf i st).1 ls2→H2 op=some (.lst (opR (tst (us++[(emS,e)]) (isLw N) lf i st).2))→(∀ b ob,b≠lv→b≠op→H1 b=some ob→H2 b=some ob)→k2 [some (.ref l),some (.ref d),some (.ref lv),some (.ref op),some (.int (i:Int)),some .non,v6] H2:=fun H2 ls2 v6 a1 a2 a3 a4=>by
     refine hk2 _ _ (Zag fun k2 hk2=>?_);refine ⟨fun m σ' H'=>m=0∧σ'=[some (.ref l),some (.ref d),some (.ref lv),some (.ref op),some (.int (i:Int)),some .non,v6]∧H'=H2,⟨0,rfl,rfl,rfl⟩,?_⟩;rintro m σ' H' ⟨rfl,rfl,e'⟩;subst e';walk_at "vc";refine hk2 _ _ ?_;walk_at "vc";exact nxt _ ls2 (some .non) v6 a1 a2 a3 a4
   have csome:∀ b L S1 H2 ls2 v6,tst (us++[(emS,e)]) (isLw N) lf i st=finL L S1 b→L≠[]→S1.length≤1000→H2 lv=some (.lst ls2)→LvAt H2 lv op L ls2→H2 op=some (.lst (opR S1))→(∀ b ob,b≠lv→b≠op→H1 b=some ob→H2 b=some ob)→k2 [some (.ref l),some (.ref d),some (.ref lv),some (.ref op),some (.int (i:Int)),some (.bl b),v6] H2:=fun b L S1 H2 ls2 v6 et hL2 l1 a1 a2 a3 a4=>by
     refine hk2 _ _ (Zag fun k2 hk2=>?_);refine ⟨fun m σ' H'=>∃ S2 b2,m=S2.length∧σ'=[some (.ref l),some (.ref d),some (.ref lv),some (.ref op),some (.int (i:Int)),some (.bl b2),v6]∧H' lv=some (.lst ls2)∧LvAt H' lv op L ls2∧H' op=some (.lst (opR S2))∧S2.length≤1000∧unw S2 b2=unw S1 b∧∀ b ob,b≠lv→b≠op→H1 b=some ob→H' b=some ob,⟨_,S1,b,rfl,rfl,a1,a2,a3,l1,rfl,a4⟩,?_⟩;rintro m σ' H3 ⟨S2,b2,rfl,rfl,b1,bL,b3,l2,un,b4⟩;have fin:(unw S2 b2)=(b2,S2)→∀ H4,Same H3 H4→k2 [some (.ref l),some (.ref d),some (.ref lv),some (.ref op),some (.int (i:Int)),some (.bl b2),v6] H4:=fun eu H4 s4=>by
       refine hk2 _ _ ?_;cases L with
       | nil=>exact absurd rfl hL2
       | cons x L =>
         have c1:=s4 _ _ b1;have c3:=s4 _ _ b3;have cL:=bL.keep (fun b o _ _ e=>s4 b o e);have c4:∀ b ob,b≠lv→b≠op→H1 b=some ob→H4 b=some ob:=fun b ob n1 n2 e=>s4 _ _ (b4 _ _ n1 n2 e)
         obtain ⟨vs,a,rfl,ha,n1,n2,r⟩:=cL;have e1:tst (us++[(emS,e)]) (isLw N) lf i st=((x.1,x.2&&b2)::L,S2):=by rw [et];unfold finL;rw [← un,eu];rfl
         have put:∀ p z,H4 p=none→z=(x.2&&b2)→TrI l d lv op (us++[(emS,e)]) (isLw N) lf H0 (i+1) [some (.ref l),some (.ref d),some (.ref lv),some (.ref op),some (.int (i:Int)),some (.bl b2),v6] (upd (upd H4 p (.lst [.bl x.1,.bl z])) lv (.lst ((vs++[V.ref a]).set vs.length (.ref p)))):=fun p z np ez=>by
           obtain ⟨g1,g2,g3,g4⟩:=Zir (us:=(vs++[V.ref a]).set vs.length (.ref p)) (a:=x.1) (b:=z) c1 c3 lo np r (by simp);refine nxt _ _ _ _ g1 ?_ ?_ fun b ob n1 n2 e=>g4 b ob n1 n2 (c4 _ _ n1 n2 e)
           · rw [e1,← ez]
             exact g2
           · rw [e1]
             exact g3
         walk_at "vc";refine ⟨_,SqL.of c1,_,ZcO _ _,_,rfl,_,SqL.of ha,_,ZaI (j:=0) rfl,_,SqL.of c1,_,ZcO _ _,_,rfl,_,SqL.of ha,_,ZaI (j:=1) rfl,_,rfl,?_⟩;split
         · rename_i z
           exact ⟨by decide,fun p np=>⟨_,(Same.new np) _ _ c1,vs.length,ZdI,put p b2 np (by rw [z,Bool.true_and])⟩⟩
         · rename_i z
           exact ⟨by decide,fun p np=>⟨_,(Same.new np) _ _ c1,vs.length,ZdI,put p false np (by rw [Bool.eq_false_iff.mpr z,Bool.false_and])⟩⟩
     walk_at "vc";refine ⟨by decide,fun p np=>Zf6 ((Same.new np) _ _ b3) Zad ⟨_,rfl,?_⟩⟩;have s5:=Same.new (o:=.lst []) np;cases S2 with
     | nil =>
       rw [if_neg (by decide)];exact fin rfl _ s5
     | cons z S2 =>
       rw [if_pos (show (!(z::S2).isEmpty)=true from rfl)];refine ⟨_,SqL.of (s5 _ _ b3),_,Zhy (K:=K) z S2,rfl,?_⟩;cases z with
       | true =>
         rw [if_neg (fun z=>absurd (V.str.inj z) (by decide +kernel))];exact fin rfl _ s5
       | false =>
         rw [if_pos (show V.str (opW false)=V.str (Str.ofString "not") from rfl)];have pl:p≠lv:=fun z=>by rw [z,b1] at np;cases np
         have po:p≠op:=fun z=>by rw [z,b3] at np;cases np
         refine ⟨fun σ2 H5=>σ2=[some (.ref l),some (.ref d),some (.ref lv),some (.ref op),some (.int (i:Int)),some (.bl (!b2)),v6]∧H5 lv=some (.lst ls2)∧LvAt H5 lv op L ls2∧H5 op=some (.lst (opR S2))∧∀ b ob,b≠lv→b≠op→H1 b=some ob→H5 b=some ob,fun σ2 H5 h=>⟨_,Nat.lt_succ_self _,S2,rfl,!b2,h.1,h.2.1,h.2.2.1,h.2.2.2.1,Nat.le_of_succ_le l2,un,h.2.2.2.2⟩,⟨_,SqL.of (s5 _ _ b3)⟩,?_⟩;refine ⟨op,_,.str (opW false),rfl,rfl,s5 _ _ b3,?_,rfl,?_,?_,?_,?_⟩
         · rw [Za7,List.length_append]
           exact List.getElem?_concat_length
         · rw [Zah lo]
           exact s5 _ _ b1
         · exact bL.keep fun b o n1 n2 e=>by rw [Zah n2];exact s5 _ _ e
         · rw [Zad,ZdC]
         · exact fun b ob n1 n2 e=>by rw [Zah n2];exact s5 _ _ (b4 _ _ n1 n2 e)
   clear hk2;have ln:=tg.ln;have hL0:=hL;have cl:st.2.count true≤st.2.length:=List.count_le_length;obtain ⟨x,L,es⟩:∃ x L,st.1=x::L:=by
     cases z:st.1 with
     | nil =>
       rw [z] at ln;have ln:0=1+List.count true st.2:=ln;omega
     | cons y L=>exact ⟨y,L,rfl⟩
   rw [es] at hL ln;have ln:L.length+1=1+List.count true st.2:=ln;obtain ⟨vs,a,rfl,ha,n1,n2,r⟩:=hL;have vl:=r.len;have sop:(opR st.2).length<sizeLine:=by rw [Zgz,sizeLine_eq];omega
   have keepO:∀ o b ob,b≠lv→b≠op→H1 b=some ob→upd H1 op o b=some ob:=fun o b ob _ m2 e=>by rw [Zah m2];exact e
   walk_at "vc";refine ⟨_,hS1,_,wi,rfl,?_⟩;by_cases c1:(tk (us++[(emS,e)]) i).1=Str.ofString "not"
   · rw [if_pos (congrArg V.str c1)]
     refine ⟨⟨_,SqL.of hop⟩,_,hS1,_,wi,_,hop,sop,_,SqL.of (by rw [Zah ol.2];exact hl1),_,wi,rfl,?_⟩;rw [if_neg (fun z=>absurd (c1.symm.trans (V.str.inj z)) (by decide +kernel))];have et:tst (us++[(emS,e)]) (isLw N) lf i st=(st.1,false::st.2):=by unfold tst;rw [if_pos c1]
     refine cnone _ _ _ (by rw [Zah lo];exact hlv) ?_ ?_ (keepO _)
     · rw [et]
       exact hL0.keep (keepO _)
     · rw [et,Zad,Za7,c1]
       rfl
   · rw [if_neg (fun z=>c1 (V.str.inj z))]
     refine ⟨_,hS1,_,wi,rfl,?_⟩;by_cases c2:(tk (us++[(emS,e)]) i).1=Str.ofString "("
     · rw [if_pos (congrArg V.str c2)]
       refine ⟨⟨_,SqL.of hop⟩,_,hS1,_,wi,_,hop,sop,_,SqL.of (by rw [Zah ol.2];exact hl1),_,wi,rfl,?_⟩;rw [if_pos (congrArg V.str c2)];have et:tst (us++[(emS,e)]) (isLw N) lf i st=((false,true)::st.1,true::st.2):=by unfold tst;rw [if_neg c1,if_pos c2]
       have h1lv:upd H1 op (.lst (opR st.2++[.str (tk (us++[(emS,e)]) i).1])) lv=some (.lst (vs++[.ref a])):=by rw [Zah lo];exact hlv
       refine ⟨⟨_,SqL.of h1lv⟩,by decide,fun p np=>⟨_,(Same.new np) _ _ h1lv,?_,?_⟩⟩
       · rw [List.length_append,sizeLine_eq]
         show _+1<_;omega
       · obtain ⟨g1,g2,g3,g4⟩:=Zir (us:=vs++[.ref a]++[.ref p]) (a:=false) (b:=true) h1lv Zad lo np (hL0.keep (keepO _)) rfl
         refine cnone _ _ _ g1 ?_ ?_ fun b ob m1 m2 e=>g4 b ob m1 m2 (keepO _ _ _ m1 m2 e)
         · rw [et]
           exact g2
         · rw [et,g3,Za7,c2]
           rfl
     · rw [if_neg (fun z=>c2 (V.str.inj z))]
       refine ⟨_,hS1,_,wi,rfl,?_⟩;by_cases c3:(tk (us++[(emS,e)]) i).1=Str.ofString "or"
       · rw [if_pos (congrArg V.str c3)]
         have et:tst (us++[(emS,e)]) (isLw N) lf i st=((x.1||x.2,true)::L,st.2):=by unfold tst;rw [if_neg c1,if_neg c2,if_pos c3,es]
         have put:∀ p z,H1 p=none→z=(x.1||x.2)→k2 [some (.ref l),some (.ref d),some (.ref lv),some (.ref op),some (.int (i:Int)),some .non,v6] (upd (upd H1 p (.lst [.bl z,.bl true])) lv (.lst ((vs++[V.ref a]).set vs.length (.ref p)))):=fun p z np ez=>by
           obtain ⟨g1,g2,g3,g4⟩:=Zir (us:=(vs++[V.ref a]).set vs.length (.ref p)) (a:=z) (b:=true) hlv hop lo np r (by simp);refine cnone _ _ _ g1 ?_ ?_ g4
           · rw [et,← ez]
             exact g2
           · rw [et]
             exact g3
         refine ⟨_,SqL.of hlv,_,ZcO _ _,_,rfl,_,SqL.of ha,_,ZaI (j:=0) rfl,_,rfl,?_⟩;split
         · rename_i z
           exact ⟨by decide,fun p np=>⟨_,(Same.new np) _ _ hlv,vs.length,ZdI,put p true np (by rw [z,Bool.true_or])⟩⟩
         · rename_i z
           exact ⟨_,SqL.of hlv,_,ZcO _ _,_,rfl,_,SqL.of ha,_,ZaI (j:=1) rfl,by decide,fun p np=>⟨_,(Same.new np) _ _ hlv,vs.length,ZdI,put p x.2 np (by rw [Bool.eq_false_iff.mpr z,Bool.false_or])⟩⟩
       · rw [if_neg (fun z=>c3 (V.str.inj z))]
         refine ⟨_,hS1,_,wi,rfl,?_⟩;by_cases c4:(tk (us++[(emS,e)]) i).1=Str.ofString ")"
         · rw [if_pos (congrArg V.str c4)]
           obtain ⟨S1,eS⟩:=gp c4;rw [eS] at hop sl;rw [eS,List.count_cons_self] at ln;have sl:S1.length+1≤i:=sl;have et:tst (us++[(emS,e)]) (isLw N) lf i st=finL L S1 (x.1||x.2):=by unfold tst;rw [if_neg c1,if_neg c2,if_neg c3,if_pos c4,es,eS];rfl
           have go:∀ z,z=(x.1||x.2)→k2 [some (.ref l),some (.ref d),some (.ref lv),some (.ref op),some (.int (i:Int)),some (.bl z),some (.ref a)] (upd (upd H1 op (.lst (opR (true::S1)).dropLast)) lv (.lst (vs++[V.ref a]).dropLast)):=fun z ez=>by
             have kp:∀ b ob,b≠lv→b≠op→H1 b=some ob→upd (upd H1 op (.lst (opR (true::S1)).dropLast)) lv (.lst (vs++[V.ref a]).dropLast) b=some ob:=fun b ob m1 m2 e=>by
               rw [Zah m1,Zah m2];exact e
             refine csome z L S1 _ vs _ (by rw [et,ez]) (fun z=>?_) (by omega) ?_ (r.keep kp) ?_ kp
             · rw [z] at ln
               have ln:0+1=1+(List.count true S1+1):=ln;omega
             · rw [Zad,List.dropLast_concat]
             · rw [Zah (Ne.symm lo),Zad,ZdC]
           refine ⟨⟨_,SqL.of hop⟩,op,_,.str (opW true),rfl,rfl,hop,?_,⟨_,SqL.of (by rw [Zah lo];exact hlv)⟩,lv,_,.ref a,rfl,rfl,(by rw [Zah lo];exact hlv),?_,_,rfl,_,SqL.of (by rw [Zah n1,Zah n2];exact ha),_,ZaI (j:=0) rfl,_,rfl,?_⟩
           · rw [Za7,List.length_append]
             exact List.getElem?_concat_length
           · rw [List.length_append]
             exact List.getElem?_concat_length
           · split
             · rename_i z
               exact go true (by rw [z,Bool.true_or])
             · rename_i z
               exact ⟨_,rfl,_,SqL.of (by rw [Zah n1,Zah n2];exact ha),_,ZaI (j:=1) rfl,go x.2 (by rw [Bool.eq_false_iff.mpr z,Bool.false_or])⟩
         · rw [if_neg (fun z=>c4 (V.str.inj z))]
           have leafc:isLw N (tk (us++[(emS,e)]) i).1=true→spLeafT [V.ref l,V.int (i:Int),V.ref d] H1 (fun x H1=>k2 [some (V.ref l),some (V.ref d),some (V.ref lv),some (V.ref op),some (V.int (i:Int)),some x,v6] H1) E0:=fun il=>by
             refine ⟨l,d,us,e,i,kvs,f,N,rfl,hl1,hd1,vo,hi,gl il,?_⟩;refine csome _ st.1 st.2 _ _ _ ?_ (by rw [es];exact List.cons_ne_nil _ _) (by omega) hlv hL0 hop fun _ _ _ _ e=>e
             rw [Zcs c1 c2 c3 c4 il,elf]
           refine ⟨_,hS1,_,wi,valV kvs (.inr (tk (us++[(emS,e)]) i).1),.inl ⟨kvs,.inr _,.inl hd1,rfl,rfl⟩,?_⟩;by_cases c5:(tk (us++[(emS,e)]) i).1∈N
           · rw [vo _ c5,if_pos (show (some (V.int (f (tk (us++[(emS,e)]) i).1))).isSome=true from rfl)]
             exact leafc (by unfold isLw;rw [decide_eq_true c5];rfl)
           · rw [vn _ c5,if_neg (by decide)]
             refine ⟨_,hS1,_,wi,rfl,?_⟩;by_cases c6:(tk (us++[(emS,e)]) i).1=Str.ofString "all"
             · rw [if_pos (congrArg V.str c6)]
               exact leafc (by unfold isLw;rw [decide_eq_true c6,Bool.or_true];rfl)
             · rw [if_neg (fun z=>c6 (V.str.inj z))]
               refine ⟨_,hS1,_,wi,rfl,?_⟩;by_cases c7:(tk (us++[(emS,e)]) i).1=Str.ofString "none"
               · rw [if_pos (congrArg V.str c7)]
                 exact leafc (by unfold isLw;rw [decide_eq_true c7,Bool.or_true])
               · rw [if_neg (fun z=>c7 (V.str.inj z))]
                 have il:isLw N (tk (us++[(emS,e)]) i).1=false:=by unfold isLw;rw [decide_eq_false c5,decide_eq_false c6,decide_eq_false c7];rfl
                 have et:=Zbq (lf:=lf) (s:=st) c1 c2 c3 c4 il;refine cnone _ _ _ hlv ?_ ?_ fun _ _ _ _ e=>e
                 · rw [et]
                   exact hL0
                 · rw [et]
                   exact hop
 · rintro σ H1 ⟨⟨qq,S,ls,v4,v5,v6,rfl,hlv,hL,hop,tg,sl⟩,fx⟩
   refine hk _ _ ?_;obtain ⟨r',x',⟨_,tr⟩,z,hr',ex⟩:=te;have er:=acc.end hr' z;subst er;rw [Nat.sub_zero] at tr;rw [tr] at hL;obtain ⟨vs,a,els,ha,n1,n2,r⟩:=hL;rw [show vs=[] from r] at els;subst els;have q:=q H1 fun b ob e=>fx _ _ (out _ _ e).1 (out _ _ e).2 (sm0 _ _ e)
   rw [← ex] at q;walk_at "vc";refine ⟨_,SqL.of hlv,_,ZaI (j:=0) rfl,_,rfl,_,SqL.of ha,_,ZaI (j:=0) rfl,_,rfl,?_⟩;split
   · rename_i c
     rw [c,Bool.true_or] at q;exact q
   · rename_i c
     rw [Bool.eq_false_iff.mpr c,Bool.false_or] at q;exact ⟨_,SqL.of hlv,_,ZaI (j:=0) rfl,_,rfl,_,SqL.of ha,_,ZaI (j:=1) rfl,q⟩
end
def RowOk (N:List Str)(kvs:List (Key × V)):Prop:=(∀ x∈N,∃ i,valV kvs (.inr x)=some (.int i))∧∀ x,x∉N→valV kvs (.inr x)=none
def spRows (K:PySem.W.Frag):Sp:=fun vs H Q _=>∃ (a l n:Addr) (ns:List Int) (us:List Tok) (e:Nat) (t:T) (N:List Str),vs=[.ref a,.ref l,.ref n]∧SqL K H a (ns.map V.int)∧H l=some (.lst (wdV (us.map (·.1))))∧H n=some (.lst (N.map V.str))∧N.length=3∧Acc us e t∧us.length≤1000∧∀ p ds H',Same H H'→H' p=some (.lst ds)→ds.length=4→(∀ v∈ds,∃ d kvs,v=.ref d∧H' d=some (.dK kvs)∧RowOk (N++[aS]) kvs)→Q (.ref p) H'
theorem kw_first:∀ w∈kwL,w.length≤20∧figB w=false∧∃ c r,w.cps.toList=c::r∧¬ c∈figS.cps.toList:=by
 have h:∀ w∈kwL,w.length≤20∧figB w=false∧(match w.cps.toList with | c::_=>decide (¬ c∈figS.cps.toList) | []=>false)=true:=by decide +kernel
 intro w hw;obtain ⟨a,b,c⟩:=h w hw;refine ⟨a,b,?_⟩;cases e:w.cps.toList with
 | nil =>
   rw [e] at c;cases c
 | cons x r =>
   rw [e] at c;exact ⟨x,r,rfl,of_decide_eq_true c⟩
theorem ZfA {w:Str}(h:w≠emS):∃ c r,w.cps.toList=c::r:=by
 have l1:=Ze2 h;cases hc:w.cps.toList with
 | nil =>
   have:w.cps.toList.length=0:=by rw [hc];rfl
   rw [Array.length_toList] at this;have l1:1≤w.cps.size:=l1;omega
 | cons c r=>exact ⟨c,r,rfl⟩
theorem let_fig:∀ c∈letS.cps.toList,¬ c∈figS.cps.toList:=by decide +kernel
theorem Zif {w:Str}(h:w∈kwL∨nameB w=true∨figB w=true):w.length≤20∧∃ c r,w.cps.toList=c::r∧decide (c∈figS.cps.toList)=figB w:=by
 rcases h with h | h | h
 · obtain ⟨a,b,c,r,e,n⟩:=kw_first w h
   exact ⟨a,c,r,e,by rw [b,decide_eq_false n]⟩
 · obtain ⟨c,r,e⟩:=ZfA (Zb8 h)
   refine ⟨ZeC h,c,r,e,?_⟩;have f:figB w=false:=by rw [Bool.eq_false_iff];intro z;rw [Zgy z] at h;cases h
   unfold nameB at h;simp only [Bool.and_eq_true] at h;have b:=h.1.2;unfold ofS at b;rw [e,List.all_cons,Bool.and_eq_true,decide_eq_true_eq] at b;rw [f,decide_eq_false (let_fig c b.1)]
 · obtain ⟨c,r,e⟩:=ZfA (Zcc h)
   refine ⟨fig_20 h,c,r,e,?_⟩;have h':=h;unfold figB at h';simp only [Bool.and_eq_true] at h';have b:=h'.1.2;unfold ofS at b;rw [e,List.all_cons,Bool.and_eq_true,decide_eq_true_eq] at b;rw [h,decide_eq_true b.1]
def figOf (v:V):Bool:=match v with | .str w=>figB w | _=>false
def intOf (v:V):V:=match v with | .str w=>.int (figI w) | _=>.non
theorem figs_nn {us:List Tok}:∃ ns:List Int,((wdV (us.map (·.1))).filter figOf).map intOf=ns.map V.int∧ns.length≤us.length∧∀ n∈ns,0≤n∧n<10^12:=by
 induction us with
 | nil=>exact ⟨[],rfl,Nat.le_refl _,fun n h=>by cases h⟩
 | cons u us ih =>
   obtain ⟨ns,e,l,h⟩:=ih;show ∃ ns:List Int,((V.str u.1::wdV (us.map (·.1))).filter figOf).map intOf=_∧ns.length≤us.length+1∧_;rw [List.filter_cons];by_cases c:figB u.1=true
   · rw [if_pos (show figOf (V.str u.1)=true from c),List.map_cons,e]
     refine ⟨figI u.1::ns,rfl,Nat.succ_le_succ l,fun n hn=>?_⟩;rcases List.mem_cons.mp hn with rfl | hn
     · exact ZiK c
     · exact h n hn
   · rw [if_neg (show ¬ figOf (V.str u.1)=true from c),e]
     exact ⟨ns,rfl,Nat.le_succ_of_le l,h⟩
structure RwI (a l n m p:Addr)(N:List Str)(H:Hp)(i:Nat)(σ:L2.St)(H':Hp):Prop where
 ex:∃ (ds:List V) (v5 v6 v7 v8:Option V),σ=[some (.ref a),some (.ref l),some (.ref n),some (.ref m),some (.ref p),v5,v6,v7,v8]∧H' p=some (.lst ds)∧ds.length=i∧∀ v∈ds,∃ d kvs,v=.ref d∧H' d=some (.dK kvs)∧RowOk N kvs
 fx:Fx p H H'
structure DcI (a l n m p dd:Addr)(N:List Str)(k:Nat)(H:Hp)(j:Nat)(σ:L2.St)(H':Hp):Prop where
 ex:∃ (kvs:List (Key × V)) (v7 v8:Option V),σ=[some (.ref a),some (.ref l),some (.ref n),some (.ref m),some (.ref p),some (.int (k:Int)),some (.ref dd),v7,v8]∧H' dd=some (.dK kvs)∧kvs.length≤1+j∧(∀ x∈N.take j++[aS],∃ i,valV kvs (.inr x)=some (.int i))∧∀ x,x∉N++[aS]→valV kvs (.inr x)=none
 fx:Fx dd H H'
section
variable {P:Program}{w:World}{K:PySem.W.Frag}{mg:Str→Option Value}{base:Heap}
theorem Zkn (B:Blt mg) (h_l_mixed:FnAt P w K mg base "_law_mixed" ["_law_cell","_law_k"] 1 spMixed) (h_l_cell_at:FnAt P w K mg base "_law_cell_at" ["_law_script","_law_k"] 1 (spCell K)) (d:DefAt K mg "_law_rows" Zfj ["_law_script","_law_words_here","_law_names_here"]):FnAt P w K mg base "_law_rows" ["_law_script","_law_words_here","_law_names_here"] 2 (spRows K):=by
 refine FnAt.of d sc_l_rows (fun vs H Q E h=>?_) (fun f cdv A outer s H vs Q E hr h=>?_)
 · obtain ⟨a,l,n,ns,us,e,t,N,rfl,_⟩:=h
   rfl
 obtain ⟨a,l,n,ns,us,e,t,N,rfl,ha,hl,hn,n3,acc,hu,q⟩:=h;refine ⟨_,(Zab (Zao (i:=3) sc_l_rows.nd rfl (by walk_at "l") (Zar Zc9 (Zbh ["_law_word"] [] rfl (ZaS K (pv 1)) (fun _ _ _ _ _=>ZaB (i:=0) (by show List.Nodup (["_law_word"]:List Str);decide +kernel) rfl (Or.inl rfl)) (fun _ _ _ _ _=>Zdx (Zai Zbl (Zav Zda (pv 0) Zak (fun _ _=>rfl)) Zaf (by with_unfolding_all rfl))) (fun _ _ _ _ _=>(ZaK Zb0 rfl B.int boot_int (Zaa (pv 0) Zac))) trivial ZaO) (Zaz (Zaa Zak (Zaa Zak Zac)))))
     (Zab (Zao (i:=4) sc_l_rows.nd rfl (by walk_at "l") (Zaz Zac))
     (Zab (Zbs PassesOwn.never rfl (Zbm rfl B.range (Zaa Zak Zac)) (ZaB (i:=5) sc_l_rows.nd rfl (by walk_at "l")) (Zab (Zao (i:=6) sc_l_rows.nd rfl (by walk_at "l") pe_dlit1)
     (Zab (Zbs PassesOwn.never rfl (Zbm rfl B.range (Zaa Zak Zac)) (ZaB (i:=7) sc_l_rows.nd rfl (by walk_at "l")) (Zab (Zao (i:=8) sc_l_rows.nd rfl (by walk_at "l") (Zaq h_l_mixed (hr.mono (by decide)) rfl (Zaa (Zaq h_l_cell_at (hr.mono (by decide)) rfl (Zaa (pv 0) (Zaa (pv 5) Zac))) (Zaa (Zar ZaR (Zar ZaR Zak (Zar Zen Zak (pv 7))) (pv 5)) Zac))))
     (Zae (ps_dput (hu1 hr) (pv 6) (Zav (Zan K) (pv 2) (pv 7) (fun _ _=>rfl)) (Zas (ZkJ rfl) rfl B.max ZfQ (Zaa Zak (Zaa (Zar ZaR (Zav (Zan K) (pv 3) (Zar ZaP (Zar ZcR (pv 8) Zak) (Zas (ZaW K) rfl B.len PySem.boot_len (Zaa (pv 3) Zac))) (fun _ _=>rfl)) (Zav (Zan K) (Zaz (Zaa Zak (Zaa Zak (Zaa Zak (Zaa (ZdA Zcd Zak) Zac))))) (Zar ZaP (pv 8) Zak) (fun _ _=>rfl))) Zac))) rfl))))
     (Zae (Zay (ZaZ K PySem.F.plainAttrs_list PySem.F.slot_list_append PySem.F.type_list_append ZaL (pv 4) (Zaa (pv 6) Zac)))))))
     (Zae (Zam (pv 4)))))),?_⟩
 refine Zag fun k hk=>?_
 walk_at "vc";refine ⟨⟨_,SqL.of hl⟩,?_⟩;have wl:(wdV (us.map (·.1))).length=us.length:=by rw [ZbK,List.length_map]
 refine compL (K:=K) (xs:=wdV (us.map (·.1))) figOf intOf (SqL.of hl) (by omega) (fun v H2 R hv _ h=>?_) (fun v H2 R hv pv _ h=>?_) (fun D hD=>?_)
 · obtain ⟨z,hz,rfl⟩:=List.mem_map.mp hv
   obtain ⟨u,hu',rfl⟩:=List.mem_map.mp hz;obtain ⟨l20,c,r,ec,ef⟩:=Zif (acc.kind u hu');walk_at "vc";refine ⟨small5 (by omega),c,by rw [ec];exact ZaI (j:=0) rfl,?_⟩;have h:R (figB u.1) H2:=h;rw [← ef] at h;rw [Zgh];exact h
 · obtain ⟨z,hz,rfl⟩:=List.mem_map.mp hv
   have pv:figB z=true:=pv;obtain ⟨g1,g2⟩:=Zgx pv;walk_at "vc";exact ⟨g1,_,g2,h⟩
 · obtain ⟨nn,en,ln,hnn⟩:=figs_nn (us:=us)
   rw [en];have t1:=Same.new (o:=.lst (nn.map V.int)) hD;refine ⟨by decide,fun p1 n1=>⟨D,rfl,_,(Same.new n1) _ _ Zad,_,Zad,?_,fun p2 n2=>hk _ _ (Zag fun k hk=>?_)⟩⟩
   · rw [List.length_map]
     exact small5 (by show _+2≤_;omega)
   · have sm2:=(t1.trans (Same.new (o:=.lst [V.int 0,V.int 7]) n1)).trans (Same.new (o:=.lst (nn.map V.int++[V.int 0,V.int 7])) n2)
     obtain ⟨ms,em,lm,hm⟩:∃ ms:List Int,nn.map V.int++[V.int 0,V.int 7]=ms.map V.int∧0<ms.length∧ms.length≤1002:=⟨nn++[0,7],by rw [List.map_append];rfl,by rw [List.length_append];show 0<_+2;omega,by rw [List.length_append];show _+2≤_;omega⟩
     rw [em] at sm2 ⊢;have hp2:upd (upd (upd H D (.lst (nn.map V.int))) p1 (.lst [V.int 0,V.int 7])) p2 (.lst (ms.map V.int)) p2=some (.lst (ms.map V.int)):=Zad;generalize upd (upd (upd H D (.lst (nn.map V.int))) p1 (.lst [V.int 0,V.int 7])) p2 (.lst (ms.map V.int))=H2 at sm2 hp2;walk_at "vc";refine ⟨by decide,fun p np=>hk _ _ (Zag fun k hk=>?_)⟩;have s3:=Same.new (o:=.lst []) np;have hp3:=s3 _ _ hp2;have sm3:=sm2.trans s3;have pp:p2≠p:=Zaj hp2 np;have out:∀ b ob,H b=some ob→b≠p:=fun b ob e=>Zaj (sm2 _ _ e) np
     walk_at "vc";refine loopR (RwI a l n p2 p (N++[aS]) (upd H2 p (.lst []))) ⟨⟨[],none,none,none,none,rfl,Zad,rfl,fun v h=>by cases h⟩,Fx.of (Same.refl _)⟩ ?_ ?_
     · rintro i σ H4 hi ⟨⟨ds,v5,v6,v7,v8,rfl,hds,ld,rows⟩,fx⟩
       rw [Zba];refine Zag fun k2 hk2=>?_
       walk_at "vc";intro dd nd;refine hk2 _ _ (Zag fun k2 hk2=>?_);have s5:=Same.new (o:=.dK [(.inr (Str.ofString "a"),.int 1)]) nd;walk_at "vc";refine loopR (DcI a l n p2 p dd N i (upd H4 dd (.dK [(.inr (Str.ofString "a"),.int 1)]))) ⟨⟨_,_,_,rfl,Zad,Nat.le_refl _,?_,?_⟩,Fx.of (Same.refl _)⟩ ?_ ?_
       · intro x hx
         refine ⟨1,?_⟩;rw [show x=aS from List.mem_singleton.mp hx];show valV (putK [] (Sum.inr aS:Key) (.int 1)) (Sum.inr aS)=_;rw [Zdj,if_pos rfl]
       · intro x hx
         show valV (putK [] (Sum.inr aS:Key) (.int 1)) (Sum.inr x)=_;rw [Zdj,if_neg (fun z=>hx (List.mem_append_right _ (by cases z;exact List.mem_cons_self)))];rfl
       · rintro j σ H6 hj ⟨⟨kvs,v7,v8,rfl,hdd,lk,va,vn⟩,fx6⟩
         rw [Zba];refine Zag fun k3 hk3=>?_
         walk_at "vc";have sH:Same H H6:=fun b ob e=>fx6 _ _ (Zaj (fx _ _ (out _ _ e) (sm3 _ _ e)) nd) (s5 _ _ (fx _ _ (out _ _ e) (sm3 _ _ e)))
         have hm6:H6 p2=some (.lst (ms.map V.int)):=fx6 _ _ (Zaj (fx _ _ pp hp3) nd) (s5 _ _ (fx _ _ pp hp3));refine ⟨a,ns,i,rfl,sH.seq ha,_,_,rfl,hk3 _ _ ?_⟩;generalize mixI (ns.getD i 0) (20+4*(j:Int)+(i:Int))=x;obtain ⟨z1,e1⟩:∃ z:Int,atI (ms.map V.int) (x/4%((ms.map V.int).length:Int))=some (.int z):=by obtain ⟨c,hc,e⟩:=ZeF (xs:=ms.map V.int) (i:=x/4%((ms.map V.int).length:Int)) (Int.emod_nonneg _ (by rw [List.length_map];omega)) (Int.emod_lt_of_pos _ (by rw [List.length_map];omega));obtain ⟨z,_,rfl⟩:=List.mem_map.mp hc;exact ⟨z,e⟩
         obtain ⟨z2,e2⟩:∃ z:Int,atI [V.int 0,V.int 0,V.int 1,V.int (-1)] (x%4)=some (.int z):=by obtain ⟨c,hc,e⟩:=ZeF (xs:=([0,0,1,-1]:List Int).map V.int) (i:=x%4) (Int.emod_nonneg _ (by decide)) (Int.emod_lt_of_pos _ (by decide));obtain ⟨z,_,rfl⟩:=List.mem_map.mp hc;exact ⟨z,e⟩
         obtain ⟨wj,ej⟩:∃ wj,N[j]?=some wj:=⟨_,List.getElem?_eq_getElem (by omega)⟩
         have aj:atI (N.map V.str) (j:Int)=some (.str wj):=ZaI (by rw [List.getElem?_map,ej];rfl);have wN:wj∈N:=List.mem_of_getElem? ej;walk_at "vc";refine ⟨_,.inl (SqL.of hm6),by rw [List.length_map];omega,_,SqL.of hm6,_,e1,by decide,fun p1 np1=>?_⟩;have s7:=Same.new (o:=.lst [V.int 0,V.int 0,V.int 1,V.int (-1)]) np1;refine ⟨_,SqL.of Zad,_,e2,_,rfl,_,rfl,_,_,⟨rfl,rfl⟩,_,SqL.of (s7 _ _ (sH _ _ hn)),_,aj,_,DPut.k (k:=.inr wj) (s7 _ _ hdd) (by rw [sizeLine_eq];omega),?_⟩;have lp:=Zcr kvs (Sum.inr wj:Key) (V.int (if z1+z2 > 0 then z1+z2 else 0));refine ⟨⟨_,_,_,rfl,Zad,by omega,fun y hy=>?_,fun y hy=>?_⟩,fun b ob nb e=>?_⟩
         · rw [Zdj]
           split
           · exact ⟨_,rfl⟩
           · rename_i ny
             refine va y ?_;rw [List.take_add_one,ej] at hy;rcases List.mem_append.mp hy with hy | hy
             · rcases List.mem_append.mp hy with hy | hy
               · exact List.mem_append_left _ hy
               · exact absurd (congrArg Sum.inr (List.mem_singleton.mp hy)) ny
             · exact List.mem_append_right _ hy
         · rw [Zdj,if_neg (fun z=>hy (by cases z;exact List.mem_append_left _ wN))]
           exact vn y hy
         · rw [Zah nb]
           exact s7 _ _ (fx6 _ _ nb e)
       · rintro σ H6 ⟨⟨kvs,v7,v8,rfl,hdd,lk,va,vn⟩,fx6⟩
         refine hk2 _ _ ?_;have dp:dd≠p:=fun z=>by rw [z,hds] at nd;cases nd
         have hds6:=fx6 _ _ (Ne.symm dp) (s5 _ _ hds);walk_at "vc";refine ⟨⟨_,SqL.of hds6⟩,_,hds6,by rw [ld,sizeLine_eq];omega,⟨ds++[.ref dd],_,_,_,_,rfl,Zad,by rw [List.length_append,ld];rfl,fun v hv=>?_⟩,?_⟩
         · rcases List.mem_append.mp hv with hv | hv
           · obtain ⟨d',kv',rfl,h1,h2⟩:=rows v hv
             have d1:d'≠p:=fun z=>by rw [z,hds] at h1;cases h1
             refine ⟨d',kv',rfl,?_,h2⟩;rw [Zah d1];exact fx6 _ _ (Zaj h1 nd) (s5 _ _ h1)
           · refine ⟨dd,kvs,List.mem_singleton.mp hv,?_,?_,vn⟩
             · rw [Zah dp]
               exact hdd
             · rw [← n3,List.take_length] at va
               exact va
         · intro b ob nb e
           rw [Zah nb];have e4:=fx _ _ nb e;exact fx6 _ _ (Zaj e4 nd) (s5 _ _ e4)
     · rintro σ H4 ⟨⟨ds,v5,v6,v7,v8,rfl,hds,ld,rows⟩,fx⟩
       refine hk _ _ ?_;walk_at "vc";exact q p ds _ (fun b ob e=>fx _ _ (out _ _ e) (sm3 _ _ e)) hds ld rows
end
section
variable {K:PySem.W.Frag}{H:Hp}
theorem Zfa:∀ xs:List Str,RdDs K H (xs.map V.str) (xs.map PyData.str)
 | []=>.nil
 | x::r=>.cons (.str x) (Zfa r)
theorem ZhB:∀ {xs:List Str},(∀ x∈xs,PyData.strOk x=true)→PyData.canLayAll0 (xs.map PyData.str)=true
 | [],_=>ZbB
 | x::r,h=>lay_cons (Zbx (h x (.head _))) (ZhB fun y hy=>h y (.tail _ hy))
theorem Zg9:∀ xs:List Str,PyData.depthAll (xs.map PyData.str)=0
 | []=>Zby
 | x::r=>by rw [List.map_cons,ZaQ,ZbC,Zg9 r];rfl
theorem Zhu:∀ xs:List Str,SeqAt.noMixAll (xs.map PyData.str) (xs.map PyData.str)=true
 | []=>by unfold SeqAt.noMixAll;rfl
 | x::r=>by
   rw [List.map_cons];unfold SeqAt.noMixAll;rw [Zhu r];unfold SeqAt.noMix;rfl
theorem Zfz:∀ xs:List Str,Spec.sameAll (xs.map PyData.str) (xs.map PyData.str)=true
 | []=>by unfold Spec.sameAll;rfl
 | x::r=>by
   rw [List.map_cons];unfold Spec.sameAll;rw [Zfz r];unfold Spec.same;simp
theorem strs_cmp {a b:Addr}{xs:List Str}(h:∀ x∈xs,PyData.strOk x=true)(ha:SqL K H a (xs.map V.str))(hb:SqL K H b (xs.map V.str)):∃ d e,RdD K H (.ref a) d∧RdD K H (.ref b) e∧SeqAt.shaped d=true∧SeqAt.shaped e=true∧SeqAt.noMix d e=true∧PySem.Spec.same d e=true:=by
 have sh:SeqAt.shaped (PyData.list (xs.map PyData.str))=true:=shp (ZeG (ZhB h)) (by rw [ZeD,Zg9];decide);refine ⟨_,_,.lst ha (Zfa xs),.lst hb (Zfa xs),sh,sh,?_,?_⟩
 · unfold SeqAt.noMix
   exact Zhu xs
 · unfold Spec.same
   exact Zfz xs
theorem Zkg {a b:Addr}{xs:List Str}{Q:VK}(h:∀ x∈xs,PyData.strOk x=true)(ha:SqL K H a (xs.map V.str))(hb:SqL K H b (xs.map V.str))(q:Q (.bl false) H):rNeD K (.ref a) (.ref b) H Q:=by obtain ⟨d,e,h1,h2,h3,h4,h5,h6⟩:=strs_cmp h ha hb;exact ⟨d,e,h1,h2,h3,h4,h5,by rw [h6];exact q⟩
end
theorem name_sok {w:Str}(h:nameB w=true):PyData.strOk w=true:=by
 unfold nameB at h;simp only [Bool.and_eq_true] at h;have b:=h.1.2;unfold ofS at b;unfold PyData.strOk;rw [← Array.all_toList,List.all_eq_true];intro c hc;have m:=of_decide_eq_true (List.all_eq_true.mp b c hc);have:∀ c∈letS.cps.toList,decide (c<0x110000)=true:=by decide +kernel
 exact this c m
theorem ZhS {w:Str}:∀ N:List Str,inV (.str w) (N.map V.str)=decide (w∈N)
 | []=>(decide_eq_false (by intro h;cases h)).symm
 | x::r=>by
   show (eqV (.str x) (.str w)||inV (.str w) (r.map V.str))=_;rw [ZhS r,Bool.eq_iff_iff,Bool.or_eq_true,decide_eq_true_eq,decide_eq_true_eq,List.mem_cons,ZeH,eq_comm]
theorem Zj2 (N:List Str):(N.map V.str).all flatV=true:=by rw [List.all_eq_true];intro v hv;obtain ⟨x,_,rfl⟩:=List.mem_map.mp hv;rfl
def spRight (C:Kd→Addr):Sp:=fun vs H Q _=>∃ (v:V) (l r n:Addr) (us:List Tok) (e:Nat) (t:T) (N:List Str) (ds:List V),vs=[v,.ref l,.ref r,.ref n]∧QAt C H t v∧H l=some (.lst (wdV (us.map (·.1))))∧H r=some (.lst ds)∧(∀ v∈ds,∃ d kvs,v=.ref d∧H d=some (.dK kvs)∧RowOk N kvs)∧ds.length=4∧H n=some (.lst (N.map V.str))∧(∀ x∈N,nameB x=true)∧N.length=4∧(∀ u∈us,nameB u.1=true→u.1∈N)∧Acc us e t∧us.length≤90∧∀ H',Same H H'→Q (.bl true) H'
structure RiI (a b c d e g:V)(H:Hp)(_i:Nat)(σ:L2.St)(H':Hp):Prop where
 ex:∃ (v6 v7:Option V),σ=[some a,some b,some c,some d,some e,some g,v6,v7]
 sm:Same H H'
section
variable {P:Program}{w:World}{K:PySem.W.Frag}{mg:Str→Option Value}{base:Heap}{C:Kd→Addr}{CB:Addr}
theorem Zim (B:Blt mg)(h_mn:∀ N k,MethAt P w K mg base (C k) "mentions" ["self"] 45 (spMn C N 43 k))(h_lv:∀ N k,MethAt P w K mg base (C k) "leaves" ["self"] 45 (spLv C N 43 k))(h_dp:∀ N k,MethAt P w K mg base (C k) "depth" ["self"] 45 (spDp C N 43 k))(h_sh:∀ N,Ok20 N→∀ k,MethAt P w K mg base (C k) "shown" ["self"] 87 (spShown C N 43 k))(h_ho:∀ N k,MethAt P w K mg base (C k) "holds" ["self","values"] 44 (spHolds C N 43 k))(h_l_truth:FnAt P w K mg base "_law_truth" ["_law_words_here","_law_values"] 2 spTruth)(h_read_question:FnR P w K mg base "read_question" ["text"] 93 (spQuestion C CB))(d:DefAt K mg "_law_right" Zd7 ["_law_found","_law_words_here","_law_rows_here","_law_names_here"]):FnAt P w K mg base "_law_right" ["_law_found","_law_words_here","_law_rows_here","_law_names_here"] 94 (spRight C):=by
 refine FnAt.of d sc_l_right (fun vs H Q E h=>?_) (fun f cdv A outer s H vs Q E hr h=>?_)
 · obtain ⟨v,l,r,n,us,e,t,N,ds,rfl,_⟩:=h
   rfl
 obtain ⟨v,l,r,n,us,e,t,N,ds,rfl,hq,hl,hr',hds,d4,hn,hN,n4,hw,acc,hu,q⟩:=h;refine ⟨_,(Zab (Ze4 (i:=4) ["_law_word"] [3] sc_l_right.nd rfl (by walk_at "l") rfl (ZaS K (pv 1)) (fun _ _ _ _ _=>ZaB (i:=0) (by show List.Nodup (["_law_word","_law_names_here"]:List Str);decide +kernel) rfl (Or.inl rfl)) (fun _ _ _ _ _=>Zdx (Zai (Zgg K) (pv 0) (pv 1) (by with_unfolding_all rfl))) (fun _ _ _ _ _=>(pv 0)) ⟨⟨_,rfl,rfl,.inl rfl⟩,trivial⟩ ZaO)
     (Zab (Zau (PW.pt (Zbw (Zai (Zgl K (hu64 hr)) (Zax (P:=P) (w:=w) (K:=K) (mg:=mg) (base:=base) 45 (hr.mono (by omega)) (pv 0)) (pv 4) (nomark _)) (Zbe (Zai ZcM (Zax (P:=P) (w:=w) (K:=K) (mg:=mg) (base:=base) 45 (hr.mono (by omega)) (pv 0)) (Zar ZaR (Zar ZaR (Zas (ZaW K) rfl B.len PySem.boot_len (Zaa (pv 4) Zac)) (ZaZ K PySem.F.plainAttrs_list PySem.F.slot_list_count PySem.F.type_list_count ZgK (pv 1) (Zaa Zaf Zac))) (ZaZ K PySem.F.plainAttrs_list PySem.F.slot_list_count PySem.F.type_list_count ZgK (pv 1) (Zaa Zaf Zac))) (nomark _))))) (Zae (Zam ZbL)) Zap)
     (Zab (Zao (i:=5) sc_l_right.nd rfl (by walk_at "l") (Zaq h_read_question.calm (hr.mono (by decide)) rfl (Zaa (Zax (P:=P) (w:=w) (K:=K) (mg:=mg) (base:=base) 87 (hr.mono (by omega)) (pv 0)) Zac)))
     (Zab (Zau (PW.pt (Zbw (Zai ZcM (Zax (P:=P) (w:=w) (K:=K) (mg:=mg) (base:=base) 87 (hr.mono (by omega)) (pv 5)) (Zax (P:=P) (w:=w) (K:=K) (mg:=mg) (base:=base) 87 (hr.mono (by omega)) (pv 0)) (nomark _)) (Zbe (Zai ZcM (Zax (P:=P) (w:=w) (K:=K) (mg:=mg) (base:=base) 45 (hr.mono (by omega)) (pv 5)) (Zax (P:=P) (w:=w) (K:=K) (mg:=mg) (base:=base) 45 (hr.mono (by omega)) (pv 0)) (nomark _))))) (Zae (Zam ZbL)) Zap)
     (Zab (Zbs PassesOwn.never rfl (ZaS K (pv 2)) (ZaB (i:=6) sc_l_right.nd rfl (by walk_at "l")) (Zab (Zao (i:=7) sc_l_right.nd rfl (by walk_at "l") (Zaq h_l_truth (hr.mono (by decide)) rfl (Zaa (pv 1) (Zaa (pv 6) Zac))))
     (Zae (Zau (PW.pt (Zbw (Zai ZcM (Zfg (P:=P) (w:=w) (K:=K) (mg:=mg) (base:=base) 44 (hr.mono (by omega)) (pv 0) (Zaa (pv 6) Zac)) (pv 7) (nomark _)) (Zbe (Zai ZcM (Zfg (P:=P) (w:=w) (K:=K) (mg:=mg) (base:=base) 44 (hr.mono (by omega)) (pv 5) (Zaa (pv 6) Zac)) (pv 7) (nomark _))))) (Zae (Zam ZbL)) Zap))))
     (Zae (Zam ZbL))))))),?_⟩
 refine Zag fun k hk=>?_
 walk_at "vc";have wl:(wdV (us.map (·.1))).length=us.length:=by rw [ZbK,List.length_map]
 have N20:Ok20 N:=fun w hw=>ZeC (hN w hw)
 refine ⟨⟨_,SqL.of hl⟩,?_⟩;refine compL (K:=K) (xs:=wdV (us.map (·.1))) (fun v=>inV v (N.map V.str)) id (SqL.of hl) (by omega) (fun v H2 R hv s2 h=>?_) (fun v H2 R hv pv s2 h=>?_) (fun D hD=>hk _ _ (Zag fun k hk=>?_))
 · obtain ⟨z,_,rfl⟩:=List.mem_map.mp hv
   walk_at "vc";exact ⟨_,.inl ((s2.seq (SqL.of hn))),rfl,Zj2 N,h⟩
 · walk_at "vc"
   exact h
 · have ed:((wdV (us.map (·.1))).filter fun v=>inV v (N.map V.str)).map id=((us.map (·.1)).filter fun w=>decide (w∈N)).map V.str:=by
     rw [List.map_id];unfold wdV;rw [List.filter_map];congr 2
     funext w;exact ZhS N
   rw [ed];have g1:=acc.lw hN hw;obtain ⟨gok,gns⟩:=got_ok (by rw [List.length_append];show _+1≤_;omega) acc.g acc.pos acc.q;have nT:=nmT_ok (us++[(emS,e)]);have n20:Ok20 (nmT (us++[(emS,e)])):=fun w hw=>ZeC (nT w hw)
   have gd:=T.dep_42 gns;have gn:=nums_got acc.g acc.pos acc.q;rw [List.length_append] at gn;have gn:t.nums.length+1≤2*(us.length+1):=gn;obtain ⟨c1,c2⟩:=lw_cnt hN (us.map (·.1));obtain ⟨d1,d2⟩:=T.lw_ok nT t gok;rw [g1,c1] at d1;rw [g1,c2] at d2;have rs:=Zg1 nT gok gns;have sl:=T.shown_len n20 t gok;have t1:=Same.new (o:=.lst (((us.map (·.1)).filter fun w=>decide (w∈N)).map V.str)) hD;rw [← d1] at t1 ⊢;rw [← d1] at d2;obtain ⟨pv,dx,fs,rfl,hv,lkm⟩:=QAt.obj2 "mentions" (by decide) t hq;have lk:∀ m:Str,m≠"name"∧m≠"low"∧m≠"high"∧m≠"one"∧m≠"parts"→fs.lookup m=none:=fun m hm=>by
     obtain ⟨p',dx',fs',e,h',l'⟩:=QAt.obj2 m hm t hq;cases e;rw [hv] at h';cases h';exact l'
   have mo:∀ x∈t.mn,PyData.strOk x=true:=fun x hx=>by
     rw [d1] at hx;exact name_sok (hN x (of_decide_eq_true (List.mem_filter.mp hx).2))
   have ml:t.nums.length≤10000:=by omega
   have dp:t.dep<43:=by omega
   walk_at "vc";refine ⟨_,_,_,t1 _ _ hv,lkm,_,_,h_mn (nmT (us++[(emS,e)])) t.kd,t,_,H,rfl,rfl,hq,t1,gok,dp,ml,fun p1 H1 s1 n1 h1=>Zkg mo (SqL.of h1) (SqL.of (s1 _ _ Zad)) ⟨_,rfl,?_⟩⟩;rw [if_neg (by decide)];have t2:=t1.trans s1;refine ⟨_,_,_,t2 _ _ hv,lk _ (by decide),_,_,h_lv (nmT (us++[(emS,e)])) t.kd,t,_,H,rfl,rfl,hq,t2,gok,dp,fun H2 s2=>?_⟩;have t3:=t2.trans s2;have hl2:H2 l=some (.lst ((us.map (·.1)).map V.str)):=t3 _ _ hl;refine ⟨_,.inl (SqL.of ((s1.trans s2) _ _ Zad)),⟨_,SqL.of hl2⟩,_,hl2,⟨_,SqL.of hl2⟩,_,hl2,rfl,?_⟩;rw [if_pos (by rw [List.length_map,d2];congr 1)];refine hk _ _ (Zag fun k hk=>?_);clear s1 s2 t2 t1 h1 n1;have hq2:=QAt.same t3 t hq;have hv2:=t3 _ _ hv;walk_at "vc";refine ⟨_,_,_,hv2,lk _ (by decide),_,_,h_sh _ n20 t.kd,t,_,rfl,rfl,hq2,gok,dp,by omega,fun H3 s3=>⟨t.shown,rfl,by omega,?_⟩⟩;rw [rs];intro va H4 s4 hqa;refine hk _ _ (Zag fun k hk=>?_);have t4:=(t3.trans s3).trans s4;have hqa:QAt C H4 t va:=QAt.same New.sub t hqa;have hq4:=QAt.same t4 t hq;have hv4:=t4 _ _ hv;obtain ⟨pa,dxa,fsa,rfl,hva,_⟩:=QAt.obj2 "shown" (by decide) t hqa;have lka:∀ m:Str,m≠"name"∧m≠"low"∧m≠"high"∧m≠"one"∧m≠"parts"→fsa.lookup m=none:=fun m hm=>by
     obtain ⟨p',dx',fs',e,h',l'⟩:=QAt.obj2 m hm t hqa;cases e;rw [hva] at h';cases h';exact l'
   clear s3 s4 t3 hq2 hv2 hl2;walk_at "vc";refine ⟨_,_,_,hva,lka _ (by decide),_,_,h_sh _ n20 t.kd,t,_,rfl,rfl,hqa,gok,dp,by omega,fun H5 s5=>⟨_,_,_,s5 _ _ hv4,lk _ (by decide),_,_,h_sh _ n20 t.kd,t,_,rfl,rfl,QAt.same s5 t hq4,gok,dp,by omega,fun H6 s6=>⟨rfl,?_⟩⟩⟩;rw [if_pos rfl];have t56:=s5.trans s6;refine ⟨_,_,_,t56 _ _ hva,lka _ (by decide),_,_,h_dp _ t.kd,t,_,H4,rfl,rfl,hqa,t56,gok,dp,fun H7 s7=>⟨_,_,_,(t56.trans s7) _ _ hv4,lk _ (by decide),_,_,h_dp _ t.kd,t,_,H4,rfl,rfl,hq4,t56.trans s7,gok,dp,fun H8 s8=>⟨rfl,?_⟩⟩⟩;rw [if_pos rfl];refine hk _ _ (Zag fun k hk=>?_);have t8:=(t56.trans s7).trans s8;have u8:=t4.trans t8;clear s5 s6 s7 s8 t56;walk_at "vc";refine ⟨⟨_,SqL.of (u8 _ _ hr')⟩,loopL (xs:=ds) (RiI _ _ _ _ _ _ H8) ⟨⟨_,_,rfl⟩,Same.refl _⟩ (fun i σ H' _ h=>SqL.of (h.sm _ _ (u8 _ _ hr'))) ?_ ?_⟩
   · rintro i y σ H9 hy ⟨⟨v6,v7,rfl⟩,s9⟩
     obtain ⟨dd,kvs,rfl,hdd,rk⟩:=hds y (List.mem_of_getElem? hy);have u9:=u8.trans s9
     let f:Str→Int:=fun x=>match valV kvs (.inr x) with | some (.int i)=>i | _=>0
     have vo:VOk N kvs f:=fun x hx=>by
       obtain ⟨i,e⟩:=rk.1 x hx;show _=some (V.int (match valV kvs (.inr x) with | some (.int i)=>i | _=>0));rw [e]
     have vo':VOk (nmT (us++[(emS,e)])) kvs f:=fun x hx=>vo x (ZdQ acc hw x (nT x hx) (List.mem_filter.mp hx).1)
     rw [Zba];refine Zag fun k2 hk2=>?_
     walk_at "vc";refine ⟨l,dd,us,e,t,kvs,f,N,rfl,u9 _ _ hl,u9 _ _ hdd,vo,rk.2,acc,hN,hw,by omega,fun H10 s10=>hk2 _ _ ?_⟩;have u10:=u9.trans s10;have t10:=(t8.trans s9).trans s10;walk_at "vc";refine ⟨_,_,_,t10 _ _ hv4,lk _ (by decide),_,_,h_ho _ t.kd,t,_,dd,kvs,f,rfl,rfl,QAt.same t10 t hq4,gok,dp,u10 _ _ hdd,vo',fun H11 s11=>⟨rfl,?_⟩⟩;rw [if_pos rfl];refine ⟨_,_,_,(t10.trans s11) _ _ hva,lka _ (by decide),_,_,h_ho _ t.kd,t,_,dd,kvs,f,rfl,rfl,QAt.same (t10.trans s11) t hqa,gok,dp,(u10.trans s11) _ _ hdd,vo',fun H12 s12=>⟨rfl,?_⟩⟩;rw [if_pos rfl];exact ⟨⟨_,_,rfl⟩,(s9.trans s10).trans (s11.trans s12)⟩
   · rintro σ H9 ⟨⟨v6,v7,rfl⟩,s9⟩
     refine hk _ _ ?_;walk_at "vc";exact q _ (u8.trans s9)
end
section
variable {K:PySem.W.Frag}{C0 M:Addr}
theorem xisi_mk {C:Addr}{cd:ClassData}(h:PySem.W.clsIn K C=some cd)(i2:PySem.W.findIn K (.ref C) "__getattribute__"=some (some (.builtin "BaseException.__getattribute__")))(i3:PySem.W.findIn K (.ref C) "__getattr__"=some none)(i4:PySem.W.findIn K (.ref C) "__class__"=some (some (.builtin "object.__class__")))(i5:PySem.W.mroIn K C (.type "object")=some true)(i6:PySem.W.mroIn K C (.type "BaseException")=some true):EX.XIsi K C:=⟨by rw [h];rfl,i2,i3,i4,i5,i6⟩
theorem xmk_mk {C M f:Addr}{nm q:Str}{N:Addr}{bs:List Value}{hd:Bool}{sn:List Str}{sub:List Value}{ab:Bool}{col:Option Bool}{dd:Option Addr}{k0 k1 k2 k3 k5:Option Value}{nm' q':Str}{N':Addr}{bs':List Value}{hd':Bool}{sn':List Str}{sub':List Value}{ab':Bool}{col':Option Bool}{dd':Option Addr}{j0 j1 j2 j3 j5:Option Value}
   (init:PySem.W.findIn K (.ref C) "__init__"=some (some (.ref f)))
   (lk:K.lookup C=some (excClassObj nm q C N bs (.ref M::bmVal) hd sn sub ab col dd k0 k1 k2 k3 k5 "ValueError.__new__")) (lkM:K.lookup M=some (excClassObj nm' q' M N' bs' bmVal hd' sn' sub' ab' col' dd' j0 j1 j2 j3 j5 "ValueError.__new__"))
   (mq:PySem.W.excIn K M bmVal "ValueError.__new__"=true) (mk:PySem.W.keepIn K (.ref M)=true) (fn:PySem.W.typeIn K (.ref f)=some (.type "function")) (kp:PySem.W.keepIn K (.ref C)=true):XMk K C M f :=
 ⟨⟨_,_,_,_,_,_,_,_,_,_,_,_,_,_,_,lk⟩,⟨_,_,_,_,_,_,_,_,_,_,_,_,_,_,_,lkM⟩,⟨mq,mk⟩,init,fn,kp⟩
theorem xi_mk {C M f:Addr}{fl qual:Str}{st:Stmt}{ps:List Str}{oc:Value}{od an:Option Addr}{osl:Array (Option Value)}{kV doc pm cdv ct:Value}{cd:ClassData}(mk:XMk K C M f)
   (l:K.lookup f=some ⟨oc,od,.func (PySem.W.fnOf "__init__" qual (defArgs st) (defBody st) (defScope st) .none kV doc pm an cdv ct),osl⟩) (c:PySem.W.codeIn K cdv qual=true) (k:PySem.W.keepIn K (.ref f)=true)
   (h:PySem.W.clsIn K C=some cd) (hm:cd.mro=.ref C::.ref M::bmVal) (hd:cd.hasDict=true) (sa:PySem.W.findIn K (.ref C) "__setattr__"=some (some (.builtin "object.__setattr__"))) (ob:PySem.W.mroIn K C (.type "object")=some true) (nf:PySem.W.findIn K (.ref C) fl=some none) (hdI:PySem.W.hasDictIn K C=true)
   (hb:∀ (kV doc pm:Value) (an:Option Addr) (cdv ct:Value) (us:List Value),us.length=ps.length→bindArgs (PySem.W.fnOf "__init__" qual (defArgs st) (defBody st) (defScope st) .none kV doc pm an cdv ct) ⟨us,[]⟩=pure (ps.zip us)):XI K C M fl qual st ps :=
 ⟨Zkp l c k mk hb,⟨⟨cd,h,hm,hd⟩,sa,ob⟩,nf,hdI⟩
structure BX (K:PySem.W.Frag)(mg:Str→Option Value)(C M:Addr):Prop where
 g:mg "BadText"=some (.ref C)
 gM:mg "MarksError"=some (.ref M)
 i:EX.XIsi K C
 m:PySem.W.exmOne K (.ref C) (.ref C)=some true
 q:XI K C M "place" "BadText.__init__" ZaY ["self","place"]
 n:XIni K M
theorem bx_mk {h:Heap}{mg:Str→Option Value}(X:K.In h)(G:h.Ns mainGlobals mg)(a:PySem.W.nsIn K mainGlobals "BadText"=some (some (.ref C0)))(aM:PySem.W.nsIn K mainGlobals "MarksError"=some (some (.ref M)))(i:EX.XIsi K C0)(m:PySem.W.exmOne K (.ref C0) (.ref C0)=some true)(q:XI K C0 M "place" "BadText.__init__" ZaY ["self","place"])(n:XIni K M):∃ C M,BX K mg C M:=⟨C0,M,⟨PySem.W.mg_of X G a,PySem.W.mg_of X G aM,i,m,q,n⟩⟩
end
def spLaw (K:PySem.W.Frag):Sp:=fun vs H Q _=>∃ (a:Addr) (ns:List Int),vs=[.ref a]∧SqL K H a (ns.map V.int)∧ns.length≤63∧∀ H',Q (.bl true) H'
theorem ZfX:∀ (l:List Tok) (q:Q6) (S:List Bool) (p:Nat),run q S l=some p→∃ t∈l,t.2=p
 | [],_,_,_,h=>by cases h
 | u :: l,q,S,p,h=>by
   unfold run at h;split at h
   · split at h
     · cases h
     · cases h
       exact ⟨u,List.mem_cons_self,rfl⟩
   · split at h
     · cases h
       exact ⟨u,List.mem_cons_self,rfl⟩
     · obtain ⟨t,ht,e⟩:=ZfX l _ _ p h
       exact ⟨t,List.mem_cons_of_mem _ ht,e⟩
theorem place_le {z:Str}{p:Nat}(hz:z.length≤100000)(h:pQuestion (cutS z.cps.toList 0 emS)=.inl p):p≤z.length:=by
 obtain ⟨_,gd,l0⟩:=Zgv hz;have fe:=Ze3 gd l0;rw [h] at fe;obtain ⟨t,ht,rfl⟩:=ZfX _ _ _ _ (show run .pc [] ((cutS z.cps.toList 0 emS).drop 0)=some p from fe);rw [List.drop_zero] at ht;have zl:z.cps.toList.length=z.length:=Array.length_toList;by_cases c:z.length=0
 · have e:z.cps.toList=[]:=List.length_eq_zero_iff.mp (by omega)
   rw [e] at ht;rw [show t=(emS,0) from List.mem_singleton.mp ht];exact Nat.zero_le _
 · obtain ⟨ini,e,_,a⟩:=ZbX z.length (by omega) z.cps.toList 0 emS (by omega) (Nat.zero_le _)
   rw [e] at ht;rcases List.mem_append.mp ht with ht | ht
   · exact (a t ht).2.1
   · rw [List.mem_singleton.mp ht]
     show 0+z.cps.toList.length≤_;omega
section
variable {P:Program}{w:World}{K:PySem.W.Frag}{mg:Str→Option Value}{base:Heap}{C:Kd→Addr}{CB CM:Addr}
theorem ok_law (B:Blt mg)(bx:BX K mg CB CM)
   (h_l_cell_at:FnAt P w K mg base "_law_cell_at" ["_law_script","_law_k"] 1 (spCell K)) (h_l_whole:FnAt P w K mg base "_law_whole" ["_law_found"] 1 spWhole) (h_l_names:FnAt P w K mg base "_law_names" ["_law_script","_law_most"] 2 (spNames K)) (h_l_words:FnAt P w K mg base "_law_words" ["_law_script","_law_names_here"] 4 (spWordsG K)) (h_l_spaced:FnAt P w K mg base "_law_spaced" ["_law_words_here","_law_cell"] 2 (spSpaced K)) (h_l_split:FnAt P w K mg base "_law_split" ["_law_text"] 1 spSplit) (h_l_fault:FnAt P w K mg base "_law_fault" ["_law_text"] 4 spFault) (h_l_rows:FnAt P w K mg base "_law_rows" ["_law_script","_law_words_here","_law_names_here"] 2 (spRows K)) (h_l_right:FnAt P w K mg base "_law_right" ["_law_found","_law_words_here","_law_rows_here","_law_names_here"] 94 (spRight C))
   (h_read_question:FnR P w K mg base "read_question" ["text"] 93 (spQuestion C CB))
   {f:Addr} {fd:FuncData} (F:Fun K "law" "law" ZeZ f fd):FnOk P w K mg base CX0 97 f fd ["_law_script"] (spLaw K):=by
 refine F.ok sc_law (fun vs H Q E h=>?_) (fun cdv A outer s H vs Q E hr h=>?_)
 · obtain ⟨a,ns,rfl,_⟩:=h
   rfl
 obtain ⟨x,ns,rfl,hS,h63,q⟩:=h;have g_BadText:=bx.g;refine ⟨_,(Zab (Zao (i:=1) sc_law.nd rfl (by walk_at "l") (Zaq h_l_names (hr.mono (by decide)) rfl (Zaa (pv 0) (Zaa Zak Zac))))
     (Zab (Zao (i:=2) sc_law.nd rfl (by walk_at "l") (Zaq h_l_spaced (hr.mono (by decide)) rfl (Zaa (Zaq h_l_words (hr.mono (by decide)) rfl (Zaa (pv 0) (Zaa (pv 1) Zac))) (Zaa (Zaq h_l_cell_at (hr.mono (by decide)) rfl (Zaa (pv 0) (Zaa Zak Zac))) Zac))))
     (Zab (Ze4 (i:=3) ["_law_row"] [] sc_law.nd rfl (by walk_at "l") rfl (ZaS K (Zaq h_l_split (hr.mono (by decide)) rfl (Zaa (pv 2) Zac))) (fun _ _ _ _ _=>ZaB (i:=0) (by show List.Nodup (["_law_row"]:List Str);decide +kernel) rfl (Or.inl rfl)) (fun _ _ _ _ _=>ZbR) (fun _ _ _ _ _=>(Zav (Zgi K) (pv 0) Zak (fun _ _=>rfl))) trivial ZaO)
     (Zab (Zao (i:=4) sc_law.nd rfl (by walk_at "l") (Zaq h_l_fault (hr.mono (by decide)) rfl (Zaa (pv 2) Zac)))
     (Zab (Zao (i:=5) sc_law.nd rfl (by walk_at "l") Za6)
     (Zab (Zao (i:=6) sc_law.nd rfl (by walk_at "l") Za6)
     (Zab (ps_tryD (pxd_cons (pxd_set (i:=6) sc_law.nd rfl (by walk_at "l") (pex_call h_read_question (hr.mono (by decide)) rfl (Zaa (pv 2) Zac))) pxd_nil) (ph_as (i:=7) K g_BadText (fun ea C dx oe vs hcX hdX hxX=>(Zae (Zao (i:=5) sc_law.nd rfl (by walk_at "l") (pe_fldE K hcX hdX hxX (pv 7))))) ph_nil sc_law.nd rfl rfl rfl))
     (Zab (Zau (Zai Zdw (pv 4) Za6 (nomark _)) (Zae (Zam (Zee (Zaq h_l_whole (hr.mono (by decide)) rfl (Zaa (pv 5) Zac)) (Zee (Zbp Zat (pv 5) (pv 4) (nomark _)) (ZcI (Zdv Zc4 Zc4 Zak (pv 5) (Zas Zaw rfl B.len PySem.boot_len (Zaa (pv 2) Zac)))))))) Zap)
     (Zab (Zau (Zai Zdw (pv 5) Za6 (nomark _)) (Zae (Zam ZbL)) Zap)
     (Zab (Zao (i:=8) sc_law.nd rfl (by walk_at "l") (Zaq h_l_rows (hr.mono (by decide)) rfl (Zaa (pv 0) (Zaa (pv 3) (Zaa (pv 1) Zac)))))
     (Zae (Zam (Zaq h_l_right (hr.mono (by decide)) rfl (Zaa (pv 6) (Zaa (pv 3) (Zaa (pv 8) (Zaa (Zar Zc9 (pv 1) (Zaz (Zaa Zaf Zac))) Zac))))))))))))))))),?_⟩
 refine Zag fun k hk=>?_
 walk_at "vc";refine ⟨x,ns,8,rfl,hS,by decide,by decide,fun pn H1 s1 hn=>hk _ _ (Zag fun k hk=>?_)⟩;have hN:=nm_names ns (m:=8) (by decide) (by decide);have n3:(nms ns 8).length=3:=by unfold nms;rw [List.length_map];rfl
 generalize nms ns 8=N at hn hN n3;walk_at "vc";refine ⟨x,pn,ns,N,rfl,s1.seq hS,hn,n3,hN,h63,fun pw ws H2 s2 hw wl wp=>?_⟩;have sm2:=s1.trans s2;refine ⟨x,ns,1,rfl,sm2.seq hS,pw,ws,_,rfl,SqL.of hw,by omega,fun w hw=>((wp w hw).all hN).1,hk _ _ (Zag fun k hk=>?_)⟩;have wo:=words_of (c:=ns.getD 1 0) (ws:=ws) fun w hw=>((wp w hw).all hN).2.1
 have lz:=Ziq (c:=ns.getD 1 0) (ws:=ws) (m:=20) fun w hw=>((wp w hw).all hN).1
 generalize spacedS (ns.getD 1 0) ws=z at wo lz;have hz:z.length≤100000:=by omega
 walk_at "vc";refine ⟨z,rfl,hz,fun l5 vs us H5 s5 n5 h5 e5 tk=>⟨_,rfl,⟨_,SqL.of h5⟩,?_⟩⟩;have lw:=congrArg List.length wo;rw [← e5,List.length_map,List.length_append,List.length_append] at lw;have lw:us.length+1=ws.length+1:=lw;have ew:us.map (·.1)=ws:=by rw [← e5,List.map_append] at wo;exact (List.append_inj' wo rfl).1
 have hwn:∀ u∈us,nameB u.1=true→u.1∈N++[aS]:=fun u hu n=>((wp u.1 (by rw [← ew];exact List.mem_map.mpr ⟨u,hu,rfl⟩)).all hN).2.2 n
 have tne:=Zhh hz e5;have tl:=tk.len;refine compA (K:=K) (xs:=vs) (fun i y _=>∀ t,us[i]?=some t→y=.str t.1) (fun _ _ _ _ _ h=>h) (SqL.of h5) (by omega) (fun i v H6 R hv s6 r6=>?_) (fun D ys H6 hD s6 h6 l6 k6=>?_)
 · have il:i<vs.length:=(List.getElem?_eq_some_iff.mp hv).1
   obtain ⟨t,ht⟩:∃ t,us[i]?=some t:=⟨_,List.getElem?_eq_getElem (by omega)⟩
   obtain ⟨a,rfl,ha⟩:=tk.it i v t hv ht;walk_at "vc";refine ⟨_,.inl (.inl (s6 _ _ ha)),_,ZaI (j:=1) rfl,r6 _ _ (Same.refl _) fun t' ht'=>?_⟩;cases ht.symm.trans ht';rfl
 · have ey:ys=wdV (us.map (·.1)):=by
     unfold wdV;rw [List.map_map];refine List.ext_getElem (by rw [List.length_map,l6,tl]) fun i a1 a2=>?_
     have hl:i<us.length:=by rw [← tl,← l6];exact a1
     have:=k6 i _ (List.getElem?_eq_getElem a1) _ (List.getElem?_eq_getElem hl);rw [this,List.getElem_map];rfl
   rw [ey] at h6;have sm6:=(sm2.trans s5).trans s6;have sn6:=(s2.trans s5).trans s6;have hn6:=sn6 _ _ hn;clear k6 ey l6 tk h5 n5;refine hk _ _ (Zag fun k hk=>?_);walk_at "vc";refine ⟨z,rfl,hz,fun H7 s7=>hk _ _ (Zag fun k hk=>?_)⟩;have sm7:=sm6.trans s7;have hn7:=s7 _ _ hn6;have h67:=s7 _ _ h6;walk_at "vc";refine hk _ _ (Zag fun k hk=>?_);walk_at "vc";refine hk _ _ (Zag fun k hk=>?_);have last:∀ (pl fo:V) (v7 v8:Option V) H8,Same H7 H8→(∀ p,pQuestion (cutS z.cps.toList 0 emS)=.inl p→pl=.int p)→(∀ t,pQuestion (cutS z.cps.toList 0 emS)=.inr t→pl=.non∧QAt C H8 t fo)→k [some (.ref x),some (.ref pn),some (.str z),some (.ref D),some (optV (faultO (pQuestion (cutS z.cps.toList 0 emS)))),some pl,some fo,v7,v8] H8:=fun pl fo v7 v8 H8 s8 e1 e2=>by
     obtain ⟨r,hr⟩:∃ r,pQuestion (cutS z.cps.toList 0 emS)=r:=⟨_,rfl⟩
     rw [hr];refine hk _ _ (Zag fun k hk=>?_);cases r with
     | inl pp =>
       obtain rfl:=e1 pp hr;have ple:=place_le hz hr;walk_at "vc";rw [if_neg (fun z=>by cases z)];refine ⟨pp,rfl,_,rfl,?_⟩;rw [if_pos rfl];refine ⟨rfl,?_⟩;rw [if_pos (show V.int pp=optV (faultO (.inl pp)) from rfl),if_pos (by omega)];refine ⟨small5 hz,?_⟩;rw [decide_eq_true (by omega)];exact q _
     | inr t =>
       obtain ⟨rfl,hq⟩:=e2 t hr;have acc:Acc us z.length t:=⟨fun u hu=>(tne u hu).1,by rw [e5];exact hr,by rw [e5];exact (Zgv hz).2.1⟩
       have sm8:=sm7.trans s8;have hn8:=s8 _ _ hn7;have h68:=s8 _ _ h67;walk_at "vc";rw [if_pos (show optV (faultO (.inr t))=V.non from rfl)];refine hk _ _ (Zag fun k hk=>?_);walk_at "vc";refine hk _ _ (Zag fun k hk=>?_);walk_at "vc";refine ⟨x,D,pn,ns,us,z.length,t,N,rfl,sm8.seq hS,h68,hn8,n3,acc,by omega,fun pr ds H9 s9 hp9 l9 rows=>hk _ _ ?_⟩;walk_at "vc";refine ⟨by decide,fun p1 np1=>?_⟩;have s10:=Same.new (o:=.lst [V.str (Str.ofString "a")]) np1;refine ⟨_,s10 _ _ (s9 _ _ hn8),_,Zad,by rw [List.length_map,n3];decide,fun p2 np2=>?_⟩;have s11:=Same.new (o:=.lst (N.map V.str++[V.str (Str.ofString "a")])) np2;have s9b:=s10.trans s11;refine ⟨fo,D,pr,p2,us,z.length,t,N++[aS],ds,rfl,QAt.same (s9.trans s9b) t hq,(s9.trans s9b) _ _ h68,s9b _ _ hp9,fun v hv=>?_,l9,?_,fun y hy=>?_,by rw [List.length_append,n3];rfl,hwn,acc,by omega,fun H' _=>q H'⟩
       · obtain ⟨d,kvs,e,h1,h2⟩:=rows v hv
         exact ⟨d,kvs,e,s9b _ _ h1,h2⟩
       · rw [Zad,List.map_append]
         rfl
       · rcases List.mem_append.mp hy with hy | hy
         · exact hN y hy
         · rw [List.mem_singleton.mp hy]
           decide +kernel
   refine ⟨_,rfl,z,rfl,hz,?_⟩;refine (fun (fin:∀ r,pQuestion (cutS z.cps.toList 0 emS)=r→RdQ C CB H7 _ _ r)=>fin _ rfl) ?_;intro r hr;cases r with
   | inl pp =>
     intro dx H8 s8 hdx;refine ⟨_,rfl,fun ea hea=>⟨true,bx.m,?_⟩⟩;rw [if_pos rfl];refine ⟨_,rfl,dx,_,_,rfl,rfl,hdx,rfl,bx.i,bx.q.hd,bx.q.nf,?_⟩;exact last (.int pp) _ none none H8 s8 (fun p h=>by rw [hr] at h;cases h;rfl) (fun t h=>by rw [hr] at h;cases h)
   | inr t =>
     intro v H8 s8 hq;exact last .non v none none H8 s8 (fun p h=>by rw [hr] at h;cases h) (fun t' h=>by rw [hr] at h;cases h;exact ⟨rfl,QAt.same New.sub t hq⟩)
end
theorem law_mk {K:PySem.W.Frag}{h:Heap}{mg:Str→Option Value}{fa f:Addr}{oc:Value}{od an:Option Addr}{osl:Array (Option Value)}{kV doc pm cdv ct:Value}(X:K.In h)(G:h.Ns mainGlobals mg)(hfa:mg "law"=some (.ref fa))(a:PySem.W.nsIn K mainGlobals "law"=some (some (.ref f)))
   (l:K.lookup f=some ⟨oc,od,.func (PySem.W.fnOf "law" "law" (defArgs ZeZ) (defBody ZeZ) (defScope ZeZ) .none kV doc pm an cdv ct),osl⟩) (c:PySem.W.codeIn K cdv "law"=true) (k:PySem.W.keepIn K (.ref f)=true) :
   ∃ fd,Fun K "law" "law" ZeZ fa fd∧∀ (s:Shared) (v:Value),BindsTo s fd ⟨[v],[]⟩ [("_law_script",v)]:=by
 have e:=hfa.symm.trans (PySem.W.mg_of X G a);cases e;exact ⟨_,Zci l c k,fun s v=>.of_eq rfl⟩
theorem walk {l:PySem.W.OpenLaw}{q:Program}{loose:List Str}{XP:(Str→Option Value)→Heap→Prop}{YP:World→Heap→Prop}{d:DefRec}{K:Params→PySem.W.Frag}(hn:l.most=some 63)(hdf:d.params.defaults=[])
   (hY:∀ (w:World) (h:Heap),YP w h→(K w.params).In h)
   (F:∀ (w:World) (mg:Str→Option Value) (fa:Addr) (h:Heap),(K w.params).In h→h.Ns mainGlobals mg→mg d.name=some (.ref fa) →
     ∃ fd:FuncData,(∀ (s:Shared) (u:Value),BindsTo s fd ⟨[u],[]⟩ [("_law_script",u)])∧∀ base:Heap,(K w.params).In base→base.Ns mainGlobals mg→FnOk l.prog w (K w.params) mg base CX0 100 fa fd ["_law_script"] (spLaw (K w.params))) :
   PySem.W.WalkO q loose XP YP l.row.toRowW d [] (fun f vs=>PySem.call f vs) :=
 L2.walk_of (n:=63) (k:=100) (x:="_law_script") (CX:=fun _=>CX0) (sp:=fun w=>spLaw (K w.params)) hn (by decide) hdf ⟨rfl,by decide,by decide⟩ hY F (fun _ _ a ns hl _ hS=>⟨a,ns,rfl,hS,hl,fun _=>rfl⟩) fun _ _ _ _ _ z=>z
theorem Ze0 {K:PySem.W.Frag}{h:Heap}{mg:Str→Option Value}{x:Str}{C:Addr}{R:Addr→Prop}(X:K.In h)(G:h.Ns mainGlobals mg)(a:PySem.W.nsIn K mainGlobals x=some (some (.ref C)))(r:mg x=some (.ref C)→R C):∃ C,R C:=⟨C,r (PySem.W.mg_of X G a)⟩
end My
theorem PySem.W.Fast.te9236716946600182042:True:=trivial
def PySem.W.Fast.tw9236716946600182042:Unit:=()
theorem PySem.W.Fast.te13345540572202590498:True:=trivial
def PySem.W.Fast.tw13345540572202590498:Unit:=()
theorem PySem.W.Fast.te12239723057257432595:True:=trivial
def PySem.W.Fast.tw12239723057257432595:Unit:=()
theorem PySem.W.Fast.te8403559534865787773:True:=trivial
def PySem.W.Fast.tw8403559534865787773:Unit:=()
theorem PySem.W.Fast.te13052408679150730464:True:=trivial
def PySem.W.Fast.tw13052408679150730464:Unit:=()
theorem PySem.W.Fast.te16555476440528808052:True:=trivial
def PySem.W.Fast.tw16555476440528808052:Unit:=()
theorem PySem.W.Fast.te4868988410673395695:True:=trivial
def PySem.W.Fast.tw4868988410673395695:Unit:=()
open PySem PySem.W PyProof.Rows My L2
abbrev zP:=PySem.Challenge.rw_runmarks_k69_whole_texts_of_words.prog
local macro_rules | `(tactic| walk_at "d1")=>`(tactic| (dsimp only [L2.KOf]; refine' ZdP (by assumption) (by assumption) ?a ?l ?c ?k ?b; (case a=>k_is); (case l=>k_is); (case c=>k_is); (case k=>k_is); exact fun _ _ _ _ _ _=>all1 fun _=>rfl))
local macro_rules | `(tactic| walk_at "d2")=>`(tactic| (dsimp only [L2.KOf]; refine' ZdP (by assumption) (by assumption) ?a ?l ?c ?k ?b; (case a=>k_is); (case l=>k_is); (case c=>k_is); (case k=>k_is); exact fun _ _ _ _ _ _=>all2 fun _ _=>rfl))
local macro_rules | `(tactic| walk_at "d3")=>`(tactic| (dsimp only [L2.KOf]; refine' ZdP (by assumption) (by assumption) ?a ?l ?c ?k ?b; (case a=>k_is); (case l=>k_is); (case c=>k_is); (case k=>k_is); exact fun _ _ _ _ _ _=>all3 fun _ _ _=>rfl))
local macro_rules | `(tactic| walk_at "d4")=>`(tactic| (dsimp only [L2.KOf]; refine' ZdP (by assumption) (by assumption) ?a ?l ?c ?k ?b; (case a=>k_is); (case l=>k_is); (case c=>k_is); (case k=>k_is); exact fun _ _ _ _ _ _=>all4 fun _ _ _ _=>rfl))
local macro_rules | `(tactic| walk_at "i2")=>`(tactic| (refine' Zg4 ?a ?b ?c ?d ?e ?f ?g ?h; (case a=>k_is); (case b=>k_is); (case c=>k_is); (case d=>k_is); (case e=>k_is); (case f=>k_is); (case g=>k_is); exact fun _ _ _ _ _ _=>all2 fun _ _=>rfl))
local macro_rules | `(tactic| walk_at "i4")=>`(tactic| (refine' Zg4 ?a ?b ?c ?d ?e ?f ?g ?h; (case a=>k_is); (case b=>k_is); (case c=>k_is); (case d=>k_is); (case e=>k_is); (case f=>k_is); (case g=>k_is); exact fun _ _ _ _ _ _=>all4 fun _ _ _ _=>rfl))
local macro_rules | `(tactic| walk_at "m1")=>`(tactic| (refine' Zi9 ?a ?b ?c ?d ?e ?f; (case a=>k_is); (case b=>k_is); (case c=>k_is); (case d=>k_is); (case e=>k_is); exact fun _ _ _ _ _ _=>all1 fun _=>rfl))
local macro_rules | `(tactic| walk_at "m2")=>`(tactic| (refine' Zi9 ?a ?b ?c ?d ?e ?f; (case a=>k_is); (case b=>k_is); (case c=>k_is); (case d=>k_is); (case e=>k_is); exact fun _ _ _ _ _ _=>all2 fun _ _=>rfl))
local macro_rules | `(tactic| walk_at "cc")=>`(tactic| (refine' ⟨?a,?b,?c,?d⟩; (case a=>k_is); (case b=>k_is); (case c=>k_is); (case d=>k_is)))
local macro_rules | `(tactic| walk_at "ci")=>`(tactic| (refine' isi_to (by assumption) (by assumption) ?a ?b; (case a=>k_is); (case b=>kit_is)))
local macro_rules | `(tactic| walk_at "ck")=>`(tactic| (refine' ⟨?a,?b,?c⟩; (case a=>k_is); (case b=>k_is); (case c=>k_is)))
local macro_rules | `(tactic| walk_at "xi")=>`(tactic| (refine' xisi_mk ?a ?b ?c ?d ?e ?f; (case a=>k_is); (case b=>k_is); (case c=>k_is); (case d=>k_is); (case e=>k_is); (case f=>k_is)))
local macro_rules | `(tactic| walk_at "xm")=>`(tactic| (refine' xi_mk (xmk_mk ?ya ?yb ?yc ?yd ?ye ?yf ?yg) ?yh ?yi ?yj ?yk ?yl ?ym ?yn ?yo ?yp ?yq ?yr; (case ya=>k_is); (case yb=>k_is); (case yc=>k_is); (case yd=>k_exc); (case ye=>k_is); (case yf=>k_is); (case yg=>k_is); (case yh=>k_is); (case yi=>k_is); (case yj=>k_is); (case yk=>k_is); (case yl=>rfl); (case ym=>rfl); (case yn=>k_is); (case yo=>k_is); (case yp=>k_is); (case yq=>k_is); (case yr=>exact fun _ _ _ _ _ _=>all2 fun _ _=>rfl)))
local macro_rules | `(tactic| walk_at "cn")=>`(tactic| (show PySem.W.findIn _ _ _ = _; k_is))
local macro_rules | `(tactic| walk_at "ic")=>`(tactic| (refine' int_mk (by assumption) (by assumption) ?a; (case a=>k_is)))
set_option maxRecDepth 100000 in
set_option maxHeartbeats 0 in
theorem PySem.Challenge.cw_runmarks_k69_whole_texts_of_words_holds : PySem.Challenge.rw_runmarks_k69_whole_texts_of_words.Holds := by
 w_on;o_law;k_head;(case hw=>w_witness2)
 k_fill
 refine My.walk (l:=PySem.Challenge.rw_runmarks_k69_whole_texts_of_words) rfl rfl (fun w h Y=>PySem.W.kIn_of Y) ?F
 case F =>
   intro w mg fa h KX G hmg;have D_shown_in:DefAt (L2.KOf KX) mg "shown_in" Zb9 ["question","in_brackets"]:=by walk_at "d2"
   have D_is_of:DefAt (L2.KOf KX) mg "is_of" ZgI ["word","signs"]:=by walk_at "d2"
   have D_is_name:DefAt (L2.KOf KX) mg "is_name" Zd2 ["word"]:=by walk_at "d1"
   have D_figures_of:DefAt (L2.KOf KX) mg "figures_of" Zcb ["word"]:=by walk_at "d1"
   have D_cut:DefAt (L2.KOf KX) mg "cut" s_cut ["text"]:=by walk_at "d1"
   have D_read_question:DefAt (L2.KOf KX) mg "read_question" Zbr ["text"]:=by walk_at "d1"
   have D_read_chains:DefAt (L2.KOf KX) mg "read_chains" Zbo ["words","deep"]:=by walk_at "d2"
   have D_read_chain:DefAt (L2.KOf KX) mg "read_chain" ZbD ["words","deep"]:=by walk_at "d2"
   have D_read_piece:DefAt (L2.KOf KX) mg "read_piece" Zb6 ["words","deep"]:=by walk_at "d2"
   have D_read_opposite:DefAt (L2.KOf KX) mg "read_opposite" Zbb ["words","deep"]:=by walk_at "d2"
   have D_read_brackets:DefAt (L2.KOf KX) mg "read_brackets" Zbc ["words","deep"]:=by walk_at "d2"
   have D_read_within:DefAt (L2.KOf KX) mg "read_within" ZbS ["words","name"]:=by walk_at "d2"
   have D_l_cell_at:DefAt (L2.KOf KX) mg "_law_cell_at" ZcJ ["_law_script","_law_k"]:=by walk_at "d2"
   have D_l_whole:DefAt (L2.KOf KX) mg "_law_whole" ZdU ["_law_found"]:=by walk_at "d1"
   have D_l_mixed:DefAt (L2.KOf KX) mg "_law_mixed" Zec ["_law_cell","_law_k"]:=by walk_at "d2"
   have D_l_name_of:DefAt (L2.KOf KX) mg "_law_name_of" ZcD ["_law_letters"]:=by walk_at "d1"
   have D_l_names:DefAt (L2.KOf KX) mg "_law_names" ZdY ["_law_script","_law_most"]:=by walk_at "d2"
   have D_l_spaced:DefAt (L2.KOf KX) mg "_law_spaced" Zc8 ["_law_words_here","_law_cell"]:=by walk_at "d2"
   have D_l_split:DefAt (L2.KOf KX) mg "_law_split" ZdV ["_law_text"]:=by walk_at "d1"
   have D_l_is_name:DefAt (L2.KOf KX) mg "_law_is_name" Zcq ["_law_word"]:=by walk_at "d1"
   have D_l_are_figures:DefAt (L2.KOf KX) mg "_law_are_figures" Zbt ["_law_word"]:=by walk_at "d1"
   have D_l_begun:DefAt (L2.KOf KX) mg "_law_begun" Zef ["_law_word","_law_open_ones"]:=by walk_at "d2"
   have D_l_ended:DefAt (L2.KOf KX) mg "_law_ended" Zek ["_law_open_ones"]:=by walk_at "d1"
   have D_l_next:DefAt (L2.KOf KX) mg "_law_next" Zfm ["_law_state","_law_word","_law_open_ones"]:=by walk_at "d3"
   have D_l_fault:DefAt (L2.KOf KX) mg "_law_fault" Zd9 ["_law_text"]:=by walk_at "d1"
   have D_l_good_word:DefAt (L2.KOf KX) mg "_law_good_word" ZbT ["_law_state","_law_x","_law_names_here"]:=by walk_at "d3"
   have D_l_odd_word:DefAt (L2.KOf KX) mg "_law_odd_word" Zcf ["_law_x"]:=by walk_at "d1"
   have D_l_ending:DefAt (L2.KOf KX) mg "_law_ending" Zc6 ["_law_state","_law_open_ones"]:=by walk_at "d2"
   have D_l_words:DefAt (L2.KOf KX) mg "_law_words" Zeb ["_law_script","_law_names_here"]:=by walk_at "d2"
   have D_l_leaf_truth:DefAt (L2.KOf KX) mg "_law_leaf_truth" ZbE ["_law_words_here","_law_k","_law_values"]:=by walk_at "d3"
   have D_l_truth:DefAt (L2.KOf KX) mg "_law_truth" ZdS ["_law_words_here","_law_values"]:=by walk_at "d2"
   have D_l_rows:DefAt (L2.KOf KX) mg "_law_rows" Zfj ["_law_script","_law_words_here","_law_names_here"]:=by walk_at "d3"
   have D_l_right:DefAt (L2.KOf KX) mg "_law_right" Zd7 ["_law_found","_law_words_here","_law_rows_here","_law_names_here"]:=by walk_at "d4"
   have e_Every:∃ C,CD_Every (L2.KOf KX) mg C:=by
     dsimp only [L2.KOf];refine' Ze0 (x:="Every") KX G ?aEvery ?bEvery
     (case aEvery=>k_is)
     intro z;refine' ⟨z,?_,?_,?_,?_,?_,?_,?_,?_,?_,?_,?_,?_,?_,?_,?_,?_⟩
     · walk_at "cc"
     · walk_at "m2"
     · walk_at "m1"
     · walk_at "m1"
     · walk_at "m1"
     · walk_at "m1"
     · walk_at "m1"
     · walk_at "cc"
     · walk_at "ci"
     · walk_at "ci"
     · walk_at "ci"
     · walk_at "ci"
     · walk_at "ci"
     · walk_at "ci"
     · walk_at "ci"
     · walk_at "ck"
   obtain ⟨C_Every,cd_Every⟩:=e_Every;have e_Nobody:∃ C,CD_Nobody (L2.KOf KX) mg C:=by
     dsimp only [L2.KOf];refine' Ze0 (x:="Nobody") KX G ?aNobody ?bNobody
     (case aNobody=>k_is)
     intro z;refine' ⟨z,?_,?_,?_,?_,?_,?_,?_,?_,?_,?_,?_,?_,?_,?_,?_,?_⟩
     · walk_at "cc"
     · walk_at "m2"
     · walk_at "m1"
     · walk_at "m1"
     · walk_at "m1"
     · walk_at "m1"
     · walk_at "m1"
     · walk_at "cc"
     · walk_at "ci"
     · walk_at "ci"
     · walk_at "ci"
     · walk_at "ci"
     · walk_at "ci"
     · walk_at "ci"
     · walk_at "ci"
     · walk_at "ck"
   obtain ⟨C_Nobody,cd_Nobody⟩:=e_Nobody;have e_Within:∃ C,CD_Within (L2.KOf KX) mg C:=by
     dsimp only [L2.KOf];refine' Ze0 (x:="Within") KX G ?aWithin ?bWithin
     (case aWithin=>k_is)
     intro z;refine' ⟨z,?_,?_,?_,?_,?_,?_,?_,?_,?_,?_,?_,?_,?_,?_,?_,?_,?_,?_,?_⟩
     · walk_at "cc"
     · walk_at "i4"
     · walk_at "m1"
     · walk_at "m2"
     · walk_at "m1"
     · walk_at "m1"
     · walk_at "m1"
     · walk_at "m1"
     · walk_at "cc"
     · walk_at "ci"
     · walk_at "ci"
     · walk_at "ci"
     · walk_at "ci"
     · walk_at "ci"
     · walk_at "ci"
     · walk_at "ci"
     · walk_at "cn"
     · walk_at "cn"
     · walk_at "cn"
   obtain ⟨C_Within,cd_Within⟩:=e_Within;have e_Opposite:∃ C,CD_Opposite (L2.KOf KX) mg C:=by
     dsimp only [L2.KOf];refine' Ze0 (x:="Opposite") KX G ?aOpposite ?bOpposite
     (case aOpposite=>k_is)
     intro z;refine' ⟨z,?_,?_,?_,?_,?_,?_,?_,?_,?_,?_,?_,?_,?_,?_,?_,?_,?_⟩
     · walk_at "cc"
     · walk_at "i2"
     · walk_at "m1"
     · walk_at "m2"
     · walk_at "m1"
     · walk_at "m1"
     · walk_at "m1"
     · walk_at "m1"
     · walk_at "cc"
     · walk_at "ci"
     · walk_at "ci"
     · walk_at "ci"
     · walk_at "ci"
     · walk_at "ci"
     · walk_at "ci"
     · walk_at "ci"
     · walk_at "cn"
   obtain ⟨C_Opposite,cd_Opposite⟩:=e_Opposite;have e_AllOf:∃ C,CD_AllOf (L2.KOf KX) mg C:=by
     dsimp only [L2.KOf];refine' Ze0 (x:="AllOf") KX G ?aAllOf ?bAllOf
     (case aAllOf=>k_is)
     intro z;refine' ⟨z,?_,?_,?_,?_,?_,?_,?_,?_,?_,?_,?_,?_,?_,?_,?_,?_,?_⟩
     · walk_at "cc"
     · walk_at "i2"
     · walk_at "m1"
     · walk_at "m2"
     · walk_at "m1"
     · walk_at "m1"
     · walk_at "m1"
     · walk_at "m1"
     · walk_at "cc"
     · walk_at "ci"
     · walk_at "ci"
     · walk_at "ci"
     · walk_at "ci"
     · walk_at "ci"
     · walk_at "ci"
     · walk_at "ci"
     · walk_at "cn"
   obtain ⟨C_AllOf,cd_AllOf⟩:=e_AllOf;have e_OneOf:∃ C,CD_OneOf (L2.KOf KX) mg C:=by
     dsimp only [L2.KOf];refine' Ze0 (x:="OneOf") KX G ?aOneOf ?bOneOf
     (case aOneOf=>k_is)
     intro z;refine' ⟨z,?_,?_,?_,?_,?_,?_,?_,?_,?_,?_,?_,?_,?_,?_,?_,?_,?_⟩
     · walk_at "cc"
     · walk_at "i2"
     · walk_at "m1"
     · walk_at "m2"
     · walk_at "m1"
     · walk_at "m1"
     · walk_at "m1"
     · walk_at "m1"
     · walk_at "cc"
     · walk_at "ci"
     · walk_at "ci"
     · walk_at "ci"
     · walk_at "ci"
     · walk_at "ci"
     · walk_at "ci"
     · walk_at "ci"
     · walk_at "cn"
   obtain ⟨C_OneOf,cd_OneOf⟩:=e_OneOf;have e_Words:∃ C,CD_Words (L2.KOf KX) mg C:=by
     dsimp only [L2.KOf];refine' Ze0 (x:="Words") KX G ?aWords ?bWords
     (case aWords=>k_is)
     intro z;refine' ⟨z,?_,?_,?_,?_,?_,?_,?_,?_,?_⟩
     · walk_at "cc"
     · walk_at "i2"
     · walk_at "m1"
     · walk_at "m1"
     · walk_at "m1"
     · walk_at "m2"
     · walk_at "m1"
     · walk_at "cn"
     · walk_at "cn"
   obtain ⟨C_Words,cd_Words⟩:=e_Words;have e_Question:∃ C,mg "Question"=some (.ref C)∧True:=by
     refine' ex_cls KX G ?aQuestion True.intro
     (case aQuestion=>k_is)
   obtain ⟨C_Question,g_Question,_⟩:=e_Question;have c_WORDS:∃ a,mg "WORDS"=some (.ref a)∧∀ H,SqT (L2.KOf KX) H a [.str (Str.ofString "and"),.str (Str.ofString "or"),.str (Str.ofString "not"),.str (Str.ofString "all"),.str (Str.ofString "none"),.str (Str.ofString "is"),.str (Str.ofString "from"),.str (Str.ofString "to")]:=by
     dsimp only [L2.KOf];refine' tup_mk KX G ?eWORDS ?lWORDS ?hWORDS ?zWORDS ?rWORDS
     (case eWORDS=>k_is);(case lWORDS=>k_is);(case hWORDS=>rfl);(case zWORDS=>decide);(case rWORDS=>exact .cons ⟨_,rfl⟩ (.cons ⟨_,rfl⟩ (.cons ⟨_,rfl⟩ (.cons ⟨_,rfl⟩ (.cons ⟨_,rfl⟩ (.cons ⟨_,rfl⟩ (.cons ⟨_,rfl⟩ (.cons ⟨_,rfl⟩ (.nil)))))))))
   have c_LETTERS:∃ t,mg "LETTERS"=some (.str (Str.ofString "abcdefghijklmnopqrstuvwxyz") t):=by
     refine' str_mk KX G ?cLETTERS
     (case cLETTERS=>k_is)
   have c_FIGURES:∃ t,mg "FIGURES"=some (.str (Str.ofString "0123456789") t):=by
     refine' str_mk KX G ?cFIGURES
     (case cFIGURES=>k_is)
   have c_LONGEST_NAME:∃ t,mg "LONGEST_NAME"=some (.int 8 t):=by walk_at "ic"
   have c_LONGEST_FIGURES:∃ t,mg "LONGEST_FIGURES"=some (.int 12 t):=by walk_at "ic"
   have c_DEEPEST:∃ t,mg "DEEPEST"=some (.int 20 t):=by walk_at "ic"
   have B:Blt mg:=by
     refine' ⟨PySem.W.mg_none_of KX G ?z0,PySem.W.mg_none_of KX G ?z1,PySem.W.mg_none_of KX G ?z2,PySem.W.mg_none_of KX G ?z3,PySem.W.mg_none_of KX G ?z4,PySem.W.mg_none_of KX G ?z5,PySem.W.mg_none_of KX G ?z6,PySem.W.mg_none_of KX G ?z7,PySem.W.mg_none_of KX G ?z8,PySem.W.mg_none_of KX G ?z9,PySem.W.mg_none_of KX G ?z10,PySem.W.mg_none_of KX G ?z11,PySem.W.mg_none_of KX G ?z12⟩
     (case z0=>k_is);(case z1=>k_is);(case z2=>k_is);(case z3=>k_is);(case z4=>k_is);(case z5=>k_is);(case z6=>k_is);(case z7=>k_is);(case z8=>k_is);(case z9=>k_is);(case z10=>k_is);(case z11=>k_is);(case z12=>k_is)
   have L:∃ fd,Fun (L2.KOf KX) "law" "law" ZeZ fa fd∧∀ (s:Shared) (v:Value),BindsTo s fd ⟨[v],[]⟩ [("_law_script",v)]:=by
     dsimp only [L2.KOf];refine' My.law_mk KX G hmg ?aL ?lL ?cL ?kL
     (case aL=>k_is);(case lL=>k_is);(case cL=>k_is);(case kL=>k_is)
   obtain ⟨fd,FL,bL⟩:=L;refine ⟨fd,bL,fun base _ _=>?_⟩;have eX:∃ C M,BX (L2.KOf KX) mg C M:=by
     dsimp only [L2.KOf];refine' bx_mk KX G ?a0 ?a1 ?yi ?ym ?yq ?yn
     (case a0=>k_is);(case a1=>k_is)
     case yi=>walk_at "xi"
     case ym=>kts_exm
     case yq=>walk_at "xm"
     case yn=>refine' ⟨?a,?b,?c⟩;(case a=>k_is);(case b=>k_is);(case c=>k_is)
   obtain ⟨CB,CM,bx⟩:=eX
   let c:Kd→Addr:=fun k=>match k with | .ev=>C_Every | .no=>C_Nobody | .wi=>C_Within | .op=>C_Opposite | .al=>C_AllOf | .on=>C_OneOf
   have c1:CD_Every (L2.KOf KX) mg (c .ev):=cd_Every;have c2:CD_Nobody (L2.KOf KX) mg (c .no):=cd_Nobody;have c3:CD_Within (L2.KOf KX) mg (c .wi):=cd_Within;have c4:CD_Opposite (L2.KOf KX) mg (c .op):=cd_Opposite;have c5:CD_AllOf (L2.KOf KX) mg (c .al):=cd_AllOf;have c6:CD_OneOf (L2.KOf KX) mg (c .on):=cd_OneOf;have h_l_mixed:=ok_mixed (P:=zP) (w:=w) (base:=base) D_l_mixed;have h_l_cell_at:=Zix (P:=zP) (w:=w) (base:=base) B D_l_cell_at
   have h_l_whole:=ok_whole (P:=zP) (w:=w) (base:=base) B D_l_whole;have h_is_of:=ok_is_of (P:=zP) (w:=w) (base:=base) B D_is_of;have h_is_name:=Zh0 (P:=zP) (w:=w) (base:=base) c_LONGEST_NAME c_LETTERS c_WORDS B h_is_of D_is_name;have h_figures_of:=Zfu (P:=zP) (w:=w) (base:=base) c_LONGEST_FIGURES c_FIGURES B h_is_of D_figures_of;have h_cut:=ok_cut (P:=zP) (w:=w) (base:=base) B D_cut;have h_BadText:=Ziv (P:=zP) (w:=w) (base:=base) bx.gM bx.n bx.g bx.q;have h_here:=ok_here (P:=zP) (w:=w) (base:=base) cd_Words;have h_begins:=Zki (P:=zP) (w:=w) (base:=base) cd_Words;have h_step:=ok_step (P:=zP) (w:=w) (base:=base) cd_Words;have h_pass:=ok_pass (P:=zP) (w:=w) (base:=base) h_BadText h_here h_begins h_step cd_Words;have h_figures:=ok_figsW (P:=zP) (w:=w) (base:=base) h_BadText h_figures_of h_here h_begins h_step cd_Words;have h_Words:=ok_wini (P:=zP) (w:=w) (base:=base) h_cut cd_Words;have h_Within:=ok_iWi (P:=zP) (w:=w) (base:=base) c3;have h_Opposite:=ok_iOp (P:=zP) (w:=w) (base:=base) c4;have h_AllOf:=ok_iAl (P:=zP) (w:=w) (base:=base) B c5;have h_OneOf:=ok_iOn (P:=zP) (w:=w) (base:=base) B c6;have h_read_within:=ZkC (P:=zP) (w:=w) (base:=base) h_Within h_here h_step h_pass h_figures D_read_within;have h_read_piece:=Zft (P:=zP) (w:=w) (base:=base) (C:=c) B c_DEEPEST ⟨c1.at_,c1.new⟩ ⟨c2.at_,c2.new⟩ h_Opposite h_AllOf h_OneOf h_BadText h_is_name h_here h_begins h_step h_pass h_read_within D_read_opposite D_read_brackets D_read_chain D_read_chains D_read_piece 21;have h_read_chain:=Zc2 (P:=zP) (w:=w) (base:=base) (C:=c) (by decide) B (fun ts d g=>ZaC g 21 d) h_here h_step h_AllOf h_read_piece D_read_chain;have h_read_chains:=Zcz (P:=zP) (w:=w) (base:=base) (C:=c) (by decide) B (fun ts d g=>ZaD g (by decide +kernel) (ZaC g 21 d)) h_here h_step h_OneOf h_read_chain D_read_chains;have h_read_question:=ZdW (P:=zP) (w:=w) (base:=base) (C:=c) h_Words h_pass h_read_chains D_read_question;have sq:SQ (L2.KOf KX) mg c:=⟨fun k=>match k with | .ev=>c1.c | .no=>c2.c | .wi=>c3.c | .op=>c4.c | .al=>c5.c | .on=>c6.c,fun k=>match k with | .ev=>c1.ty | .no=>c2.ty | .wi=>c3.ty | .op=>c4.ty | .al=>c5.ty | .on=>c6.ty,c5.at_,c6.at_,fun k=>match k with | .ev=>c1.i_AllOf | .no=>c2.i_AllOf | .wi=>c3.i_AllOf | .op=>c4.i_AllOf | .al=>c5.i_AllOf | .on=>c6.i_AllOf,fun k=>match k with | .ev=>c1.i_OneOf | .no=>c2.i_OneOf | .wi=>c3.i_OneOf | .op=>c4.i_OneOf | .al=>c5.i_OneOf | .on=>c6.i_OneOf⟩
   have h_l_name_of:=Zh8 (P:=zP) (w:=w) (base:=base) B D_l_name_of;have h_l_names:=ok_names (P:=zP) (w:=w) (base:=base) B h_l_mixed h_l_cell_at h_l_name_of D_l_names;have h_l_spaced:=Zhl (P:=zP) (w:=w) (base:=base) B h_l_mixed D_l_spaced;have h_l_split:=Ziw (P:=zP) (w:=w) (base:=base) B D_l_split;have h_l_ended:=Zic (P:=zP) (w:=w) (base:=base) D_l_ended;have h_l_is_name:=ZgD (P:=zP) (w:=w) (base:=base) B D_l_is_name;have h_l_are_figures:=Zd6 (P:=zP) (w:=w) (base:=base) B D_l_are_figures;have h_l_begun:=Zis (P:=zP) (w:=w) (base:=base) B h_l_is_name h_l_ended D_l_begun;have h_l_next:=Zkd (P:=zP) (w:=w) (base:=base) B h_l_begun h_l_are_figures h_l_ended D_l_next;have h_l_fault:=Zh5 (P:=zP) (w:=w) (base:=base) B h_l_split h_l_next D_l_fault;have h_l_odd_word:=Zfq (P:=zP) (w:=w) (base:=base) D_l_odd_word;have h_l_good_word:=Zfb (P:=zP) (w:=w) (base:=base) B D_l_good_word;have h_l_ending:=ZgJ (P:=zP) (w:=w) (base:=base) B D_l_ending;have h_l_words:=ZhA (P:=zP) (w:=w) (base:=base) B h_l_mixed h_l_cell_at h_l_good_word h_l_odd_word h_l_ending h_l_next D_l_words;have h_l_leaf_truth:=ZeA (P:=zP) (w:=w) (base:=base) B D_l_leaf_truth;have h_l_truth:=Zii (P:=zP) (w:=w) (base:=base) B h_l_leaf_truth D_l_truth;have h_l_rows:=Zkn (P:=zP) (w:=w) (base:=base) B h_l_mixed h_l_cell_at D_l_rows;have h_shown:=fun N hN=>Zkh (P:=zP) (w:=w) (base:=base) (N:=N) B sq hN c1 c2 c3 c4 c5 c6 D_shown_in 43
   have h_holds:=fun N k=>Zj8 (P:=zP) (w:=w) (base:=base) (N:=N) B c1 c2 c3 c4 c5 c6 43 k
   have h_lv:=fun N=>ok_lv (P:=zP) (w:=w) (base:=base) (N:=N) c1 c2 c3 c4 c5 c6 B 43
   have h_dp:=fun N=>ok_dp (P:=zP) (w:=w) (base:=base) (N:=N) c1 c2 c3 c4 c5 c6 B 43
   have h_mn:=fun N=>ok_mn (P:=zP) (w:=w) (base:=base) (N:=N) c1 c2 c3 c4 c5 c6 B 43
   have h_l_right:=Zim (P:=zP) (w:=w) (base:=base) (C:=c) B h_mn h_lv h_dp h_shown h_holds h_l_truth h_read_question D_l_right;exact (ok_law B bx h_l_cell_at h_l_whole h_l_names h_l_words h_l_spaced h_l_split h_l_fault h_l_rows h_l_right h_read_question FL).mono (by decide)
#print axioms PySem.Challenge.cw_runmarks_k69_whole_texts_of_words_holds
