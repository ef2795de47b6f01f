import PyProof.Rows.All
import Wide.All
import OpenK.AllK
import Wide.FinOn
import Lean
import PyProof.EqAt
import PyProof.EqKinds
import PyProof.TupleCall
import PyProof.Rows.TupIter
import PyProof.ZipIter
import PyProof.MinMaxWalk
import PyProof.WalkInts
import PyProof.WalksMore
import PyProof.SeqI3
import PyProof.Rows.SetFrom
import PyProof.Rows.SortShell
import OpenK.KMore
import KE.KSortTup
import KE.KLam
import KE.KDictSum
import KE.KTryOn
import PyProof.NsDelKeeps
import PyProof.RulesAs
import PyProof.ExcArgsOwn
import PyProof.IsiH_list
import KE.KIsAll
import PyProof.Rows.FStr
import PyProof.FString
import KE.KDictLaws
import PyProof.CollectWalk
import PyProof.ListNew
import PyProof.SumWalkG
import KE.KIntText
import KE.IntTextLaws
import PyProof.StrBlockI
import PyProof.ConsumeWalk
import PyProof.StrLawsIn
import KE.KDictOf
import KE.KEqDict
import KE.KMinBuiltin
import PyProof.Rows.CallKwBuiltin
import PyProof.ExcInit
import PyProof.ReprStr
import PyProof.StrLawsRepr
import PySem.Challenge.RW_runmarks_k51_values_put_and_taken
set_option maxHeartbeats 4000000
local macro_rules | `(tactic| omega) => `(tactic| lia)
local macro_rules | `(tactic| walk_at "l") => `(tactic| first | exact Or.inl rfl | exact Or.inr rfl)
local macro_rules | `(tactic| walk_at "s") => `(tactic| exact ⟨rfl,rfl,rfl,by decide +kernel,rfl,by decide +kernel,by decide +kernel⟩)
set_option Elab.async false
set_option linter.all false
set_option maxRecDepth 100000
namespace L2
open PySem PySem.Spec PyProof.Rows
abbrev Key:=Sum Int Str
def keyIs:Key→Value→Bool
 | .inl k,v=>Value.isInt k v
 | .inr x,v=>Value.isStrOf x v
def keyH (w:World):Key→Int
 | .inl k=>hashInt k
 | .inr x=>hashStr w x
theorem ZaG:∀ {k:Key} {v:Value},keyIs k v=true→(∃ i t,k=Sum.inl i∧v=Value.int i t)∨(∃ x t,k=Sum.inr x∧v=Value.str x t)
 | .inl i,v,h=>by
   obtain ⟨t,e⟩:=Value.isInt_shape (k:=i) (v:=v) h;exact .inl ⟨i,t,rfl,e⟩
 | .inr x,v,h=>by
   obtain ⟨t,e⟩:=Value.isStrOf_shape (x:=x) (v:=v) h;exact .inr ⟨x,t,rfl,e⟩
theorem Zjz (i:Int)(t:Tok):keyIs (.inl i) (.int i t)=true:=by simp [keyIs,Value.isInt]
theorem ZjE (x:Str)(t:Tok):keyIs (.inr x) (.str x t)=true:=by simp [keyIs,Value.isStrOf]
theorem key_ll (a b:Int):decide ((Sum.inl a:Key)=Sum.inl b)=(a==b):=by
 by_cases e:a=b
 · subst e;simp
 · have h:¬ (Sum.inl a:Key)=Sum.inl b:=fun q=>e (Sum.inl.inj q)
   rw [decide_eq_false h];exact (beq_eq_false_iff_ne.mpr e).symm
theorem key_rr (a b:Str):decide ((Sum.inr a:Key)=Sum.inr b)=decide (a=b):=by
 by_cases e:a=b
 · subst e;simp
 · have h:¬ (Sum.inr a:Key)=Sum.inr b:=fun q=>e (Sum.inr.inj q)
   rw [decide_eq_false h,decide_eq_false e]
theorem key_lr (a:Int)(b:Str):decide ((Sum.inl a:Key)=Sum.inr b)=false:=decide_eq_false (fun q=>nomatch q)
theorem key_rl (a:Str)(b:Int):decide ((Sum.inr a:Key)=Sum.inl b)=false:=decide_eq_false (fun q=>nomatch q)
def mixKind (prog:Program) (w:World):PySem.KeyKind prog w Key where
 is:=keyIs
 hash:=keyH w
 inj := fun v a b ha hb=>by
   rcases ZaG ha with ⟨i,t,rfl,rfl⟩ | ⟨x,t,rfl,rfl⟩
   · rcases ZaG hb with ⟨j,u,rfl,e⟩ | ⟨y,u,rfl,e⟩
     · injection e with e1 _;rw [e1]
     · exact nomatch e
   · rcases ZaG hb with ⟨j,u,rfl,e⟩ | ⟨y,u,rfl,e⟩
     · exact nomatch e
     · injection e with e1 _;rw [e1]
 byValue:=fun k v h=>by
   rcases ZaG h with ⟨i,t,rfl,rfl⟩ | ⟨x,t,rfl,rfl⟩<;>rfl
 pyHash:=fun hv h=>by
   rcases ZaG hv with ⟨i,t,rfl,rfl⟩ | ⟨x,t,rfl,rfl⟩
   · exact wpAny_pyHash_int h
   · exact wpAny_pyHash_str h
 eqBool:=fun hu hv h=>by
   rcases ZaG hu with ⟨i,t,rfl,rfl⟩ | ⟨x,t,rfl,rfl⟩
   · rcases ZaG hv with ⟨j,u,rfl,rfl⟩ | ⟨y,u,rfl,rfl⟩
     · rw [key_ll] at h;exact wpAny_eqBool_int h
     · rw [key_lr] at h;exact SeqAt.EqAt.int_str i t y u _ _ _ _ h
   · rcases ZaG hv with ⟨j,u,rfl,rfl⟩ | ⟨y,u,rfl,rfl⟩
     · rw [key_rl] at h;exact SeqAt.EqAt.str_int x t j u _ _ _ _ h
     · rw [key_rr] at h;exact wpAny_eqBool_str h
 «strs»:=fun k x t v h=>by
   rcases ZaG h with ⟨i,u,rfl,e⟩ | ⟨y,u,rfl,e⟩
   · exact nomatch e
   · injection e with e1 _
     subst e1;cases v<;>rfl
theorem ZhX (prog:Program)(w:World)(k:Key)(v:Value):(mixKind prog w).is k v=keyIs k v:=rfl
theorem Zhg (prog:Program)(w:World)(i:Int)(t:Tok):(mixKind prog w).is (.inl i) (.int i t)=true:=Zjz i t
theorem Zhl (prog:Program)(w:World)(x:Str)(t:Tok):(mixKind prog w).is (.inr x) (.str x t)=true:=ZjE x t
inductive V where
 | non | bl (b:Bool) | int (i:Int) | str (x:Str) | byt (b:Array UInt8) | flt (b:UInt64) | ref (a:Addr) | ty (n:String)
 deriving DecidableEq
def RelV:V→Value→Prop
 | .non,u=>u=Value.none
 | .bl b,u=>u=Value.bool b
 | .int i,u=>∃ t,u=Value.int i t
 | .str x,u=>∃ t,u=Value.str x t
 | .byt b,u=>∃ t,u=Value.bytes b t
 | .flt b,u=>∃ t,u=Value.float b t
 | .ref a,u=>u=Value.ref a
 | .ty n,u=>u=Value.type n
abbrev Vals:List V→List Value→Prop:=Paired RelV
theorem Vals.length {xs:List V}{us:List Value}(r:Vals xs us):xs.length=us.length:=Paired.length r
theorem Vals.get:∀ {xs:List V} {us:List Value} {i:Nat} {x:V},Vals xs us→xs[i]?=some x→∃ u,us[i]?=some u∧RelV x u
 | _,_,_,_,.nil,e=>by simp at e
 | _,_,0,_,.cons r _,e=>by simp at e;subst e;exact ⟨_,rfl,r⟩
 | _,_,i+1,x,.cons _ t,e=>by
   obtain ⟨u,h1,h2⟩:=Vals.get (i:=i) (x:=x) t (by simpa using e);exact ⟨u,by simpa using h1,h2⟩
theorem Vals.append:∀ {xs ys:List V} {us ws:List Value},Vals xs us→Vals ys ws→Vals (xs++ys) (us++ws)
 | _,_,_,_,.nil,s=>s
 | _,_,_,_,.cons r t,s=>.cons r (Vals.append t s)
theorem Vals.take:∀ {xs:List V} {us:List Value} (n:Nat),Vals xs us→Vals (xs.take n) (us.take n)
 | _,_,0,_=>.nil
 | _,_,_+1,.nil=>.nil
 | _,_,n+1,.cons r t=>.cons r (Vals.take n t)
theorem Vals.drop:∀ {xs:List V} {us:List Value} (n:Nat),Vals xs us→Vals (xs.drop n) (us.drop n)
 | _,_,0,r=>r
 | _,_,_+1,.nil=>.nil
 | _,_,n+1,.cons _ t=>Vals.drop n t
def RelO:Option V→Option Value→Prop
 | some v,some u=>RelV v u
 | none,none=>True
 | _,_=>False
def KV {κ:Type}:List (κ × V)→List (κ × Value)→Prop:=Paired fun (p:κ × V) (q:κ × Value)=>p.1=q.1∧RelV p.2 q.2
def kV:Key→V
 | .inl i=>.int i
 | .inr x=>.str x
inductive HO where
 | lst (xs:List V)
 | tup (xs:List V)
 | dK (kvs:List (Key × V)) | dT (kvs:List (List Key × V))
 | set (S:Int→Bool) (n:Nat)
 | ins (C dx:Addr) (fs:List (Str × V))
 | own (x:Addr)
 | xd (fs:List (Str × V))
 | met (f x:Addr)
 | rng (lo hi:Int)
 | frz (o:Obj) (u:HO)
 | tbl (ps:Array Value)
 | ext (φ:Heap→Prop)
abbrev Hp:=Addr→Option HO
def upd (H:Hp)(a:Addr)(o:HO):Hp:=fun b=>if b=a then some o else H b
theorem Zab {H:Hp}{a:Addr}{o:HO}:upd H a o a=some o:=by unfold upd;rw [if_pos rfl]
theorem Zah {H:Hp}{a b:Addr}{o:HO}(h:b≠a):upd H a o b=H b:=by unfold upd;rw [if_neg h]
theorem upd_upd {H:Hp}{a:Addr}{o u:HO}:upd (upd H a o) a u=upd H a u:=by funext b;unfold upd;split<;>rfl
theorem ne_of {H:Hp}{a b:Addr}{o u:HO}(h:H a=some o)(h':H b=some u)(d:o≠u):a≠b:=by intro e;subst e;rw [h] at h';exact d (Option.some.inj h')
theorem Zan {H:Hp}{a b:Addr}{o:HO}(h:H a=some o)(h':H b=none):a≠b:=by intro e;subst e;rw [h] at h';cases h'
section
variable (P:Program)(w:World)
def ObjOk (H:Hp)(h:Heap)(a:Addr):HO→Prop
 | .lst xs=>xs.length≤sizeLine∧∃ (its:List Value) (n:Nat),Vals xs its∧h.get? a=some { cls:=.type "list",data:=.seq its.toArray n }
 | .tup xs=>xs.length≤sizeLine∧∃ its:List Value,Vals xs its∧IsTup h a its.toArray
 | .dK kvs=>kvs.length≤sizeLine∧(a==sysModules)=false∧∃ vs,KV kvs vs∧h.DictOf (mixKind P w) a vs
 | .dT kvs=>kvs.length≤sizeLine∧(a==sysModules)=false∧∃ xs:List (List Key × Addr × Value),
     Paired (fun (p:List Key × V) (q:List Key × Addr × Value)=>p.1=q.1∧H q.2.1=some (.tup (p.1.map kV))∧RelV p.2 q.2.2) kvs xs ∧
     ∃ o es ep,h.get? a=some o∧o.ExactDict∧o.data=.dict es ep∧es.toList=xs.map (entryOfKey (tupleKind (mixKind P w)))∧(xs.map (·.1)).Nodup
 | .set S n=>h.SetOf (intKind P w) a S n
 | .ins C dx fs=>H dx=some (.own a)∧fs.length≤1000∧dx≠a∧h.get? a=some (PySem.W.instObj C dx) ∧
     ∃ mA,h.Ns1 dx mA∧(∀ f,RelO (fs.lookup f) (mA f))∧PySem.Within mA (fs.map (·.1))
 | .own _=>∃ o,h.get? a=some o
 | .xd fs=>∃ mA,h.Ns1 a mA∧∀ f,RelO (fs.lookup f) (mA f)
 | .rng lo hi=>∃ t u v,h.get? a=some { cls:=.type "range",data:=.fields #[.int lo t,.int hi u,.int 1 v] }
 | .frz o u=>h.get? a=some o∧ObjOk H h a u
 | .tbl ps=>h.get? a=some { cls:=.none,data:=.fields ps }
 | .met f x=>h.get? a=some (PySem.W.methodObj (.ref f) (.ref x))
 | .ext φ=>φ h∧(∃ o,h.get? a=some o)∧∀ h1 h2:Heap,φ h1→(∀ o,h1.get? a=some o→h2.get? a=some o)→φ h2
def HOk (H:Hp)(h:Heap):Prop:=∀ a o,H a=some o→ObjOk P w H h a o
end
section
variable {P:Program}{w:World}{H H':Hp}{h h':Heap}{a:Addr}{o:HO}
theorem ObjOk.lt (x:ObjOk P w H h a o):a<h.objs.size:=by
 cases o with
 | lst xs=>obtain ⟨_,_,_,_,e⟩:=x;exact Heap.lt_size e
 | tup xs=>obtain ⟨_,_,_,p⟩:=x;exact p.lt
 | dK kvs=>obtain ⟨_,_,_,_,o,_,_,e,_⟩:=x;exact Heap.lt_size e
 | dT kvs=>obtain ⟨_,_,_,_,o,_,_,e,_⟩:=x;exact Heap.lt_size e
 | set S n=>obtain ⟨o,_,_,_,e,_⟩:=x;exact Heap.lt_size e
 | ins C dx fs=>obtain ⟨_,_,_,e,_⟩:=x;exact Heap.lt_size e
 | own y=>obtain ⟨_,e⟩:=x;exact Heap.lt_size e
 | xd fs=>obtain ⟨_,⟨_,_,_,e,_⟩,_⟩:=x;exact Heap.lt_size e
 | rng lo hi=>obtain ⟨_,_,_,e⟩:=x;exact Heap.lt_size e
 | frz ob u=>obtain ⟨e,_⟩:=x;exact Heap.lt_size e
 | tbl ps=>exact Heap.lt_size (show h.get? a=some _ from x)
 | met f y=>exact Heap.lt_size (show h.get? a=some _ from x)
 | ext φ=>obtain ⟨_,⟨_,e⟩,_⟩:=x;exact Heap.lt_size e
theorem Paired.mapP {α β:Type}{F G:α→β→Prop}:∀ {l₁:List α} {l₂:List β},Paired F l₁ l₂→(∀ a b,F a b→G a b)→Paired G l₁ l₂
 | _,_,.nil,_=>.nil
 | _,_,.cons r t,f=>.cons (f _ _ r) (Paired.mapP t f)
theorem ObjOk.stay (x:ObjOk P w H h a o)(k:∀ b u,(b=a∨H b=some (.own a))→h.get? b=some u→h'.get? b=some u)
   (ho:∀ b,H b=some (.own a)→H' b=some (.own a)) (ht:∀ b xs,H b=some (.tup xs)→H' b=some (.tup xs)):ObjOk P w H' h' a o:=by
 induction o with
 | lst xs=>obtain ⟨z,its,n,r,e⟩:=x;exact ⟨z,its,n,r,k _ _ (.inl rfl) e⟩
 | tup xs=>obtain ⟨z,its,r,ob,e,c⟩:=x;exact ⟨z,its,r,ob,k _ _ (.inl rfl) e,c⟩
 | dK kvs=>obtain ⟨z,y,vs,r,ob,es,ep,e,c⟩:=x;exact ⟨z,y,vs,r,ob,es,ep,k _ _ (.inl rfl) e,c⟩
 | dT kvs =>
   obtain ⟨z,y,xs,r,ob,es,ep,e,c⟩:=x;exact ⟨z,y,xs,Paired.mapP r fun p q z=>⟨z.1,ht _ _ z.2.1,z.2.2⟩,ob,es,ep,k _ _ (.inl rfl) e,c⟩
 | set S n=>obtain ⟨ob,es,ep,t,e,c⟩:=x;exact ⟨ob,es,ep,t,k _ _ (.inl rfl) e,c⟩
 | ins C dx fs =>
   obtain ⟨d,z,ne,e,mA,⟨od,es,ep,e2,c⟩,r⟩:=x;exact ⟨ho _ d,z,ne,k _ _ (.inl rfl) e,mA,⟨od,es,ep,k _ _ (.inr d) e2,c⟩,r⟩
 | own y=>obtain ⟨ob,e⟩:=x;exact ⟨ob,k _ _ (.inl rfl) e⟩
 | xd fs=>obtain ⟨mA,⟨od,es,ep,e,c⟩,r⟩:=x;exact ⟨mA,⟨od,es,ep,k _ _ (.inl rfl) e,c⟩,r⟩
 | rng lo hi=>obtain ⟨t,u,v,e⟩:=x;exact ⟨t,u,v,k _ _ (.inl rfl) e⟩
 | frz ob u ih=>obtain ⟨e,q⟩:=x;exact ⟨k _ _ (.inl rfl) e,ih q⟩
 | tbl ps =>
   have e:h.get? a=some { cls:=.none,data:=.fields ps }:=x;show h'.get? a=some { cls:=.none,data:=.fields ps };exact k a _ (.inl rfl) e
 | met f y =>
   have e:h.get? a=some (PySem.W.methodObj (.ref f) (.ref y)):=x;show h'.get? a=some (PySem.W.methodObj (.ref f) (.ref y));exact k a _ (.inl rfl) e
 | ext φ=>obtain ⟨p,⟨o,e⟩,st⟩:=x;exact ⟨st _ _ p fun o q=>k _ _ (.inl rfl) q,⟨o,k _ _ (.inl rfl) e⟩,st⟩
theorem HOk.lt (x:HOk P w H h)(e:H a=some o):a<h.objs.size:=(x a o e).lt
theorem HOk.fresh (x:HOk P w H h)(e:h.objs.size≤a):H a=none:=by
 cases q:H a with
 | none=>rfl
 | some u=>exact absurd (Nat.lt_of_lt_of_le (x.lt q) e) (Nat.lt_irrefl _)
theorem HOk.kept (x:HOk P w H h)(k:∀ b u,h.get? b=some u→h'.get? b=some u):HOk P w H h':=fun a o e =>
 (x a o e).stay (fun b u _ q=>k b u q) (fun _ q=>q) fun _ _ q=>q
theorem HOk.laid (x:HOk P w H h)(k:∀ b u,h.get? b=some u→h'.get? b=some u)(hp:h.objs.size≤a)(new:ObjOk P w (upd H a o) h' a o):HOk P w (upd H a o) h':=fun b u e=>by
 have hn:=x.fresh hp;by_cases hb:b=a
 · subst hb;rw [Zab] at e;cases e;exact new
 · rw [Zah hb] at e
   exact (x b u e).stay (fun c v _ q=>k c v q) (fun c q=>by rw [Zah (Zan q hn)];exact q) fun c xs q=>by rw [Zah (Zan q hn)];exact q
end
def Rd (H:Hp)(a:Addr)(u:HO):Prop:=H a=some u∨∃ o,H a=some (.frz o u)
theorem Rd.ok {P:Program}{w:World}{H:Hp}{h:Heap}{a:Addr}{u:HO}(r:Rd H a u)(x:HOk P w H h):ObjOk P w H h a u:=by
 rcases r with r | ⟨o,r⟩
 · exact x a u r
 · obtain ⟨_,q⟩:=x a _ r
   exact q
def Mut:Option HO→Prop
 | some (.lst _)=>True
 | some (.dK _)=>True
 | some (.dT _)=>True
 | some (.set _ _)=>True
 | some (.ins _ _ _)=>True
 | some (.ext _)=>True
 | _=>False
section
variable {P:Program}{w:World}{H:Hp}{h h':Heap}{x e:Addr}{o':HO}
theorem HOk.write (ok:HOk P w H h) (mu:Mut (H x)) (he:e=x∨H e=some (.own x)) (k:∀ b u,b≠e→h.get? b=some u→h'.get? b=some u) (heo:∃ u,h'.get? e=some u)
   (new:ObjOk P w (upd H x o') h' x o'):HOk P w (upd H x o') h':=fun b u q=>by
 have nown:∀ c y,H c=some (.own y)→c≠x:=fun c y r z=>by subst z;rw [r] at mu;exact mu
 have ntup:∀ c xs,H c=some (.tup xs)→c≠x:=fun c xs r z=>by subst z;rw [r] at mu;exact mu
 by_cases hb:b=x
 · subst hb;rw [Zab] at q;cases q;exact new
 · rw [Zah hb] at q
   by_cases hbe:b=e
   · have q':H b=some (.own x):=by
       rcases he with z | z
       · exact absurd (hbe.trans z) hb
       · rw [hbe];exact z
     rw [q] at q';cases q';obtain ⟨v,hv⟩:=heo;exact ⟨v,by rw [hbe];exact hv⟩
   · refine (ok b u q).stay (fun c v hc r=>k c v ?_ r) (fun c r=>by rw [Zah (nown c b r)];exact r) fun c xs r=>by rw [Zah (ntup c xs r)];exact r
     rcases hc with rfl | hc
     · exact hbe
     · rintro rfl
       rcases he with z | z
       · exact nown c b hc z
       · rw [hc] at z;cases z;exact hb rfl
end
structure Un (fs ex:List Addr)(H H':Hp)(h h':Heap):Prop where
 keep:∀ b o,h.get? b=some o→H b=none→b∉fs→b∉ex→h'.get? b=some o
 slot:∀ b o,h.get? b=some o→H b=none→b∈fs→b∉ex→∃ sl,h'.get? b=some { o with slots:=sl }
 free:∀ b o,h.get? b=some o→H b=none→b∉ex→H' b=none
 there:∀ b o,h.get? b=some o→b∉ex→∃ o',h'.get? b=some o'
 tups:∀ b xs,H b=some (.tup xs)→H' b=some (.tup xs)
 frzs:∀ b o u,H b=some (.frz o u)→H' b=some (.frz o u)
 tbls:∀ b ps,H b=some (.tbl ps)→∃ more,H' b=some (.tbl (ps++more))
section
variable {fs fs' ex ex':List Addr}{H H1 H2:Hp}{h h1 h2 h':Heap}{a x e:Addr}{o:HO}
theorem Un.any (u:Un fs ex H H1 h h1){b:Addr}{ob:Obj}(q:h.get? b=some ob)(n:H b=none)(hx:b∉ex):∃ sl,h1.get? b=some { ob with slots:=sl }:=by
 by_cases hb:b∈fs
 · exact u.slot b ob q n hb hx
 · exact ⟨ob.slots,u.keep b ob q n hb hx⟩
theorem Un.trans (a:Un fs ex H H1 h h1)(b:Un fs ex H1 H2 h1 h2):Un fs ex H H2 h h2 where
 keep:=fun c ob q n hc hx=>b.keep c ob (a.keep c ob q n hc hx) (a.free c ob q n hx) hc hx
 slot:=fun c ob q n hc hx=>by
   obtain ⟨sl,e1⟩:=a.slot c ob q n hc hx;obtain ⟨sl',e2⟩:=b.slot c _ e1 (a.free c ob q n hx) hc hx;exact ⟨sl',e2⟩
 free:=fun c ob q n hx=>by
   obtain ⟨o',e1⟩:=a.there c ob q hx;exact b.free c o' e1 (a.free c ob q n hx) hx
 there:=fun c ob q hx=>by
   obtain ⟨o',e1⟩:=a.there c ob q hx;exact b.there c o' e1 hx
 tups:=fun c xs q=>b.tups c xs (a.tups c xs q)
 frzs:=fun c ob xs q=>b.frzs c ob xs (a.frzs c ob xs q)
 tbls:=fun c ps q=>by
   obtain ⟨m1,e1⟩:=a.tbls c ps q;obtain ⟨m2,e2⟩:=b.tbls c _ e1;exact ⟨m1++m2,by rw [e2,Array.append_assoc]⟩
theorem Un.kept (k:∀ b u,h.get? b=some u→h'.get? b=some u):Un fs ex H H h h' :=
 ⟨fun b ob q _ _ _=>k b ob q,fun b ob q _ _ _=>⟨ob.slots,k b ob q⟩,fun _ _ _ n _=>n,fun b ob q _=>⟨ob,k b ob q⟩,fun _ _ q=>q,fun _ _ _ q=>q,fun _ ps q=>⟨#[],by rw [q];simp⟩⟩
theorem Un.refl:Un fs ex H H h h:=Un.kept fun _ _ q=>q
theorem Un.laid (k:∀ b u,h.get? b=some u→h'.get? b=some u)(hp:h.objs.size≤a)(hn:H a=none):Un fs ex H (upd H a o) h h' where
 keep:=fun b u q _ _ _=>k b u q
 slot:=fun b u q _ _ _=>⟨u.slots,k b u q⟩
 free:=fun b u q n _=>by rw [Zah (Nat.ne_of_lt (Nat.lt_of_lt_of_le (Heap.lt_size q) hp))];exact n
 there:=fun b u q _=>⟨u,k b u q⟩
 tups:=fun b xs q=>by rw [Zah (Zan q hn)];exact q
 frzs:=fun b u xs q=>by rw [Zah (Zan q hn)];exact q
 tbls:=fun b ps q=>⟨#[],by rw [Zah (Zan q hn),q];simp⟩
theorem Un.write (mu:Mut (H x))(he:e=x∨H e=some (.own x))(k:∀ b u,b≠e→h.get? b=some u→h'.get? b=some u)(heo:∃ u,h'.get? e=some u):Un fs ex H (upd H x o) h h':=by
 have hx:∀ b,H b=none→b≠x:=fun b n z=>by subst z;rw [n] at mu;exact mu
 have hb:∀ b,H b=none→b≠e:=fun b n z=>by
   subst z;rcases he with r | r
   · exact hx b n r
   · rw [n] at r;cases r
 have hm:∀ b u,H b=some u→¬ Mut (some u)→b≠x:=fun b u q nm z=>by subst z;rw [q] at mu;exact nm mu
 refine ⟨fun b u q n _ _=>k b u (hb b n) q,fun b u q n _ _=>⟨u.slots,k b u (hb b n) q⟩,fun b u q n _=>by rw [Zah (hx b n)];exact n,fun b u q _=>?_,
   fun b xs q=>by rw [Zah (hm b _ q fun z=>z)];exact q,fun b u xs q=>by rw [Zah (hm b _ q fun z=>z)];exact q,fun b ps q=>⟨#[],by rw [Zah (hm b _ q fun z=>z),q];simp⟩⟩
 by_cases hbe:b=e
 · subst hbe;exact heo
 · exact ⟨u,k b u hbe q⟩
end
def trk (h:Heap)(H:Hp):List Addr:=(List.range h.objs.size).filter fun a=>(H a).isSome
def hidT (h:Heap)(H:Hp):Heap:=PySem.W.hideAll h (trk h H)
theorem ZfI (h:Heap)(H:Hp):(hidT h H).objs.size=h.objs.size:=PySem.W.hideAll_size _ _
theorem Zho {h:Heap}{H:Hp}{b:Addr}{o:Obj}(e:h.get? b=some o)(n:H b=none):(hidT h H).get? b=some o :=
 PySem.W.hideAll_get _ e fun hm=>by
   have q:(H b).isSome=true:=(List.mem_filter.mp hm).2;rw [n] at q;simp at q
theorem ZiA {h:Heap}{H:Hp}{b:Addr}{o:Obj}(e:(hidT h H).get? b=some o):h.get? b=some o∧H b=none:=by
 have e':h.get? b=some o:=PySem.W.of_hideAll (trk h H) e;refine ⟨e',?_⟩;cases q:H b with
 | none=>rfl
 | some x =>
   have hm:b∈trk h H:=List.mem_filter.mpr ⟨List.mem_range.mpr (Heap.lt_size e'),by simp [q]⟩;have z:(hidT h H).get? b=none:=PySem.W.hideAll_none (trk h H) hm;rw [z] at e;cases e
def allNews (g h:Heap)(L:Addr):List (Addr × Obj):=(List.range h.objs.size).filterMap fun a=>if a=L∨(g.get? a).isSome=true then none else (h.get? a).map fun o=>(a,o)
def rest (g h:Heap)(L d:Addr):List (Addr × Obj):=(allNews g h L).filter fun p=>decide (p.1≠d)
structure Mod (K:PySem.W.Frag)(mg:Str→Option Value)(base:Heap):Prop where
 kin:K.In base
 glob:base.Ns mainGlobals mg
 blt:∃ mb,base.Ns builtinsNs mb∧∀ x:Str,x≠"__name__"→mb x=bootBuiltins x
 nolimit:base.NoLimit
structure Cx where
 prog:Program
 w:World
 K:PySem.W.Frag
 mg:Str→Option Value
 base:Heap
 A:Around
 N:List Str
 s₀:Shared
 H₀:Hp
 env:Env
 outer:List Env
 stack:List Env
 ex:List Addr
 fn:Str→Bool
 calm:Bool
 pn:List (Addr × Obj)
 xe:Value→Shared→Prop
def frs (l:List Env):List Addr:=l.filterMap (·.frame)
abbrev Cx.fs (X:Cx):List Addr:=frs X.outer
def Vis (sc:Scope)(x:Str):Prop:=sc.names.lookup x=some .local∨sc.names.lookup x=some .cell∨sc.names.lookup x=some .free
def Loc (sc:Scope)(x:Str):Prop:=sc.names.lookup x=some .local∨sc.names.lookup x=some .cell
def Look (env:Env)(h:Heap)(m:Str→Option Value)(x:Str)(u:Value):Prop :=
 (env.kindOf x=some .local∧m x=some u)∨((env.kindOf x=some .cell∨env.kindOf x=some .free)∧∃ c,env.cells.lookup x=some c∧h.IsCell c (some u))
structure Cx.Ok (X:Cx):Prop where
 mod:Mod X.K X.mg X.base
 kind:X.env.scope.kind=.function
 glob:X.env.globals=mainGlobals
 blt:X.env.builtins=builtinsNs
 above:X.s₀.heap.objs.size≤X.env.locals
 inj:∀ x y c,X.env.cells.lookup x=some c→X.env.cells.lookup y=some c→x=y
 has:∀ x,(X.env.kindOf x=some .cell∨X.env.kindOf x=some .free)→∃ c,X.env.cells.lookup x=some c
 cab:∀ x c,X.fn x=true→X.env.cells.lookup x=some c→X.s₀.heap.objs.size≤c
 hd:X.calm=true→X.A.handled=none
 frames:X.A.frames=some X.stack
 stk:X.stack=X.outer∨(X.stack=X.env::X.outer∧X.env.frame=some X.env.locals)
 exf:∀ b∈X.ex,b≠X.env.locals∧∀ x c,X.env.cells.lookup x=some c→c≠b
 bs:∀ b o,X.base.get? b=some o→X.s₀.heap.get? b=some o∧X.H₀ b=none
 bsz:X.base.objs.size≤X.s₀.heap.objs.size
 noex:∀ b o,X.base.get? b=some o→b∉X.ex
 exfs:∀ b∈X.ex,b∉X.fs
 funs:X.s₀.heap.FunFrames X.base X.outer
 frf:∀ b∈X.fs,X.H₀ b=none
structure Inv (X:Cx)(pins:List (Addr × Obj))(σ:List (Option V))(H:Hp)(s:Shared):Prop where
 ok:X.Ok
 os:s.os=X.s₀.os
 bare:AllBare s.gens
 base:Un X.fs X.ex X.H₀ H X.s₀.heap s.heap
 loc:∃ m,s.heap.Ns X.env.locals m∧∀ (i:Nat) (x:Str) (v:V),X.N[i]?=some x→σ[i]?=some (some v)→Vis X.env.scope x→∃ u,RelV v u∧Look X.env s.heap m x u
 cell:∀ x c,X.env.cells.lookup x=some c→∃ v,s.heap.IsCell c v
 free:H X.env.locals=none
 freeC:∀ x c,X.env.cells.lookup x=some c→H c=none
 pin:∀ p∈X.pn++pins,s.heap.get? p.1=some p.2∧H p.1=none∧p.1≠X.env.locals∧p.1∉X.fs∧∀ v,p.2.data≠.cell v
 hok:HOk X.prog X.w H s.heap
 len:σ.length=X.N.length
section
variable {X:Cx}{pins:List (Addr × Obj)}{σ:List (Option V)}{H H':Hp}{s:Shared}{h':Heap}
theorem Cx.Ok.nofr (ok:X.Ok){b:Addr}{o:Obj}(e:X.base.get? b=some o):b∉X.fs:=fun hb=>by
 have:=(ok.funs.mem hb).1;rw [e] at this;cases this
theorem Inv.bs (I:Inv X pins σ H s):∀ b o,X.base.get? b=some o→s.heap.get? b=some o∧H b=none:=fun b o e =>
 ⟨I.base.keep b o (I.ok.bs b o e).1 (I.ok.bs b o e).2 (I.ok.nofr e) (I.ok.noex b o e),I.base.free b o (I.ok.bs b o e).1 (I.ok.bs b o e).2 (I.ok.noex b o e)⟩
theorem Inv.bk (I:Inv X pins σ H s):∀ b o,X.base.get? b=some o→s.heap.get? b=some o:=fun b o e=>(I.bs b o e).1
theorem Inv.mod (I:Inv X pins σ H s):Mod X.K X.mg X.base:=I.ok.mod
theorem Inv.kIn (I:Inv X pins σ H s):X.K.In s.heap:=I.ok.mod.kin.keeps I.bk
theorem Inv.lt (I:Inv X pins σ H s):X.env.locals<s.heap.objs.size:=let ⟨_,hn,_⟩:=I.loc;hn.lt
theorem Inv.sz (I:Inv X pins σ H s):X.s₀.heap.objs.size≤s.heap.objs.size:=Nat.le_trans I.ok.above (Nat.le_of_lt I.lt)
theorem Inv.nofs (I:Inv X pins σ H s){a:Addr}(h:s.heap.objs.size≤a):a∉X.fs:=fun hb=>by
 obtain ⟨_,o,ho,_⟩:=I.ok.funs.mem hb;exact absurd (Nat.lt_of_lt_of_le (Heap.lt_size ho) (Nat.le_trans I.sz h)) (Nat.lt_irrefl _)
theorem Inv.cne (I:Inv X pins σ H s):∀ x c,X.env.cells.lookup x=some c→c≠X.env.locals:=fun x c e z=>by
 obtain ⟨v,o,ho,hd⟩:=I.cell x c e;obtain ⟨m,⟨o',es,ep,ho',hd',_⟩,_⟩:=I.loc;rw [z,ho'] at ho;cases ho;rw [hd'] at hd;cases hd
theorem Inv.funs (I:Inv X pins σ H s):s.heap.FunFrames X.base X.outer:=by
 have all:∀ (l:List Env),(∀ b∈frs l,b∈X.fs)→X.s₀.heap.FunFrames X.base l→s.heap.FunFrames X.base l:=by
   intro l;induction l with
   | nil=>intro _ _;trivial
   | cons env r ih =>
     intro hs hl;obtain ⟨hk,⟨L,o,hf,hn,ho,hd⟩,hr⟩:=hl;have hL:L∈X.fs:=hs L (by unfold frs;rw [List.filterMap_cons,hf];exact List.mem_cons_self);obtain ⟨sl,e⟩:=I.base.slot L o ho (I.ok.frf L hL) hL fun z=>I.ok.exfs L z hL
     exact ⟨hk,⟨L,_,hf,hn,e,hd⟩,ih (fun b hb=>hs b (by unfold frs;rw [List.filterMap_cons,hf];exact List.mem_cons_of_mem _ hb)) hr⟩
 exact all X.outer (fun _ hb=>hb) I.ok.funs
theorem Inv.stack (I:Inv X pins σ H s):s.heap.FunFrames X.base X.stack:=by
 rcases I.ok.stk with e | ⟨e,hf⟩
 · rw [e];exact I.funs
 · rw [e]
   obtain ⟨m,hn,_⟩:=I.loc;refine .cons (by rw [I.ok.kind];decide) hf hn ?_ I.funs;exact Heap.get?_none_of_le (Nat.le_trans I.ok.bsz I.ok.above)
theorem Inv.stkSub (I:Inv X pins σ H s):∀ b∈frs X.stack,b∈X.env.locals::X.fs:=fun b hb=>by
 rcases I.ok.stk with e | ⟨e,hf⟩
 · rw [e] at hb;exact List.mem_cons_of_mem _ hb
 · rw [e] at hb
   unfold frs at hb;rw [List.filterMap_cons,hf] at hb;exact hb
theorem Inv.stkFree (I:Inv X pins σ H s):∀ b∈frs X.stack,H b=none:=fun b hb=>by
 rcases List.mem_cons.mp (I.stkSub b hb) with e | hb
 · rw [e];exact I.free
 · obtain ⟨_,o,ho,_⟩:=I.ok.funs.mem hb
   exact I.base.free b o ho (I.ok.frf b hb) fun z=>I.ok.exfs b z hb
theorem Inv.step {g':Array GenState}{t':Nat}{d':Drawn}{ch:List Addr}(I:Inv X pins σ H s)
   (hch:∀ b∈ch,(b∈X.ex∨X.s₀.heap.objs.size≤b)∧b≠X.env.locals∧(∀ x c,X.env.cells.lookup x=some c→c≠b)∧∀ p∈X.pn++pins,p.1≠b)
   (keep:∀ b o,b≠X.env.locals→b∉X.fs→b∉ch→s.heap.get? b=some o→H b=none→h'.get? b=some o)
   (slot:∀ b o,b≠X.env.locals→b∈X.fs→b∉ch→s.heap.get? b=some o→H b=none→∃ sl,h'.get? b=some { o with slots:=sl }) (free:∀ b o,b∉ch→s.heap.get? b=some o→H b=none→H' b=none)
   (there:∀ b o,b∉ch→s.heap.get? b=some o→∃ o',h'.get? b=some o')
   (tups:∀ b xs,H b=some (.tup xs)→H' b=some (.tup xs)) (frzs:∀ b o u,H b=some (.frz o u)→H' b=some (.frz o u)) (tbls:∀ b ps,H b=some (.tbl ps)→∃ more,H' b=some (.tbl (ps++more)))
   (ns:∀ m,s.heap.Ns X.env.locals m→h'.Ns X.env.locals m) (hok:HOk X.prog X.w H' h') (hg:AllBare g') :
   Inv X pins σ H' { s with heap:=h',gens:=g',drawn:=d',toks:=t' }:=by
 have neL:∀ b o,X.s₀.heap.get? b=some o→b≠X.env.locals:=fun b o e=>Nat.ne_of_lt (Nat.lt_of_lt_of_le (Heap.lt_size e) I.ok.above)
 have neC:∀ b o,X.s₀.heap.get? b=some o→b∉X.ex→b∉ch:=fun b o e hx hb=>by
   rcases (hch b hb).1 with z | z
   · exact hx z
   · exact absurd (Nat.lt_of_lt_of_le (Heap.lt_size e) z) (Nat.lt_irrefl _)
 have cellK:∀ x c,X.env.cells.lookup x=some c→∀ v,s.heap.IsCell c v→h'.IsCell c v:=fun x c e v ⟨o,ho,hd⟩=>by
   have nch:c∉ch:=fun z=>(hch c z).2.2.1 x c e rfl
   by_cases hc:c∈X.fs
   · obtain ⟨sl,q⟩:=slot c o (I.cne x c e) hc nch ho (I.freeC x c e)
     exact ⟨_,q,hd⟩
   · exact ⟨o,keep c o (I.cne x c e) hc nch ho (I.freeC x c e),hd⟩
 refine ⟨I.ok,I.os,hg,⟨fun b o e n hb hx=>?_,fun b o e n hb hx=>?_,fun b o e n hx=>?_,fun b o e hx=>?_,fun b xs e=>tups b xs (I.base.tups b xs e),fun b o xs e=>frzs b o xs (I.base.frzs b o xs e),fun b ps e=>?_⟩,?_,fun x c e=>?_,?_,fun x c e=>?_,fun p hp=>?_,hok,I.len⟩
 · exact keep b o (neL b o e) hb (neC b o e hx) (I.base.keep b o e n hb hx) (I.base.free b o e n hx)
 · obtain ⟨sl,e1⟩:=I.base.slot b o e n hb hx
   obtain ⟨sl',e2⟩:=slot b _ (neL b o e) hb (neC b o e hx) e1 (I.base.free b o e n hx);exact ⟨sl',e2⟩
 · obtain ⟨o',e1⟩:=I.base.there b o e hx
   exact free b o' (neC b o e hx) e1 (I.base.free b o e n hx)
 · obtain ⟨o',e1⟩:=I.base.there b o e hx
   exact there b o' (neC b o e hx) e1
 · obtain ⟨m1,e1⟩:=I.base.tbls b ps e
   obtain ⟨m2,e2⟩:=tbls b _ e1;exact ⟨m1++m2,by rw [e2,Array.append_assoc]⟩
 · obtain ⟨m,hn,hl⟩:=I.loc
   refine ⟨m,ns m hn,fun i x v e1 e2 e3=>?_⟩;obtain ⟨u,r,l⟩:=hl i x v e1 e2 e3;refine ⟨u,r,?_⟩;rcases l with l | ⟨k,c,e,z⟩
   · exact .inl l
   · exact .inr ⟨k,c,e,cellK x c e _ z⟩
 · obtain ⟨v,z⟩:=I.cell x c e
   exact ⟨v,cellK x c e v z⟩
 · obtain ⟨m,⟨o,_,_,ho,_⟩,_⟩:=I.loc
   exact free _ o (fun z=>(hch _ z).2.1 rfl) ho I.free
 · obtain ⟨v,o,ho,hd⟩:=I.cell x c e
   exact free c o (fun z=>(hch c z).2.2.1 x c e rfl) ho (I.freeC x c e)
 · obtain ⟨e,n,ne,nf,d⟩:=I.pin p hp
   have nch:p.1∉ch:=fun z=>(hch p.1 z).2.2.2 p hp rfl
   exact ⟨keep p.1 p.2 ne nf nch e n,free p.1 p.2 nch e n,ne,nf,d⟩
theorem Inv.un {t':Nat}(I:Inv X pins σ H s)(u:Un X.fs [] H H' s.heap h')(hok:HOk X.prog X.w H' h'):Inv X pins σ H' { s with heap:=h',toks:=t' }:=by
 obtain ⟨m,⟨o,es,ep,ho,r⟩,_⟩:=id I.loc;obtain ⟨sl,hL⟩:=u.any ho I.free (by simp);exact I.step (g':=s.gens) (d':=s.drawn) (ch:=[]) (fun _ z=>nomatch z) (fun b o _ hb _ e n=>u.keep b o e n hb (by simp)) (fun b o _ hb _ e n=>u.slot b o e n hb (by simp)) (fun b o _ e n=>u.free b o e n (by simp)) (fun b o _ e=>u.there b o e (by simp)) u.tups u.frzs u.tbls (fun m' hm=>by
   obtain ⟨o',es',ep',ho',r'⟩:=hm;rw [ho] at ho';cases ho';exact ⟨_,es',ep',hL,r'⟩) hok I.bare
theorem Inv.call {g':Array GenState}{t':Nat}{d':Drawn}{ch:List Addr}(I:Inv X pins σ H s)(u:Un (frs X.stack) ch H H' s.heap h')(hok:HOk X.prog X.w H' h')(hg:AllBare g')
   (hch:∀ b∈ch,(b∈X.ex∨X.s₀.heap.objs.size≤b)∧b≠X.env.locals∧(∀ x c,X.env.cells.lookup x=some c→c≠b)∧∀ p∈X.pn++pins,p.1≠b) :
   Inv X pins σ H' { s with heap:=h',gens:=g',drawn:=d',toks:=t' }:=by
 obtain ⟨m,⟨o,es,ep,ho,r⟩,_⟩:=id I.loc;obtain ⟨sl,hL⟩:=u.any ho I.free fun z=>(hch _ z).2.1 rfl
 exact I.step (ch:=ch) hch (fun b o hL hb hc e n=>u.keep b o e n (fun z=>(List.mem_cons.mp (I.stkSub b z)).elim hL hb) hc) (fun b o _ _ hc e n=>u.any e n hc) (fun b o hc e n=>u.free b o e n hc) (fun b o hc e=>u.there b o e hc) u.tups u.frzs u.tbls (fun m' hm=>by
   obtain ⟨o',es',ep',ho',r'⟩:=hm;rw [ho] at ho';cases ho';exact ⟨_,es',ep',hL,r'⟩) hok hg
theorem Inv.turned {t':Nat}{it:Addr}(I:Inv X pins σ H s)(k:∀ b o,b≠it→s.heap.get? b=some o→h'.get? b=some o)(hn:H it=none)(hL:it≠X.env.locals)
   (h1:it∈X.ex∨X.s₀.heap.objs.size≤it) (h2:∀ x c,X.env.cells.lookup x=some c→c≠it) (h3:∀ p∈X.pn++pins,p.1≠it):Inv X pins σ H { s with heap:=h',toks:=t' }:=by
 have nit:∀ b u,H b=some u→b≠it:=fun b u e z=>by rw [z,hn] at e;cases e
 refine I.step (g':=s.gens) (d':=s.drawn) (ch:=[it]) (fun b hb=>?_) (fun b o _ _ hc e _=>k b o (fun z=>hc (by simp [z])) e) (fun b o _ _ hc e _=>⟨o.slots,k b o (fun z=>hc (by simp [z])) e⟩) (fun _ _ _ _ n=>n)
   (fun b o hc e=>⟨o,k b o (fun z=>hc (by simp [z])) e⟩) (fun _ _ e=>e) (fun _ _ _ e=>e) (fun b ps e=>⟨#[],by rw [e];simp⟩) (fun m hm=>?_) (fun b u e=>?_) I.bare
 · have e:b=it:=by simpa using hb
   subst e;exact ⟨h1,hL,h2,h3⟩
 · obtain ⟨o,es,ep,ho,r⟩:=hm
   exact ⟨o,es,ep,k _ o (Ne.symm hL) ho,r⟩
 · refine (I.hok b u e).stay (fun c v hc q=>k c v ?_ q) (fun _ q=>q) fun _ _ q=>q
   rcases hc with z | z
   · rw [z];exact nit b u e
   · exact nit c _ z
theorem Inv.tok (I:Inv X pins σ H s)(t:Nat):Inv X pins σ H { s with toks:=t }:=I.un (h':=s.heap) (t':=t) Un.refl I.hok
theorem Inv.kept {t':Nat}(I:Inv X pins σ H s)(k:∀ b u,s.heap.get? b=some u→h'.get? b=some u):Inv X pins σ H { s with heap:=h',toks:=t' }:=I.un (Un.kept k) (I.hok.kept k)
theorem Inv.laid {a:Addr}{o:HO}{t':Nat}(I:Inv X pins σ H s)(k:∀ b u,s.heap.get? b=some u→h'.get? b=some u)(hp:s.heap.objs.size≤a)(new:ObjOk X.prog X.w (upd H a o) h' a o) :
   Inv X pins σ (upd H a o) { s with heap:=h',toks:=t' }:=I.un (Un.laid k hp (I.hok.fresh hp)) (I.hok.laid k hp new)
theorem Inv.write {x e:Addr}{o:HO}{t':Nat}(I:Inv X pins σ H s)(mu:Mut (H x))(he:e=x∨H e=some (.own x))(k:∀ b u,b≠e→s.heap.get? b=some u→h'.get? b=some u)(heo:∃ u,h'.get? e=some u)
   (new:ObjOk X.prog X.w (upd H x o) h' x o):Inv X pins σ (upd H x o) { s with heap:=h',toks:=t' }:=I.un (Un.write mu he k heo) (I.hok.write mu he k heo new)
theorem Inv.weak {σ':List (Option V)}(I:Inv X pins σ H s)(hl:σ'.length=σ.length)(w:∀ (i:Nat) v,σ'[i]?=some (some v)→σ[i]?=some (some v)):Inv X pins σ' H s :=
 ⟨I.ok,I.os,I.bare,I.base,let ⟨m,hn,hl'⟩:=I.loc;⟨m,hn,fun i x v e1 e2 e3=>hl' i x v e1 (w i v e2) e3⟩,I.cell,I.free,I.freeC,I.pin,I.hok,hl.trans I.len⟩
theorem Inv.pins_of {pins':List (Addr × Obj)}(I:Inv X pins σ H s)(h:∀ p∈pins',s.heap.get? p.1=some p.2∧H p.1=none∧p.1≠X.env.locals∧p.1∉X.fs∧∀ v,p.2.data≠.cell v):Inv X pins' σ H s :=
 ⟨I.ok,I.os,I.bare,I.base,I.loc,I.cell,I.free,I.freeC,fun p hp=>(List.mem_append.mp hp).elim (fun z=>I.pin p (List.mem_append_left _ z)) (h p),I.hok,I.len⟩
theorem Zex {N:List Str}(hN:N.Nodup){i j:Nat}{x:Str}(a:N[i]?=some x)(b:N[j]?=some x):i=j:=by obtain ⟨h1,e1⟩:=List.getElem?_eq_some_iff.mp a;obtain ⟨h2,e2⟩:=List.getElem?_eq_some_iff.mp b;exact (List.getElem_inj hN).mp (e1.trans e2.symm)
theorem Zjj {M:Model} {A:Around} {E:Value→Shared→Prop} {i:Nat} {x:Str} {v:V} {u:Value} {Q:Unit→Shared→Prop} (I:Inv X pins σ H s) (hN:X.N.Nodup) (hi:X.N[i]?=some x) (hx:Loc X.env.scope x) (r:RelV v u)
   (h:∀ s',Inv X pins (σ.set i (some v)) H s'→(∃ a,Heap.SameBut a s.heap s'.heap∧(a=X.env.locals∨X.env.cells.lookup x=some a))→Q () s') (hf:X.fn x=true∨X.env.scope.names.lookup x=some .local:=by first | exact .inl rfl | exact .inr rfl | assumption):wpAny M A (storeName X.env x u) Q E s:=by
 obtain ⟨m,hn,hl⟩:=id I.loc;have hcls:(X.env.scope.kind==.class||(X.env.scope.kind==.module&&X.env.locals != X.env.globals))=false:=by rw [I.ok.kind];rfl
 have hiσ:i<σ.length:=by rw [I.len];exact (List.getElem?_eq_some_iff.mp hi).1
 have cne:=I.cne;have tracked:∀ {a:Addr} {h':Heap},(∃ o,s.heap.get? a=some o∧H a=none)→Heap.SameBut a s.heap h'→HOk X.prog X.w H h':=fun {a h'} ha hs b ob e=>by
   obtain ⟨_,_,hfree⟩:=ha;refine (I.hok b ob e).stay (fun c w' hc q=>(hs.2 c ?_).trans q) (fun _ q=>q) fun _ _ q=>q
   rintro rfl;rcases hc with rfl | hc
   · rw [hfree] at e;cases e
   · rw [hfree] at hc;cases hc
 rcases hx with hk | hk
 · refine wpAny_storeName_local hk hn (fun h' hn' hs=>?_) hcls
   obtain ⟨oL,_,_,hoL,_⟩:=id hn;refine h _ ⟨I.ok,I.os,I.bare,⟨fun b o e n hb hx=>?_,fun b o e n hb hx=>?_,I.base.free,fun b o e hx=>?_,I.base.tups,I.base.frzs,I.base.tbls⟩,⟨_,hn',fun j y v' e1 e2 e3=>?_⟩,fun y c e=>?_,I.free,I.freeC,fun p hp=>?_,tracked ⟨oL,hoL,I.free⟩ hs,by simpa using I.len⟩ ⟨_,hs,.inl rfl⟩
   · exact (hs.2 b (Nat.ne_of_lt (Nat.lt_of_lt_of_le (Heap.lt_size e) I.ok.above))).trans (I.base.keep b o e n hb hx)
   · obtain ⟨sl,e1⟩:=I.base.slot b o e n hb hx
     exact ⟨sl,(hs.2 b (Nat.ne_of_lt (Nat.lt_of_lt_of_le (Heap.lt_size e) I.ok.above))).trans e1⟩
   · obtain ⟨o',e1⟩:=I.base.there b o e hx
     exact ⟨o',(hs.2 b (Nat.ne_of_lt (Nat.lt_of_lt_of_le (Heap.lt_size e) I.ok.above))).trans e1⟩
   · by_cases hj:j=i
     · subst hj
       rw [hi] at e1;cases e1;rw [List.getElem?_set_self hiσ] at e2;cases e2;exact ⟨u,r,.inl ⟨hk,by simp⟩⟩
     · rw [List.getElem?_set_ne (Ne.symm hj)] at e2
       obtain ⟨u',r',q⟩:=hl j y v' e1 e2 e3;refine ⟨u',r',?_⟩;rcases q with ⟨k,e⟩ | ⟨k,c,e,z⟩
       · refine .inl ⟨k,?_⟩
         have:y≠x:=fun e=>hj (Zex hN e1 (e ▸ hi))
         simp [this,e]
       · exact .inr ⟨k,c,e,z.sameBut hs (cne y c e)⟩
   · obtain ⟨w',z⟩:=I.cell y c e
     exact ⟨w',z.sameBut hs (cne y c e)⟩
   · obtain ⟨e,n,ne,nf,d⟩:=I.pin p hp
     exact ⟨(hs.2 p.1 ne).trans e,n,ne,nf,d⟩
 · have hfn:X.fn x=true:=by
     rcases hf with z | z
     · exact z
     · rw [z] at hk;cases hk
   obtain ⟨c,hc⟩:=I.ok.has x (.inl hk);obtain ⟨w',z⟩:=I.cell x c hc;refine wpAny_storeName_cell I.ok.kind hk hc z (fun h' hc' hs=>?_);obtain ⟨oc,hoc,hocd⟩:=id z;refine h { s with heap:=h' } ⟨I.ok,I.os,I.bare,⟨fun b o e n hb hx=>?_,fun b o e n hb hx=>?_,I.base.free,fun b o e hx=>?_,I.base.tups,I.base.frzs,I.base.tbls⟩,⟨m,hn.sameBut hs (Ne.symm (cne x c hc)),fun j y v' e1 e2 e3=>?_⟩,fun y c' e=>?_,I.free,I.freeC,fun p hp=>?_,tracked ⟨oc,hoc,I.freeC x c hc⟩ hs,by simpa using I.len⟩ ⟨c,hs,.inr hc⟩
   · exact (hs.2 b (Nat.ne_of_lt (Nat.lt_of_lt_of_le (Heap.lt_size e) (I.ok.cab x c hfn hc)))).trans (I.base.keep b o e n hb hx)
   · obtain ⟨sl,e1⟩:=I.base.slot b o e n hb hx
     exact ⟨sl,(hs.2 b (Nat.ne_of_lt (Nat.lt_of_lt_of_le (Heap.lt_size e) (I.ok.cab x c hfn hc)))).trans e1⟩
   · obtain ⟨o',e1⟩:=I.base.there b o e hx
     exact ⟨o',(hs.2 b (Nat.ne_of_lt (Nat.lt_of_lt_of_le (Heap.lt_size e) (I.ok.cab x c hfn hc)))).trans e1⟩
   · by_cases hj:j=i
     · subst hj
       rw [hi] at e1;cases e1;rw [List.getElem?_set_self hiσ] at e2;cases e2;exact ⟨u,r,.inr ⟨.inl hk,c,hc,hc'⟩⟩
     · rw [List.getElem?_set_ne (Ne.symm hj)] at e2
       obtain ⟨u',r',q⟩:=hl j y v' e1 e2 e3;refine ⟨u',r',?_⟩;rcases q with q | ⟨k,c',e,z'⟩
       · exact .inl q
       · refine .inr ⟨k,c',e,z'.sameBut hs ?_⟩
         rintro rfl;exact hj (Zex hN e1 (I.ok.inj _ _ _ e hc ▸ hi))
   · by_cases hcc:c'=c
     · subst hcc;exact ⟨_,hc'⟩
     · obtain ⟨w2,z2⟩:=I.cell y c' e
       exact ⟨w2,z2.sameBut hs hcc⟩
   · obtain ⟨e,n,ne,nf,d⟩:=I.pin p hp
     refine ⟨(hs.2 p.1 ?_).trans e,n,ne,nf,d⟩;intro q;rw [q,hoc] at e;have q':oc=p.2:=Option.some.inj e;exact d w' (by rw [← q'];exact hocd)
theorem ZeQ {M:Model}{A:Around}{E:Value→Shared→Prop}{i:Nat}{x:Str}{v:V}{u:Value}{Q:Unit→Shared→Prop}(I:Inv X pins σ H s)(hN:X.N.Nodup)(hi:X.N[i]?=some x)(hx:Loc X.env.scope x)(r:RelV v u)
   (h:∀ s',Inv X pins (σ.set i (some v)) H s'→Q () s') (hf:X.fn x=true∨X.env.scope.names.lookup x=some .local:=by first | exact .inl rfl | exact .inr rfl | assumption):wpAny M A (storeName X.env x u) Q E s :=
 Zjj I hN hi hx r (fun s' I' _=>h s' I') hf
theorem Inv.call' {s':Shared}{ch:List Addr}(I:Inv X pins σ H s)(ho:s'.os=s.os)(u:Un (frs X.stack) ch H H' s.heap s'.heap)(hok:HOk X.prog X.w H' s'.heap)(hg:AllBare s'.gens)
   (hch:∀ b∈ch,(b∈X.ex∨X.s₀.heap.objs.size≤b)∧b≠X.env.locals∧(∀ x c,X.env.cells.lookup x=some c→c≠b)∧∀ p∈X.pn++pins,p.1≠b):Inv X pins σ H' s':=by
 obtain ⟨h',g',d',t',o'⟩:=s';have e:o'=s.os:=ho;subst e;exact I.call (g':=g') (t':=t') (d':=d') u hok hg hch
end
abbrev XK:=Value→Option Addr→Hp→Prop
abbrev St:=List (Option V)
abbrev VK:=V→Hp→Prop
abbrev TE:=St→Hp→VK→Prop
abbrev TT:=St→Hp→(Bool→Hp→Prop)→Prop
abbrev TA:=St→Hp→(List V→Hp→Prop)→Prop
structure Ends where
 nx:St→Hp→Prop
 rt:VK
 bk:St→Hp→Prop:=fun _ _=>False
 ct:St→Hp→Prop:=fun _ _=>False
abbrev TS:=Ends→St→Hp→Prop
def EP (X:Cx)(pins:List (Addr × Obj))(σ:St)(Q:VK)(u:Value)(s':Shared):Prop:=∃ v H',Inv X pins σ H' s'∧RelV v u∧Q v H'
def TP (X:Cx)(pins:List (Addr × Obj))(σ:St)(Q:Bool→Hp→Prop)(b:Bool)(s':Shared):Prop:=∃ H',Inv X pins σ H' s'∧Q b H'
def AP (X:Cx)(pins:List (Addr × Obj))(σ:St)(Q:List V→Hp→Prop)(us:List Value)(s':Shared):Prop:=∃ vs H',Inv X pins σ H' s'∧Vals vs us∧Q vs H'
def SP (X:Cx)(pins:List (Addr × Obj))(D:Ends)(f:Flow)(s':Shared):Prop :=
 match f with
 | .next=>∃ σ' H',Inv X pins σ' H' s'∧D.nx σ' H'
 | .brk=>∃ σ' H',Inv X pins σ' H' s'∧D.bk σ' H'
 | .cont=>∃ σ' H',Inv X pins σ' H' s'∧D.ct σ' H'
 | .ret u=>∃ v σ' H',Inv X pins σ' H' s'∧RelV v u∧D.rt v H'
def PE (X:Cx)(e:Expr)(t:TE):Prop :=
 ∀ (pins:List (Addr × Obj)) (s:Shared) (σ:St) (H:Hp) (Q:VK),Inv X pins σ H s→t σ H Q→wpAny (model X.prog X.w) X.A (eval e X.env) (EP X pins σ Q) X.xe s
def PT (X:Cx)(e:Expr)(t:TT):Prop :=
 ∀ (pins:List (Addr × Obj)) (s:Shared) (σ:St) (H:Hp) (Q:Bool→Hp→Prop),Inv X pins σ H s→t σ H Q→wpAny (model X.prog X.w) X.A (isTrue e X.env (eval e X.env)) (TP X pins σ Q) X.xe s
def PW (X:Cx)(e:Expr)(t:TT):Prop :=
 ∀ (whole:Sem Value) (pins:List (Addr × Obj)) (s:Shared) (σ:St) (H:Hp) (Q:Bool→Hp→Prop),Inv X pins σ H s→t σ H Q→wpAny (model X.prog X.w) X.A (isTrue e X.env whole) (TP X pins σ Q) X.xe s
theorem PW.pt {X:Cx}{e:Expr}{t:TT}(h:PW X e t):PT X e t:=h _
def PA (X:Cx)(es:List Expr)(t:TA):Prop :=
 ∀ (pos:Pos) (pins:List (Addr × Obj)) (s:Shared) (σ:St) (H:Hp) (Q:List V→Hp→Prop),Inv X pins σ H s→t σ H Q→wpAny (model X.prog X.w) X.A (spliced (backTo pos (starEach es X.env))) (AP X pins σ Q) X.xe s
def PS (X:Cx)(st:Stmt)(t:TS):Prop :=
 ∀ (pins:List (Addr × Obj)) (s:Shared) (σ:St) (H:Hp) (D:Ends),Inv X pins σ H s→t D σ H→wpAny (model X.prog X.w) X.A (exec st X.env) (SP X pins D) X.xe s
def PSs (X:Cx)(st:List Stmt)(t:TS):Prop :=
 ∀ (pins:List (Addr × Obj)) (s:Shared) (σ:St) (H:Hp) (D:Ends),Inv X pins σ H s→t D σ H→wpAny (model X.prog X.w) X.A (execs st X.env) (SP X pins D) X.xe s
theorem thn {α:Type}{t:Sem α}{Q Q':α→Shared→Prop}{M:Model}{A:Around}{E:Value→Shared→Prop}{s:Shared}(h:wpAny M A t Q E s)(hQ:∀ a s,Q a s→Q' a s):wpAny M A t Q' E s:=wpAny_mono h hQ fun _ _ x=>x
section
variable {X:Cx}
def tVar (i:Nat):TE:=fun σ H Q=>∃ v,σ[i]?=some (some v)∧Q v H
def tC (v:V):TE:=fun _ H Q=>Q v H
theorem pe_var {i:Nat}{x:Str}{pos:Pos}(hN:X.N[i]?=some x)(hv:Vis X.env.scope x)(hd:(x==("__debug__":Str))=false:=by decide)(hcd:(x==("__classdict__":Str))=false:=by decide):PE X (.Name x pos) (tVar i):=by
 intro pins s σ H Q I h;obtain ⟨v,e,h⟩:=h;obtain ⟨m,hn,hl⟩:=I.loc;obtain ⟨u,r,l⟩:=hl i x v hN e hv;have fin:EP X pins σ Q u s:=⟨v,H,I,r,h⟩
 rcases l with ⟨hk,hm⟩ | ⟨hk,c,hc,hcell⟩
 · exact wpAny_Name (wpAny_loadName_local I.ok.kind hk hn hm fin) hd
 · rcases hk with hk | hk
   · exact wpAny_Name (wpAny_loadName_cell I.ok.kind hk hc hcell fin) hd
   · exact wpAny_Name (wpAny_loadName_free I.ok.kind hk hc hcell fin hcd) hd
theorem Zag {i j pos}:PE X (.Constant (.int i) j pos) (tC (.int i)):=fun _ _ _ H _ I h=>wpAny_Constant_int ⟨.int i,H,I.tok _,⟨_,rfl⟩,h⟩
theorem Za1 {b j pos}:PE X (.Constant (.bool b) j pos) (tC (.bl b)):=fun _ _ _ H _ I h=>Constant_bool ⟨.bl b,H,I,rfl,h⟩
theorem ZaU {j pos}:PE X (.Constant .none j pos) (tC .non):=fun _ _ _ H _ I h=>Constant_none ⟨.non,H,I,rfl,h⟩
theorem ZhL {x j pos}:PE X (.Constant (.str x) j pos) (tC (.str x)):=fun _ _ _ H _ I h=>Calls.Constant_str ⟨.str x,H,I.tok _,⟨_,rfl⟩,h⟩
def Gl (X:Cx)(x:Str):Prop:=X.env.kindOf x=some .globalImplicit
theorem Zby {E:Value→Shared→Prop}{pins:List (Addr × Obj)}{s:Shared}{σ:St}{H:Hp}{x:Str}{u:Value}{pos:Pos}{Q:Value→Shared→Prop}(I:Inv X pins σ H s)(hg:Gl X x)(hm:X.mg x=some u)(h:Q u s)
   (hd:(x==("__debug__":Str))=false:=by decide):wpAny (model X.prog X.w) X.A (eval (.Name x pos) X.env) Q E s :=
 Calls.Name_function_global I.ok.kind hg (Calls.loadGlobal_global (by rw [I.ok.glob];exact I.mod.glob.keeps I.bk) hm h) hd
theorem ZeO {E:Value→Shared→Prop}{pins:List (Addr × Obj)}{s:Shared}{σ:St}{H:Hp}{x:Str}{u:Value}{pos:Pos}{Q:Value→Shared→Prop}(I:Inv X pins σ H s)(hg:Gl X x)(hm:X.mg x=none)(hv:bootBuiltins x=some u)(h:Q u s)
   (hn:x≠"__name__":=by decide) (hd:(x==("__debug__":Str))=false:=by decide):wpAny (model X.prog X.w) X.A (eval (.Name x pos) X.env) Q E s:=by
 obtain ⟨mb,h1,h2⟩:=I.mod.blt;exact Calls.Name_function_global I.ok.kind hg (Calls.loadGlobal_builtin (by rw [I.ok.glob];exact I.mod.glob.keeps I.bk) hm (by rw [I.ok.blt];exact h1.keeps I.bk) ((h2 x hn).trans hv) h) hd
theorem Zav {x:Str}{v:V}{u:Value}{pos:Pos}(hg:Gl X x)(hm:X.mg x=some u)(r:RelV v u)(hd:(x==("__debug__":Str))=false:=by decide):PE X (.Name x pos) (tC v) :=
 fun _ _ _ H _ I h=>Zby I hg hm ⟨v,H,I,r,h⟩ hd
theorem Zcn {x:Str}{v:V}{u:Value}{pos:Pos}(hg:Gl X x)(hm:X.mg x=none)(hv:bootBuiltins x=some u)(r:RelV v u)(hn:x≠"__name__":=by decide)(hd:(x==("__debug__":Str))=false:=by decide):PE X (.Name x pos) (tC v) :=
 fun _ _ _ H _ I h=>ZeO I hg hm hv ⟨v,H,I,r,h⟩ hn hd
variable {a b:Expr}{ta tb:TE}{pos:Pos}
def PC (X:Cx) (op:CmpOp) (a b:Expr) (t:TE):Prop :=
 ∀ (pins:List (Addr × Obj)) (s:Shared) (σ:St) (H:Hp) (Q:VK),Inv X pins σ H s→t σ H Q →
   wpAny (model X.prog X.w) X.A (eval a X.env) (fun v s₁=>wpAny (model X.prog X.w) X.A (eval b X.env) (fun u s₂=>wpAny (model X.prog X.w) X.A (compareOp op v u) (EP X pins σ Q) X.xe s₂) X.xe s₁) X.xe s
theorem nobehind (b:Expr){op:CmpOp}(h:op≠.In)(h2:op≠.NotIn):behindInMarks op b=false:=by
 have e1:(op==CmpOp.In)=false:=by cases op<;>first | rfl | exact absurd rfl h
 have e2:(op==CmpOp.NotIn)=false:=by cases op<;>first | rfl | exact absurd rfl h2
 cases b<;>simp [behindInMarks,e1,e2]
def tB (t:TE):TT:=fun σ H Q=>t σ H fun x H1=>∃ c,x=.bl c∧Q c H1
theorem pe_cmp {op:CmpOp}{t:TE}(h:PC X op a b t)(h1:behindInMarks op b=false:=by first | exact nobehind _ (by decide) (by decide) | rfl):PE X (.Compare a [op] [b] pos) t:=fun pins s σ H Q I hw=>wpAny_Compare1 (h pins s σ H Q I hw) h1
theorem ZaJ {e:Expr}{t:TE}(h:PE X e t)(he:∀ whole,isTrue e X.env whole=(do let v ← whole;standAt e.pos;holding [v] (truthy v)):=by intro _;rfl):PT X e (tB t):=by intro pins s σ H Q I hw;refine isTrue_plain (thn (h pins s σ H _ I hw) fun v s1 ⟨x,H1,I1,r1,q1⟩=>?_) (he _);obtain ⟨d,rfl,q⟩:=q1;cases r1;exact wpAny_truthy_bool ⟨H1,I1,q⟩
variable {tA tB':TT}{rest:List Expr}
def tAnd (t u:TT):TT:=fun σ H Q=>t σ H fun c H1=>if c=true then u σ H1 Q else Q false H1
def tOr (t u:TT):TT:=fun σ H Q=>t σ H fun c H1=>if c=true then Q true H1 else u σ H1 Q
def tNot (t:TT):TT:=fun σ H Q=>t σ H fun c H1=>Q (!c) H1
theorem pw_and1 (ha:PT X a tA):PW X (.BoolOp .And [a] pos) tA:=by
 intro wh pins s σ H Q I h;refine isTrue_and (thn (ha pins s σ H Q I h) fun c s1 e=>?_);cases c with
 | true=>exact isTrue_and_nil e
 | false=>exact e
theorem Ze0 (ha:PT X a tA):PW X (.BoolOp .Or [a] pos) tA:=by
 intro wh pins s σ H Q I h;refine isTrue_or (thn (ha pins s σ H Q I h) fun c s1 e=>?_);cases c with
 | false=>exact isTrue_or_nil e
 | true=>exact e
theorem pw_and (ha:PT X a tA)(hb:PW X (.BoolOp .And (b::rest) pos) tB'):PW X (.BoolOp .And (a::b::rest) pos) (tAnd tA tB'):=by
 intro wh pins s σ H Q I h;refine isTrue_and (thn (ha pins s σ H _ I h) fun c s1 ⟨H1,I1,q1⟩=>?_);cases c with
 | true=>exact hb wh pins s1 σ H1 Q I1 q1
 | false=>exact ⟨H1,I1,q1⟩
theorem Zgx (ha:PT X a tA)(hb:PW X (.BoolOp .Or (b::rest) pos) tB'):PW X (.BoolOp .Or (a::b::rest) pos) (tOr tA tB'):=by
 intro wh pins s σ H Q I h;refine isTrue_or (thn (ha pins s σ H _ I h) fun c s1 ⟨H1,I1,q1⟩=>?_);cases c with
 | true=>exact ⟨H1,I1,q1⟩
 | false=>exact hb wh pins s1 σ H1 Q I1 q1
theorem ZaY (ha:PT X a tA):PT X (.UnaryOp .Not a pos) (tNot tA):=by intro pins s σ H Q I h;exact isTrue_not (ha pins s σ H (fun c H1=>Q (!c) H1) I h)
def tAndV (ta tb:TE):TE:=fun σ H Q=>ta σ H fun x H1=>∃ c,x=.bl c∧if c=true then tb σ H1 Q else Q (.bl false) H1
def tNotV (ta:TE):TE:=fun σ H Q=>ta σ H fun x H1=>∃ c,x=.bl c∧Q (.bl (!c)) H1
theorem ZdD {op}{t:TE}(h:PE X a t):PE X (.BoolOp op [a] pos) t:=fun pins s σ H Q I hw=>BoolOp_one (h pins s σ H Q I hw)
theorem Zc9 (ha:PE X a ta)(hb:PE X (.BoolOp .And (b::rest) pos) tb):PE X (.BoolOp .And (a::b::rest) pos) (tAndV ta tb):=by
 intro pins s σ H Q I h;refine BoolOp_and (thn (ha pins s σ H _ I h) fun v s1 ⟨x,H1,I1,r1,q1⟩=>?_);obtain ⟨c,rfl,q1⟩:=q1;cases r1;refine wpAny_truthy_bool ?_;cases c with
 | true=>exact hb pins s1 σ H1 Q I1 q1
 | false=>exact ⟨.bl false,H1,I1,rfl,q1⟩
theorem Zh7 (ha:PE X a ta):PE X (.UnaryOp .Not a pos) (tNotV ta):=by intro pins s σ H Q I h;refine UnaryOp_ (thn (ha pins s σ H _ I h) fun v s1 ⟨x,H1,I1,r1,q1⟩=>?_);obtain ⟨c,rfl,q1⟩:=q1;cases r1;exact not_of (wpAny_truthy_bool ⟨.bl (!c),H1,I1,rfl,q1⟩)
def tIf (t:TT)(ta tb:TE):TE:=fun σ H Q=>t σ H fun c H1=>if c=true then ta σ H1 Q else tb σ H1 Q
theorem ZbK {c:Expr}(hc:PT X c tA)(ha:PE X a ta)(hb:PE X b tb):PE X (.IfExp c a b pos) (tIf tA ta tb):=by
 intro pins s σ H Q I h;refine wpAny_IfExp (thn (hc pins s σ H _ I h) fun d s1 ⟨H1,I1,q1⟩=>?_);cases d with
 | true=>exact ha pins s1 σ H1 Q I1 q1
 | false=>exact hb pins s1 σ H1 Q I1 q1
end
def SqL (K:PySem.W.Frag) (H:Hp) (a:Addr) (xs:List V):Prop :=
 Rd H a (.lst xs) ∨
   ∃ (o:Obj) (its:Array Value) (n:Nat),K.lookup a=some o∧o.cls=.type "list"∧o.dict=none∧o.data=.seq its n∧its.size≤sizeLine∧Vals xs its.toList
def SqT (K:PySem.W.Frag) (H:Hp) (a:Addr) (xs:List V):Prop :=
 Rd H a (.tup xs) ∨
   ∃ (o:Obj) (its:Array Value) (n:Nat),K.lookup a=some o∧o.cls=.type "tuple"∧o.data=.seq its n∧its.size≤sizeLine∧Vals xs its.toList
def absV:Value→Option V
 | .none=>some .non
 | .bool b=>some (.bl b)
 | .int i _=>some (.int i)
 | .str x _=>some (.str x)
 | .bytes b _=>some (.byt b)
 | .float b _=>some (.flt b)
 | .ref a=>some (.ref a)
 | .type n=>some (.ty n)
 | _=>none
theorem RelV.abs {x:V}{u:Value}(r:RelV x u):absV u=some x:=by
 cases x with
 | non=>cases r;rfl
 | bl _=>cases r;rfl
 | int _=>obtain ⟨t,rfl⟩:=r;rfl
 | str _=>obtain ⟨t,rfl⟩:=r;rfl
 | byt _=>obtain ⟨t,rfl⟩:=r;rfl
 | flt _=>obtain ⟨t,rfl⟩:=r;rfl
 | ref _=>cases r;rfl
 | ty _=>cases r;rfl
theorem RelV.inj {x y:V}{u:Value}(r:RelV x u)(q:RelV y u):x=y:=Option.some.inj (r.abs.symm.trans q.abs)
theorem Vals.inj:∀ {xs ys:List V} {us:List Value},Vals xs us→Vals ys us→xs=ys
 | _,_,_,.nil,.nil=>rfl
 | _,_,_,.cons r t,.cons r' t'=>by rw [r.inj r',Vals.inj t t']
section
variable {X:Cx}{pins:List (Addr × Obj)}{σ:St}{H:Hp}{s:Shared}{a:Addr}{xs ys:List V}
theorem SqL.of {K:PySem.W.Frag}(h:H a=some (.lst xs)):SqL K H a xs:=.inl (.inl h)
theorem SqT.of {K:PySem.W.Frag}(h:H a=some (.tup xs)):SqT K H a xs:=.inl (.inl h)
theorem Inv.list (I:Inv X pins σ H s)(h:SqL X.K H a xs):∃ its:List Value,Vals xs its∧PlainL s.heap a its.toArray∧xs.length≤sizeLine:=by
 rcases h with h | ⟨o,its,n,hk,hc,hd,hs,hz,r⟩
 · obtain ⟨z,its,n,r,e⟩:=h.ok I.hok
   exact ⟨its,r,⟨_,n,e,rfl,rfl,rfl⟩,z⟩
 · refine ⟨its.toList,r,⟨o,n,I.kIn a o hk,hc,hd,by simpa using hs⟩,?_⟩
   have e:=r.length;simp only [Array.length_toList] at e;omega
theorem Inv.tuple (I:Inv X pins σ H s)(h:SqT X.K H a xs):∃ its:List Value,Vals xs its∧IsTup s.heap a its.toArray∧xs.length≤sizeLine:=by
 rcases h with h | ⟨o,its,n,hk,hc,hs,hz,r⟩
 · obtain ⟨z,its,r,p⟩:=h.ok I.hok
   exact ⟨its,r,p,z⟩
 · refine ⟨its.toList,r,⟨o,I.kIn a o hk,hc,n,by simpa using hs⟩,?_⟩
   have e:=r.length;simp only [Array.length_toList] at e;omega
theorem Inv.list_inj (I:Inv X pins σ H s)(h:SqL X.K H a xs)(h':SqL X.K H a ys):xs=ys:=by
 obtain ⟨its,r,⟨o,n,e,_,_,d⟩,_⟩:=I.list h;obtain ⟨its',r',⟨o',n',e',_,_,d'⟩,_⟩:=I.list h';rw [e] at e';cases e';rw [d] at d';injection d' with d1 _
 have:its=its':=by simpa using congrArg Array.toList d1
 subst this;exact r.inj r'
end
abbrev Cx.wish (X:Cx)(E:Value→Shared→Prop):Cx:={ X with xe:=E }
abbrev Cx.nox (X:Cx):Cx:=X.wish fun _ _=>False
theorem Cx.Ok.wish {X:Cx}(ok:X.Ok)(E:Value→Shared→Prop):(X.wish E).Ok :=
 ⟨ok.mod,ok.kind,ok.glob,ok.blt,ok.above,ok.inj,ok.has,ok.cab,ok.hd,ok.frames,ok.stk,ok.exf,ok.bs,ok.bsz,ok.noex,ok.exfs,ok.funs,ok.frf⟩
theorem Cx.Ok.unwish {X:Cx}{E:Value→Shared→Prop}(ok:(X.wish E).Ok):X.Ok :=
 ⟨ok.mod,ok.kind,ok.glob,ok.blt,ok.above,ok.inj,ok.has,ok.cab,ok.hd,ok.frames,ok.stk,ok.exf,ok.bs,ok.bsz,ok.noex,ok.exfs,ok.funs,ok.frf⟩
section
variable {X:Cx}{pins:List (Addr × Obj)}{σ:St}{H:Hp}{s:Shared}{E:Value→Shared→Prop}
theorem Inv.wish (I:Inv X pins σ H s)(E:Value→Shared→Prop):Inv (X.wish E) pins σ H s:=⟨I.ok.wish E,I.os,I.bare,I.base,I.loc,I.cell,I.free,I.freeC,I.pin,I.hok,I.len⟩
theorem Inv.unwish (I:Inv (X.wish E) pins σ H s):Inv X pins σ H s:=⟨I.ok.unwish,I.os,I.bare,I.base,I.loc,I.cell,I.free,I.freeC,I.pin,I.hok,I.len⟩
theorem SP.unwish {D:Ends}{f:Flow}{s':Shared}(h:SP (X.wish E) pins D f s'):SP X pins D f s':=by
 cases f with
 | next=>obtain ⟨σ',H',I,q⟩:=h;exact ⟨σ',H',I.unwish,q⟩
 | brk=>obtain ⟨σ',H',I,q⟩:=h;exact ⟨σ',H',I.unwish,q⟩
 | cont=>obtain ⟨σ',H',I,q⟩:=h;exact ⟨σ',H',I.unwish,q⟩
 | ret u=>obtain ⟨v,σ',H',I,r,q⟩:=h;exact ⟨v,σ',H',I.unwish,r,q⟩
theorem PSs.nox {st:List Stmt}{t:TS}(h:PSs X.nox st t):PSs X st t:=fun pins s σ H D I hw =>
 wpAny_mono (h pins s σ H D (I.wish _) hw) (fun _ _ q=>q.unwish) fun _ _ z=>False.elim z
end
section
variable {X:Cx}{st:Stmt}{rest:List Stmt}{t u:TS}{e:Expr}{te:TE}{pos:Pos}
def tNext:TS:=fun D σ H=>D.nx σ H
def tSeq (t u:TS):TS:=fun D σ H=>t { D with nx:=u D } σ H
theorem Zat:PSs X [] tNext:=fun _ _ σ H _ I h=>wpAny_execs_nil ⟨σ,H,I,h⟩
theorem Zac (h1:PS X st t)(h2:PSs X rest u):PSs X (st::rest) (tSeq t u):=by
 intro pins s σ H D I h;refine wpAny_execs_cons (thn (h1 pins s σ H { D with nx:=u D } I h) fun f s1 q=>?_);cases f with
 | next =>
   obtain ⟨σ',H',I',q⟩:=q;exact h2 pins s1 σ' H' D I' q
 | ret v=>exact q
 | brk=>exact q
 | cont=>exact q
theorem Zaf (h1:PS X st t):PSs X [st] t:=by
 intro pins s σ H D I h;refine wpAny_execs_cons (thn (h1 pins s σ H D I h) fun f s1 q=>?_);cases f with
 | next=>exact wpAny_execs_nil q
 | ret v=>exact q
 | brk=>exact q
 | cont=>exact q
theorem Inv.quiet {pins:List (Addr × Obj)}{σ:St}{H:Hp}{s:Shared}(I:Inv X pins σ H s):interactive X.env=false:=by simp [interactive,I.ok.kind]
def tDrop (te:TE):TS:=fun D σ H=>te σ H fun _ H1=>D.nx σ H1
theorem ZaE (he:PE X e te)(hs:swapsWith e none pos.line X.env=pure false:=by rfl):PS X (.Expr e pos) (tDrop te):=by intro pins s σ H D I h;exact wpAny_Expr_any (thn (he pins s σ H _ I h) fun v s1 ⟨x,H1,I1,r1,q1⟩=>⟨σ,H1,I1,q1⟩) I.quiet hs
def tRet (te:TE):TS:=fun D σ H=>te σ H D.rt
theorem Zak (he:PE X e te):PS X (.Return (some e) pos) (tRet te):=by intro pins s σ H D I h;exact wpAny_Return_some (thn (he pins s σ H _ I h) fun v s1 ⟨x,H1,I1,r1,q1⟩=>⟨x,σ,H1,I1,r1,q1⟩)
def tIfS (c:TT)(t u:TS):TS:=fun D σ H=>c σ H fun b H1=>if b=true then t D σ H1 else u D σ H1
theorem ZaF {c:Expr}{a b:List Stmt}{tc:TT}(hc:PT X c tc)(ha:PSs X a t)(hb:PSs X b u):PS X (.If c a b pos) (tIfS tc t u):=by
 intro pins s σ H D I h;refine wpAny_If (thn (hc pins s σ H _ I h) fun d s1 ⟨H1,I1,q1⟩=>?_);cases d with
 | true=>exact ha pins s1 σ H1 D I1 q1
 | false=>exact hb pins s1 σ H1 D I1 q1
def tNever:TS:=fun _ _ _=>False
theorem Zgv:PS X st tNever:=fun _ _ _ _ _ _ h=>h.elim
theorem Zbb {sts:List Stmt}:PSs X sts tNever:=fun _ _ _ _ _ _ h=>h.elim
end
abbrev TG:=V→St→Hp→(St→Hp→Prop)→Prop
abbrev TGs:=List V→St→Hp→(St→Hp→Prop)→Prop
def PG (X:Cx) (target:Expr) (t:TG):Prop :=
 ∀ (pins:List (Addr × Obj)) (s:Shared) (σ:St) (H:Hp) (v:V) (u:Value) (Q:St→Hp→Prop),Inv X pins σ H s→RelV v u→t v σ H Q →
   wpAny (model X.prog X.w) X.A (assign target X.env u) (fun _ s'=>∃ σ' H',Inv X pins σ' H' s'∧Q σ' H') X.xe s
def PGs (X:Cx) (ts:List Expr) (t:TGs):Prop :=
 ∀ (pins:List (Addr × Obj)) (s:Shared) (σ:St) (H:Hp) (vs:List V) (us:List Value) (Q:St→Hp→Prop),Inv X pins σ H s→Vals vs us→t vs σ H Q →
   wpAny (model X.prog X.w) X.A (assignInOrder ((assignEach ts X.env).map (·.2)) us) (fun _ s'=>∃ σ' H',Inv X pins σ' H' s'∧Q σ' H') X.xe s
section
variable {X:Cx}{pos:Pos}
def gName (i:Nat):TG:=fun v σ H Q=>Q (σ.set i (some v)) H
theorem ZaH {i:Nat}{x:Str}(hN:X.N.Nodup)(hi:X.N[i]?=some x)(hx:Loc X.env.scope x)(hf:X.fn x=true∨X.env.scope.names.lookup x=some .local:=by first | exact .inl rfl | exact .inr rfl | assumption):PG X (.Name x pos) (gName i):=by intro pins s σ H v u Q I r h;exact wpAny_assign_Name (ZeQ I hN hi hx r (fun s' I'=>⟨_,H,I',h⟩) hf)
def gNil:TGs:=fun vs σ H Q=>vs=[]∧Q σ H
def gCons (t:TG)(u:TGs):TGs:=fun vs σ H Q=>∃ v r,vs=v::r∧t v σ H fun σ' H'=>u r σ' H' Q
theorem Zel:PGs X [] gNil:=by intro pins s σ H vs us Q I r h;obtain ⟨e,h⟩:=h;subst e;cases r;exact assignInOrder_nil ⟨σ,H,I,h⟩
theorem Zbd {e:Expr}{es:List Expr}{t:TG}{u:TGs}(h1:PG X e t)(h2:PGs X es u)
   (hs:(assignEach (e::es) X.env).map (·.2)=assign e X.env::(assignEach es X.env).map (·.2):=by rfl):PGs X (e::es) (gCons t u):=by
 intro pins s σ H vs us Q I r h;obtain ⟨v,vr,e1,h⟩:=h;subst e1;cases r with
 | cons r rr =>
   rw [hs];refine assignInOrder_cons (thn (h1 pins s σ H _ _ _ I r h) fun _ s1 ⟨σ1,H1,I1,q1⟩=>?_);exact h2 pins s1 σ1 H1 _ _ Q I1 rr q1
def gTup (K:PySem.W.Frag)(n:Nat)(t:TGs):TG:=fun v σ H Q=>∃ a xs,v=.ref a∧SqT K H a xs∧xs.length=n∧t xs σ H Q
theorem pg_tup {es:List Expr}{k:Nat}{t:TGs}{n:Nat}(hc:X.calm=true)(h:PGs X es t)
   (hn:(assignEach es X.env).length=n:=by rfl) (hst:(assignEach es X.env).findIdx? (·.1)=none:=by rfl):PG X (.Tuple es k pos) (gTup X.K n t):=by
 intro pins s σ H v u Q I r hw;obtain ⟨a,xs,e1,hq,hl,hw⟩:=hw;subst e1;cases r;obtain ⟨its,rv,ht,hz⟩:=I.tuple hq;refine assign_Tuple_tuple (I.ok.hd hc) ht (by simp [hn,← hl,rv.length]) hst fun h' hx=>?_
 have I1:Inv X pins σ H { s with heap:=h' }:=I.kept (t':=s.toks) fun b o e=>hx b o (Nat.ne_of_lt (Heap.lt_size e)) e
 exact h pins _ σ H xs _ Q I1 (by simpa using rv) hw
def tAsg (te:TE)(g:TG):TS:=fun D σ H=>te σ H fun x H1=>g x σ H1 D.nx
theorem ps_asg {tg e:Expr}{te:TE}{g:TG}(he:PE X e te)(hg:PG X tg g)(hs:swapsWithSole [tg] e pos.line X.env=pure false:=by rfl)(hw:swappedStores [tg] e X.env=pure none:=by rfl)
   (h1:(assignEach [tg] X.env).map (·.2)=[assign tg X.env]:=by rfl):PS X (.Assign [tg] e pos) (tAsg te g):=by
 intro pins s σ H D I h;refine wpAny_Assign_stores (thn (he pins s σ H _ I h) fun v s1 ⟨x,H1,I1,r1,q1⟩=>?_) hs hw;rw [h1];exact thn (hg pins s1 σ H1 x v _ I1 r1 q1) fun _ s2 q=>q
theorem Zal {i:Nat}{x:Str}{e:Expr}{te:TE}{pos':Pos}(hN:X.N.Nodup)(hi:X.N[i]?=some x)(hx:Loc X.env.scope x)(he:PE X e te)(hs:swapsWith e (some (.Name x pos')) pos.line X.env=pure false:=by rfl)(hf:X.fn x=true∨X.env.scope.names.lookup x=some .local:=by first | exact .inl rfl | exact .inr rfl | assumption) :
   PS X (.Assign [.Name x pos'] e pos) (tAsg te (gName i)):=by
 intro pins s σ H D I h;refine wpAny_Assign_Name (thn (he pins s σ H _ I h) fun v s1 ⟨y,H1,I1,r1,q1⟩=>?_) hs;exact ZeQ I1 hN hi hx r1 (fun s2 I2=>⟨_,H1,I2,q1⟩) hf
end
section
variable {X:Cx}{pos:Pos}
def tWhile (c:TT)(tb:TS):TS:=fun D σ H=>∃ W:Nat→St→Hp→Prop,(∃ m,W m σ H)∧∀ m σ H,W m σ H →
 c σ H fun b H1=>if b=true then ∃ N:St→Hp→Prop,(∀ σ' H',N σ' H'→∃ m',m'<m∧W m' σ' H')∧tb { D with nx:=N,ct:=N,bk:=D.nx } σ H1 else D.nx σ H1
theorem ZeY {c:Expr}{body:List Stmt}{tc:TT}{tb:TS}(hp:PassesOwn (model X.prog X.w) X.A X.env X.xe)(hc:PT X c tc)(hb:PSs X body tb):PS X (.While c body [] pos) (tWhile tc tb):=by
 intro pins s σ H D I h;obtain ⟨W,⟨m0,w0⟩,turn⟩:=h;refine wpAny_While (codeAny_whileLoop (fun n s'=>∃ σ' H',Inv X pins σ' H' s'∧W n σ' H') ?_ m0 ⟨σ,H,I,w0⟩);rintro n s1 ⟨σ1,H1,I1,w1⟩;refine wpAny_passesOwn hp (thn (hc pins s1 σ1 H1 _ I1 (turn n σ1 H1 w1)) fun b s2 ⟨H2,I2,q2⟩=>?_);cases b with
 | true =>
   obtain ⟨N,hN,q2⟩:=q2;rw [if_pos rfl];refine wpAny_passesOwn hp (thn (hb pins s2 σ1 H2 _ I2 q2) fun f s3 q3=>?_);cases f with
   | next =>
     obtain ⟨σ3,H3,I3,n3⟩:=q3;obtain ⟨m',hm,w3⟩:=hN σ3 H3 n3;exact ⟨m',hm,σ3,H3,I3,w3⟩
   | cont =>
     obtain ⟨σ3,H3,I3,n3⟩:=q3;obtain ⟨m',hm,w3⟩:=hN σ3 H3 n3;exact ⟨m',hm,σ3,H3,I3,w3⟩
   | brk=>exact q3
   | ret v=>exact q3
 | false =>
   rw [if_neg Bool.false_ne_true];exact wpAny_execs_nil ⟨σ1,H2,I2,q2⟩
end
structure It where
 go:Nat→Hp→Prop
 yld:Nat→Hp→V→Hp→Prop
 stop:Nat→Hp→Prop
def FpOk (X:Cx)(pins:List (Addr × Obj))(H:Hp)(b:Addr):Prop :=
 H b=none∧b≠X.env.locals∧b∉X.fs∧(b∈X.ex∨X.s₀.heap.objs.size≤b)∧(∀ x c,X.env.cells.lookup x=some c→c≠b)∧∀ p∈X.pn++pins,p.1≠b
theorem Inv.fpOk {X:Cx}{pins:List (Addr × Obj)}{σ:St}{H H':Hp}{s:Shared}{b:Addr}(I:Inv X pins σ H s)(hb:s.heap.objs.size≤b)(hn:H' b=none):FpOk X pins H' b:=by
 refine ⟨hn,Nat.ne_of_gt (Nat.lt_of_lt_of_le I.lt hb),I.nofs hb,.inr (Nat.le_trans I.sz hb),fun x c e z=>?_,fun p hp z=>?_⟩
 · obtain ⟨v,q⟩:=I.cell x c e
   exact absurd (Nat.lt_of_lt_of_le q.lt (by rw [z];exact hb)) (Nat.lt_irrefl _)
 · exact absurd (Nat.lt_of_lt_of_le (Heap.lt_size (I.pin p hp).1) (by rw [z];exact hb)) (Nat.lt_irrefl _)
structure Turn (P:Program)(w:World)(K:PySem.W.Frag)(tg:Expr)(J:It)(fp:List Addr)(it:Addr)(tn:Nat→Heap→Prop):Prop where
 mem:it∈fp
 obj:∀ i h,tn i h→∀ b∈fp,∃ o,h.get? b=some o∧∀ v,o.data≠.cell v
 keep:∀ i h h',tn i h→(∀ b∈fp,∀ o,h.get? b=some o→h'.get? b=some o)→tn i h'
 item:∀ (X:Cx),X.prog=P→X.w=w→X.K=K→X.calm=true→∀ (i:Nat) (pins:List (Addr × Obj)) (s:Shared) (σ:St) (H:Hp) (E:Value→Shared→Prop),Inv X pins σ H s→(∀ b∈fp,FpOk X pins H b)→tn i s.heap→J.go i H →
   wpAny (model P w) X.A (pyNext (.ref it)) (fun r s1=>∃ u,r=some u ∧
     wpAny (model P w) X.A (letOwnedTupleGo tg (.ref it) u) (fun _ s2=>∃ x H',Inv X pins σ H' s2∧RelV x u∧J.yld i H x H'∧tn (i+1) s2.heap∧∀ b∈fp,H' b=none) E s1) E s
 done:∀ (X:Cx),X.prog=P→X.w=w→X.K=K→X.calm=true→∀ (i:Nat) (pins:List (Addr × Obj)) (s:Shared) (σ:St) (H:Hp) (E:Value→Shared→Prop),Inv X pins σ H s→(∀ b∈fp,FpOk X pins H b)→tn i s.heap→J.stop i H →
   wpAny (model P w) X.A (pyNext (.ref it)) (fun r s1=>r=none∧Inv X pins σ H s1) E s
 self:∀ (A:Around) (i:Nat) (s:Shared) (Q:Value→Shared→Prop) (E:Value→Shared→Prop),tn i s.heap→Q (.ref it) s→wpAny (model P w) A (pyIter (.ref it)) Q E s
abbrev TI:=St→Hp→(It→Hp→Prop)→Prop
def PIE (X:Cx)(pins:List (Addr × Obj))(σ:St)(tg:Expr)(R:It→Hp→Prop)(itv:Value)(s2:Shared):Prop :=
 ∃ (it:Addr) (fp:List Addr) (tn:Nat→Heap→Prop) (J:It) (H':Hp),itv=.ref it∧Inv X pins σ H' s2∧Turn X.prog X.w X.K tg J fp it tn∧tn 0 s2.heap∧(∀ b∈fp,FpOk X pins H' b)∧R J H'
def PI (X:Cx) (tg iter:Expr) (wi:TI):Prop :=
 ∀ (pins:List (Addr × Obj)) (s:Shared) (σ:St) (H:Hp) (R:It→Hp→Prop),Inv X pins σ H s→wi σ H R →
   wpAny (model X.prog X.w) X.A (eval iter X.env) (fun v s1=>wpAny (model X.prog X.w) X.A (pyIter v) (PIE X pins σ tg R) X.xe s1) X.xe s
theorem go_of {M:Model} {A:Around} {E:Value→Shared→Prop} {s:Shared} {tg:Expr} {it:Addr} {u:Value} {o:Obj} {n:String} {vs:Array Value} {Q:Unit→Shared→Prop} (ho:s.heap.get? it=some o) (hc:o.cls=.type n) (hd:o.data=.fields vs)
   (hn:["enumerate","zip","dict_itemiterator","dict_reverseitemiterator","odict_iterator","itertools.zip_longest","itertools.pairwise"].contains n=false) (hQ:Q () s):wpAny M A (letOwnedTupleGo tg (.ref it) u) Q E s:=by
 unfold letOwnedTupleGo
 cases tg <;> first
   | exact wpAny_pure hQ
   | (cases u<;>first
       | exact wpAny_pure hQ
       | (refine wpAny_bind (wpAny_load ho ?_)
          rw [hc,hd];show wpAny M A (if (["enumerate","zip","dict_itemiterator","dict_reverseitemiterator","odict_iterator","itertools.zip_longest","itertools.pairwise"].contains n&&vs[0]?==some (rawInt _))=true then _ else _) Q E s;rw [if_neg (by intro h;rw [hn,Bool.false_and] at h;cases h)];exact wpAny_pure hQ))
def Itl (K:PySem.W.Frag)(a:Addr):It :=
 ⟨fun i H=>∃ xs x,SqL K H a xs∧xs[i]?=some x,fun i H x H'=>H'=H∧∀ xs,SqL K H a xs→xs[i]?=some x,fun i H=>∃ xs,SqL K H a xs∧xs.length≤i⟩
def Itr (lo:Int)(n:Nat):It:=⟨fun i _=>i<n,fun i H x H'=>H'=H∧x=.int (lo+i),fun i _=>n≤i⟩
theorem Zi6 {P:Program}{w:World}{K:PySem.W.Frag}{tg:Expr}(a it:Addr):Turn P w K tg (Itl K a) [it] it (fun i h=>h.IsListIter it a i) where
 mem:=by simp
 obj:=fun i h st b hb=>by
   have e:b=it:=by simpa using hb
   subst e;obtain ⟨o,e,c,d⟩:=st;exact ⟨o,e,fun v z=>by rw [d] at z;cases z⟩
 keep:=fun i h h' st k=>st.at fun o e=>k it (by simp) o e
 item:=by
   intro X hP hw hK hc i pins s σ H E I hf st hg;subst hP hw hK;obtain ⟨xs,x,hq,hx⟩:=hg;obtain ⟨its,rv,p,hz⟩:=I.list hq;obtain ⟨u,hu,ru⟩:=rv.get hx;obtain ⟨f0,f1,f2,f3,f4,f5⟩:=hf it (by simp);refine wpAny_pyNext_list_item st p.isList (x:=u) (by simpa using hu) fun h' st' sb=>?_
   have I1:Inv X pins σ H { s with heap:=h' }:=I.turned (t':=s.toks) (fun b o hb e=>(sb.2 b hb).trans e) f0 f1 f3 f4 f5;obtain ⟨o,e,c,d⟩:=id st';exact ⟨u,rfl,go_of (s:={ s with heap:=h' }) e c d (by decide) ⟨x,H,I1,ru,⟨rfl,fun ys hy=>by rw [I.list_inj hy hq];exact hx⟩,st',fun b hb=>(hf b hb).1⟩⟩
 done:=by intro X hP hw hK hc i pins s σ H E I hf st hg;subst hP hw hK;obtain ⟨xs,hq,hx⟩:=hg;obtain ⟨its,rv,p,hz⟩:=I.list hq;obtain ⟨f0,f1,f2,f3,f4,f5⟩:=hf it (by simp);have hl:=rv.length;exact wpAny_pyNext_list_end (I.ok.hd hc) st p.isList (by simp;omega) fun h' eb=>⟨rfl,I.turned (t':=s.toks) (fun b o hb e=>eb b o hb e) f0 f1 f3 f4 f5⟩
 self:=fun _ _ _ _ _ st h=>wpAny_pyIter_listiter st h
theorem ZhF {P:Program}{w:World}{K:PySem.W.Frag}{tg:Expr}(it:Addr)(lo:Int)(n:Nat):Turn P w K tg (Itr lo n) [it] it (fun i h=>IsRangeIter h it (lo+(i:Nat)*1) ((n:Int)-(i:Nat)) 1) where
 mem:=by simp
 obj := fun i h st b hb=>by
   have e:b=it:=by simpa using hb
   subst e;exact ⟨_,st,fun v z=>by
     have z':Data.fields _=Data.cell v:=z;cases z'⟩
 keep:=fun i h h' st k=>k it (by simp) _ st
 item:=by
   intro X hP hw hK hc i pins s σ H E I hf st hg;subst hP hw hK;obtain ⟨f0,f1,f2,f3,f4,f5⟩:=hf it (by simp);have W:=Walks.range (prog:=X.prog) (w:=X.w) (I.ok.hd hc) it lo 1 n;refine W.item i s _ _ hg st fun v h' tk hv st' kk=>?_
   obtain ⟨t,rfl⟩:=hv;have I1:Inv X pins σ H { s with heap:=h',toks:=tk }:=I.turned (fun b o hb e=>kk b o (by simpa using hb) e) f0 f1 f3 f4 f5;refine ⟨_,rfl,go_of (s:={ s with heap:=h',toks:=tk }) (n:="range_iterator") st' rfl rfl (by decide) ⟨.int (lo+i),H,I1,⟨t,?_⟩,⟨rfl,rfl⟩,st',fun b hb=>(hf b hb).1⟩⟩;rw [Int.mul_one]
 done:=by intro X hP hw hK hc i pins s σ H E I hf st hg;subst hP hw hK;obtain ⟨f0,f1,f2,f3,f4,f5⟩:=hf it (by simp);exact wpAny_pyNext_range_end (I.ok.hd hc) st (by have:n≤i:=hg;omega) fun h' eb=>⟨rfl,I.turned (t':=s.toks) (fun b o hb e=>eb b o hb e) f0 f1 f3 f4 f5⟩
 self:=fun _ _ _ _ _ st h=>wpAny_pyIter_rangeiter st h
section
variable {X:Cx}{tg:Expr}
def iList (K:PySem.W.Frag)(tl:TE):TI:=fun σ H R=>tl σ H fun x H1=>∃ a,x=.ref a∧(∃ xs,SqL K H1 a xs)∧R (Itl K a) H1
theorem pi_list {l:Expr}{tl:TE}(hl:PE X l tl):PI X tg l (iList X.K tl):=by
 intro pins s σ H R I h;refine thn (hl pins s σ H _ I h) fun v s1 ⟨x,H1,I1,r1,q1⟩=>?_
 obtain ⟨a,e,⟨xs,hq⟩,q⟩:=q1;subst e;cases r1;obtain ⟨its,rv,p,hz⟩:=I1.list hq;refine wpAny_pyIter_list p.isList ?_;refine ⟨s1.heap.objs.size,[s1.heap.objs.size],_,_,H1,rfl,I1.kept (t':=s1.toks) fun b o e=>Heap.get?_push_of_some _ e,Zi6 a _,⟨_,Heap.get?_push_size _ rfl,rfl,rfl⟩,fun b hb=>?_,q⟩;have e:b=s1.heap.objs.size:=by simpa using hb
 subst e;exact I1.fpOk (Nat.le_refl _) (I1.hok.fresh (Nat.le_refl _))
theorem range_it {pins:List (Addr × Obj)}{σ:St}{H:Hp}{s:Shared}{R:It→Hp→Prop}{E:Value→Shared→Prop}{lo hi:Int}{t u v:Tok}{tk:Nat}(I:Inv X pins σ H s)(h1:-(2^62)≤lo)(h2:lo<2^62)(h3:-(2^62)≤hi)(h4:hi<2^62)
   (q:R (Itr lo (hi-lo).toNat) H):wpAny (model X.prog X.w) X.A (pyIter (.ref s.heap.objs.size)) (PIE X pins σ tg R) E { s with heap:=s.heap.push { cls:=.type "range",data:=.fields #[.int lo t,.int hi u,.int 1 v] },toks:=tk }:=by
 refine wpAny_pyIter_range (IsRange.new ..) (small_one h1 h2 h3 h4) ?_;have I1:Inv X pins σ H { s with heap:=s.heap.push { cls:=.type "range",data:=.fields #[.int lo t,.int hi u,.int 1 v] },toks:=tk }:=I.kept fun b o e=>Heap.get?_push_of_some _ e
 refine ⟨(s.heap.push { cls:=.type "range",data:=.fields #[.int lo t,.int hi u,.int 1 v] }).objs.size,[(s.heap.push { cls:=.type "range",data:=.fields #[.int lo t,.int hi u,.int 1 v] }).objs.size],_,_,H,rfl,
   I1.kept (t':=tk) fun b o e=>Heap.get?_push_of_some _ e,ZhF _ lo (hi-lo).toNat,?_,fun b hb=>?_,q⟩
 · have e1:lo+((0:Nat):Int)*1=lo:=by simp
   have e2:(((hi-lo).toNat:Nat):Int)-((0:Nat):Int)=Builtin.Range.rangeSize lo hi 1:=by rw [rangeSize_one];split<;>omega
   show IsRangeIter _ _ (lo+((0:Nat):Int)*1) ((((hi-lo).toNat:Nat):Int)-((0:Nat):Int)) 1;rw [e1,e2];exact Heap.get?_push_size _ rfl
 · have e:b=(s.heap.push { cls:=.type "range",data:=.fields #[.int lo t,.int hi u,.int 1 v] }).objs.size:=by simpa using hb
   subst e;exact I1.fpOk (Nat.le_refl _) (I1.hok.fresh (Nat.le_refl _))
def iRng1 (ta:TA):TI:=fun σ H R=>ta σ H fun vs H1=>∃ j:Int,vs=[.int j]∧-(2^62)≤j∧j<2^62∧R (Itr 0 j.toNat) H1
theorem ZjA {a:Expr}{ta:TA}{p pos:Pos}(hg:Gl X "range")(hm:X.mg "range"=none)(ha:PA X [a] ta)(hs:starEach [a] X.env=[(false,eval a X.env)]:=by rfl):PI X tg (.Call (.Name "range" p) [a] [] pos) (iRng1 ta):=by
 intro pins s σ H R I h;refine Call_ (ZeO I hg hm boot_range (PyProof.Rows.callWith_type1 (thn (ha pos pins s σ H _ I h) fun us s1 ⟨vs,H1,I1,r1,q1⟩=>?_) hs rfl));obtain ⟨j,e,q1,q2,q⟩:=q1;subst e;cases r1 with
 | cons r rr =>
   cases rr;obtain ⟨t,rfl⟩:=r;exact call_range_1 (range_it I1 (by omega) (by omega) q1 q2 (by simpa using q))
def tFor (wi:TI)(g:TG)(tb:TS):TS:=fun D σ H=>wi σ H fun J H1=>∃ W:Nat→Nat→St→Hp→Prop,(∃ m,W 0 m σ H1)∧∀ i m σ H,W i m σ H →
 (J.stop i H∧D.nx σ H)∨(J.go i H∧∃ N:St→Hp→Prop,(∀ σ' H',N σ' H'→∃ m',m'<m∧W (i+1) m' σ' H')∧∀ x H',J.yld i H x H'→g x σ H' fun σ2 H2=>tb { D with nx:=N,ct:=N,bk:=D.nx } σ2 H2)
def pinsAt (fp:List Addr)(h:Heap):List (Addr × Obj):=fp.filterMap fun b=>(h.get? b).map fun o=>(b,o)
theorem Zdd {fp:List Addr}{h:Heap}{b:Addr}{o:Obj}(hb:b∈fp)(e:h.get? b=some o):(b,o)∈pinsAt fp h:=List.mem_filterMap.mpr ⟨b,hb,by rw [e];rfl⟩
theorem ZjO {fp:List Addr}{h:Heap}{p:Addr × Obj}(hp:p∈pinsAt fp h):p.1∈fp∧h.get? p.1=some p.2:=by
 obtain ⟨b,hb,e⟩:=List.mem_filterMap.mp hp;cases q:h.get? b with
 | none=>rw [q] at e;cases e
 | some o =>
   rw [q] at e;have e':(b,o)=p:=Option.some.inj e;subst e';exact ⟨hb,q⟩
theorem Inv.pinned {pins:List (Addr × Obj)}{σ:St}{H:Hp}{s:Shared}{fp:List Addr}(I:Inv X pins σ H s)(hf:∀ b∈fp,FpOk X pins H b)(ho:∀ b∈fp,∃ o,s.heap.get? b=some o∧∀ v,o.data≠.cell v):Inv X (pins++pinsAt fp s.heap) σ H s :=
 I.pins_of fun p hp=>(List.mem_append.mp hp).elim (fun z=>I.pin p (List.mem_append_right _ z)) fun z=>by
   obtain ⟨hb,e⟩:=ZjO z;obtain ⟨f0,f1,f2,_⟩:=hf p.1 hb;obtain ⟨o,e',d⟩:=ho p.1 hb;rw [e] at e';cases e';exact ⟨e,f0,f1,f2,d⟩
theorem Inv.unpinned {pins pl:List (Addr × Obj)}{σ:St}{H:Hp}{s:Shared}(I:Inv X (pins++pl) σ H s):Inv X pins σ H s:=I.pins_of fun p hp=>I.pin p (List.mem_append_right _ (List.mem_append_left _ hp))
theorem Zb4 {iter:Expr}{body:List Stmt}{wi:TI}{g:TG}{tb:TS}{pos:Pos}(hp:PassesOwn (model X.prog X.w) X.A X.env X.xe)(hc:X.calm=true)(hi:PI X tg iter wi)(hg:PG X tg g)(hb:PSs X body tb)
   (hs:∀ x,foldedSetIterable iter X.env x=pure x:=by intro _;rfl):PS X (.For tg iter body [] pos) (tFor wi g tb):=by
 intro pins s σ H D I h;refine wpAny_For (thn (hi pins s σ H _ I h) fun v s1 h1=>thn h1 fun itv s2 h2=>?_) hs;obtain ⟨it,fp,tn,J,H2,e,I2,T,st2,f2,W,⟨m0,w0⟩,turn⟩:=h2;subst e;have stat:∀ {H':Hp},(∀ b∈fp,H' b=none)→∀ b∈fp,FpOk X pins H' b:=fun hn b hb=>⟨hn b hb,(f2 b hb).2⟩
 refine codeAny_forLoop_any (fun n s'=>∃ i σ' H',Inv X pins σ' H' s'∧tn i s'.heap∧(∀ b∈fp,H' b=none)∧W i n σ' H') ?_ m0 ⟨0,σ,H2,I2,st2,fun b hb=>(f2 b hb).1,w0⟩;rintro n s3 ⟨i,σ3,H3,I3,st3,fr3,w3⟩;rcases turn i n σ3 H3 w3 with ⟨stop,qn⟩ | ⟨go,N,hN,step⟩
 · refine wpAny_passesOwn hp (thn (T.done X rfl rfl rfl hc i pins s3 σ3 H3 X.xe I3 (stat fr3) st3 stop) fun r s4 ⟨hr,I4⟩=>?_)
   subst hr;exact wpAny_execs_nil ⟨σ3,H3,I4,qn⟩
 · refine wpAny_passesOwn hp (thn (T.item X rfl rfl rfl hc i pins s3 σ3 H3 X.xe I3 (stat fr3) st3 go) fun r s4 ⟨u,hr,h4⟩=>?_)
   subst hr;refine wpAny_passesOwn hp (thn h4 fun _ s5 ⟨x,H5,I5,r5,y5,st5,fr5⟩=>?_);have I5':=I5.pinned (stat fr5) (T.obj _ _ st5);refine wpAny_passesOwn hp (thn (hg _ s5 σ3 H5 x u _ I5' r5 (step x H5 y5)) fun _ s6 ⟨σ6,H6,I6,q6⟩=>?_);refine wpAny_passesOwn hp (thn (hb _ s6 σ6 H6 _ I6 q6) fun f s7 q7=>?_);have again:∀ {σ7:St} {H7:Hp},Inv X (pins++pinsAt fp s5.heap) σ7 H7 s7→N σ7 H7→∃ m,m<n∧∃ i σ' H',Inv X pins σ' H' s7∧tn i s7.heap∧(∀ b∈fp,H' b=none)∧W i m σ' H':=fun {σ7 H7} I7 n7=>by
     obtain ⟨m',hm,w7⟩:=hN σ7 H7 n7;refine ⟨m',hm,i+1,σ7,H7,I7.unpinned,T.keep _ _ _ st5 fun b hb o e=>(I7.pin (b,o) (List.mem_append_right _ (List.mem_append_right _ (Zdd hb e)))).1,fun b hb=>?_,w7⟩;obtain ⟨o,e,d⟩:=T.obj _ _ st5 b hb;exact (I7.pin (b,o) (List.mem_append_right _ (List.mem_append_right _ (Zdd hb e)))).2.1
   cases f with
   | next=>obtain ⟨σ7,H7,I7,n7⟩:=q7;exact again I7 n7
   | cont=>obtain ⟨σ7,H7,I7,n7⟩:=q7;exact again I7 n7
   | brk=>obtain ⟨σ7,H7,I7,q7⟩:=q7;exact ⟨σ7,H7,I7.unpinned,q7⟩
   | ret v=>obtain ⟨x7,σ7,H7,I7,r7,q7⟩:=q7;exact ⟨x7,σ7,H7,I7.unpinned,r7,q7⟩
end
theorem for_list {K:PySem.W.Frag}{a:Addr}{xs:List V}{g:TG}{tb:TS}{D:Ends}{σ:St}{H:Hp}(Pv:Nat→St→Hp→Prop)(h0:Pv 0 σ H)(hl:∀ i σ H,i≤xs.length→Pv i σ H→SqL K H a xs)
   (hs:∀ i x σ H,xs[i]?=some x→Pv i σ H→g x σ H fun σ2 H2=>tb { D with nx:=Pv (i+1),ct:=Pv (i+1),bk:=D.nx } σ2 H2) (hd:∀ σ H,Pv xs.length σ H→D.nx σ H) :
   ∃ W:Nat→Nat→St→Hp→Prop,(∃ m,W 0 m σ H)∧∀ i m σ H,W i m σ H →
     ((Itl K a).stop i H∧D.nx σ H)∨((Itl K a).go i H∧∃ N:St→Hp→Prop,(∀ σ' H',N σ' H'→∃ m',m'<m∧W (i+1) m' σ' H')∧∀ x H',(Itl K a).yld i H x H'→g x σ H' fun σ2 H2=>tb { D with nx:=N,ct:=N,bk:=D.nx } σ2 H2):=by
 refine ⟨fun i m σ H=>m=xs.length-i∧i≤xs.length∧Pv i σ H,⟨xs.length,by simp,Nat.zero_le _,h0⟩,?_⟩;rintro i m σ H ⟨rfl,hi,p⟩;have q:=hl i σ H hi p;by_cases hlt:i<xs.length
 · refine .inr ⟨⟨xs,xs[i],q,by simp [hlt]⟩,Pv (i+1),fun σ' H' p'=>⟨xs.length-(i+1),by omega,rfl,hlt,p'⟩,fun x H' y=>?_⟩
   obtain ⟨e,y⟩:=y;subst e;exact hs i x σ _ (y xs q) p
 · have e:i=xs.length:=by omega
   subst e;exact .inl ⟨⟨xs,q,Nat.le_refl _⟩,hd σ H p⟩
theorem Zjn {lo:Int}{n:Nat}{g:TG}{tb:TS}{D:Ends}{σ:St}{H:Hp}(Pv:Nat→St→Hp→Prop)(h0:Pv 0 σ H)
   (hs:∀ i σ H,i<n→Pv i σ H→g (.int (lo+i)) σ H fun σ2 H2=>tb { D with nx:=Pv (i+1),ct:=Pv (i+1),bk:=D.nx } σ2 H2) (hd:∀ σ H,Pv n σ H→D.nx σ H) :
   ∃ W:Nat→Nat→St→Hp→Prop,(∃ m,W 0 m σ H)∧∀ i m σ H,W i m σ H →
     ((Itr lo n).stop i H∧D.nx σ H)∨((Itr lo n).go i H∧∃ N:St→Hp→Prop,(∀ σ' H',N σ' H'→∃ m',m'<m∧W (i+1) m' σ' H')∧∀ x H',(Itr lo n).yld i H x H'→g x σ H' fun σ2 H2=>tb { D with nx:=N,ct:=N,bk:=D.nx } σ2 H2):=by
 refine ⟨fun i m σ H=>m=n-i∧i≤n∧Pv i σ H,⟨n,by simp,Nat.zero_le _,h0⟩,?_⟩;rintro i m σ H ⟨rfl,hi,p⟩;by_cases hlt:i<n
 · refine .inr ⟨hlt,Pv (i+1),fun σ' H' p'=>⟨n-(i+1),by omega,rfl,hlt,p'⟩,fun x H' y=>?_⟩
   obtain ⟨e,y⟩:=y;subst e y;exact hs i σ _ hlt p
 · have e:i=n:=by omega
   subst e;exact .inl ⟨Nat.le_refl _,hd σ H p⟩
theorem Ze1 {c:TT}{tb:TS}{D:Ends}{σ:St}{H:Hp}(Pv:St→Hp→Prop)(μ:St→Hp→Nat)(h0:Pv σ H)
   (hs:∀ σ H,Pv σ H→c σ H fun b H1=>if b=true then tb { D with nx:=fun σ' H'=>Pv σ' H'∧μ σ' H'<μ σ H,ct:=fun σ' H'=>Pv σ' H'∧μ σ' H'<μ σ H,bk:=D.nx } σ H1 else D.nx σ H1)
   (mono:∀ σ H Q Q',(∀ b H1,Q b H1→Q' b H1)→c σ H Q→c σ H Q'):tWhile c tb D σ H:=by
 refine ⟨fun m σ H=>m=μ σ H∧Pv σ H,⟨_,rfl,h0⟩,?_⟩;rintro m σ H ⟨rfl,p⟩;refine mono σ H _ _ (fun b H1 q=>?_) (hs σ H p);cases b with
 | true=>exact ⟨_,fun σ' H' ⟨p',l⟩=>⟨_,l,rfl,p'⟩,q⟩
 | false=>exact q
abbrev R2:=V→V→Hp→VK→Prop
def OpR (X:Cx) (f:Value→Value→Sem Value) (r:R2):Prop :=
 ∀ (pins:List (Addr × Obj)) (s:Shared) (σ:St) (H:Hp) (x y:V) (v u:Value) (Q:VK),Inv X pins σ H s→RelV x v→RelV y u→r x y H Q →
   wpAny (model X.prog X.w) X.A (f v u) (EP X pins σ Q) X.xe s
def UnR (X:Cx) (f:Value→Sem Value) (r:V→Hp→VK→Prop):Prop :=
 ∀ (pins:List (Addr × Obj)) (s:Shared) (σ:St) (H:Hp) (x:V) (v:Value) (Q:VK),Inv X pins σ H s→RelV x v→r x H Q →
   wpAny (model X.prog X.w) X.A (f v) (EP X pins σ Q) X.xe s
def CallR (X:Cx) (f:Value) (r:List V→Hp→VK→Prop):Prop :=
 ∀ (pins:List (Addr × Obj)) (s:Shared) (σ:St) (H:Hp) (xs:List V) (us:List Value) (Q:VK),Inv X pins σ H s→Vals xs us→r xs H Q →
   wpAny (model X.prog X.w) X.A (call f us) (EP X pins σ Q) X.xe s
def tOp (r:R2)(ta tb:TE):TE:=fun σ H Q=>ta σ H fun x H1=>tb σ H1 fun y H2=>r x y H2 Q
def tUn (r:V→Hp→VK→Prop)(ta:TE):TE:=fun σ H Q=>ta σ H fun x H1=>r x H1 Q
def rI (C:Int→Int→Prop)(g:Int→Int→V):R2:=fun x y H Q=>∃ i j,x=.int i∧y=.int j∧C i j∧Q (g i j) H
def rI0 (g:Int→Int→V):R2:=fun x y H Q=>∃ i j,x=.int i∧y=.int j∧Q (g i j) H
def rU (g:Int→V):V→Hp→VK→Prop:=fun x H Q=>∃ i,x=.int i∧Q (g i) H
section
variable {X:Cx}{a b c:Expr}{ta tb tc:TE}{pos:Pos}
theorem binT (ha:PE X a ta)(hb:PE X b tb){pins:List (Addr × Obj)}{s:Shared}{σ:St}{H:Hp}{R:V→V→Hp→Prop}(I:Inv X pins σ H s)
   (h:ta σ H fun x H1=>tb σ H1 fun y H2=>R x y H2) {Q:Value→Shared→Prop} {f:Value→Value→Sem Value}
   (hf:∀ v u s2 x y H2,Inv X pins σ H2 s2→RelV x v→RelV y u→R x y H2→wpAny (model X.prog X.w) X.A (f v u) Q X.xe s2) :
   wpAny (model X.prog X.w) X.A (eval a X.env) (fun v s₁=>wpAny (model X.prog X.w) X.A (eval b X.env) (fun u s₂=>wpAny (model X.prog X.w) X.A (f v u) Q X.xe s₂) X.xe s₁) X.xe s:=by
 refine thn (ha pins s σ H _ I h) fun v s1 ⟨x,H1,I1,r1,q1⟩=>?_
 refine thn (hb pins s1 σ H1 _ I1 q1) fun u s2 ⟨y,H2,I2,r2,q2⟩=>?_
 exact hf v u s2 x y H2 I2 r1 r2 q2
theorem Zai {op:Operator}{r:R2}(ho:OpR X (binaryOp op) r)(ha:PE X a ta)(hb:PE X b tb):PE X (.BinOp a op b pos) (tOp r ta tb):=by intro pins s σ H Q I h;exact wpAny_BinOp (binT ha hb I h fun v u s2 x y H2 I2 rx ry q=>ho pins s2 σ H2 x y v u Q I2 rx ry q)
theorem Zha {op:UnaryOp}{r:V→Hp→VK→Prop}(ho:UnR X (unaryOp op) r)(ha:PE X a ta):PE X (.UnaryOp op a pos) (tUn r ta):=by intro pins s σ H Q I h;exact UnaryOp_ (thn (ha pins s σ H _ I h) fun v s1 ⟨x,H1,I1,r1,q1⟩=>ho pins s1 σ H1 x v Q I1 r1 q1)
theorem opI {f:Value→Value→Sem Value}{C:Int→Int→Prop}{g:Int→Int→Int}
   (rule:∀ (i j:Int) (t u:Tok) (s:Shared) (Q:Value→Shared→Prop) (E:Value→Shared→Prop),C i j→Q (.int (g i j) s.toks) { s with toks:=s.toks+1 }→wpAny (model X.prog X.w) X.A (f (.int i t) (.int j u)) Q E s) :
   OpR X f (rI C fun i j=>.int (g i j)):=by
 intro pins s σ H x y v u Q I rx ry h;obtain ⟨i,j,rfl,rfl,hc,q⟩:=h;obtain ⟨t,rfl⟩:=rx;obtain ⟨t',rfl⟩:=ry;exact rule i j t t' s _ _ hc ⟨.int (g i j),H,I.tok _,⟨_,rfl⟩,q⟩
theorem opI0 {f:Value→Value→Sem Value}{g:Int→Int→Int}
   (rule:∀ (i j:Int) (t u:Tok) (s:Shared) (Q:Value→Shared→Prop) (E:Value→Shared→Prop),Q (.int (g i j) s.toks) { s with toks:=s.toks+1 }→wpAny (model X.prog X.w) X.A (f (.int i t) (.int j u)) Q E s) :
   OpR X f (rI0 fun i j=>.int (g i j)):=by
 intro pins s σ H x y v u Q I rx ry h;obtain ⟨i,j,rfl,rfl,q⟩:=h;obtain ⟨t,rfl⟩:=rx;obtain ⟨t',rfl⟩:=ry;exact rule i j t t' s _ _ ⟨.int (g i j),H,I.tok _,⟨_,rfl⟩,q⟩
theorem opB0 {f:Value→Value→Sem Value}{g:Int→Int→Bool}
   (rule:∀ (i j:Int) (t u:Tok) (s:Shared) (Q:Value→Shared→Prop) (E:Value→Shared→Prop),Q (.bool (g i j)) s→wpAny (model X.prog X.w) X.A (f (.int i t) (.int j u)) Q E s) :
   OpR X f (rI0 fun i j=>.bl (g i j)):=by
 intro pins s σ H x y v u Q I rx ry h;obtain ⟨i,j,rfl,rfl,q⟩:=h;obtain ⟨t,rfl⟩:=rx;obtain ⟨t',rfl⟩:=ry;exact rule i j t t' s _ _ ⟨.bl (g i j),H,I,rfl,q⟩
def CDiv (i j:Int):Prop:=0<j∧j<1073741824
def CPow (i j:Int):Prop:=0≤j∧j≤1000000∧i.natAbs<2^64
def CMul (i j:Int):Prop:=(-(2^64)<i∧i<2^64)∨(-(2^64)<j∧j<2^64)
theorem CMul.ok {i j:Int}(h:CMul i j):IntMulOk i j:=by
 rcases h with ⟨h1,h2⟩ | ⟨h1,h2⟩
 · exact .of_left (intBits_le_64 h1 h2)
 · exact .of_right (intBits_le_64 h1 h2)
theorem Zes (k:Nat):(0:Int)≤2^k:=by rw [two_pow_cast];exact Int.natCast_nonneg _
theorem ZaD:OpR X (binaryOp .Add) (rI0 fun i j=>.int (i+j)):=opI0 fun _ _ _ _ _ _ _ q=>add_int q
theorem Za2:OpR X (binaryOp .Sub) (rI0 fun i j=>.int (i-j)):=opI0 fun _ _ _ _ _ _ _ q=>sub_int q
theorem Zcp:OpR X (binaryOp .Mult) (rI CMul fun i j=>.int (i*j)):=opI fun _ _ _ _ _ _ _ hc q=>mul_int q hc.ok
theorem Zay:OpR X (binaryOp .FloorDiv) (rI CDiv fun i j=>.int (i/j)):=opI fun i j _ _ _ _ _ hc q=>by
 have h1:(0:Int)<j:=hc.1;have h2:j<1073741824:=hc.2;exact floordiv_int (by omega) (by rw [Int.fdiv_eq_ediv_of_nonneg i (by omega)];exact q) (.inl (PyProof.noPylong_small (by omega)))
theorem Zax:OpR X (binaryOp .Mod) (rI (fun _ j=>0<j) fun i j=>.int (i%j)):=opI fun i j _ _ _ _ _ hc q=>by
 have h1:(0:Int)<j:=hc;exact mod_int' (by omega) (by rw [Int.fmod_eq_emod_of_nonneg i (by omega)];exact q)
theorem op_pow:OpR X (binaryOp .Pow) (rI CPow fun i j=>.int (i^j.toNat)):=opI fun _ _ _ _ _ _ _ hc q=>pow_int_small hc.1 hc.2.1 hc.2.2 q
theorem ZeL:OpR X (binaryOp .RShift) (rI (fun _ j=>0≤j) fun i j=>.int (i/2^j.toNat)):=opI fun i j _ _ _ _ _ hc q =>
 rshift_int hc (by rw [Int.fdiv_eq_ediv_of_nonneg i (Zes _)];exact q)
theorem Zbl:OpR X (binaryOp .BitAnd) (rI0 fun i j=>.int (Builtin.bitAnd i j)):=opI0 fun _ _ _ _ _ _ _ q=>and_int q
theorem op_or:OpR X (binaryOp .BitOr) (rI0 fun i j=>.int (Builtin.bitOr i j)):=opI0 fun _ _ _ _ _ _ _ q=>or_int q
theorem unI {f:Value→Sem Value}{g:Int→Int}
   (rule:∀ (i:Int) (t:Tok) (s:Shared) (Q:Value→Shared→Prop) (E:Value→Shared→Prop),Q (.int (g i) s.toks) { s with toks:=s.toks+1 }→wpAny (model X.prog X.w) X.A (f (.int i t)) Q E s) :
   UnR X f (rU fun i=>.int (g i)):=by
 intro pins s σ H x v Q I rx h;obtain ⟨i,rfl,q⟩:=h;obtain ⟨t,rfl⟩:=rx;exact rule i t s _ _ ⟨.int (g i),H,I.tok _,⟨_,rfl⟩,q⟩
theorem ZhR:UnR X (unaryOp .USub) (rU fun i=>.int (-i)):=unI fun _ _ _ _ _ q=>neg_int q
theorem un_inv:UnR X (unaryOp .Invert) (rU fun i=>.int (Builtin.bitNot i)):=unI fun _ _ _ _ _ q=>invert_int q
end
def scal:V→V→Bool
 | .non,.non=>true | .non,.int _=>true | .int _,.non=>true | .non,.bl _=>true | .bl _,.non=>true | .non,.str _=>true | .str _,.non=>true
 | .int _,.int _=>true | .bl _,.bl _=>true | .str _,.str _=>true | .byt _,.byt _=>true
 | .int _,.str _=>true | .str _,.int _=>true | .bl _,.str _=>true | .str _,.bl _=>true
 | _,_=>false
def rEq:R2:=fun x y H Q=>scal x y=true∧Q (.bl (decide (x=y))) H
def rNe:R2:=fun x y H Q=>scal x y=true∧Q (.bl (!decide (x=y))) H
theorem Zip {i j:Int}:decide (V.int i=V.int j)=(i==j):=by rw [Bool.eq_iff_iff];simp
theorem dec_bl {i j:Bool}:decide (V.bl i=V.bl j)=(i==j):=by rw [Bool.eq_iff_iff];simp
theorem ZiY {i j:Str}:decide (V.str i=V.str j)=(i==j):=by rw [Bool.eq_iff_iff];simp
theorem Zib {i j:Array UInt8}:decide (V.byt i=V.byt j)=(i.toList==j.toList):=by rw [Bool.eq_iff_iff];cases i;cases j;simp
section
variable {X:Cx}{a b c:Expr}{ta tb tc:TE}{pos:Pos}
theorem ZaB {pins:List (Addr × Obj)}{σ:St}{H:Hp}{s:Shared}{Q:VK}{k k':Bool}(I:Inv X pins σ H s)(q:Q (.bl k) H)(e:k=k'):EP X pins σ Q (.bool k') s:=by subst e;exact ⟨.bl k,H,I,rfl,q⟩
theorem Zbw:OpR X (compareOp .Eq) rEq:=by
 intro pins s σ H x y v u Q I rx ry h;obtain ⟨hs,q⟩:=h;cases x with
 | non =>
   cases rx;cases y with
   | non=>cases ry;exact PySem.EqNone.eq_none_none (ZaB I q (by simp))
   | bl j=>cases ry;exact PySem.EqNone.eq_none_bool (ZaB I q (by simp))
   | int j=>obtain ⟨t',rfl⟩:=ry;exact PySem.EqNone.eq_none_int (ZaB I q (by simp))
   | str j=>obtain ⟨t',rfl⟩:=ry;exact PySem.EqNone.eq_none_str (ZaB I q (by simp))
   | _=>exact absurd (show false=true from hs) Bool.false_ne_true
 | bl i =>
   cases rx;cases y with
   | non=>cases ry;exact PySem.EqNone.eq_bool_none (ZaB I q (by simp))
   | bl j=>cases ry;exact eq_bool (ZaB I q dec_bl)
   | str j=>obtain ⟨t',rfl⟩:=ry;exact PySem.EqMixed.eq_bool_str (ZaB I q (by simp))
   | _=>exact absurd (show false=true from hs) Bool.false_ne_true
 | int i =>
   obtain ⟨t,rfl⟩:=rx;cases y with
   | non=>cases ry;exact PySem.EqNone.eq_int_none (ZaB I q (by simp))
   | int j=>obtain ⟨t',rfl⟩:=ry;exact eq_int (ZaB I q Zip)
   | str j=>obtain ⟨t',rfl⟩:=ry;exact PySem.EqMixed.eq_int_str (ZaB I q (by simp))
   | _=>exact absurd (show false=true from hs) Bool.false_ne_true
 | str i =>
   obtain ⟨t,rfl⟩:=rx;cases y with
   | non=>cases ry;exact PySem.EqNone.eq_str_none (ZaB I q (by simp))
   | bl j=>cases ry;exact PySem.EqMixed.eq_str_bool (ZaB I q (by simp))
   | int j=>obtain ⟨t',rfl⟩:=ry;exact PySem.EqMixed.eq_str_int (ZaB I q (by simp))
   | str j=>obtain ⟨t',rfl⟩:=ry;exact eq_str (ZaB I q ZiY)
   | _=>exact absurd (show false=true from hs) Bool.false_ne_true
 | byt i =>
   obtain ⟨t,rfl⟩:=rx;cases y with
   | byt j=>obtain ⟨t',rfl⟩:=ry;exact PySem.W.eq_bytes (ZaB I q Zib)
   | _=>exact absurd (show false=true from hs) Bool.false_ne_true
 | _=>cases y<;>exact absurd (show false=true from hs) Bool.false_ne_true
theorem op_ne:OpR X (compareOp .NotEq) rNe:=by
 intro pins s σ H x y v u Q I rx ry h;obtain ⟨hs,q⟩:=h;cases x with
 | non =>
   cases rx;cases y with
   | non=>cases ry;exact PySem.EqNone.ne_none_none (ZaB I q (by simp))
   | bl j=>cases ry;exact PySem.EqNone.ne_none_bool (ZaB I q (by simp))
   | int j=>obtain ⟨t',rfl⟩:=ry;exact PySem.EqNone.ne_none_int (ZaB I q (by simp))
   | str j=>obtain ⟨t',rfl⟩:=ry;exact PySem.EqNone.ne_none_str (ZaB I q (by simp))
   | _=>exact absurd (show false=true from hs) Bool.false_ne_true
 | bl i =>
   cases rx;cases y with
   | non=>cases ry;exact PySem.EqNone.ne_bool_none (ZaB I q (by simp))
   | bl j=>cases ry;exact ne_bool (ZaB I q (congrArg not dec_bl))
   | str j=>obtain ⟨t',rfl⟩:=ry;exact PySem.EqMixed.ne_bool_str (ZaB I q (by simp))
   | _=>exact absurd (show false=true from hs) Bool.false_ne_true
 | int i =>
   obtain ⟨t,rfl⟩:=rx;cases y with
   | non=>cases ry;exact PySem.EqNone.ne_int_none (ZaB I q (by simp))
   | int j=>obtain ⟨t',rfl⟩:=ry;exact ne_int (ZaB I q (congrArg not Zip))
   | str j=>obtain ⟨t',rfl⟩:=ry;exact PySem.EqMixed.ne_int_str (ZaB I q (by simp))
   | _=>exact absurd (show false=true from hs) Bool.false_ne_true
 | str i =>
   obtain ⟨t,rfl⟩:=rx;cases y with
   | non=>cases ry;exact PySem.EqNone.ne_str_none (ZaB I q (by simp))
   | bl j=>cases ry;exact PySem.EqMixed.ne_str_bool (ZaB I q (by simp))
   | int j=>obtain ⟨t',rfl⟩:=ry;exact PySem.EqMixed.ne_str_int (ZaB I q (by simp))
   | str j=>obtain ⟨t',rfl⟩:=ry;exact ne_str (ZaB I q (congrArg not ZiY))
   | _=>exact absurd (show false=true from hs) Bool.false_ne_true
 | byt i =>
   obtain ⟨t,rfl⟩:=rx;cases y with
   | byt j=>obtain ⟨t',rfl⟩:=ry;exact PySem.W.ne_bytes (ZaB I q (congrArg not Zib))
   | _=>exact absurd (show false=true from hs) Bool.false_ne_true
 | _=>cases y<;>exact absurd (show false=true from hs) Bool.false_ne_true
theorem ZfD:OpR X (compareOp .Lt) (rI0 fun i j=>.bl (decide (i<j))):=opB0 fun _ _ _ _ _ _ _ q=>lt_int q
theorem ZdC:OpR X (compareOp .LtE) (rI0 fun i j=>.bl (decide (i≤j))):=opB0 fun _ _ _ _ _ _ _ q=>le_int q
theorem op_gt:OpR X (compareOp .Gt) (rI0 fun i j=>.bl (decide (j<i))):=opB0 fun _ _ _ _ _ _ _ q=>gt_int q
theorem ZdL:OpR X (compareOp .Is) (fun x y H Q=>y=.non∧Q (.bl (decide (x=.non))) H):=by
 intro pins s σ H x y v u Q I rx ry h;obtain ⟨rfl,q⟩:=h;cases ry;refine is_none_gen (ZaB I q ?_);cases x<;>first
   | (cases rx;rfl)
   | (obtain ⟨t,rfl⟩:=rx;rfl)
theorem ZiL:OpR X (compareOp .IsNot) (fun x y H Q=>y=.non∧Q (.bl (!decide (x=.non))) H):=by
 intro pins s σ H x y v u Q I rx ry h;obtain ⟨rfl,q⟩:=h;cases ry;refine isnot_none_gen (ZaB I q ?_);cases x<;>first
   | (cases rx;rfl)
   | (obtain ⟨t,rfl⟩:=rx;rfl)
theorem nomark (b:Expr){op:CmpOp}(h:op≠.In:=by decide)(h2:op≠.NotIn:=by decide):behindInMarks op b=false:=by
 have e1:(op==CmpOp.In)=false:=by cases op<;>first | rfl | exact absurd rfl h
 have e2:(op==CmpOp.NotIn)=false:=by cases op<;>first | rfl | exact absurd rfl h2
 cases b<;>simp [behindInMarks,e1,e2]
theorem Zbz {op:CmpOp}{r:R2}(ho:OpR X (compareOp op) r)(ha:PE X a ta)(hb:PE X b tb)(hm:behindInMarks op b=false):PE X (.Compare a [op] [b] pos) (tOp r ta tb):=by intro pins s σ H Q I h;exact wpAny_Compare1 (binT ha hb I h fun v u s2 x y H2 I2 rx ry q=>ho pins s2 σ H2 x y v u Q I2 rx ry q) hm
def tTest (t:TE):TT:=fun σ H Q=>t σ H fun x H'=>∃ k,x=.bl k∧Q k H'
theorem Zas {op:CmpOp}{r:R2}(ho:OpR X (compareOp op) r)(ha:PE X a ta)(hb:PE X b tb)(hm:behindInMarks op b=false):PT X (.Compare a [op] [b] pos) (tTest (tOp r ta tb)):=by
 intro pins s σ H Q I h;refine wpAny_isTrue_Compare1 (thn (ha pins s σ H _ I h) fun v s1 ⟨x,H1,I1,r1,q1⟩=>thn (hb pins s1 σ H1 _ I1 q1) fun u s2 ⟨y,H2,I2,r2,q2⟩ =>
   thn (ho pins s2 σ H2 x y v u _ I2 r1 r2 q2) fun c s3 ⟨z,H3,I3,r3,k,e,q3⟩=>?_) hm
 subst e;cases r3;exact wpAny_truthy_bool ⟨H3,I3,q3⟩
def tChain (r r':R2)(ta tb tc:TE):TE:=fun σ H Q=>ta σ H fun x H1=>tb σ H1 fun y H2=>r x y H2 fun z H3=>∃ k,z=.bl k ∧
 (if k=true then tc σ H3 fun w' H4=>r' y w' H4 Q else Q (.bl false) H3)
theorem pe_chain {op op':CmpOp}{r r':R2}(ho:OpR X (compareOp op) r)(ho':OpR X (compareOp op') r')(ha:PE X a ta)(hb:PE X b tb)(hc:PE X c tc)
   (hm:lastMarks [op,op'] [b,c]=false:=by with_unfolding_all rfl):PE X (.Compare a [op,op'] [b,c] pos) (tChain r r' ta tb tc):=by
 intro pins s σ H Q I h;refine Compare_chain (thn (ha pins s σ H _ I h) fun v s1 ⟨x,H1,I1,r1,q1⟩=>chain_link (thn (hb pins s1 σ H1 _ I1 q1) fun u s2 ⟨y,H2,I2,r2,q2⟩ =>
   thn (ho pins s2 σ H2 x y v u _ I2 r1 r2 q2) fun d s3 ⟨z,H3,I3,r3,k,e,q3⟩=>?_)) hm
 subst e;cases r3;refine wpAny_truthy_bool ?_;cases k with
 | false=>exact ite_ff ⟨.bl false,H3,I3,rfl,q3⟩
 | true=>exact ite_tt (chain_last (thn (hc pins s3 σ H3 _ I3 q3) fun w' s4 ⟨z',H4,I4,r4,q4⟩=>ho' pins s4 σ H4 y z' u w' Q I4 r2 r4 q4))
theorem Zgo {op op':CmpOp}{r r':R2}(ho:OpR X (compareOp op) r)(ho':OpR X (compareOp op') r')(ha:PE X a ta)(hb:PE X b tb)(hc:PE X c tc)
   (hm:lastMarks [op,op'] [b,c]=false:=by with_unfolding_all rfl):PT X (.Compare a [op,op'] [b,c] pos) (tTest (tChain r r' ta tb tc)):=by
 intro pins s σ H Q I h;refine isTrue_chain (thn (ha pins s σ H _ I h) fun v s1 ⟨x,H1,I1,r1,q1⟩=>test_link (thn (hb pins s1 σ H1 _ I1 q1) fun u s2 ⟨y,H2,I2,r2,q2⟩ =>
   thn (ho pins s2 σ H2 x y v u _ I2 r1 r2 q2) fun d s3 ⟨z,H3,I3,r3,k,e,q3⟩=>?_)) hm
 subst e;cases r3;refine wpAny_truthy_bool ?_;cases k with
 | false =>
   obtain ⟨k',e',q'⟩:=q3;cases e';exact ite_ff ⟨H3,I3,q'⟩
 | true =>
   refine ite_tt (test_last (thn (hc pins s3 σ H3 _ I3 q3) fun w' s4 ⟨z',H4,I4,r4,q4⟩=>thn (ho' pins s4 σ H4 y z' u w' _ I4 r2 r4 q4) fun d' s5 ⟨z2,H5,I5,r5,k2,e2,q5⟩=>?_));subst e2;cases r5;exact wpAny_truthy_bool ⟨H5,I5,q5⟩
theorem line63:(sizeLine:Nat)<2^63:=by rw [sizeLine_eq];decide
theorem vals1 {x:V}{us:List Value}(r:Vals [x] us):∃ u,us=[u]∧RelV x u:=by
 cases r with
 | cons r1 r2=>cases r2;exact ⟨_,rfl,r1⟩
theorem vals2 {x y:V}{us:List Value}(r:Vals [x,y] us):∃ u w',us=[u,w']∧RelV x u∧RelV y w':=by
 cases r with
 | cons r1 r2 =>
   cases r2 with
   | cons r3 r4=>cases r4;exact ⟨_,_,rfl,r1,r3⟩
theorem Zft (hc:X.calm=true):CallR X (.builtin "min") (fun xs H Q=>∃ i j,xs=[.int i,.int j]∧Q (.int (if j<i then j else i)) H):=by
 intro pins s σ H xs us Q I r h;obtain ⟨i,j,rfl,q⟩:=h;obtain ⟨u,w',rfl,⟨t,rfl⟩,⟨t',rfl⟩⟩:=vals2 r;refine min_two_ints (I.ok.hd hc) fun h' tk k=>⟨_,H,I.kept k,?_,q⟩
 by_cases hj:j<i
 · rw [if_pos hj,if_pos hj];exact ⟨_,rfl⟩
 · rw [if_neg hj,if_neg hj];exact ⟨_,rfl⟩
end
structure ObjM (h:Heap)(x dx C:Addr)(mA:Str→Option Value):Prop where
 obj:h.get? x=some (PySem.W.instObj C dx)
 ns:h.Ns1 dx mA
 ne:dx≠x
theorem ZjK {h:Heap}{dx:Addr}{mA:Str→Option Value}(n:h.Ns1 dx mA):∃ od,h.get? dx=some od∧∀ name,PySem.W.lookIn name od=some (mA name):=by
 obtain ⟨o,es,ep,ho,hd,hk,_,hm⟩:=n;refine ⟨o,ho,fun name=>?_⟩;have e:=hm name;unfold nsFind findBy at e;rw [← Array.find?_toList] at e;unfold PySem.W.lookIn;rw [hd];dsimp only;split
 · rename_i y q
   rw [q] at e;exact congrArg some e
 · rename_i q
   rw [q] at e;have a:es.toList.any (·.refKey)=false:=by rw [List.any_eq_false];intro y hy;obtain ⟨z,t,hkey⟩:=hk y (Array.mem_toList_iff.mp hy);simp [DictEntry.refKey,hkey]
   have a':¬ es.toList.any (·.refKey)=true:=by rw [a];exact Bool.false_ne_true
   rw [if_neg a'];exact congrArg some e
theorem ObjM.look {h:Heap}{x dx C:Addr}{mA:Str→Option Value}(I:ObjM h x dx C mA):∃ od,PySem.W.InstAt h x (PySem.W.instObj C dx) C (some od)∧∀ name,PySem.W.lookIn name od=some (mA name) :=
 let ⟨od,ho,hl⟩:=ZjK I.ns
 ⟨od,⟨I.obj,rfl,rfl,ho⟩,hl⟩
section
variable {prog:Program}{w:World}{A:Around}{E:Value→Shared→Prop}{s:Shared}{K:PySem.W.Frag}{x dx C f:Addr}{mA:Str→Option Value}{name:Str}{v:Value}
theorem get_map {expr:Bool}{Q:Value→Shared→Prop}(X:K.In s.heap)(I:ObjM s.heap x dx C mA)(hg:PySem.W.plainGet K C name=true)(hh:PySem.W.hasDictIn K C=true)
   (ha:PySem.W.findIn K (.ref C) name=some none) (hv:mA name=some v) (hv':PySem.W.handedIn v=true) (h:Q v { s with toks:=s.toks+1 }) :
   wpAny (model prog w) A (getAttr (.ref x) name expr) Q E s:=by
 obtain ⟨od,J,hl⟩:=I.look;exact PySem.W.get_value X J (PySem.W.plainGet_of hg).1 (PySem.W.findObj_own hh ha rfl (by rw [hl,hv])) hv' h
theorem get_meth {pl:Sem Bool}{Q:Value × List Value→Shared→Prop}(X:K.In s.heap)(I:ObjM s.heap x dx C mA)(hg:PySem.W.plainGet K C name=true)
   (hf:PySem.W.findIn K (.ref C) name=some (some (.ref f))) (ht:PySem.W.isFn K (.ref f)=true) (hv:mA name=none) (h:Q (.ref f,[.ref x]) s) :
   wpAny (model prog w) A (getMethod (.ref x) name pl) Q E s:=by
 obtain ⟨od,J,hl⟩:=I.look;exact PySem.W.method_fn X J (PySem.W.plainGet_of hg).1 (PySem.W.plainGet_of hg).2 hf (beq_iff_eq.mp ht) (by show (PySem.W.lookIn name od).map (·.isSome)=some false;rw [hl,hv];rfl) h
theorem set_map {ns:List Str}{Q:Unit→Shared→Prop}(X:K.In s.heap)(I:ObjM s.heap x dx C mA)
   (hs:PySem.W.findIn K (.ref C) "__setattr__"=some (some (.builtin "object.__setattr__"))) (hp:PySem.W.plainOver K C=true) (ht:PySem.W.takerIn K C name=some none) (hh:PySem.W.hasDictIn K C=true)
   (hw:PySem.Within mA ns) (hsz:ns.length≤sizeLine)
   (h:∀ h',ObjM h' x dx C (fun y=>if y=name then some v else mA y)→Heap.SameBut dx s.heap h'→Q () { s with heap:=h',toks:=s.toks+2 }) :
   wpAny (model prog w) A (setAttr (.ref x) name v) Q E s:=by
 obtain ⟨od,J,hl⟩:=I.look;refine PySem.W.set_plain X J hs (PySem.W.osa_open (s:={ s with toks:=s.toks+1 }) (r:=none) X J hp ht fun b=>?_);obtain ⟨cd,hc,hd'⟩:=PySem.W.any_some hh;have hx:s.heap.get? x=some ⟨.ref C,some dx,.plain,#[]⟩:=I.obj;refine wpAny_bind (wpAny_pure (wpAny_bind (wpAny_bind (wpAny_loadPart hx (wpAny_bind (PySem.W.Looks.here (s:={ s with toks:=s.toks+1 }) (PySem.W.looks_clsIn X hc) ?_))))));rw [hd'];refine wpAny_pure (a:=some dx) (wpAny_bind (wpAny_pure (wpAny_bind ?_)));refine wpAny_nsSet1 (s:={ s with toks:=s.toks+1 }) I.ns fun h' hn2 hs2=>?_
 obtain ⟨oD,esD,epD,hoD,hdD,hcD⟩:=hn2.count (PySem.Within.cons name v hw);refine wpAny_bind (wpAny_lookBehind hoD (by rw [hdD];exact pastItsLine_dict (Nat.le_trans hcD (by rw [List.length_cons];omega))) ?_);exact wpAny_pure (h _ ⟨(hs2.2 _ (Ne.symm I.ne)).trans I.obj,hn2,I.ne⟩ hs2)
theorem make_map {R:Result→Shared→Prop}{vs:List Value}{kw:List (Str × Value)}(X:K.In s.heap)(hm:PySem.W.makesIn K C=true)
   (hi:PySem.W.findIn K (.ref C) "__init__"=some (some (.ref f))) (hf:PySem.W.typeIn K (.ref f)=some (.type "function"))
   (h:codeAny (model prog w) (A.under (.builtin "type.__call__" ⟨.ref C::vs,kw⟩)) (.call (.ref f) ⟨.ref (s.heap.objs.size+1)::vs,kw⟩) (PySem.W.InitBack (s.heap.objs.size+1) R)
     { s with heap:=(s.heap.push PySem.W.emptyDict).push (PySem.W.instObj C s.heap.objs.size) }) :
   codeAny (model prog w) A (.call (.ref C) ⟨vs,kw⟩) R s:=by
 obtain ⟨hh,g,d,t,os⟩:=s;exact PySem.W.make_core (PySem.W.makes_of X hm) (PySem.W.looks_findIn X hi) (fun self=>PySem.W.bind_fn X self hf) (.inl rfl) h
end
def putF (f:Str)(v:V):List (Str × V)→List (Str × V)
 | []=>[(f,v)]
 | (g,x)::r=>if g=f then (g,v)::r else (g,x)::putF f v r
theorem Zd4 (f g:Str) (v:V):∀ fs:List (Str × V),(putF f v fs).lookup g=if g=f then some v else fs.lookup g
 | []=>by
   show List.lookup g [(f,v)]=_;by_cases h:g=f
   · have hb:(g==f)=true:=beq_iff_eq.mpr h
     simp only [List.lookup,hb,if_pos h]
   · have hb:(g==f)=false:=beq_eq_false_iff_ne.mpr h
     simp only [List.lookup,hb,if_neg h]
 | (k, x)::r=>by
   have ih:=Zd4 f g v r;rw [show putF f v ((k,x)::r)=(if k=f then (k,v)::r else (k,x)::putF f v r) from rfl];by_cases hk:k=f
   · rw [if_pos hk]
     by_cases h:g=k
     · have hb:(g==k)=true:=beq_iff_eq.mpr h
       simp only [List.lookup,hb,if_pos (h.trans hk)]
     · have hb:(g==k)=false:=beq_eq_false_iff_ne.mpr h
       simp only [List.lookup,hb,if_neg (fun e:g=f=>h (e.trans hk.symm))]
   · rw [if_neg hk]
     by_cases h:g=k
     · have hb:(g==k)=true:=beq_iff_eq.mpr h
       simp only [List.lookup,hb,if_neg (fun e:g=f=>hk (h.symm.trans e))]
     · have hb:(g==k)=false:=beq_eq_false_iff_ne.mpr h
       simp only [List.lookup,hb];exact ih
theorem ZdG (f:Str) (v:V):∀ fs:List (Str × V),f∈(putF f v fs).map (·.1)∧∀ g,g∈fs.map (·.1)→g∈(putF f v fs).map (·.1)
 | []=>⟨by simp [putF],fun g h=>by simp at h⟩
 | (k, x)::r=>by
   obtain ⟨i1,i2⟩:=ZdG f v r;rw [show putF f v ((k,x)::r)=(if k=f then (k,v)::r else (k,x)::putF f v r) from rfl];by_cases hk:k=f
   · rw [if_pos hk]
     subst hk;exact ⟨by simp,fun g h=>by simpa using h⟩
   · rw [if_neg hk]
     refine ⟨?_,fun g h=>?_⟩
     · rw [List.map_cons]
       exact List.mem_cons_of_mem _ i1
     · rw [List.map_cons] at h ⊢
       rcases List.mem_cons.mp h with e | e
       · exact List.mem_cons.mpr (.inl e)
       · exact List.mem_cons_of_mem _ (i2 g e)
theorem ZdV (f:Str)(v:V):∀ fs:List (Str × V),(putF f v fs).length≤fs.length+1
 | []=>by simp [putF]
 | (k,x)::r=>by
   have ih:=ZdV f v r;rw [show putF f v ((k,x)::r)=(if k=f then (k,v)::r else (k,x)::putF f v r) from rfl];by_cases hk:k=f
   · rw [if_pos hk,List.length_cons,List.length_cons];omega
   · rw [if_neg hk,List.length_cons,List.length_cons];omega
theorem RelO.some_of {v:V}{o:Option Value}(r:RelO (some v) o):∃ u,o=some u∧RelV v u:=by
 cases o with
 | none=>exact (show False from r).elim
 | some u=>exact ⟨u,rfl,r⟩
theorem RelO.none_of {o:Option Value}(r:RelO none o):o=none:=by
 cases o with
 | none=>rfl
 | some u=>exact (show False from r).elim
theorem Zi3 {v:V}{u:Value}(r:RelV v u):PySem.W.handedIn u=true:=by
 cases v with
 | non=>cases (show u=Value.none from r);rfl
 | bl b=>cases (show u=Value.bool b from r);rfl
 | int i=>obtain ⟨t,e⟩:=(show ∃ t,u=Value.int i t from r);cases e;rfl
 | str x=>obtain ⟨t,e⟩:=(show ∃ t,u=Value.str x t from r);cases e;rfl
 | byt b=>obtain ⟨t,e⟩:=(show ∃ t,u=Value.bytes b t from r);cases e;rfl
 | flt b=>obtain ⟨t,e⟩:=(show ∃ t,u=Value.float b t from r);cases e;rfl
 | ref a=>cases (show u=Value.ref a from r);rfl
 | ty n=>cases (show u=Value.type n from r);rfl
section
variable {P:Program}{w:World}{H H':Hp}{h h':Heap}{a C dx:Addr}{fs fs':List (Str × V)}
theorem Zen (hok:HOk P w H h)(e:H a=some (.ins C dx fs)):∃ mA,ObjM h a dx C mA∧(∀ f,RelO (fs.lookup f) (mA f))∧PySem.Within mA (fs.map (·.1))∧fs.length≤1000∧H dx=some (.own a):=by
 obtain ⟨d,z,ne,ob,mA,n,r,q⟩:=(show ObjOk P w H h a (.ins C dx fs) from hok a _ e)
 exact ⟨mA,⟨ob,n,ne⟩,r,q,z,d⟩
end
structure Cls (K:PySem.W.Frag)(C:Addr):Prop where
 pg:PySem.W.plainGet K C Str.empty=true
 hd:PySem.W.hasDictIn K C=true
 po:PySem.W.plainOver K C=true
 sa:PySem.W.findIn K (.ref C) "__setattr__"=some (some (.builtin "object.__setattr__"))
theorem Cls.get {K:PySem.W.Frag}{C:Addr}(c:Cls K C)(f:Str):PySem.W.plainGet K C f=true:=c.pg
def NoAttr (K:PySem.W.Frag)(C:Addr)(f:Str):Prop:=PySem.W.findIn K (.ref C) f=some none
theorem NoAttr.taker {K:PySem.W.Frag}{C:Addr}{f:Str}(n:NoAttr K C f):PySem.W.takerIn K C f=some none:=by unfold PySem.W.takerIn;rw [show PySem.W.findIn K (.ref C) f=some none from n];rfl
structure Con (K:PySem.W.Frag)(C:Addr)(f:Str)(v:V)(u:Value):Prop where
 at_:PySem.W.findIn K (.ref C) f=some (some u)
 rel:RelV v u
 get:PySem.W.specialIn K u "__get__"=some none
 cp:PySem.W.copiedNames.contains f=false
structure Meth (K:PySem.W.Frag)(C:Addr)(m:Str)(f:Addr):Prop where
 at_:PySem.W.findIn K (.ref C) m=some (some (.ref f))
 fn:PySem.W.isFn K (.ref f)=true
 kp:PySem.W.keepIn K (.ref f)=true
section
variable {X:Cx}{pins:List (Addr × Obj)}{σ:St}{H:Hp}{s:Shared}{a C dx:Addr}{fs:List (Str × V)}{f:Str}{v:V}{A:Around}{E:Value→Shared→Prop}
theorem ZhO {b:Bool}{Q:Value→Shared→Prop}(I:Inv X pins σ H s)(e:H a=some (.ins C dx fs))(c:Cls X.K C)(n:NoAttr X.K C f)(l:fs.lookup f=some v)
   (h:∀ u s',Inv X pins σ H s'→RelV v u→Q u s'):wpAny (model X.prog X.w) A (getAttr (.ref a) f b) Q E s:=by
 obtain ⟨mA,O,r,_,_,_⟩:=Zen I.hok e;obtain ⟨u,hu,ru⟩:=RelO.some_of (v:=v) (o:=mA f) (by rw [← l];exact r f);exact get_map I.kIn O (c.get f) c.hd n hu (Zi3 ru) (h u _ (I.tok _) ru)
theorem Zcj {m:Str}{g:Addr}{pl:Sem Bool}{Q:Value × List Value→Shared→Prop}(I:Inv X pins σ H s)(e:H a=some (.ins C dx fs))(c:Cls X.K C)(k:Meth X.K C m g)(l:fs.lookup m=none)
   (h:Q (.ref g,[.ref a]) s):wpAny (model X.prog X.w) A (getMethod (.ref a) m pl) Q E s:=by
 obtain ⟨mA,O,r,_,_,_⟩:=Zen I.hok e;have hn:mA m=none:=RelO.none_of (by rw [← l];exact r m);exact get_meth I.kIn O (c.get m) k.at_ k.fn hn h
theorem Zh6 {y:V}{u:Value}{Q:Unit→Shared→Prop}(I:Inv X pins σ H s)(e:H a=some (.ins C dx fs))(c:Cls X.K C)(n:NoAttr X.K C f)(hl:fs.length<1000)(ry:RelV y u)
   (h:∀ s',Inv X pins σ (upd H a (.ins C dx (putF f y fs))) s'→Q () s'):wpAny (model X.prog X.w) A (setAttr (.ref a) f u) Q E s:=by
 obtain ⟨mA,O,r,wi,_,ho⟩:=Zen I.hok e;have hz:(fs.map (·.1)).length≤sizeLine:=by rw [List.length_map,sizeLine_eq];omega
 refine set_map I.kIn O c.sa c.po n.taker c.hd wi hz fun h' O' sb=>h _ ?_
 have hd:∃ o,h'.get? dx=some o:=let ⟨o,_,_,e',_⟩:=O'.ns;⟨o,e'⟩
 refine I.write (x:=a) (e:=dx) (by rw [e];exact True.intro) (.inr ho) (fun b q hb z=>(sb.2 b hb).trans z) hd ?_;refine ⟨by rw [Zah O.ne];exact ho,?_,O.ne,O'.obj,_,O'.ns,fun g=>?_,fun g hg=>?_⟩
 · have:=ZdV f y fs;omega
 · show RelO ((putF f y fs).lookup g) (if g=f then some u else mA g)
   rw [Zd4];by_cases q:g=f
   · rw [if_pos q,if_pos q];exact ry
   · rw [if_neg q,if_neg q];exact r g
 · by_cases q:g=f
   · rw [q];exact (ZdG f y fs).1
   · refine (ZdG f y fs).2 g (wi g fun z=>hg ?_)
     show (if g=f then some u else mA g)=none;rw [if_neg q];exact z
theorem Inv.made (I:Inv X pins σ H s):Inv X pins σ (upd (upd H s.heap.objs.size (.own (s.heap.objs.size+1))) (s.heap.objs.size+1) (.ins C s.heap.objs.size []))
   { s with heap:=(s.heap.push PySem.W.emptyDict).push (PySem.W.instObj C s.heap.objs.size) }:=by
 have e1:(s.heap.push PySem.W.emptyDict).get? s.heap.objs.size=some PySem.W.emptyDict:=Heap.get?_push_size s.heap rfl;have e2:((s.heap.push PySem.W.emptyDict).push (PySem.W.instObj C s.heap.objs.size)).get? (s.heap.objs.size+1)=some (PySem.W.instObj C s.heap.objs.size):=by
   have:=Heap.get?_push_size (s.heap.push PySem.W.emptyDict) (o:=PySem.W.instObj C s.heap.objs.size) rfl
   rwa [Heap.size_push] at this
 have e3:(s.heap.push PySem.W.emptyDict).Ns s.heap.objs.size (fun _=>none):=⟨PySem.W.emptyDict,#[],_,e1,rfl,(fun e he=>absurd he (by simp)),fun _=>rfl⟩
 have I1:=I.laid (a:=s.heap.objs.size) (o:=.own (s.heap.objs.size+1)) (h':=s.heap.push PySem.W.emptyDict) (t':=s.toks) (fun b u q=>Heap.get?_push_of_some _ q) (Nat.le_refl _) ⟨_,e1⟩;refine I1.laid (a:=s.heap.objs.size+1) (o:=.ins C s.heap.objs.size []) (t':=s.toks) (fun b u q=>Heap.get?_push_of_some _ q) (Nat.le_of_eq (Heap.size_push _ _)) ?_;have ne:s.heap.objs.size≠s.heap.objs.size+1:=Nat.ne_of_lt (Nat.lt_succ_self _);refine ⟨by rw [Zah ne,Zab],Nat.zero_le _,ne,e2,fun _=>none,(Heap.Ns1.of_empty e3).at fun o q=>Heap.get?_push_of_some _ q,fun _=>True.intro,fun y hy=>absurd rfl hy⟩
theorem attr_of {prog:Program}{w:World}{env:Env}{e:Expr}{f:Str}{pos:Pos}{s:Shared}{Q:Value→Shared→Prop}(hb:attributeBase e f env (eval e env)=eval e env)
   (h:wpAny (model prog w) A (eval e env) (fun o s₁=>wpAny (model prog w) A (getAttr o f true) Q E s₁) E s):wpAny (model prog w) A (eval (.Attribute e f pos) env) Q E s :=
 Attribute_any_ h (by rw [arm_eval_Attribute,hb])
end
def tFld (K:PySem.W.Frag)(ta:TE)(f:Str):TE:=fun σ H Q=>ta σ H fun x H1=>∃ a C dx fs v,x=.ref a∧H1 a=some (.ins C dx fs)∧Cls K C∧NoAttr K C f∧fs.lookup f=some v∧Q v H1
def sFld (K:PySem.W.Frag)(ta tv:TE)(f:Str):TS:=fun D σ H=>tv σ H fun y H1=>ta σ H1 fun x H2=>∃ a C dx fs,x=.ref a∧H2 a=some (.ins C dx fs)∧Cls K C∧NoAttr K C f∧fs.length<1000 ∧
 D.nx σ (upd H2 a (.ins C dx (putF f y fs)))
section
variable {X:Cx}{o e value:Expr}{f:Str}{pos pos' tpos:Pos}{ta tv:TE}
theorem pe_fld (he:PE X e ta)(hb:attributeBase e f X.env (eval e X.env)=eval e X.env):PE X (.Attribute e f pos) (tFld X.K ta f):=by intro pins s σ H Q I h;refine attr_of hb (thn (he pins s σ H _ I h) fun u s1 ⟨x,H1,I1,rx,a,C,dx,fs,v,ex,ea,c,n,l,q⟩=>?_);subst ex;obtain rfl:u=Value.ref a:=rx;exact ZhO I1 ea c n l fun u' s2 I2 ru=>⟨v,H1,I2,ru,q⟩
theorem ps_fld (ha:PE X o ta)(hv:PE X value tv)(hs:swapsWith value (some (.Attribute o f pos')) pos.line X.env=pure false):PS X (.Assign [.Attribute o f pos'] value pos) (sFld X.K ta tv f):=by intro pins s σ H D I h;refine plainObj_wpAny_Assign_Attribute (thn (hv pins s σ H _ I h) fun u s1 ⟨y,H1,I1,ry,q⟩=>thn (ha pins s1 σ H1 _ I1 q) fun ov s2 ⟨x,H2,I2,rx,a,C,dx,fs,ex,ea,c,n,l,q2⟩=>?_) hs;subst ex;obtain rfl:ov=Value.ref a:=rx;exact Zh6 I2 ea c n l ry fun s3 I3=>⟨σ,_,I3,q2⟩
end
section
variable {X:Cx}{pins:List (Addr × Obj)}{σ:St}{H:Hp}{s:Shared}{A:Around}{E:Value→Shared→Prop}{Q:Value→Shared→Prop}{c:Value}{b:Bool}
inductive TyOf (K:PySem.W.Frag) (H:Hp):V→Value→Prop where
 | non:TyOf K H .non (.type "NoneType")
 | bl (x:Bool):TyOf K H (.bl x) (.type "bool")
 | int (i:Int):TyOf K H (.int i) (.type "int")
 | str (x:Str):TyOf K H (.str x) (.type "str")
 | flt (x:UInt64):TyOf K H (.flt x) (.type "float")
 | lst {a:Addr} {xs:List V} (e:H a=some (.lst xs)):TyOf K H (.ref a) (.type "list")
 | frz {a:Addr} {o:Obj} {xs:List V} (e:H a=some (.frz o (.lst xs))):TyOf K H (.ref a) (.type "list")
 | tup {a:Addr} {xs:List V} (e:H a=some (.tup xs)):TyOf K H (.ref a) (.type "tuple")
 | dK {a:Addr} {kvs:List (Key × V)} (e:H a=some (.dK kvs)):TyOf K H (.ref a) (.type "dict")
 | dT {a:Addr} {kvs:List (List Key × V)} (e:H a=some (.dT kvs)):TyOf K H (.ref a) (.type "dict")
 | ins {a C dx:Addr} {fs:List (Str × V)} (e:H a=some (.ins C dx fs)) (cl:Cls K C) (ha:PySem.W.findIn K (.ref C) "__class__"=some (some (.builtin "object.__class__")))
     (hn:PySem.W.specialIn K (.builtin "object.__class__") "__get__"=some (some (.builtin "getset_descriptor.__get__"))) (htk:PySem.W.takesIn K (.builtin "object.__class__")=some true)
     (hm:PySem.W.mroIn K C (.type "object")=some true):TyOf K H (.ref a) (.ref C)
theorem ZjD {x:V}{u t:Value}(I:Inv X pins σ H s)(rx:RelV x u)(ty:TyOf X.K H x t)(e:PySem.W.kitOne X.K t c=some b)(h:∀ tk,Q (.bool b) { s with toks:=tk }) :
   wpAny (model X.prog X.w) A (call (.builtin "isinstance") [u,c]) Q E s:=by
 cases ty with
 | non=>cases (show u=Value.none from rx);exact PySem.W.kia_one PySem.W.kitx_none I.kIn True.intro e (fun z=>nomatch z) h
 | bl y=>cases (show u=Value.bool y from rx);exact PySem.W.kia_one PySem.W.kitx_bool I.kIn True.intro e (fun z=>nomatch z) h
 | int i=>obtain ⟨t,q⟩:=(show ∃ t,u=Value.int i t from rx);cases q;exact PySem.W.kia_one PySem.W.kitx_int I.kIn True.intro e (fun z=>nomatch z) h
 | str y=>obtain ⟨t,q⟩:=(show ∃ t,u=Value.str y t from rx);cases q;exact PySem.W.kia_one PySem.W.kitx_str I.kIn True.intro e (fun z=>nomatch z) h
 | flt y=>obtain ⟨t,q⟩:=(show ∃ t,u=Value.float y t from rx);cases q;exact PySem.W.kia_one PySem.W.kitx_float I.kIn True.intro e (fun z=>nomatch z) h
 | @lst a xs ea =>
   cases (show u=Value.ref a from rx);obtain ⟨_,_,n,_,h1⟩:=(show ObjOk X.prog X.w H s.heap a (.lst xs) from I.hok a _ ea)
   exact PySem.W.kia_one PySem.W.kitx_list I.kIn ⟨_,h1,rfl⟩ e (fun z=>nomatch z) h
 | @frz a ob xs ea =>
   cases (show u=Value.ref a from rx);obtain ⟨_,_,_,n,_,h1⟩:=(show ObjOk X.prog X.w H s.heap a (.frz ob (.lst xs)) from I.hok a _ ea)
   exact PySem.W.kia_one PySem.W.kitx_list I.kIn ⟨_,h1,rfl⟩ e (fun z=>nomatch z) h
 | @tup a xs ea =>
   cases (show u=Value.ref a from rx);obtain ⟨_,_,_,p⟩:=(show ObjOk X.prog X.w H s.heap a (.tup xs) from I.hok a _ ea)
   obtain ⟨o,h1,h2,_⟩:=p;exact PySem.W.kia_one PySem.W.kitx_tuple I.kIn ⟨o,h1,h2⟩ e (fun z=>nomatch z) h
 | @dK a kvs ea =>
   cases (show u=Value.ref a from rx);obtain ⟨_,_,vs,_,p⟩:=(show ObjOk X.prog X.w H s.heap a (.dK kvs) from I.hok a _ ea)
   obtain ⟨o,es,ep,h1,h2,_⟩:=p;exact PySem.W.kia_one PySem.W.kitx_dict I.kIn ⟨o,h1,h2.1⟩ e (fun z=>nomatch z) h
 | @dT a kvs ea =>
   cases (show u=Value.ref a from rx);obtain ⟨_,_,xs,_,o,es,ep,h1,h2,_⟩:=(show ObjOk X.prog X.w H s.heap a (.dT kvs) from I.hok a _ ea)
   exact PySem.W.kia_one PySem.W.kitx_dict I.kIn ⟨o,h1,h2.1⟩ e (fun z=>nomatch z) h
 | @ins a C dx fs ea cl ha hn htk hm =>
   cases (show u=Value.ref a from rx);obtain ⟨mA,O,_⟩:=Zen I.hok ea;obtain ⟨od,J,_⟩:=O.look;exact PySem.W.kia_one (PySem.W.kitx_own (cl.get _) cl.hd ha hn htk hm) I.kIn J e (fun z=>nomatch z) h
end
structure Room (k:Nat)(A:Around):Prop where
 hd:A.handled=none
 dp:A.depth+3*k+5<recursionLimit
 un:A.units+16*k+200<cLine
theorem Room.mono {j k:Nat}{A:Around}(r:Room k A)(h:j≤k):Room j A:=⟨r.hd,by have:=r.dp;omega,by have:=r.un;omega⟩
theorem Room.deeper {k:Nat}{A:Around}(r:Room (k+1) A)(env:Env):Room k (A.deeper env) :=
 ⟨r.hd,by have:=r.dp;show A.depth+1+3*k+5<_;omega,by have:=r.un;show A.units+3+16*k+200<_;omega⟩
theorem ZhN {A:Around}{C:Addr}{us:List Value}{kw:List (Str × Value)}:(A.under (.builtin "type.__call__" ⟨.ref C::us,kw⟩)).depth=A.depth+1:=by
 first | rfl | simp [Around.under,Code.weight,Code.isCreation,Code.isGuard,Code.isCaller,Code.frames,Code.isFrame,guardIds]
theorem Zh0 {A:Around}{C:Addr}{us:List Value}{kw:List (Str × Value)}:(A.under (.builtin "type.__call__" ⟨.ref C::us,kw⟩)).units=A.units+1:=by
 first | rfl | simp [Around.under,Code.cUnits,Code.frames,Code.isFrame]
theorem Room.make {k:Nat}{A:Around}(r:Room (k+1) A)(C:Addr)(us:List Value)(kw:List (Str × Value)):Room k (A.under (.builtin "type.__call__" ⟨.ref C::us,kw⟩)) :=
 ⟨r.hd,by have:=r.dp;rw [ZhN];omega,by have:=r.un;rw [Zh0];omega⟩
theorem Room.depth {k:Nat}{A:Around}(r:Room k A):A.depth<recursionLimit:=by have:=r.dp;omega
def tNil:TA:=fun _ H Q=>Q [] H
def tCons (ta:TE)(tr:TA):TA:=fun σ H Q=>ta σ H fun x H1=>tr σ H1 fun xs H2=>Q (x::xs) H2
section
variable {X:Cx}{e:Expr}{es:List Expr}{te:TE}{t:TA}{pos:Pos}
theorem Zad:PA X [] tNil:=fun _ _ _ _ H Q I h=>Calls.spliced_nil ⟨[],H,I,.nil,h⟩
theorem Zaa (ha:PE X e te)(hr:PA X es t)(hs:starEach (e::es) X.env=(false,eval e X.env)::starEach es X.env:=by rfl):PA X (e::es) (tCons te t):=by intro pos pins s σ H Q I h;rw [hs];show wpAny _ _ (spliced ((false,eval e X.env)::backTo pos (starEach es X.env))) _ _ s;refine Calls.spliced_cons (thn (ha pins s σ H _ I h) fun u s1 ⟨x,H1,I1,r1,q1⟩=>?_);exact thn (hr pos pins s1 σ H1 _ I1 q1) fun us s2 ⟨xs,H2,I2,r2,q2⟩=>⟨x::xs,H2,I2,.cons r1 r2,q2⟩
def tTup (t:TA):TE:=fun σ H Q=>t σ H fun xs H1=>xs.length≤sizeLine∧∀ p,H1 p=none→Q (.ref p) (upd H1 p (.tup xs))
def tLst (t:TA):TE:=fun σ H Q=>t σ H fun xs H1=>xs.length≤sizeLine∧∀ p,H1 p=none→Q (.ref p) (upd H1 p (.lst xs))
theorem ZcB {x1}(h:PA X es t):PE X (.Tuple es x1 pos) (tTup t):=by intro pins s σ H Q I hq;refine wpAny_Tuple_spliced (thn (h pos pins s σ H _ I hq) fun us s1 ⟨xs,H1,I1,r,z,q⟩=>⟨by rw [← r.length];exact z,?_⟩);have hf:H1 s1.heap.objs.size=none:=I1.hok.fresh (Nat.le_refl _);refine ⟨.ref s1.heap.objs.size,upd H1 s1.heap.objs.size (.tup xs),I1.laid (t':=s1.toks) (fun b u e=>Heap.get?_push_of_some _ e) (Nat.le_refl _) ?_,rfl,q _ hf⟩;exact ⟨z,us,r,⟨_,Heap.get?_push_size _ rfl,rfl,_,rfl⟩⟩
theorem ZaM (h:PA X es t):PE X (.List es pos) (tLst t):=by intro pins s σ H Q I hq;refine wpAny_List_spliced (thn (h pos pins s σ H _ I hq) fun us s1 ⟨xs,H1,I1,r,z,q⟩=>⟨by rw [← r.length];exact z,?_⟩);have hf:H1 s1.heap.objs.size=none:=I1.hok.fresh (Nat.le_refl _);refine ⟨.ref s1.heap.objs.size,upd H1 s1.heap.objs.size (.lst xs),I1.laid (t':=s1.toks) (fun b u e=>Heap.get?_push_of_some _ e) (Nat.le_refl _) ?_,rfl,q _ hf⟩;exact ⟨z,us,0,r,Heap.get?_push_size _ rfl⟩
end
abbrev Sp:=List V→Hp→VK→XK→Prop
abbrev CXT:=List Env→Hp→Shared→XK→Value→Shared→Prop
structure Env0 (P:Program)(w:World)(K:PySem.W.Frag)(mg:Str→Option Value)(base:Heap)(A:Around)(outer:List Env)(s:Shared)(H:Hp):Prop where
 frames:A.frames=some outer
 mod:Mod K mg base
 bs:∀ b o,base.get? b=some o→s.heap.get? b=some o∧H b=none
 bsz:base.objs.size≤s.heap.objs.size
 funs:s.heap.FunFrames base outer
 frf:∀ b∈frs outer,H b=none
 hok:HOk P w H s.heap
 bare:AllBare s.gens
def CE (outer:List Env)(P:Program)(w:World)(H:Hp)(s:Shared)(Q:VK)(u:Value)(s':Shared):Prop :=
 ∃ v H',s'.os=s.os∧AllBare s'.gens∧Un (frs outer) [] H H' s.heap s'.heap∧HOk P w H' s'.heap∧RelV v u∧Q v H'
def CR (CX:CXT)(outer:List Env)(P:Program)(w:World)(H:Hp)(s:Shared)(Q:VK)(E:XK)(r:Result)(s':Shared):Prop :=
 match r with
 | .ok (.ret u)=>CE outer P w H s Q u s'
 | .ok _=>False
 | .error e=>CX outer H s E e s'
structure FnOk (P:Program)(w:World)(K:PySem.W.Frag)(mg:Str→Option Value)(base:Heap)(CX:CXT)(k:Nat)(f:Addr)(fd:FuncData)(ps:List Str)(sp:Sp):Prop where
 len:∀ vs H Q E,sp vs H Q E→vs.length=ps.length
 run:∀ (A:Around) (outer:List Env) (s:Shared) (H:Hp) (args:Args) (us:List Value) (vs:List V) (Q:VK) (E:XK),Room k A→Env0 P w K mg base A outer s H→BindsTo s fd args (ps.zip us)→Vals vs us→sp vs H Q E →
   codeAny (model P w) A (.call (.ref f) args) (CR CX outer P w H s Q E) s
theorem FnOk.mono {P:Program}{w:World}{K:PySem.W.Frag}{mg:Str→Option Value}{base:Heap}{CX:CXT}{j k:Nat}{f:Addr}{fd:FuncData}{ps:List Str}{sp:Sp}(F:FnOk P w K mg base CX j f fd ps sp)(h:j≤k) :
   FnOk P w K mg base CX k f fd ps sp:=⟨F.len,fun A outer s H args us vs Q E hr=>F.run A outer s H args us vs Q E (hr.mono h)⟩
theorem FnOk.imp {P:Program}{w:World}{K:PySem.W.Frag}{mg:Str→Option Value}{base:Heap}{CX:CXT}{k:Nat}{f:Addr}{fd:FuncData}{ps:List Str}{sp sp':Sp}(F:FnOk P w K mg base CX k f fd ps sp)
   (h:∀ vs H Q E,sp' vs H Q E→sp vs H Q E):FnOk P w K mg base CX k f fd ps sp' :=
 ⟨fun vs H Q E q=>F.len vs H Q E (h _ _ _ _ q),fun A outer s H args us vs Q E hr he hb hv hs=>F.run A outer s H args us vs Q E hr he hb hv (h _ _ _ _ hs)⟩
theorem Env0.make {P:Program}{w:World}{K:PySem.W.Frag}{mg:Str→Option Value}{base:Heap}{A:Around}{outer:List Env}{s:Shared}{H:Hp}(e:Env0 P w K mg base A outer s H)(C:Addr)(us:List Value)(kw:List (Str × Value)) :
   Env0 P w K mg base (A.under (.builtin "type.__call__" ⟨.ref C::us,kw⟩)) outer s H:=⟨by first | exact e.frames | (simpa [Around.under,Code.envs,Code.isFrame,pushEnvs] using e.frames),e.mod,e.bs,e.bsz,e.funs,e.frf,e.hok,e.bare⟩
section
variable {X:Cx}{pins:List (Addr × Obj)}{σ:St}{H:Hp}{s s':Shared}
theorem Inv.env0 (I:Inv X pins σ H s):Env0 X.prog X.w X.K X.mg X.base X.A X.stack s H :=
 ⟨I.ok.frames,I.ok.mod,I.bs,Nat.le_trans I.ok.bsz I.sz,I.stack,I.stkFree,I.hok,I.bare⟩
theorem Inv.after {Q:VK}{u:Value}(I:Inv X pins σ H s)(h:CE X.stack X.prog X.w H s Q u s'):EP X pins σ Q u s':=by obtain ⟨v,H',os,bare,un,hok,r,q⟩:=h;obtain ⟨hh,g,d,t,os'⟩:=s';obtain rfl:os'=s.os:=os;exact ⟨v,H',I.call (h':=hh) (g':=g) (d':=d) (t':=t) (ch:=[]) un hok bare (fun b z=>absurd z (by simp)),r,q⟩
end
def tCall (sp:Sp)(dvs:List V)(E:XK)(t:TA):TE:=fun σ H Q=>t σ H fun vs H1=>sp (vs++dvs) H1 Q E
def tMake (C:Addr)(sp:Sp)(dvs:List V)(E:XK)(t:TA):TE:=fun σ H Q=>t σ H fun vs H1=>∀ x dx,H1 x=none→H1 dx=none→dx≠x →
 sp (.ref x::(vs++dvs)) (upd (upd H1 dx (.own x)) x (.ins C dx [])) (fun v H2=>v=.non∧Q (.ref x) H2) E
def Binds (K:PySem.W.Frag)(fd:FuncData)(ps:List Str)(ds:List Value):Prop :=
 ∀ (s:Shared) (us:List Value),K.In s.heap→(us++ds).length=ps.length→BindsTo s fd ⟨us,[]⟩ (ps.zip (us++ds))
theorem Binds.all {K:PySem.W.Frag}{fd:FuncData}{ps:List Str}(h:∀ us:List Value,us.length=ps.length→bindArgs fd ⟨us,[]⟩=pure (ps.zip us)):Binds K fd ps []:=fun s us _ hl=>by
 rw [List.append_nil] at hl ⊢;exact .of_eq (h us hl)
def Passes (CX:CXT)(X:Cx)(E:XK):Prop:=∀ (pins:List (Addr × Obj)) (σ:St) (H:Hp) (s:Shared) (e:Value) (s':Shared),Inv X pins σ H s→CX X.stack H s E e s'→X.xe e s'
section
variable {X:Cx}{CX:CXT}{k:Nat}{f C:Addr}{fd:FuncData}{ps:List Str}{sp:Sp}{dvs:List V}{ds:List Value}{E:XK}{x m:Str}{p pos apos:Pos}{e o:Expr}{es:List Expr}{ta:TE}{t:TA}
theorem ZdT {pins:List (Addr × Obj)}{σ:St}{H:Hp}{s:Shared}{Q:VK}{us:List Value}{vs:List V}(F:FnOk X.prog X.w X.K X.mg X.base CX k f fd ps sp)(hr:Room k X.A)(hb:Binds X.K fd ps ds)(hd:Vals dvs ds)(hx:Passes CX X E)
   (I:Inv X pins σ H s) (r:Vals vs us) (h:sp (vs++dvs) H Q E):wpAny (model X.prog X.w) X.A (call (.ref f) us) (EP X pins σ Q) X.xe s:=by
 have r2:Vals (vs++dvs) (us++ds):=r.append hd;have hl:(us++ds).length=ps.length:=by rw [← r2.length];exact F.len _ _ _ _ h
 refine wpAny_call (codeAny_mono (F.run X.A X.stack s H ⟨us,[]⟩ (us++ds) (vs++dvs) Q E hr I.env0 (hb s us I.kIn hl) r2 h) fun r s' hq=>?_);cases r with
 | error e=>exact hx pins σ H s e s' I hq
 | ok fl =>
   cases fl with
   | ret u=>exact I.after hq
   | next=>exact False.elim hq
   | brk=>exact False.elim hq
   | cont=>exact False.elim hq
theorem Zik (F:FnOk X.prog X.w X.K X.mg X.base CX k f fd ps sp)(hr:Room k X.A)(hg:Gl X x)(hm:X.mg x=some (.ref f))(hk:PySem.W.keepIn X.K (.ref f)=true)(hb:Binds X.K fd ps ds)(hd:Vals dvs ds)(hx:Passes CX X E)
   (ha:PA X (e::es) t) (hdb:(x==("__debug__":Str))=false:=by decide) (he:starEach (e::es) X.env=(false,eval e X.env)::starEach es X.env:=by rfl) (hpl:(backTo pos (starEach es X.env)).any (·.1)=false:=by rfl) :
   PE X (.Call (.Name x p) (e::es) [] pos) (tCall sp dvs E t):=by
 intro pins s σ H Q I h;refine wpAny_Call_Name_kw (Zby I hg hm ?_ hdb);refine PySem.W.callWith_K (h₀:=X.base) I.ok.mod.kin hk (thn (ha pos pins s σ H _ I h) fun us s1 ⟨vs,H1,I1,r,q⟩=>⟨I1.kIn,?_⟩) he hpl;exact ZdT F hr hb hd hx I1 r q
structure Mk (K:PySem.W.Frag)(C f:Addr):Prop where
 makes:PySem.W.makesIn K C=true
 init:PySem.W.findIn K (.ref C) "__init__"=some (some (.ref f))
 fn:PySem.W.isFn K (.ref f)=true
 kp:PySem.W.keepIn K (.ref C)=true
theorem ZgO {pins:List (Addr × Obj)}{σ:St}{H:Hp}{s:Shared}{Q:VK}{us:List Value}{vs:List V}(M:Mk X.K C f)(F:FnOk X.prog X.w X.K X.mg X.base CX k f fd ps sp)(hr:Room (k+1) X.A)(hb:Binds X.K fd ps ds)(hd:Vals dvs ds)
   (hx:Passes CX X E) (I:Inv X pins σ H s) (r:Vals vs us)
   (h:∀ x dx,H x=none→H dx=none→dx≠x→sp (.ref x::(vs++dvs)) (upd (upd H dx (.own x)) x (.ins C dx [])) (fun v H2=>v=.non∧Q (.ref x) H2) E) :
   wpAny (model X.prog X.w) X.A (call (.ref C) us) (EP X pins σ Q) X.xe s:=by
 have hq:=h (s.heap.objs.size+1) s.heap.objs.size (I.hok.fresh (Nat.le_succ _)) (I.hok.fresh (Nat.le_refl _)) (Nat.ne_of_lt (Nat.lt_succ_self _));have I2:=Inv.made (C:=C) I;have r2:Vals (V.ref (s.heap.objs.size+1)::(vs++dvs)) (Value.ref (s.heap.objs.size+1)::(us++ds)):=.cons rfl (r.append hd);have hl:(Value.ref (s.heap.objs.size+1)::us++ds).length=ps.length:=by have e:=r2.length;rw [F.len _ _ _ _ hq] at e;exact e.symm
 refine wpAny_call (make_map (f:=f) I.kIn M.makes M.init (beq_iff_eq.mp M.fn) (codeAny_mono (F.run _ X.stack _ _ ⟨Value.ref (s.heap.objs.size+1)::us,[]⟩ (Value.ref (s.heap.objs.size+1)::(us++ds)) _ _ E (hr.make C us [])
   (I2.env0.make C us []) (hb _ (Value.ref (s.heap.objs.size+1)::us) I2.kIn hl) r2 hq) fun r s' hq'=>?_))
 cases r with
 | error e=>exact hx pins σ _ _ e s' I2 hq'
 | ok fl =>
   cases fl with
   | ret u =>
     obtain ⟨v,H',I3,rv,ev,q3⟩:=I2.after hq';subst ev;exact ⟨rv,⟨V.ref (s.heap.objs.size+1),H',I3,rfl,q3⟩⟩
   | next=>exact False.elim hq'
   | brk=>exact False.elim hq'
   | cont=>exact False.elim hq'
theorem pe_make (M:Mk X.K C f)(F:FnOk X.prog X.w X.K X.mg X.base CX k f fd ps sp)(hr:Room (k+1) X.A)(hg:Gl X x)(hm:X.mg x=some (.ref C))(hb:Binds X.K fd ps ds)(hd:Vals dvs ds)(hx:Passes CX X E)
   (ha:PA X (e::es) t) (hdb:(x==("__debug__":Str))=false:=by decide) (he:starEach (e::es) X.env=(false,eval e X.env)::starEach es X.env:=by rfl) (hpl:(backTo pos (starEach es X.env)).any (·.1)=false:=by rfl) :
   PE X (.Call (.Name x p) (e::es) [] pos) (tMake C sp dvs E t):=by
 intro pins s σ H Q I h;refine wpAny_Call_Name_kw (Zby I hg hm ?_ hdb);refine PySem.W.callWith_K (h₀:=X.base) I.ok.mod.kin M.kp (thn (ha pos pins s σ H _ I h) fun us s1 ⟨vs,H1,I1,r,q⟩=>⟨I1.kIn,?_⟩) he hpl;exact ZgO M F hr hb hd hx I1 r q
theorem pe_make0 (M:Mk X.K C f)(F:FnOk X.prog X.w X.K X.mg X.base CX k f fd ps sp)(hr:Room (k+1) X.A)(hg:Gl X x)(hm:X.mg x=some (.ref C))(hb:Binds X.K fd ps ds)(hd:Vals dvs ds)(hx:Passes CX X E)
   (hdb:(x==("__debug__":Str))=false:=by decide):PE X (.Call (.Name x p) [] [] pos) (tMake C sp dvs E tNil):=by
 intro pins s σ H Q I h;refine wpAny_Call_Name_kw (Zby I hg hm ?_ hdb);exact PySem.W.callWith_K0 I.kIn M.kp (ZgO (us:=[]) M F hr hb hd hx I .nil h)
end
section
variable {X:Cx}{CX:CXT}{k:Nat}{f C:Addr}{fd:FuncData}{ps ks:List Str}{sp:Sp}{E:XK}{x m:Str}{p pos apos kpos:Pos}{e o:Expr}{es:List Expr}{kws:List Keyword}{te ta:TE}{t tk:TA}{nm:Option Str}
structure KBinds (K:PySem.W.Frag)(fd:FuncData)(ps ks:List Str)(g:List Value→List Value→List Value)(gV:List V→List V→List V):Prop where
 to:∀ (s:Shared) (us ws:List Value),K.In s.heap→(g us ws).length=ps.length→BindsTo s fd ⟨us,ks.zip ws⟩ (ps.zip (g us ws))
 rel:∀ {vs:List V} {us:List Value} {zs:List V} {ws:List Value},Vals vs us→Vals zs ws→Vals (gV vs zs) (g us ws)
variable {g:List Value→List Value→List Value}{gV:List V→List V→List V}
end
structure FnScope (N P:List Str)(sc:Scope):Prop where
 kind:sc.kind=.function
 co:sc.isCoroutine=false
 gen:sc.isGenerator=false
 nd:N.Nodup
 pre:N.take P.length=P
 par:∀ x∈P,sc.names.lookup x=some .local∨sc.names.lookup x=some .cell
 nofree:∀ y∈sc.names,y.2≠.free
theorem ZfE {kindOf:Str→Option NameKind}{x:Str}:∀ {binds:List (Str × Value)} {m:Str→Option Value},(∀ v,(x,v)∉binds)→bindL kindOf binds m x=m x
 | [],_,_=>rfl
 | (n,v)::r,m,h=>by
   unfold bindL;rw [ZfE fun w hw=>h w (List.mem_cons_of_mem _ hw)];split
   · have:x≠n:=by rintro rfl;exact h v List.mem_cons_self
     simp [this]
   · rfl
theorem Zfq {kindOf:Str→Option NameKind}{x:Str}:∀ {binds:List (Str × Value)} {m:Str→Option Value},(∀ v,(x,v)∉binds)→bindC kindOf binds m x=m x
 | [],_,_=>rfl
 | (n,v)::r,m,h=>by
   unfold bindC;rw [Zfq fun w hw=>h w (List.mem_cons_of_mem _ hw)];split
   · rfl
   · have:x≠n:=by rintro rfl;exact h v List.mem_cons_self
     simp [this]
theorem Zfd {kindOf:Str→Option NameKind}{x:Str}{v:Value}:∀ {P:List Str} {vs:List Value} {i:Nat} {m:Str→Option Value},P.Nodup→P[i]?=some x→vs[i]?=some v→kindOf x=some .local →
   bindL kindOf (P.zip vs) m x=some v
 | [],_,_,_,_,h,_,_=>by simp at h
 | _::_,[],_,_,_,_,h,_=>by simp at h
 | p::P,w::vs,0,m,nd,h1,h2,hk=>by
   simp at h1 h2;subst h1;subst h2;show bindL kindOf ((p,w)::P.zip vs) m p=_;unfold bindL;rw [ZfE fun v hv=>(List.nodup_cons.mp nd).1 (List.of_mem_zip hv).1,if_pos hk];simp
 | p::P,w::vs,i+1,m,nd,h1,h2,hk=>by
   show bindL kindOf ((p,w)::P.zip vs) m x=_;unfold bindL;exact Zfd (i:=i) (List.nodup_cons.mp nd).2 (by simpa using h1) (by simpa using h2) hk
theorem Zfu {kindOf:Str→Option NameKind}{x:Str}{v:Value}:∀ {P:List Str} {vs:List Value} {i:Nat} {m:Str→Option Value},P.Nodup→P[i]?=some x→vs[i]?=some v→kindOf x≠some .local →
   bindC kindOf (P.zip vs) m x=some v
 | [],_,_,_,_,h,_,_=>by simp at h
 | _::_,[],_,_,_,_,h,_=>by simp at h
 | p::P,w::vs,0,m,nd,h1,h2,hk=>by
   simp at h1 h2;subst h1;subst h2;show bindC kindOf ((p,w)::P.zip vs) m p=_;unfold bindC;rw [Zfq fun v hv=>(List.nodup_cons.mp nd).1 (List.of_mem_zip hv).1,if_neg hk];simp
 | p::P,w::vs,i+1,m,nd,h1,h2,hk=>by
   show bindC kindOf ((p,w)::P.zip vs) m x=_;unfold bindC;exact Zfu (i:=i) (List.nodup_cons.mp nd).2 (by simpa using h1) (by simpa using h2) hk
def start (N:List Str)(vs:List V):St:=vs.map some++List.replicate (N.length-vs.length) none
def cxOf (CX:CXT)(P:Program)(w:World)(K:PySem.W.Frag)(mg:Str→Option Value)(base:Heap)(N:List Str)(qual:Str)(scope:Scope)(f:Addr)(cd:Value)(A:Around)(outer:List Env)(s:Shared)(H:Hp)(E:XK):Cx where
 prog:=P
 w:=w
 K:=K
 mg:=mg
 base:=base
 A:=A.deeper (envOfC qual scope s.heap.objs.size f cd)
 N:=N
 s₀:=s
 H₀:=H
 env:=envOfC qual scope s.heap.objs.size f cd
 outer:=outer
 stack:=envOfC qual scope s.heap.objs.size f cd::outer
 ex:=[]
 calm:=true
 fn:=fun _=>true
 pn:=[]
 xe:=fun e s'=>wpAny (model P w) (A.deeper (envOfC qual scope s.heap.objs.size f cd)) (leaving (envOfC qual scope s.heap.objs.size f cd) e) (fun _ s''=>CX outer H s E e s'') (fun e' s''=>CX outer H s E e' s'') s'
theorem ZgI {sc:Scope}{n:Nat}{x:Str}(h:sc.names.lookup x=some .cell):∃ c,(cellsFrom n sc.names []).lookup x=some c:=by have q:=PySem.W.cellsFrom_some sc.names n [] (.inl h);exact Option.isSome_iff_exists.mp q
theorem Zi2 {CX:CXT} {P:Program} {w:World} {K:PySem.W.Frag} {mg:Str→Option Value} {base:Heap} {N ps:List Str} {qual:Str} {scope:Scope} {f:Addr} {cd:Value} {A:Around} {outer:List Env} {s s1:Shared} {H:Hp} {E:XK} {us:List Value} {vs:List V}
   (S:FnScope N ps scope) (hd:A.handled=none) (e0:Env0 P w K mg base A outer s H) (hl:vs.length=ps.length) (r:Vals vs us)
   (x:InCallC s s.heap.objs.size (bindL (envOfC qual scope s.heap.objs.size f cd).kindOf (ps.zip us) fun _=>none) (cellsFrom (s.heap.objs.size+1) scope.names []) (bindC (envOfC qual scope s.heap.objs.size f cd).kindOf (ps.zip us) fun _=>none) s1) :
   Inv (cxOf CX P w K mg base N qual scope f cd A outer s H E) [] (start N vs) H s1:=by
 have hpl:ps.length≤N.length:=by have:=congrArg List.length S.pre;rw [List.length_take] at this;omega
 obtain ⟨h1,tk,rfl,hk⟩:=x.done;have noA:∀ b:Addr,b∉(cxOf CX P w K mg base N qual scope f cd A outer s H E).ex:=fun b z=>absurd (show b∈([]:List Addr) from z) (by simp)
 refine ⟨⟨e0.mod,S.kind,rfl,rfl,Nat.le_refl _,fun y z c h1 h2=>?_,fun y hy=>?_,fun y c _ h=>?_,fun _=>hd,Around.frames_deeper e0.frames,.inr ⟨rfl,rfl⟩,fun b z=>absurd z (noA b),e0.bs,e0.bsz,fun b _ _=>noA b,fun b z=>absurd z (noA b),e0.funs,e0.frf⟩,
   rfl,e0.bare,Un.kept hk,⟨_,x.toInCall.ns,fun i y v h1 h2 h3=>?_⟩,fun y c h=>⟨_,x.cell y c h⟩,e0.hok.fresh (Nat.le_refl _),fun y c h=>?_,fun p hp=>absurd (show p∈([]:List (Addr × Obj)) from hp) (by simp),e0.hok.kept hk,?_⟩
 · exact name_of_addr x.apart (PySem.mem_of_lookup h1) (PySem.mem_of_lookup h2)
 · have hy:scope.names.lookup y=some .cell∨scope.names.lookup y=some .free:=hy
   rcases hy with hy | hy
   · exact ZgI hy
   · exact absurd rfl (S.nofree _ (PySem.mem_of_lookup hy))
 · exact Nat.le_of_lt (x.above y c (PySem.mem_of_lookup h))
 · have hi:i<vs.length:=by
     unfold start at h2;by_cases hi:i<vs.length
     · exact hi
     · rw [List.getElem?_append_right (by simpa using hi)] at h2
       rw [List.getElem?_replicate] at h2;split at h2<;>cases h2
   have ha:vs[i]?=some v:=by
     unfold start at h2;rw [List.getElem?_append_left (by simpa using hi),List.getElem?_map] at h2;cases e:vs[i]? with
     | none=>rw [e] at h2;cases h2
     | some a=>rw [e] at h2;cases h2;rfl
   obtain ⟨u,hu,rv⟩:=r.get ha;have hp:ps[i]?=some y:=by rw [← S.pre,List.getElem?_take_of_lt (by omega)];exact h1
   have ndP:ps.Nodup:=by rw [← S.pre];exact S.nd.sublist (List.take_sublist _ _)
   refine ⟨u,rv,?_⟩;rcases S.par y (List.mem_of_getElem? hp) with k | k
   · exact .inl ⟨k,Zfd ndP hp hu k⟩
   · obtain ⟨c,e⟩:=ZgI (n:=s.heap.objs.size+1) k
     refine .inr ⟨.inl k,c,e,?_⟩;have q:=x.cell y c e;rw [Zfu ndP hp hu (by show scope.names.lookup y≠_;rw [k];decide)] at q;exact q
 · exact e0.hok.fresh (Nat.le_of_lt (x.above y c (PySem.mem_of_lookup h)))
 · unfold start
   show _=N.length;rw [List.length_append,List.length_map,List.length_replicate];omega
theorem fn_of {CX:CXT}{P:Program}{w:World}{K:PySem.W.Frag}{mg:Str→Option Value}{base:Heap}{k:Nat}{f:Addr}{name qual:Str}{params:Arguments}{body:List Stmt}{scope:Scope}{dV kV doc pm cdv ct oc:Value}{an od:Option Addr}
   {osl:Array (Option Value)} {N ps:List Str} {sp:Sp} (lk:K.lookup f=some ⟨oc,od,.func (PySem.W.fnOf name qual params body scope dV kV doc pm an cdv ct),osl⟩) (hcd:PySem.W.codeIn K cdv qual=true) (S:FnScope N ps scope)
   (len:∀ vs H Q E,sp vs H Q E→vs.length=ps.length)
   (hbody:∀ (A:Around) (outer:List Env) (s:Shared) (H:Hp) (vs:List V) (Q:VK) (E:XK),Room k (A.deeper (envOfC qual scope s.heap.objs.size f cdv))→sp vs H Q E →
     ∃ t,PSs (cxOf CX P w K mg base N qual scope f cdv A outer s H E) body t∧t { nx:=fun _ H'=>Q .non H',rt:=Q } (start N vs) H) :
   FnOk P w K mg base CX (k+1) f (PySem.W.fnOf name qual params body scope dV kV doc pm an cdv ct) ps sp:=by
 refine ⟨len,fun A outer s H args us vs Q E hr e0 hb r hsp=>?_⟩;have hl:=len _ _ _ _ hsp;have KX:K.In s.heap:=e0.mod.kin.keeps fun b o e=>(e0.bs b o e).1
 have lim:s.heap.NoLimit:=e0.mod.nolimit.keeps fun b o e=>(e0.bs b o e).1
 have hkind:∀ y∈ps.zip us,scope.names.lookup y.1=some .local∨(scope.names.lookup y.1=some .cell∧((cellsFrom (s.heap.objs.size+1) scope.names []).lookup y.1).isSome=true):=fun ⟨n,v⟩ hy=>by
   rcases S.par n (List.of_mem_zip hy).1 with q | q
   · exact .inl q
   · exact .inr ⟨q,PySem.W.cellsFrom_some _ _ _ (.inl q)⟩
 refine codeAny_call_function hr.depth (KX _ _ lk) rfl S.co S.gen rfl (PySem.W.codeRec_of KX hcd) (hb _ _ _ _ ?_);refine wpAny_newFunctionEnv_cells S.kind hkind fun env he s1 x=>?_
 subst he;refine ⟨lim.keeps x.toInCall.keep,codeAny_func ?_⟩;obtain ⟨t,ht,hq⟩:=hbody A outer s H vs Q E (hr.deeper _) hsp;have I:Inv (cxOf CX P w K mg base N qual scope f cdv A outer s H E) [] (start N vs) H s1:=Zi2 S hr.hd e0 hl r x;refine wpAny_mono (ht [] s1 (start N vs) H _ I hq) (fun fl s' hs=>?_) fun e s' hs=>hs
 have fin:∀ {σ':St} {H':Hp} {v:V} {u:Value},Inv (cxOf CX P w K mg base N qual scope f cdv A outer s H E) [] σ' H' s'→RelV v u→Q v H'→CE outer P w H s Q u s' :=
   fun {σ' H' v u} J rv q=>⟨v,H',J.os,J.bare,J.base,J.hok,rv,q⟩
 cases fl with
 | ret u =>
   obtain ⟨v,σ',H',J,rv,q⟩:=hs;exact fin J rv q
 | next =>
   obtain ⟨σ',H',J,q⟩:=hs;exact fin (v:=V.non) (u:=Value.none) J rfl q
 | brk =>
   obtain ⟨_,_,_,q⟩:=hs;exact False.elim q
 | cont =>
   obtain ⟨_,_,_,q⟩:=hs;exact False.elim q
section
variable {X:Cx}{x:Str}{p pos:Pos}{e:Expr}{es:List Expr}{t:TA}{id T:String}{r:List V→Hp→VK→Prop}
def tCB (r:List V→Hp→VK→Prop)(t:TA):TE:=fun σ H Q=>t σ H fun vs H1=>r vs H1 Q
theorem ZaA (hc:CallR X (.builtin id) r)(hg:Gl X x)(hm:X.mg x=none)(hv:bootBuiltins x=some (.builtin id))(ha:PA X (e::es) t)(hn:x≠"__name__":=by decide)(hdb:(x==("__debug__":Str))=false:=by decide)
   (he:starEach (e::es) X.env=(false,eval e X.env)::starEach es X.env:=by rfl) (hpl:(backTo pos (starEach es X.env)).any (·.1)=false:=by rfl):PE X (.Call (.Name x p) (e::es) [] pos) (tCB r t):=by
 intro pins s σ H Q I h;refine wpAny_Call_Name_kw (ZeO I hg hm hv ?_ hn hdb);exact PyProof.Rows.callWith_builtin1 (thn (ha pos pins s σ H _ I h) fun us s1 ⟨vs,H1,I1,r1,q1⟩=>hc pins s1 σ H1 vs us Q I1 r1 q1) he hpl
theorem Zcd (hc:CallR X (.type T) r)(hg:Gl X x)(hm:X.mg x=none)(hv:bootBuiltins x=some (.type T))(ha:PA X (e::es) t)(hn:x≠"__name__":=by decide)(hdb:(x==("__debug__":Str))=false:=by decide)
   (he:starEach (e::es) X.env=(false,eval e X.env)::starEach es X.env:=by rfl) (hpl:(backTo pos (starEach es X.env)).any (·.1)=false:=by rfl):PE X (.Call (.Name x p) (e::es) [] pos) (tCB r t):=by
 intro pins s σ H Q I h;refine wpAny_Call_Name_kw (ZeO I hg hm hv ?_ hn hdb);exact PyProof.Rows.callWith_type1 (thn (ha pos pins s σ H _ I h) fun us s1 ⟨vs,H1,I1,r1,q1⟩=>hc pins s1 σ H1 vs us Q I1 r1 q1) he hpl
end
end L2
namespace HT
open PySem PyProof.Rows
section
open PySem.SeqAt
open PySem.AutoSeq1 (wpAny_loadPart')
open PySem.MeetsSeq PySem.MeetsSeq2 PySem.MeetsSeq3
end
section
variable {prog:Program}{w:World}{A:Around}{E:Value→Shared→Prop}{s:Shared}
def sIx (n d:Nat):Option Int→Nat
 | none=>d
 | some v=>if v<0 then (v+(n:Int)).toNat else min v.toNat n
theorem sIx_none (n d:Nat):sIx n d none=d:=rfl
theorem sIx_nat (n d k:Nat):sIx n d (some (k:Int))=min k n:=by show (if (k:Int)<0 then ((k:Int)+(n:Int)).toNat else min (k:Int).toNat n)=min k n;rw [if_neg (by omega),Int.toNat_natCast]
end
end HT
namespace L2
open PySem PySem.Spec PyProof.Rows
abbrev TO:=St→Hp→(Option Int→Hp→Prop)→Prop
def PO (X:Cx) (e:Option Expr) (t:TO):Prop :=
 ∀ (pins:List (Addr × Obj)) (s:Shared) (σ:St) (H:Hp) (Q:Option Int→Hp→Prop),Inv X pins σ H s→t σ H Q →
   wpAny (model X.prog X.w) X.A (evalPart e X.env) (fun u s'=>∃ o H',Inv X pins σ H' s'∧IsPart u o∧Q o H') X.xe s
def tNoPart:TO:=fun _ H Q=>Q none H
def tPart (t:TE):TO:=fun σ H Q=>t σ H fun x H1=>∃ i,x=.int i∧Q (some i) H1
section
variable {X:Cx}{e:Expr}{te:TE}{lo hi:Option Expr}{tl th:TO}{pos p2:Pos}
theorem Zcl:PO X none tNoPart:=by intro pins s σ H Q I h;rw [evalPart_none];exact wpAny_pure ⟨none,H,I,.none,h⟩
theorem ZbA (h:PE X e te):PO X (some e) (tPart te):=by
 intro pins s σ H Q I hw;rw [evalPart_some];refine thn (h pins s σ H _ I hw) fun u s1 ⟨x,H1,I1,r1,q1⟩=>?_
 obtain ⟨i,rfl,q⟩:=q1;obtain ⟨t,rfl⟩:=r1;exact ⟨some i,H1,I1,.int i t,q⟩
def SlR (X:Cx) (r:V→Option Int→Option Int→Hp→VK→Prop):Prop :=
 ∀ (pins:List (Addr × Obj)) (s:Shared) (σ:St) (H:Hp) (x:V) (v vl vu:Value) (lo hi:Option Int) (sl:Addr) (Q:VK),Inv X pins σ H s→RelV x v→s.heap.IsSliceOf sl vl vu .none→IsPart vl lo→IsPart vu hi→r x lo hi H Q →
   ∃ T id,typeLookup (.type T) "__getitem__"=pure (some (.builtin id))∧s.TypeIs v T∧wpAny (model X.prog X.w) X.A (getItem v (.ref sl)) (EP X pins σ Q) X.xe s
def tSl (r:V→Option Int→Option Int→Hp→VK→Prop)(te:TE)(tl th:TO):TE:=fun σ H Q=>te σ H fun x H1=>tl σ H1 fun l H2=>th σ H2 fun u H3=>r x l u H3 Q
theorem Zbt {r:V→Option Int→Option Int→Hp→VK→Prop}(hr:SlR X r)(he:PE X e te)(hl:PO X lo tl)(hu:PO X hi th):PE X (.Subscript e (.Slice lo hi none p2) pos) (tSl r te tl th):=by
 intro pins s σ H Q I h;refine Subscript_ (thn (he pins s σ H _ I h) fun v s1 ⟨x,H1,I1,r1,q1⟩=>?_);refine wpAny_Slice (thn (hl pins s1 σ H1 _ I1 q1) fun vl s2 ⟨l,H2,I2,pl,q2⟩=>thn (hu pins s2 σ H2 _ I2 q2) fun vu s3 ⟨u,H3,I3,pu,q3⟩=>?_);rw [evalPart_none];refine wpAny_pure ?_;have I4:Inv X pins σ H3 { s3 with heap:=s3.heap.push { cls:=.type "slice",data:=.fields #[vl,vu,.none] } }:=I3.kept (t':=s3.toks) fun b ob q=>Heap.get?_push_of_some _ q
 obtain ⟨T,id,hT,ht,hg⟩:=hr pins { s3 with heap:=s3.heap.push { cls:=.type "slice",data:=.fields #[vl,vu,.none] } } σ H3 x v vl vu l u s3.heap.objs.size Q I4 r1 (Heap.IsSliceOf.new ..) pl pu q3;show wpAny (model X.prog X.w) X.A (subscriptTail e (.Slice lo hi none p2) v (.ref s3.heap.objs.size)) (EP X pins σ Q) X.xe { s3 with heap:=s3.heap.push { cls:=.type "slice",data:=.fields #[vl,vu,.none] } };exact tail_any (ops:=[.ref s3.heap.objs.size,v]) ht hT hg (by with_unfolding_all rfl)
def cutV (xs:List V)(lo hi:Option Int):List V:=(xs.drop (HT.sIx xs.length 0 lo)).take (HT.sIx xs.length xs.length hi-HT.sIx xs.length 0 lo)
theorem Zgn (xs:List V)(lo hi:Option Int):(cutV xs lo hi).length≤xs.length:=by unfold cutV;rw [List.length_take,List.length_drop];omega
end
def ixN (n:Nat)(i:Int):Option Nat:=if 0≤i then (if i<n then some i.toNat else none) else if -(n:Int)≤i then some (i+n).toNat else none
def atI {α:Type}(xs:List α)(i:Int):Option α:=(ixN xs.length i).bind fun j=>xs[j]?
theorem ixN_seq {n:Nat}{i:Int}{j:Nat}(h:ixN n i=some j):seqIndex? i n=some j∧j<n∧-(n:Int)≤i∧i<n:=by
 unfold ixN at h;by_cases h0:0≤i
 · rw [if_pos h0] at h
   by_cases h1:i<n
   · rw [if_pos h1] at h
     have e:i.toNat=j:=Option.some.inj h;exact ⟨by rw [seqIndex_of h0 h1,e],by omega,by omega,h1⟩
   · rw [if_neg h1] at h;cases h
 · rw [if_neg h0] at h
   by_cases h1:-(n:Int)≤i
   · rw [if_pos h1] at h
     have e:(i+n).toNat=j:=Option.some.inj h;exact ⟨by rw [seqIndex_neg (by omega) h1,e],by omega,h1,by omega⟩
   · rw [if_neg h1] at h;cases h
theorem Zie {α:Type}{xs:List α}{i:Int}{v:α}(h:atI xs i=some v):∃ j,seqIndex? i xs.length=some j∧xs[j]?=some v∧j<xs.length∧-(xs.length:Int)≤i∧i<xs.length:=by
 unfold atI at h;cases e:ixN xs.length i with
 | none=>rw [e] at h;cases h
 | some j =>
   rw [e] at h;obtain ⟨h1,h2,h3,h4⟩:=ixN_seq e;exact ⟨j,h1,h,h2,h3,h4⟩
theorem Zem {α:Type}{xs:List α}{j:Nat}{v:α}(h:xs[j]?=some v):atI xs (j:Int)=some v:=by
 have hj:j<xs.length:=(List.getElem?_eq_some_iff.mp h).1;have e:ixN xs.length (j:Int)=some j:=by unfold ixN;rw [if_pos (by omega),if_pos (by omega)];simp
 unfold atI;rw [e];exact h
def PlainIx (b:Expr):Prop:=∀ o i,subscripted b false o i=operate [o,i] (getItem o i)
def IxR (X:Cx) (r:R2):Prop :=
 ∀ (value slice:Expr) (pins:List (Addr × Obj)) (s:Shared) (σ:St) (H:Hp) (x y:V) (v u:Value) (Q:VK),Inv X pins σ H s→RelV x v→RelV y u→r x y H Q →
   subscripted slice false v u=operate [v,u] (getItem v u)→wpAny (model X.prog X.w) X.A (subscriptTail value slice v u) (EP X pins σ Q) X.xe s
def MtR (X:Cx) (id:String) (r:V→List V→Hp→VK→Prop):Prop :=
 ∀ (pins:List (Addr × Obj)) (s:Shared) (σ:St) (H:Hp) (x:V) (xs:List V) (v:Value) (us:List Value) (Q:VK),Inv X pins σ H s→RelV x v→Vals xs us→r x xs H Q →
   wpAny (model X.prog X.w) X.A (call (.builtin id) (v::us)) (EP X pins σ Q) X.xe s
section
variable {X:Cx}{a b:Expr}{ta tb:TE}{pos:Pos}
theorem Zca {r:R2}(hr:IxR X r)(ha:PE X a ta)(hb:PE X b tb)(hs:PlainIx b):PE X (.Subscript a b pos) (tOp r ta tb):=by intro pins s σ H Q I h;exact Subscript_ (binT ha hb I h fun v u s2 x y H2 I2 rx ry q=>hr a b pins s2 σ H2 x y v u Q I2 rx ry q (hs _ _))
def rIxL (K:PySem.W.Frag):R2:=fun x y H Q=>∃ p xs i v,x=.ref p∧y=.int i∧SqL K H p xs∧atI xs i=some v∧Q v H
def rIxT (K:PySem.W.Frag):R2:=fun x y H Q=>∃ p xs i v,x=.ref p∧y=.int i∧SqT K H p xs∧atI xs i=some v∧Q v H
theorem ix_list:IxR X (rIxL X.K):=by
 intro value slice pins s σ H x y v u Q I rx ry h hs;obtain ⟨p,xs,i,z,rfl,rfl,hq,he,q⟩:=h;cases rx;obtain ⟨t,rfl⟩:=ry;obtain ⟨its,r,pl,hz⟩:=I.list hq;obtain ⟨j,h1,h2,h3,h4,h5⟩:=Zie he;obtain ⟨w,ew,rw'⟩:=r.get h2;have hl:=r.length;have hn:=line63;have fin:EP X pins σ Q w s:=⟨z,H,I,rw',q⟩
 by_cases h0:0≤i
 · have hj:i.toNat=j:=by
     rw [seqIndex_of h0 h5] at h1;exact Option.some.inj h1
   exact item_listR pl.isList h0 (by omega) (by rw [hj];simpa using ew) fin hs
 · have hj:(i+(its.toArray.size:Int)).toNat=j:=by
     rw [seqIndex_neg (by omega) h4] at h1;rw [List.size_toArray,← hl];exact Option.some.inj h1
   exact subscriptTail_builtinR (x:=w) pl.isList.typeIs slot_list_getitem.lookup
     (wpAny_getItem_list_neg (Q:=fun r s'=>r=w∧EP X pins σ Q r s') pl.isList (by omega) (by rw [List.size_toArray]<;>omega) (by omega) (by rw [hj];simpa using ew) ⟨rfl,fin⟩) hs
theorem ix_tup:IxR X (rIxT X.K):=by
 intro value slice pins s σ H x y v u Q I rx ry h hs;obtain ⟨p,xs,i,z,rfl,rfl,hq,he,q⟩:=h;cases rx;obtain ⟨t,rfl⟩:=ry;obtain ⟨its,r,pl,hz⟩:=I.tuple hq;obtain ⟨j,h1,h2,h3,h4,h5⟩:=Zie he;obtain ⟨w,ew,rw'⟩:=r.get h2;have hl:=r.length;have hn:=line63;have fin:EP X pins σ Q w s:=⟨z,H,I,rw',q⟩
 exact subscriptTail_builtinR (x:=w) pl.typeIs slot_tuple_getitem.lookup
   (getItem_tuple (j:=j) (Q:=fun r s'=>r=w∧EP X pins σ Q r s') pl (by omega) (by omega) (by rw [List.size_toArray,← hl];exact h1) (by simpa using ew) ⟨rfl,fin⟩) hs
theorem Zgb (lo hi:Option Int)(n:Nat):(sliceBounds lo hi none n).1=((HT.sIx n 0 lo:Nat):Int)∧(sliceBounds lo hi none n).2.1=((HT.sIx n n hi:Nat):Int)∧(sliceBounds lo hi none n).2.2=1:=by
 refine ⟨?_,?_,rfl⟩
 · cases lo with
   | none=>simp [sliceBounds,HT.sIx]
   | some i =>
     simp only [sliceBounds,HT.sIx,Option.getD_none,show (1:Int) > 0 by decide,if_true];by_cases h:i<0
     · simp only [h,if_true]<;>omega
     · simp only [h,if_false]<;>omega
 · cases hi with
   | none=>simp [sliceBounds,HT.sIx]
   | some i =>
     simp only [sliceBounds,HT.sIx,Option.getD_none,show (1:Int) > 0 by decide,if_true];by_cases h:i<0
     · simp only [h,if_true]<;>omega
     · simp only [h,if_false]<;>omega
theorem Zfb (its:List Value)(lo hi:Option Int):slicePick its.toArray lo hi none=((its.drop (HT.sIx its.length 0 lo)).take (HT.sIx its.length its.length hi-HT.sIx its.length 0 lo)).toArray:=by obtain ⟨h1,h2,h3⟩:=Zgb lo hi its.toArray.size;unfold slicePick;rw [h1,h2,h3];simp only [sliceRange_one,pick_run,List.size_toArray]<;>rfl
def rSlL (K:PySem.W.Frag):V→Option Int→Option Int→Hp→VK→Prop:=fun x lo hi H Q=>∃ a xs,x=.ref a∧SqL K H a xs∧∀ p,H p=none→Q (.ref p) (upd H p (.lst (cutV xs lo hi)))
theorem sl_list:SlR X (rSlL X.K):=by intro pins s σ H x v vl vu lo hi sl Q I rx hs pl pu h;obtain ⟨a,xs,rfl,hx,q⟩:=h;cases rx;obtain ⟨its,r,ht,hz⟩:=I.list hx;have hlen:=r.length;refine ⟨"list",_,slot_list_getitem.lookup,ht.isList.typeIs,?_⟩;refine wpAny_getItem_list_slice ht.isList hs pl pu .none (by simp) ?_ (by rw [List.size_toArray]<;>omega);rw [Zfb,← hlen];refine ⟨.ref s.heap.objs.size,_,I.laid (t':=s.toks) (o:=.lst (cutV xs lo hi)) (fun b ob q=>Heap.get?_push_of_some _ q) (Nat.le_refl _) ?_,rfl,q _ (I.hok.fresh (Nat.le_refl _))⟩;exact ⟨Nat.le_trans (Zgn xs lo hi) hz,_,0,(r.drop (HT.sIx xs.length 0 lo)).take (HT.sIx xs.length xs.length hi-HT.sIx xs.length 0 lo),Heap.get?_push_size _ rfl⟩
theorem ZfT:CallR X (.builtin "len") (fun xs H Q=>∃ p ys,xs=[.ref p]∧(SqL X.K H p ys∨SqT X.K H p ys)∧Q (.int ys.length) H):=by
 intro pins s σ H xs us Q I r h;obtain ⟨p,ys,rfl,hq,q⟩:=h;obtain ⟨u,rfl,rx⟩:=vals1 r;cases rx;have hn:=line63;rcases hq with hq | hq
 · obtain ⟨its,r',pl,hz⟩:=I.list hq
   have hlen:=r'.length;exact Calls.call_len_list pl.isList (by simp only [List.size_toArray]<;>omega) ⟨.int ys.length,H,I.tok _,⟨s.toks+1,by rw [List.size_toArray,hlen]⟩,q⟩
 · obtain ⟨its,r',pl,hz⟩:=I.tuple hq
   have hlen:=r'.length;exact len_tuple pl (by simp only [List.size_toArray]<;>omega) ⟨.int ys.length,H,I.tok _,⟨s.toks+1,by rw [List.size_toArray,hlen]⟩,q⟩
theorem Zf7:CallR X (.type "list") (fun xs H Q=>∃ p ys,xs=[.ref p]∧(SqL X.K H p ys∨SqT X.K H p ys)∧∀ l,H l=none→Q (.ref l) (upd H l (.lst ys))):=by
 intro pins s σ H xs us Q I r h;obtain ⟨p,ys,rfl,hq,q⟩:=h;obtain ⟨u,rfl,rx⟩:=vals1 r;cases rx;have fin:∀ (its:List Value),Vals ys its→ys.length≤sizeLine→∀ (h':Heap) (c':Nat),(∀ b o',s.heap.get? b=some o'→h'.get? b=some o') →
     h'.get? s.heap.objs.size=some { cls:=.type "list",dict:=none,data:=.seq its.toArray c',slots:=#[] }→EP X pins σ Q (.ref s.heap.objs.size) { s with heap:=h' }:=fun its r' hz h' c' kp e =>
   ⟨.ref s.heap.objs.size,_,I.laid (t':=s.toks) kp (Nat.le_refl _) (show ObjOk X.prog X.w _ h' _ (.lst ys) from ⟨hz,its,c',r',e⟩),rfl,q _ (I.hok.fresh (Nat.le_refl _))⟩
 rcases hq with hq | hq
 · obtain ⟨its,r',pl,hz⟩:=I.list hq
   have hlen:=r'.length;obtain ⟨o,ho,hc,n,hd⟩:=pl.isList;exact call_list_seq p (.inl rfl) ho hc hd (fun h' c' kp e=>fin its r' hz h' c' kp e) (by simp only [List.size_toArray]<;>omega)
 · obtain ⟨its,r',pl,hz⟩:=I.tuple hq
   have hlen:=r'.length;obtain ⟨o,ho,hc,n,hd⟩:=pl;exact call_list_seq p (.inr rfl) ho hc hd (fun h' c' kp e=>fin its r' hz h' c' kp e) (by simp only [List.size_toArray]<;>omega)
def tyV (K:PySem.W.Frag)(T:String)(x:V)(H:Hp):Prop:=match x with
 | .str _=>T="str"
 | .int _=>T="int"
 | .ref p=>(T="list"∧∃ xs,SqL K H p xs)∨(T="tuple"∧∃ o,K.lookup p=some o∧o.cls=.type "tuple"∧o.dict=none) ∨
     (T="dict"∧((∃ kvs,H p=some (.dK kvs))∨∃ kvs,H p=some (.dT kvs)))∨(T="set"∧∃ S n,H p=some (.set S n))
 | _=>False
theorem tyV_is {pins:List (Addr × Obj)} {σ:St} {H:Hp} {s:Shared} {T:String} {x:V} {v:Value} (I:Inv X pins σ H s) (r:RelV x v) (ty:tyV X.K T x H) :
   s.TypeIs v T∧∀ a,v=.ref a→∃ ob,s.heap.get? a=some ob∧ob.dict=none:=by
 cases x with
 | str z =>
   obtain ⟨t,rfl⟩:=r;cases (show T="str" from ty);exact ⟨typeIs_str s z t,fun _ e=>nomatch e⟩
 | int i =>
   obtain ⟨t,rfl⟩:=r;cases (show T="int" from ty);exact ⟨typeIs_int s i t,fun _ e=>nomatch e⟩
 | ref p =>
   cases r;rcases ty with ⟨rfl,xs,hq⟩ | ⟨rfl,o,hk,hc,hd⟩ | ⟨rfl,hk⟩ | ⟨rfl,S,n,hk⟩
   · obtain ⟨its,_,pl,_⟩:=I.list hq
     refine ⟨pl.isList.typeIs,fun a e=>?_⟩;cases e;obtain ⟨o,n,e,c,hd,_⟩:=pl;exact ⟨o,e,hd⟩
   · refine ⟨⟨o,I.kIn p o hk,hc⟩,fun a e=>?_⟩
     cases e;exact ⟨o,I.kIn _ o hk,hd⟩
   · have z:∃ o,s.heap.get? p=some o∧o.ExactDict:=by
       rcases hk with ⟨kvs,hk⟩ | ⟨kvs,hk⟩
       · obtain ⟨_,_,_,_,o,_,_,e,ex,_⟩:=I.hok p _ hk
         exact ⟨o,e,ex⟩
       · obtain ⟨_,_,_,_,o,_,_,e,ex,_⟩:=I.hok p _ hk
         exact ⟨o,e,ex⟩
     obtain ⟨o,e,ex⟩:=z;refine ⟨⟨o,e,ex.1⟩,fun a e2=>?_⟩;cases e2;exact ⟨o,e,ex.2.1⟩
   · obtain ⟨o,_,_,_,e,ex,_⟩:=I.hok p _ hk
     refine ⟨⟨o,e,ex.1⟩,fun a e2=>?_⟩;cases e2;exact ⟨o,e,ex.2.1⟩
 | _=>exact False.elim ty
def tBM0 (K:PySem.W.Frag)(T:String)(r:V→List V→Hp→VK→Prop)(to:TE):TE:=fun σ H Q=>to σ H fun x H1=>tyV K T x H1∧r x [] H1 Q
def tBM (K:PySem.W.Frag)(T:String)(r:V→List V→Hp→VK→Prop)(to:TE)(t:TA):TE:=fun σ H Q=>to σ H fun x H1=>tyV K T x H1∧t σ H1 fun xs H2=>r x xs H2 Q
variable {o e:Expr}{es:List Expr}{to:TE}{t:TA}{name:Str}{apos cpos:Pos}{T id:String}{r:V→List V→Hp→VK→Prop}
theorem pe_bm0 (pa:PlainAttrs T)(slot:Slot T name id)(hty:typeOf (.builtin id)=pure (.type "method_descriptor"))(hm:MtR X id r)(ho:PE X o to)
   (hbase:attributeBase o name X.env (eval o X.env)=eval o X.env:=by rfl) (hline:(apos.endLine==cpos.line)=true:=by rfl):PE X (.Call (.Attribute o name apos) [] [] cpos) (tBM0 X.K T r to):=by
 intro pins s σ H Q I h;refine wpAny_Call_method0_late hbase hline (thn (ho pins s σ H _ I h) fun v s1 ⟨x,H1,I1,r1,ty,q1⟩=>?_);obtain ⟨h1,h2⟩:=tyV_is I1 r1 ty;exact ⟨T,id,pa,slot,hty,h1,h2,Calls.callWith_builtin rfl (PySem.evalArgs_none (hm pins s1 σ H1 x [] v [] Q I1 r1 .nil q1))⟩
theorem pe_bm (pa:PlainAttrs T)(slot:Slot T name id)(hty:typeOf (.builtin id)=pure (.type "method_descriptor"))(hm:MtR X id r)(ho:PE X o to)(ha:PA X (e::es) t)
   (hbase:attributeBase o name X.env (eval o X.env)=eval o X.env:=by rfl)
   (hfew:((backTo cpos (starEach (e::es) X.env)).all (fun x=>!x.1)&&(backToKw cpos (keywordEach [] X.env)).all (fun x=>x.1.isSome)
     && decide ((e::es).length+([]:List Keyword).length+(if ([]:List Keyword).isEmpty then 0 else 1)<30))=true:=by rfl)
   (hline:(apos.endLine==cpos.line)=true:=by rfl) (hs:starEach (e::es) X.env=(false,eval e X.env)::starEach es X.env:=by rfl) (hplain:(backTo cpos (starEach es X.env)).any (·.1)=false:=by rfl) :
   PE X (.Call (.Attribute o name apos) (e::es) [] cpos) (tBM X.K T r to t):=by
 intro pins s σ H Q I h;refine wpAny_Call_method_late hbase hfew hline rfl (thn (ho pins s σ H _ I h) fun v s1 ⟨x,H1,I1,r1,ty,q1⟩=>?_);obtain ⟨h1,h2⟩:=tyV_is I1 r1 ty;refine ⟨T,id,pa,slot,hty,h1,h2,?_⟩;have hA:=ha cpos pins s1 σ H1 _ I1 q1;rw [hs] at hA ⊢;refine Calls.callWith_builtin (by show (false||(backTo cpos (starEach es X.env)).any (·.1))=false;rw [hplain]<;>rfl) (Calls.evalArgs_plain ?_);exact thn hA fun us s2 ⟨vs,H2,I2,r2,q2⟩=>hm pins s2 σ H2 x vs v us Q I2 r1 r2 q2
end
def MtM (X:Cx) (id:String) (r:V→List V→Hp→VK→Prop):Prop :=
 ∀ (pins:List (Addr × Obj)) (s:Shared) (σ:St) (H:Hp) (x:V) (xs:List V) (v:Value) (us:List Value) (Q:VK),Inv X pins σ H s→RelV x v→Vals xs us→r x xs H Q →
   wpAny (model X.prog X.w) X.A (call (.builtin id) (v::us)) (EP X pins σ Q) X.xe s
theorem Vals.one:∀ {x:V} {us:List Value},Vals [x] us→∃ u,us=[u]∧RelV x u
 | _,_,.cons r .nil=>⟨_,rfl,r⟩
theorem Vals.two:∀ {x y:V} {us:List Value},Vals [x,y] us→∃ u v,us=[u,v]∧RelV x u∧RelV y v:=by
 intro x y us h;cases h with
 | cons r t =>
   cases t with
   | cons q t2 =>
     cases t2;exact ⟨_,_,rfl,r,q⟩
theorem Vals.zero:∀ {us:List Value},Vals [] us→us=[]
 | _,.nil=>rfl
theorem Vals.rep {xs:List V}{us:List Value}(h:Vals xs us):∀ k:Nat,Vals (List.replicate k xs).flatten (List.replicate k us).flatten
 | 0=>.nil
 | k+1=>by
   rw [List.replicate_succ,List.replicate_succ,List.flatten_cons,List.flatten_cons];exact Vals.append h (Vals.rep h k)
theorem Zfo (its:List Value):∀ (k:Nat) (acc:List Value),
   List.foldl (fun x1 x2=>x1++x2) acc.toArray (List.replicate k its.toArray)=(acc++(List.replicate k its).flatten).toArray
 | 0,acc=>by simp
 | k + 1,acc=>by
   have e:acc.toArray++its.toArray=(acc++its).toArray:=by simp
   have e2:(acc++its)++(List.replicate k its).flatten=acc++(List.replicate (k+1) its).flatten:=by rw [List.replicate_succ,List.flatten_cons,List.append_assoc]
   rw [← e2,← Zfo its k (acc++its),← e,List.replicate_succ,List.foldl_cons]
section
variable {X:Cx}{pins:List (Addr × Obj)}{σ:St}{H:Hp}{s:Shared}{l b:Addr}{xs ys zs:List V}
theorem Inv.lset {its its':List Value}{n:Nat}{f:Array Value→Array Value}{t':Nat}(I:Inv X pins σ H s)(hH:H l=some (.lst xs))
   (e:s.heap.get? l=some { cls:=.type "list",data:=.seq its.toArray n }) (hf:f its.toArray=its'.toArray) (hv:Vals ys its') (hz:ys.length≤sizeLine) :
   Inv X pins σ (upd H l (.lst ys)) { s with heap:=s.heap.update l (Obj.mapSeq f),toks:=t' }:=by
 have q:=PySem.IsL.update e f;rw [hf] at q;refine I.write (x:=l) (e:=l) (by rw [hH];exact trivial) (.inl rfl) (fun b' u hb hu=>(Heap.get?_update_other s.heap (Obj.mapSeq f) (Ne.symm hb)).trans hu) ⟨_,q⟩ ?_;exact ⟨hz,its',_,hv,q⟩
theorem Inv.lnew {its:List Value}{t':Nat}(I:Inv X pins σ H s)(hv:Vals ys its)(hz:ys.length≤sizeLine) :
   Inv X pins σ (upd H s.heap.objs.size (.lst ys)) { s with heap:=s.heap.push { cls:=.type "list",data:=.seq its.toArray },toks:=t' } :=
 I.laid (fun _ _ q=>Heap.get?_push_of_some _ q) (Nat.le_refl _) ⟨hz,its,0,hv,Heap.get?_push_size _ rfl⟩
theorem Inv.fresh (I:Inv X pins σ H s):H s.heap.objs.size=none:=I.hok.fresh (Nat.le_refl _)
theorem Inv.lstM (I:Inv X pins σ H s)(hH:H l=some (.lst xs)):xs.length≤sizeLine∧∃ (its:List Value) (n:Nat),Vals xs its∧xs.length=its.length∧s.heap.get? l=some { cls:=.type "list",data:=.seq its.toArray n }:=by obtain ⟨z,its,n,r,e⟩:=I.hok l _ hH;exact ⟨z,its,n,r,r.length,e⟩
theorem notLongL {n:Nat}(h:n≤sizeLine):Builtin.List.listTooLong n=false:=by unfold Builtin.List.listTooLong;exact decide_eq_false (by omega)
end
section
variable {X:Cx}
def rAppend:V→List V→Hp→VK→Prop:=fun x vs H Q=>∃ l xs y,x=.ref l∧vs=[y]∧H l=some (.lst xs)∧xs.length<sizeLine∧Q .non (upd H l (.lst (xs++[y])))
theorem ZcX:MtM X "list.append" rAppend:=by intro pins s σ H x vs v us Q I rx rv h;obtain ⟨l,xs,y,rfl,rfl,hH,hz,q⟩:=h;cases rx;obtain ⟨u,rfl,ru⟩:=rv.one;obtain ⟨z,its,n,r,hl,e⟩:=I.lstM hH;refine call_meets F.slot_list_append ⟨_,e,rfl⟩ F.entry_list_append (F.args_list_append_2 _ _) (PySem.list_append l its.toArray n u (by rw [List.size_toArray];omega)) ⟨e,?_⟩;refine ⟨.non,_,I.lset (its':=its++[u]) hH e (by simp) (r.append (.cons ru .nil)) ?_,rfl,q⟩;rw [List.length_append,List.length_singleton];omega
def rExtend:V→List V→Hp→VK→Prop:=fun x vs H Q=>∃ l b xs zs,x=.ref l∧vs=[.ref b]∧H l=some (.lst xs)∧H b=some (.lst zs)∧xs.length+zs.length≤sizeLine∧Q .non (upd H l (.lst (xs++zs)))
theorem Zjs:MtM X "list.extend" rExtend:=by
 intro pins s σ H x vs v us Q I rx rv h;obtain ⟨l,b,xs,zs,rfl,rfl,hH,hB,hz,q⟩:=h;cases rx;obtain ⟨u,rfl,ru⟩:=rv.one;cases ru;obtain ⟨z,its,n,r,hl,e⟩:=I.lstM hH;obtain ⟨z2,its2,n2,r2,hl2,e2⟩:=I.lstM hB;have hsz:its.toArray.size+its2.toArray.size≤sizeLine:=by rw [List.size_toArray,List.size_toArray];omega
 have hlong:¬ (!its.toArray.isEmpty&&Builtin.List.listTooLong (its.toArray.size+its2.toArray.size))=true:=by rw [notLongL hsz,Bool.and_false];exact Bool.false_ne_true
 refine call_meets F.slot_list_extend ⟨_,e,rfl⟩ F.entry_list_extend (F.args_list_extend_2 _ _)
   (AutoSeq1.list_extend_list_list_0 l its.toArray n b its2.toArray n2 hlong (by rw [List.size_toArray];omega) (by omega)) ⟨e,e2,?_⟩
 refine ⟨.non,_,I.lset (its':=its++its2) hH e (by simp) (r.append r2) ?_,rfl,q⟩;rw [List.length_append];omega
def rCat:R2:=fun x y H Q=>∃ l b xs zs,x=.ref l∧y=.ref b∧H l=some (.lst xs)∧H b=some (.lst zs)∧xs.length+zs.length≤sizeLine∧∀ p,H p=none→Q (.ref p) (upd H p (.lst (xs++zs)))
theorem ZdP:OpR X (binaryOp .Add) rCat:=by
 intro pins s σ H x y v u Q I rx ry h;obtain ⟨l,b,xs,zs,rfl,rfl,hH,hB,hz,q⟩:=h;cases rx;cases ry;obtain ⟨z,its,n,r,hl,e⟩:=I.lstM hH;obtain ⟨z2,its2,n2,r2,hl2,e2⟩:=I.lstM hB;refine PySem.P.add_list e e2 ?_ (by rw [List.size_toArray,List.size_toArray];omega);have ea:its.toArray++its2.toArray=(its++its2).toArray:=by simp
 rw [ea];exact ⟨.ref _,_,I.lnew (t':=s.toks) (r.append r2) (by rw [List.length_append];omega),rfl,q _ I.fresh⟩
def rRep:R2:=fun x y H Q=>∃ l k xs,x=.ref l∧y=.int k∧H l=some (.lst xs)∧-(2^63)≤k∧k<2^63∧xs.length*k.toNat≤sizeLine ∧
 ∀ p,H p=none→Q (.ref p) (upd H p (.lst (List.replicate k.toNat xs).flatten))
theorem len_rep {α:Type}(xs:List α)(k:Nat):(List.replicate k xs).flatten.length=k*xs.length:=by
 induction k with
 | zero=>simp
 | succ k ih=>rw [List.replicate_succ,List.flatten_cons,List.length_append,ih,Nat.succ_mul,Nat.add_comm]
theorem ZhY:OpR X (binaryOp .Mult) rRep:=by
 intro pins s σ H x y v u Q I rx ry h;obtain ⟨l,k,xs,rfl,rfl,hH,h1,h2,hz,q⟩:=h;cases rx;obtain ⟨t,rfl⟩:=ry;obtain ⟨z,its,n,r,hl,e⟩:=I.lstM hH;have hlen:its.toArray.size*k.toNat≤sizeLine:=by rw [List.size_toArray,← hl];exact hz
 have hcap:¬ its.toArray.size*k.toNat > (2^63-1)/8:=by
   have:(sizeLine:Nat)≤(2^63-1)/8:=by decide
   omega
 have hfit:¬ (!Builtin.List.listFitsIndex k)=true:=by rw [fitsIndex_both h1 h2];exact Bool.false_ne_true
 have hlong:¬ Builtin.List.listTooLong (its.toArray.size*k.toNat)=true:=by rw [notLongL hlen];exact Bool.false_ne_true
 have hnew:List.foldl (fun x1 x2=>x1++x2) #[] (List.replicate (if its.toArray.isEmpty=true then 0 else k.toNat) its.toArray)=(List.replicate k.toNat its).flatten.toArray:=by
   have f0:∀ m:Nat,List.foldl (fun x1 x2=>x1++x2) #[] (List.replicate m its.toArray)=(List.replicate m its).flatten.toArray:=fun m=>by
     have:=Zfo its m [];rw [List.nil_append] at this;exact this
   rw [f0];cases its with
   | nil=>simp
   | cons a r'=>rw [if_neg (by simp)]
 refine wpAny_binaryOp_repeat_ref (T:="list") (U:="int") (by decide) ⟨_,e,rfl⟩ (fun s'=>typeIs_int s' k t) noFill_list_mul F.fills_int_mul F.slot_int_rmul repeat_list F.slot_int_index.lookup
   (call_meets F.slot_int_rmul (typeIs_int s k t) F.entry_int_rmul (F.args_int_rmul_2 _ _) (int___rmul___int_list k t l its.toArray n)
     ⟨e,rfl,⟨_,e,rfl⟩,call_meets F.slot_list_mul ⟨_,e,rfl⟩ F.entry_list_mul (F.args_list_mul_2 _ _) (AutoListH.list___mul___list_int_3 l its.toArray n k t hfit hcap hlong) ⟨e,?_⟩⟩)
 rw [hnew];exact ⟨.ref _,_,I.lnew (t':=s.toks) (r.rep k.toNat) (by rw [len_rep,Nat.mul_comm];exact hz),rfl,q _ I.fresh⟩
end
section
variable {prog:Program}{w:World}{A:Around}{E:Value→Shared→Prop}{s:Shared}
set_option maxRecDepth 100000 in
end
section
variable {X:Cx}
end
end L2
namespace Att
open PySem PySem.W PySem.Calls PyProof.Rows
theorem Zd8 {P:Params}{h:Heap}:∀ (ns:List Int) (vs:List Value),WellAll P h vs (ns.map WData.int)→IntsAre vs ns:=by
 intro ns;induction ns with
 | nil =>
   intro vs w;rw [List.map_nil] at w;cases w;exact .nil
 | cons n ns ih =>
   intro vs w;rw [List.map_cons] at w;cases w with
   | cons a b =>
     cases a;exact .cons _ _ (ih _ b)
theorem Zjv {l:OpenLaw}{n:Nat}(hn:l.most=some n){P:Params}{h:Heap}{args:List WData}{vals:List Value}
   (hpre:l.row.toRowW.claim.pre args=true) (hwl:WellAll P h vals args) :
   ∃ a vs ns,vals=[Value.ref a]∧args=[WData.list (ns.map WData.int)]∧h.get? a=some { cls:=.type "list",data:=.seq vs.toArray }∧IntsAre vs ns∧ns.length≤n:=by
 have hsh:WShape.hasAll [] args [.list .int]=true:=(pre_splitW hpre).1;have hc:l.pre.holds [] { args:=args }=true:=(pre_splitW hpre).2;obtain ⟨d,r,rfl,h1,h2⟩:=hasAllW_cons hsh;obtain rfl:=hasAllW_nil h2;obtain ⟨xs,rfl,h3⟩:=hasW_list h1;obtain ⟨ns,rfl⟩:=items_int h3;have hlen:ns.length≤n:=by
   unfold OpenLaw.pre at hc;have h4:(WTm.not (.lt (.lit (.int (n:Int))) (.len (.arg 0)))).holds [] { args:=[.list (ns.map .int)] }=true:=by have h4:=(holds_andW hc).1;rw [hn] at h4;exact h4
   have h5:=condW_of h4 (w_not (w_lt w_lit (w_len_list (w_arg rfl))));rw [List.length_map] at h5;refine Nat.le_of_not_lt fun q=>?_
   have q':(n:Int)<((ns.length:Nat):Int):=by omega
   first
     | (rw [decide_eq_true q'] at h5;exact absurd h5 (by decide))
     | (simp at h5;omega)
 cases hwl with
 | cons w1 w2 =>
   cases w2;cases w1 with
   | list ho hall=>exact ⟨_,_,ns,rfl,rfl,ho,Zd8 ns _ hall,hlen⟩
theorem Zjc (l:OpenLaw)(args:List WData):l.row.toRowW.claim.post args (.bool true) args=true :=
 postW_of (r:=l.row.toRowW) (X:=(true==true))
   (show WShape.has [] (.bool true) .bool=true by first | rfl | decide | simp [WShape.has,WShape.arms,WShape.armsAll])
   (show (WTm.eq .res (.lit (.bool true))).value [] { args:=args,res:=some (.bool true),after:=args }=some (.bool (true==true)) from w_eq_bool (w_res rfl) w_lit) rfl
section
variable {prog:Program}{w:World}{A:Around}{E:Value→Shared→Prop}{s:Shared}{K:Frag}
end
end Att
namespace L2
open PySem PySem.Spec PyProof.Rows
theorem ZdR:∀ {vs:List Value} {ns:List Int},IntsAre vs ns→Vals (ns.map V.int) vs
 | _,_,.nil=>.nil
 | _,_,.cons n t h=>.cons ⟨t,rfl⟩ (ZdR h)
abbrev KOf {K:PySem.W.Frag}{h:Heap}(_:K.In h):PySem.W.Frag:=K
def inClass (s:Stmt)(j:Nat):Stmt:=match s with
 | .ClassDef _ _ _ body _ _ _ _ _ _ _=>body.getD j (.Pass ⟨0,0,0,0⟩)
 | _=>.Pass ⟨0,0,0,0⟩
def defArgs (s:Stmt):Arguments:=match s with
 | .FunctionDef _ a _ _ _ _ _ _ _ _=>a
 | _=>{ posonlyargs:=[],args:=[],vararg:=none,kwonlyargs:=[],kw_defaults:=[],kwarg:=none,defaults:=[] }
def defBody (s:Stmt):List Stmt:=match s with
 | .FunctionDef _ _ b _ _ _ _ _ _ _=>b
 | _=>[]
def defScope (s:Stmt):Scope:=match s with
 | .FunctionDef _ _ _ _ _ _ sc _ _ _=>sc
 | _=>{ kind:=.function,names:=[],isGenerator:=false,isCoroutine:=false }
abbrev CX0:CXT:=fun _ _ _ _ _ _=>False
abbrev E0:XK:=fun _ _ _=>False
theorem pass0 {X:Cx}:Passes CX0 X E0:=fun _ _ _ _ _ _ _ h=>h.elim
structure Fun (K:PySem.W.Frag)(x qual:Str)(st:Stmt)(f:Addr)(fd:FuncData):Prop where
 ex:∃ (oc:Value) (od:Option Addr) (kV doc pm:Value) (an:Option Addr) (cdv ct:Value) (osl:Array (Option Value)),
   fd=PySem.W.fnOf x qual (defArgs st) (defBody st) (defScope st) .none kV doc pm an cdv ct∧K.lookup f=some ⟨oc,od,.func fd,osl⟩∧PySem.W.codeIn K cdv qual=true
 kp:PySem.W.keepIn K (.ref f)=true
section
variable {P:Program}{w:World}{K:PySem.W.Frag}{mg:Str→Option Value}{base:Heap}
theorem Fun.ok {x qual:Str}{st:Stmt}{f:Addr}{fd:FuncData}{N ps:List Str}{k:Nat}{sp:Sp}(F:Fun K x qual st f fd)(S:FnScope N ps (defScope st))(len:∀ vs H Q E,sp vs H Q E→vs.length=ps.length)
   (hbody:∀ (cdv:Value) (A:Around) (outer:List Env) (s:Shared) (H:Hp) (vs:List V) (Q:VK) (E:XK),Room k (A.deeper (envOfC qual (defScope st) s.heap.objs.size f cdv))→sp vs H Q E →
     ∃ t,PSs (cxOf CX0 P w K mg base N qual (defScope st) f cdv A outer s H E).nox (defBody st) t∧t { nx:=fun _ H'=>Q .non H',rt:=Q } (start N vs) H):FnOk P w K mg base CX0 (k+1) f fd ps sp:=by
 obtain ⟨oc,od,kV,doc,pm,an,cdv,ct,osl,rfl,lk,hcd⟩:=F.ex;refine fn_of lk hcd S len fun A outer s H vs Q E hr hsp=>?_
 obtain ⟨t,h,q⟩:=hbody cdv A outer s H vs Q E hr hsp;exact ⟨t,h.nox,q⟩
theorem Fun.binds {x qual:Str}{st:Stmt}{f:Addr}{fd:FuncData}{ps:List Str}(F:Fun K x qual st f fd)
   (h:∀ (kV doc pm:Value) (an:Option Addr) (cdv ct:Value) (us:List Value),us.length=ps.length→bindArgs (PySem.W.fnOf x qual (defArgs st) (defBody st) (defScope st) .none kV doc pm an cdv ct) ⟨us,[]⟩=pure (ps.zip us)):Binds K fd ps []:=by
 obtain ⟨oc,od,kV,doc,pm,an,cdv,ct,osl,rfl,lk,hcd⟩:=F.ex;exact .all (h kV doc pm an cdv ct)
theorem Zcm {x qual:Str}{st:Stmt}{f:Addr}{oc:Value}{od an:Option Addr}{osl:Array (Option Value)}{kV doc pm cdv ct:Value}(l:K.lookup f=some ⟨oc,od,.func (PySem.W.fnOf x qual (defArgs st) (defBody st) (defScope st) .none kV doc pm an cdv ct),osl⟩)
   (c:PySem.W.codeIn K cdv qual=true) (k:PySem.W.keepIn K (.ref f)=true):Fun K x qual st f (PySem.W.fnOf x qual (defArgs st) (defBody st) (defScope st) .none kV doc pm an cdv ct):=⟨⟨oc,od,kV,doc,pm,an,cdv,ct,osl,rfl,l,c⟩,k⟩
end
theorem small1000 {n:Nat}(h:n≤1000):n<sizeLine:=Nat.lt_of_le_of_lt h (by decide)
section
variable {X:Cx}
theorem pv (i:Nat){x:Str}{pos:Pos}(hN:X.N[i]?=some x:=by rfl)(hv:Vis X.env.scope x:=by first | exact Or.inl rfl | exact Or.inr (Or.inl rfl) | exact Or.inr (Or.inr rfl))(hd:(x==("__debug__":Str))=false:=by decide)
   (hcd:(x==("__classdict__":Str))=false:=by decide):PE X (.Name x pos) (tVar i):=pe_var hN hv hd hcd
end
def Same (H H':Hp):Prop:=∀ b o,H b=some o→H' b=some o
theorem Same.refl (H:Hp):Same H H:=fun _ _ h=>h
theorem Same.trans {H H1 H2:Hp}(a:Same H H1)(b:Same H1 H2):Same H H2:=fun c o h=>b c o (a c o h)
theorem Same.free {H H':Hp}(e:Same H H'){l:Addr}(h:H' l=Option.none):H l=Option.none:=by
 cases q:H l with
 | none=>rfl
 | some o =>
   rw [e l o q] at h;cases h
theorem Same.seq {K:PySem.W.Frag}{H H':Hp}{a:Addr}{xs:List V}(e:Same H H')(h:SqL K H a xs):SqL K H' a xs:=by
 rcases h with (h | ⟨o,h⟩) | h
 · exact .inl (.inl (e _ _ h))
 · exact .inl (.inr ⟨o,e _ _ h⟩)
 · exact .inr h
end L2
namespace L2
open PySem PySem.Spec PyProof.Rows
section
variable {κ:Type}[DecidableEq κ]
def valV (kvs:List (κ × V))(k:κ):Option V:=(kvs.find? fun kv=>decide (kv.1=k)).map (·.2)
def putK (kvs:List (κ × V))(k:κ)(v:V):List (κ × V) :=
 if (kvs.any fun kv=>decide (kv.1=k))=true then kvs.map (fun kv=>if kv.1=k then (kv.1,v) else kv) else kvs++[(k,v)]
def dropK (kvs:List (κ × V))(k:κ):List (κ × V):=kvs.filter fun kv=>decide (kv.1≠k)
theorem ZaW {p:κ × V}{r:List (κ × V)}{k:κ}(e:p.1=k):valV (p::r) k=some p.2:=by simp [valV,List.find?_cons,e]
theorem ZaZ {p:κ × V}{r:List (κ × V)}{k:κ}(e:¬ p.1=k):valV (p::r) k=valV r k:=by simp [valV,List.find?_cons,e]
theorem Zcb (k:κ):∀ kvs:List (κ × V),(kvs.any fun kv=>decide (kv.1=k))=(valV kvs k).isSome
 | []=>rfl
 | p::r=>by
   rw [List.any_cons];by_cases e:p.1=k
   · simp only [ZaW e,decide_eq_true e,Bool.true_or,Option.isSome_some]
   · rw [ZaZ e,decide_eq_false e,Bool.false_or];exact Zcb k r
theorem ZgM (k j:κ)(y:V):∀ kvs:List (κ × V),valV (kvs.map fun kv=>if kv.1=k then (kv.1,y) else kv) j=(valV kvs j).map fun x=>if j=k then y else x
 | []=>rfl
 | p :: r=>by
   have ih:=ZgM k j y r;rw [List.map_cons];by_cases h:p.1=k
   · rw [if_pos h]
     by_cases e:p.1=j
     · rw [ZaW (p:=(p.1,y)) e,ZaW e,Option.map_some,if_pos (e.symm.trans h)]
     · rw [ZaZ (p:=(p.1,y)) e,ZaZ e,ih]
   · rw [if_neg h]
     by_cases e:p.1=j
     · rw [ZaW (p:=p) e,ZaW e,Option.map_some,if_neg (fun z=>h (e.trans z))]
     · rw [ZaZ (p:=p) e,ZaZ e,ih]
theorem Zfn (k j:κ)(y:V):∀ kvs:List (κ × V),valV kvs k=none→valV (kvs++[(k,y)]) j=if j=k then some y else valV kvs j
 | [],_=>by
   by_cases e:k=j
   · rw [if_pos e.symm];exact ZaW (p:=(k,y)) e
   · rw [if_neg (fun z=>e z.symm)];exact ZaZ (p:=(k,y)) e
 | p::r,hn=>by
   rw [List.cons_append];have hk:¬ p.1=k:=fun z=>by rw [ZaW z] at hn;cases hn
   rw [ZaZ hk] at hn;have ih:=Zfn k j y r hn;by_cases e:p.1=j
   · rw [ZaW e,ZaW e,if_neg (fun z=>hk (e.trans z))]
   · rw [ZaZ e,ZaZ e,ih]
theorem ZeA (kvs:List (κ × V))(k j:κ)(y:V):valV (putK kvs k y) j=if j=k then some y else valV kvs j:=by
 unfold putK;by_cases a:(kvs.any fun kv=>decide (kv.1=k))=true
 · rw [if_pos a,ZgM]
   rw [Zcb] at a;by_cases e:j=k
   · obtain ⟨x,hx⟩:=Option.isSome_iff_exists.mp a
     rw [if_pos e,e,hx,Option.map_some,if_pos rfl]
   · rw [if_neg e]
     cases valV kvs j with
     | none=>rfl
     | some x=>rw [Option.map_some,if_neg e]
 · rw [if_neg a]
   refine Zfn k j y kvs ?_;rw [Zcb] at a;cases q:valV kvs k with
   | none=>rfl
   | some x=>rw [q] at a;exact (a rfl).elim
theorem ZcK (kvs:List (κ × V))(k:κ)(v:V):(putK kvs k v).length≤kvs.length+1:=by
 unfold putK;split
 · rw [List.length_map];omega
 · rw [List.length_append,List.length_cons,List.length_nil];omega
theorem RelO.isSome_eq {o:Option V}{u:Option Value}(r:RelO o u):o.isSome=u.isSome:=by
 cases o with
 | none=>cases u with
   | none=>rfl
   | some _=>exact (show False from r).elim
 | some _=>cases u with
   | none=>exact (show False from r).elim
   | some _=>rfl
theorem RelO.getD {o:Option V}{u:Option Value}{d:V}{d':Value}(r:RelO o u)(rd:RelV d d'):RelV (o.getD d) (u.getD d'):=by
 cases o with
 | none=>cases u with
   | none=>exact rd
   | some _=>exact (show False from r).elim
 | some _=>cases u with
   | none=>exact (show False from r).elim
   | some _=>exact r
theorem KV.val {kvs:List (κ × V)}{vs:List (κ × Value)}(r:KV kvs vs)(k:κ):RelO (valV kvs k) (valueAt vs k):=by
 unfold KV at r;induction r with
 | nil=>exact True.intro
 | @cons p q ps qs h t ih =>
   obtain ⟨h1,h2⟩:=h;by_cases e:p.1=k
   · have e':q.1=k:=h1.symm.trans e
     have b:valueAt (q::qs) k=some q.2:=by simp [valueAt,List.find?_cons,e']
     rw [ZaW e,b];exact h2
   · have e':¬ q.1=k:=fun z=>e (h1.trans z)
     have b:valueAt (q::qs) k=valueAt qs k:=by simp [valueAt,List.find?_cons,e']
     rw [ZaZ e,b];exact ih
theorem KV.any {kvs:List (κ × V)}{vs:List (κ × Value)}(r:KV kvs vs)(k:κ):(kvs.any fun kv=>decide (kv.1=k))=vs.any fun kv=>decide (kv.1=k):=by
 unfold KV at r;induction r with
 | nil=>rfl
 | cons h t ih=>rw [List.any_cons,List.any_cons,ih,h.1]
theorem KV.repl {kvs:List (κ × V)}{vs:List (κ × Value)}(r:KV kvs vs)(k:κ){y:V}{u:Value}(ry:RelV y u) :
   KV (kvs.map fun kv=>if kv.1=k then (kv.1,y) else kv) (vs.map fun kv=>if kv.1=k then (kv.1,u) else kv):=by
 unfold KV at r ⊢;induction r with
 | nil=>exact .nil
 | @cons p q ps qs h t ih =>
   rw [List.map_cons,List.map_cons];refine .cons ?_ ih;obtain ⟨h1,h2⟩:=h;by_cases e:p.1=k
   · rw [if_pos e,if_pos (h1.symm.trans e)];exact ⟨h1,ry⟩
   · rw [if_neg e,if_neg (fun z=>e (h1.trans z))];exact ⟨h1,h2⟩
theorem KV.put {kvs:List (κ × V)}{vs:List (κ × Value)}(r:KV kvs vs)(k:κ){y:V}{u:Value}(ry:RelV y u):KV (putK kvs k y) (stored vs k u):=by
 unfold putK stored;rw [r.any k];by_cases e:(vs.any fun kv=>decide (kv.1=k))=true
 · rw [if_pos e,if_pos e];exact r.repl k ry
 · rw [if_neg e,if_neg e];exact Paired.snoc r ⟨rfl,ry⟩
theorem KV.drop {kvs:List (κ × V)}{vs:List (κ × Value)}(r:KV kvs vs)(k:κ):KV (dropK kvs k) (without vs k):=by
 unfold KV at r ⊢;unfold dropK without;induction r with
 | nil=>exact .nil
 | @cons p q ps qs h t ih =>
   obtain ⟨h1,h2⟩:=h;rw [List.filter_cons,List.filter_cons];by_cases e:p.1=k
   · have a:¬ decide (p.1≠k)=true:=by simp [e]
     have b:¬ decide (q.1≠k)=true:=by simp [h1.symm.trans e]
     rw [if_neg a,if_neg b];exact ih
   · have e':¬ q.1=k:=fun z=>e (h1.trans z)
     have a:decide (p.1≠k)=true:=by simp [e]
     have b:decide (q.1≠k)=true:=by simp [e']
     rw [if_pos a,if_pos b];exact .cons ⟨h1,h2⟩ ih
theorem KV.keys {kvs:List (κ × V)}{vs:List (κ × Value)}(r:KV kvs vs):kvs.map (·.1)=vs.map (·.1):=by
 unfold KV at r;induction r with
 | nil=>rfl
 | cons h t ih=>rw [List.map_cons,List.map_cons,ih,h.1]
theorem KV.length {kvs:List (κ × V)}{vs:List (κ × Value)}(r:KV kvs vs):kvs.length=vs.length:=Paired.length r
theorem dropK_le (kvs:List (κ × V))(k:κ):(dropK kvs k).length≤kvs.length:=List.length_filter_le _ _
end
theorem Zds {P:Program}{w:World}{k:Key}{u:Value}(r:RelV (kV k) u):(mixKind P w).is k u=true:=by
 cases k with
 | inl i=>obtain ⟨t,e⟩:=(show ∃ t,u=Value.int i t from r);subst e;exact Zhg P w i t
 | inr x=>obtain ⟨t,e⟩:=(show ∃ t,u=Value.str x t from r);subst e;exact Zhl P w x t
theorem Zfr {P:Program}{w:World}:∀ {ks:List Key} {us:List Value},Vals (ks.map kV) us→ItemsAre (mixKind P w) ks us
 | [],_,r=>by rw [List.map_nil] at r;cases r;exact .nil
 | k::ks,_,r=>by
   rw [List.map_cons] at r;cases r with
   | cons h t=>exact .cons (Zds h) (Zfr t)
abbrev KT (H:Hp):List (List Key × V)→List (List Key × Addr × Value)→Prop:=Paired fun p q=>p.1=q.1∧H q.2.1=some (.tup (p.1.map kV))∧RelV p.2 q.2.2
theorem KT.val {H:Hp}{kvs:List (List Key × V)}{xs:List (List Key × Addr × Value)}(r:KT H kvs xs)(k:List Key):RelO (valV kvs k) ((atKey xs k).map (·.2)):=by
 induction r with
 | nil=>exact True.intro
 | @cons p q ps qs h t ih =>
   obtain ⟨h1,_,h2⟩:=h;by_cases e:p.1=k
   · have e':q.1=k:=h1.symm.trans e
     have b:atKey (q::qs) k=some q.2:=by simp [atKey,List.find?_cons,e']
     rw [ZaW e,b];exact h2
   · have e':¬ q.1=k:=fun z=>e (h1.trans z)
     have b:atKey (q::qs) k=atKey qs k:=by simp [atKey,List.find?_cons,e']
     rw [ZaZ e,b];exact ih
theorem KT.repl {H:Hp}{kvs:List (List Key × V)}{xs:List (List Key × Addr × Value)}(r:KT H kvs xs)(k:List Key){y:V}{u:Value}(ry:RelV y u) :
   KT H (kvs.map fun kv=>if kv.1=k then (kv.1,y) else kv) (xs.map (putAt k u)):=by
 induction r with
 | nil=>exact .nil
 | @cons p q ps qs h t ih =>
   rw [List.map_cons,List.map_cons];refine .cons ?_ ih;obtain ⟨h1,h2,h3⟩:=h;unfold putAt;by_cases e:p.1=k
   · rw [if_pos e,if_pos (h1.symm.trans e)];exact ⟨h1,h2,ry⟩
   · rw [if_neg e,if_neg (fun z=>e (h1.trans z))];exact ⟨h1,h2,h3⟩
theorem KT.put {H:Hp}{kvs:List (List Key × V)}{xs:List (List Key × Addr × Value)}(r:KT H kvs xs)(k:List Key){b:Addr}{y:V}{u:Value}(hb:H b=some (.tup (k.map kV)))(ry:RelV y u) :
   KT H (putK kvs k y) (storedH xs k b u):=by
 have e:(kvs.any fun kv=>decide (kv.1=k))=(atKey xs k).isSome:=by rw [Zcb,(r.val k).isSome_eq,Option.isSome_map]
 unfold putK storedH;rw [e];by_cases q:(atKey xs k).isSome=true
 · rw [if_pos q,if_pos q];exact r.repl k ry
 · rw [if_neg q,if_neg q];exact Paired.snoc r ⟨rfl,hb,ry⟩
theorem KT.keeps {H H':Hp}{kvs:List (List Key × V)}{xs:List (List Key × Addr × Value)}(r:KT H kvs xs)(ht:∀ b ys,H b=some (.tup ys)→H' b=some (.tup ys)):KT H' kvs xs :=
 Paired.mapP r fun _ _ z=>⟨z.1,ht _ _ z.2.1,z.2.2⟩
section
variable {P:Program}{w:World}{H:Hp}{h:Heap}{a:Addr}
theorem rd_of {u:HO}(ok:HOk P w H h)(e:Rd H a u):ObjOk P w H h a u:=e.ok ok
theorem ZeV {kvs:List (Key × V)}(ok:HOk P w H h)(e:Rd H a (.dK kvs)):kvs.length≤sizeLine∧(a==sysModules)=false∧∃ vs,KV kvs vs∧h.DictOf (mixKind P w) a vs :=
 show ObjOk P w H h a (.dK kvs) from rd_of ok e
theorem Zer {kvs:List (Key × V)}(ok:HOk P w H h)(e:H a=some (.dK kvs)):kvs.length≤sizeLine∧(a==sysModules)=false∧∃ vs,KV kvs vs∧h.DictOf (mixKind P w) a vs:=ZeV ok (.inl e)
theorem ZdS {ks:List Key}(ok:HOk P w H h)(e:H a=some (.tup (ks.map kV))):(tupleKind (mixKind P w)).is h ks a:=by
 obtain ⟨_,its,r,o,h1,h2,n,h3⟩:=(show ObjOk P w H h a (.tup (ks.map kV)) from ok a _ e)
 exact ⟨o,its.toArray,n,h1,h2,h3,by simpa using Zfr r⟩
theorem ZeU {kvs:List (List Key × V)} (ok:HOk P w H h) (e:Rd H a (.dT kvs)):kvs.length≤sizeLine∧(a==sysModules)=false ∧
   ∃ xs,KT H kvs xs∧h.DictOfH (tupleKind (mixKind P w)) a xs:=by
 obtain ⟨z,y,xs,r,o,es,ep,h1,h2,h3,h4,h5⟩:=(show ObjOk P w H h a (.dT kvs) from rd_of ok e)
 refine ⟨z,y,xs,r,o,es,ep,h1,h2,h3,h4,fun x hx=>?_,h5⟩;have all:∀ {l:List (List Key × V)} {m:List (List Key × Addr × Value)},KT H l m→∀ x∈m,(tupleKind (mixKind P w)).is h x.1 x.2.1:=by
   intro l m q;induction q with
   | nil=>intro x hx;exact nomatch hx
   | @cons p q ps qs hq t ih =>
     intro x hx;rcases List.mem_cons.mp hx with e | hx
     · subst e
       exact ZdS ok (by rw [← hq.1];exact hq.2.1)
     · exact ih x hx
 exact all r x hx
theorem dt_of {kvs:List (List Key × V)}(ok:HOk P w H h)(e:H a=some (.dT kvs)):kvs.length≤sizeLine∧(a==sysModules)=false ∧
   ∃ xs,KT H kvs xs∧h.DictOfH (tupleKind (mixKind P w)) a xs:=ZeU ok (.inl e)
end
def DGet (H:Hp)(a:Addr)(y:V)(r:Option V):Prop :=
 (∃ kvs k,Rd H a (.dK kvs)∧y=kV k∧r=valV kvs k)∨∃ kvs k b,Rd H a (.dT kvs)∧y=.ref b∧H b=some (.tup (k.map kV))∧r=valV kvs k
def DPut (H:Hp)(a:Addr)(y v:V)(H':Hp):Prop :=
 (∃ kvs k,H a=some (.dK kvs)∧y=kV k∧kvs.length<sizeLine∧H'=upd H a (.dK (putK kvs k v))) ∨
 ∃ kvs k b,H a=some (.dT kvs)∧y=.ref b∧H b=some (.tup (k.map kV))∧kvs.length<sizeLine∧H'=upd H a (.dT (putK kvs k v))
theorem DGet.k {H:Hp}{a:Addr}{kvs:List (Key × V)}{k:Key}(e:H a=some (.dK kvs)):DGet H a (kV k) (valV kvs k):=.inl ⟨kvs,k,.inl e,rfl,rfl⟩
theorem DPut.k {H:Hp}{a:Addr}{kvs:List (Key × V)}{k:Key}{v:V}(e:H a=some (.dK kvs))(hl:kvs.length<sizeLine):DPut H a (kV k) v (upd H a (.dK (putK kvs k v))):=.inl ⟨kvs,k,e,rfl,hl,rfl⟩
section
variable {X:Cx}{pins:List (Addr × Obj)}{σ:St}{H:Hp}{s:Shared}{a:Addr}{y v:V}{u r:Value}{o:Option V}{A:Around}{E:Value→Shared→Prop}
theorem Inv.big (I:Inv X pins σ H s):sysModules<s.heap.objs.size:=by have h:mainGlobals<s.heap.objs.size:=(I.mod.glob.keeps I.bk).lt;exact Nat.lt_trans (by decide) h
theorem Zje {Q:Value→Shared→Prop}(hu:A.units+1<cLine)(I:Inv X pins σ H s)(g:DGet H a y (some v))(ry:RelV y u)(h:∀ w' s',Inv X pins σ H s'→RelV v w'→Q w' s') :
   wpAny (model X.prog X.w) A (getItem (.ref a) u) Q E s:=by
 rcases g with ⟨kvs,k,e,ey,l⟩ | ⟨kvs,k,b,e,ey,eb,l⟩
 · subst ey
   obtain ⟨z,hd,vs,rel,dd⟩:=ZeV I.hok e;obtain ⟨w',hw,rw'⟩:=RelO.some_of (v:=v) (o:=valueAt vs k) (by rw [l];exact rel.val k);exact wpAny_getItem_of (Zds ry) dd.mapOf hw (h w' _ (I.tok _) rw')
 · subst ey
   cases (show u=Value.ref b from ry);obtain ⟨z,hd,xs,rel,dd⟩:=ZeU I.hok e;obtain ⟨w',hw,rw'⟩:=RelO.some_of (v:=v) (o:=(atKey xs k).map (·.2)) (by rw [l];exact rel.val k);obtain ⟨p,hp,hp2⟩:=Option.map_eq_some_iff.mp hw;refine wpAny_getItem_heap (tupleKind_room_in1 hu) (ZdS I.hok eb) dd hp ?_;rw [hp2];exact h w' _ (I.tok _) rw'
theorem d_in {Q:Value→Shared→Prop}(hu:A.units+1<cLine)(I:Inv X pins σ H s)(g:DGet H a y o)(ry:RelV y u)(h:∀ s',Inv X pins σ H s'→Q (.bool o.isSome) s') :
   wpAny (model X.prog X.w) A (compareOp .In u (.ref a)) Q E s:=by
 rcases g with ⟨kvs,k,e,ey,l⟩ | ⟨kvs,k,b,e,ey,eb,l⟩
 · subst ey
   obtain ⟨z,hd,vs,rel,dd⟩:=ZeV I.hok e;refine wpAny_in_of (Zds ry) hd dd.mapOf ?_;rw [← (rel.val k).isSome_eq,← l];exact h _ (I.tok _)
 · subst ey
   cases (show u=Value.ref b from ry);obtain ⟨z,hd,xs,rel,dd⟩:=ZeU I.hok e;refine wpAny_in_heap (tupleKind_room_in1 hu) (ZdS I.hok eb) hd dd ?_;have q:=(rel.val k).isSome_eq;rw [Option.isSome_map] at q;rw [← q,← l];exact h _ (I.tok _)
theorem Zeg {h':Heap}{t':Nat}{ob:HO}(I:Inv X pins σ H s)(mu:Mut (H a))(hs:Heap.SameBut a s.heap h')(he:∃ q,h'.get? a=some q)(new:ObjOk X.prog X.w (upd H a ob) h' a ob) :
   Inv X pins σ (upd H a ob) { s with heap:=h',toks:=t' } :=
 I.write (x:=a) (e:=a) mu (.inl rfl) (fun b q hb z=>(hs.2 b hb).trans z) he new
theorem Zh9 {P:Program}{w:World}{H':Hp}{h':Heap}{kvs:List (Key × V)}{vs:List (Key × Value)}(z:kvs.length≤sizeLine)(hd:(a==sysModules)=false)(rel:KV kvs vs)(dd:h'.DictOf (mixKind P w) a vs) :
   ObjOk P w H' h' a (.dK kvs):=⟨z,hd,vs,rel,dd⟩
theorem ZjF {H':Hp}{Q:Unit→Shared→Prop}(hu:A.units+1<cLine)(I:Inv X pins σ H s)(g:DPut H a y v H')(ry:RelV y u)(rv:RelV v r)(h:∀ s',Inv X pins σ H' s'→Q () s') :
   wpAny (model X.prog X.w) A (setItem (.ref a) u r) Q E s:=by
 rcases g with ⟨kvs,k,e,ey,l,eH⟩ | ⟨kvs,k,b,e,ey,eb,l,eH⟩
 · subst ey eH
   obtain ⟨z,hd,vs,rel,dd⟩:=Zer I.hok e;have hz:vs.length≤sizeLine:=by rw [← rel.length];exact z
   have hl:(putK kvs k v).length≤sizeLine:=by have:=ZcK kvs k v;omega
   refine wpAny_setItem_pairs (hsz:=hz) (Zds ry) dd fun h' dd' hs=>h _ ?_
   have he:∃ q,h'.get? a=some q:=let ⟨q,_,_,hq,_⟩:=dd';⟨q,hq⟩
   exact Zeg I (by rw [e];exact True.intro) hs he (Zh9 hl hd (rel.put k rv) dd')
 · subst ey eH
   cases (show u=Value.ref b from ry);obtain ⟨z,hd,xs,rel,dd⟩:=dt_of I.hok e;have hz:xs.length≤sizeLine:=by rw [← Paired.length rel];exact z
   have hl:(putK kvs k v).length≤sizeLine:=by have:=ZcK kvs k v;omega
   refine wpAny_setItem_heap (hsz:=hz) (tupleKind_room_in1 hu) (ZdS I.hok eb) dd fun h' dd' hs=>h _ ?_
   obtain ⟨q,es,ep,hq,h2,h3,h4,_,h5⟩:=dd';refine Zeg I (by rw [e];exact True.intro) hs ⟨q,hq⟩ ⟨hl,hd,_,(rel.put k eb rv).keeps fun c ys ec=>?_,q,es,ep,hq,h2,h3,h4,h5⟩;rw [Zah (ne_of ec e (fun z=>nomatch z))];exact ec
end
section
variable {X:Cx}{pins:List (Addr × Obj)}{σ:St}{H:Hp}{s:Shared}{a:Addr}{kvs:List (Key × V)}{k:Key}{u:Value}{A:Around}{E:Value→Shared→Prop}
theorem d_pop {v:V}{more:List Value}{Q:Value→Shared→Prop}(I:Inv X pins σ H s)(e:H a=some (.dK kvs))(ry:RelV (kV k) u)(l:valV kvs k=some v)(hm:more=[]∨∃ x,more=[x])
   (h:∀ w' s',Inv X pins σ (upd H a (.dK (dropK kvs k))) s'→RelV v w'→Q w' s'):wpAny (model X.prog X.w) A (call (.builtin "dict.pop") (.ref a::u::more)) Q E s:=by
 obtain ⟨z,hd,vs,rel,dd⟩:=Zer I.hok e;obtain ⟨w',hw,rw'⟩:=RelO.some_of (v:=v) (o:=valueAt vs k) (by rw [← l];exact rel.val k);have hp:(keyPart u).isSome=true:=by
   cases k with
   | inl i=>obtain ⟨t,q⟩:=(show ∃ t,u=Value.int i t from ry);subst q;rfl
   | inr x=>obtain ⟨t,q⟩:=(show ∃ t,u=Value.str x t from ry);subst q;rfl
 have ha:argsOk "dict.pop" ⟨.ref a::u::more,[]⟩:=by
   rcases hm with q | ⟨x,q⟩
   · subst q;exact PySem.F.args_dict_pop_2 _ _
   · subst q;exact PySem.F.args_dict_pop_3 _ _ _
 refine call_meetsIn PySem.F.slot_dict_pop dd.typeIs PySem.F.entry_dict_pop ha (meets_dict_pop_there (mixKind X.prog X.w) a (Zds ry) more hm hp)
   ⟨vs,w',dd,by rw [← rel.length];exact z,hw,fun h' dd' hs=>h w' _ ?_ rw'⟩
 have he:∃ q,h'.get? a=some q:=let ⟨q,_,_,hq,_⟩:=dd';⟨q,hq⟩
 exact Zeg I (by rw [e];exact True.intro) hs he (Zh9 (Nat.le_trans (dropK_le kvs k) z) hd (rel.drop k) dd')
theorem d_popD {r:Value}{Q:Value→Shared→Prop}(I:Inv X pins σ H s)(e:H a=some (.dK kvs))(ry:RelV (kV k) u)(l:valV kvs k=none)(h:∀ s',Inv X pins σ H s'→Q r s') :
   wpAny (model X.prog X.w) A (call (.builtin "dict.pop") [.ref a,u,r]) Q E s:=by
 obtain ⟨z,hd,vs,rel,dd⟩:=Zer I.hok e;have hn:valueAt vs k=none:=RelO.none_of (by rw [← l];exact rel.val k);have hp:(keyPart u).isSome=true:=by
   cases k with
   | inl i=>obtain ⟨t,q⟩:=(show ∃ t,u=Value.int i t from ry);subst q;rfl
   | inr x=>obtain ⟨t,q⟩:=(show ∃ t,u=Value.str x t from ry);subst q;rfl
 exact call_meetsIn PySem.F.slot_dict_pop dd.typeIs PySem.F.entry_dict_pop (PySem.F.args_dict_pop_3 _ _ _) (meets_dict_pop_default (mixKind X.prog X.w) a (Zds ry) hd hp r) ⟨vs,dd,hn,h _ (I.tok _)⟩
end
def NoSl (i:Expr):Prop:=∀ ov iv,subscripted i false ov iv=operate [ov,iv] (getItem ov iv)
theorem subD_of {prog:Program}{w:World}{A:Around}{E:Value→Shared→Prop}{s:Shared}{env:Env}{value slice:Expr}{pos:Pos}{T id:String}{Q:Value→Shared→Prop}
   (hl:typeLookup (.type T) "__getitem__"=pure (some (.builtin id))) (hs:NoSl slice)
   (h:wpAny (model prog w) A (eval value env) (fun o s₁=>wpAny (model prog w) A (eval slice env) (fun i s₂=>s₂.TypeIs o T∧wpAny (model prog w) A (getItem o i) Q E s₂) E s₁) E s) :
   wpAny (model prog w) A (eval (.Subscript value slice pos) env) Q E s:=by
 refine Subscript_ (wpAny_mono h (fun o s₁ h₁=>wpAny_mono h₁ (fun i s₂ h₂=>?_) fun _ _ x=>x) fun _ _ x=>x);obtain ⟨hT,h₂⟩:=h₂;unfold subscriptTail;refine wpAny_bind ?_;rw [getitemInPython_of_ne hT.not_modules];refine wpAny_bind (wpAny_specialOf hT hl ?_);have fin:wpAny (model prog w) A (subscripted slice false o i) (fun r s₃=>wpAny (model prog w) A (letTemporaryGo value o r >>= fun _=>pure r) Q E s₃) E s₂:=by rw [hs o i];exact wpAny_operating (wpAny_mono h₂ (fun r s₃ h₃=>wpAny_bind (wpAny_letTemporaryGo (wpAny_pure h₃))) fun _ _ x=>x)
 first
   | exact wpAny_pure (wpAny_bind fin)
   | exact wpAny_bind (wpAny_pure (wpAny_bind fin))
   | exact wpAny_bind fin
theorem Zg4 {X:Cx}{pins:List (Addr × Obj)}{σ:St}{H:Hp}{s:Shared}{a:Addr}{y:V}{o:Option V}(I:Inv X pins σ H s)(g:DGet H a y o):s.TypeIs (.ref a) "dict":=by
 rcases g with ⟨kvs,k,e,_,_⟩ | ⟨kvs,k,b,e,_,_,_⟩
 · obtain ⟨_,_,vs,_,dd⟩:=ZeV I.hok e
   exact dd.typeIs
 · obtain ⟨_,_,xs,_,dd⟩:=ZeU I.hok e
   exact dd.typeIs
def tDGet (td ty:TE):TE:=fun σ H Q=>td σ H fun x H1=>ty σ H1 fun y H2=>∃ a v,x=.ref a∧DGet H2 a y (some v)∧Q v H2
def tDIn (ty td:TE):TE:=fun σ H Q=>ty σ H fun y H1=>td σ H1 fun x H2=>∃ a o,x=.ref a∧DGet H2 a y o∧Q (.bl o.isSome) H2
def sDPut (td ty tv:TE):TS:=fun D σ H=>tv σ H fun v H1=>td σ H1 fun x H2=>ty σ H2 fun y H3=>∃ a H4,x=.ref a∧DPut H3 a y v H4∧D.nx σ H4
section
variable {X:Cx}{o i e value:Expr}{pos pos' tpos:Pos}{td ty tv:TE}
theorem Zdl (hu:X.A.units+1<cLine)(ho:PE X o td)(hi:PE X i ty)(hs:NoSl i):PE X (.Subscript o i pos) (tDGet td ty):=by intro pins s σ H Q I h;refine subD_of PySem.F.slot_dict_getitem.lookup hs (thn (ho pins s σ H _ I h) fun u s1 ⟨x,H1,I1,rx,q1⟩=>thn (hi pins s1 σ H1 _ I1 q1) fun iv s2 ⟨y,H2,I2,ry,a,v,ex,g,q2⟩=>?_);subst ex;obtain rfl:u=Value.ref a:=rx;exact ⟨Zg4 I2 g,Zje hu I2 g ry fun w' s3 I3 rw'=>⟨v,H2,I3,rw',q2⟩⟩
theorem pc_din (hu:X.A.units+1<cLine)(hi:PE X i ty)(ho:PE X o td):PC X .In i o (tDIn ty td):=by
 intro pins s σ H Q I h;refine thn (hi pins s σ H _ I h) fun iv s1 ⟨y,H1,I1,ry,q1⟩=>thn (ho pins s1 σ H1 _ I1 q1) fun u s2 ⟨x,H2,I2,rx,a,ov,ex,g,q2⟩=>?_
 subst ex;obtain rfl:u=Value.ref a:=rx;exact d_in hu I2 g ry fun s3 I3=>⟨.bl ov.isSome,H2,I3,rfl,q2⟩
theorem ZiG (hu:X.A.units+1<cLine)(ho:PE X o td)(hi:PE X i ty)(hv:PE X value tv)(hs:swapsWith value (some (.Subscript o i pos')) pos.line X.env=pure false) :
   PS X (.Assign [.Subscript o i pos'] value pos) (sDPut td ty tv):=by
 intro pins s σ H D I h;refine wpAny_Assign_Subscript (thn (hv pins s σ H _ I h) fun r s1 ⟨v,H1,I1,rv,q1⟩=>thn (ho pins s1 σ H1 _ I1 q1) fun u s2 ⟨x,H2,I2,rx,q2⟩=>thn (hi pins s2 σ H2 _ I2 q2) fun iv s3 ⟨y,H3,I3,ry,a,H4,ex,g,q3⟩=>?_) hs;subst ex;obtain rfl:u=Value.ref a:=rx;exact ZjF hu I3 g ry rv fun s4 I4=>⟨σ,H4,I4,q3⟩
end
theorem dk_empty {P:Program}{w:World}{H:Hp}(h:Heap)(hb:sysModules<h.objs.size):ObjOk P w H (h.push { cls:=.type "dict",data:=.dict #[] }) h.objs.size (.dK []) :=
 ⟨Nat.zero_le _,beq_eq_false_iff_ne.mpr (Ne.symm (Nat.ne_of_lt hb)),[],.nil,Heap.DictOf.new h⟩
def tDNewK:TE:=fun _ H Q=>∀ p,H p=none→Q (.ref p) (upd H p (.dK []))
section
variable {X:Cx}{pos:Pos}
theorem ZcJ:PE X (.Dict [] [] pos) tDNewK:=fun pins s σ H Q I h =>
 wpAny_Dict_empty ⟨.ref s.heap.objs.size,_,I.laid (a:=s.heap.objs.size) (o:=.dK []) (t':=s.toks) (fun _ _ q=>Heap.get?_push_of_some _ q) (Nat.le_refl _) (dk_empty s.heap I.big),rfl,h _ (I.hok.fresh (Nat.le_refl _))⟩
end
structure M1 (X:Cx)(o:Expr)(m:Str)(apos:Pos)(e:Expr)(cpos:Pos):Prop where
 base:attributeBase o m X.env (eval o X.env)=eval o X.env
 few:((backTo cpos (starEach [e] X.env)).all (fun x=>!x.1)&&(backToKw cpos (keywordEach [] X.env)).all (fun x=>x.1.isSome)
   && decide (([e]:List Expr).length+([]:List Keyword).length+(if ([]:List Keyword).isEmpty then 0 else 1)<30))=true
 line:(apos.endLine==cpos.line)=true
 trees:backTo cpos (starEach [e] X.env)=[(false,eval e X.env)]
structure M2 (X:Cx)(o:Expr)(m:Str)(apos:Pos)(e f:Expr)(cpos:Pos):Prop where
 base:attributeBase o m X.env (eval o X.env)=eval o X.env
 few:((backTo cpos (starEach [e,f] X.env)).all (fun x=>!x.1)&&(backToKw cpos (keywordEach [] X.env)).all (fun x=>x.1.isSome)
   && decide (([e,f]:List Expr).length+([]:List Keyword).length+(if ([]:List Keyword).isEmpty then 0 else 1)<30))=true
 line:(apos.endLine==cpos.line)=true
 trees:backTo cpos (starEach [e,f] X.env)=[(false,eval e X.env),(false,eval f X.env)]
def IsD (H:Hp)(a:Addr):Prop:=(∃ kvs,Rd H a (.dK kvs))∨∃ kvs,Rd H a (.dT kvs)
theorem ZeH {X:Cx}{pins:List (Addr × Obj)}{σ:St}{H:Hp}{s:Shared}{a:Addr}(I:Inv X pins σ H s)(d:IsD H a) :
   s.TypeIs (.ref a) "dict"∧(∀ b,Value.ref a=.ref b→∃ ob,s.heap.get? b=some ob∧ob.dict=none)∧(a==sysModules)=false:=by
 rcases d with ⟨kvs,e⟩ | ⟨kvs,e⟩
 · obtain ⟨_,hd,vs,_,dd⟩:=ZeV I.hok e
   refine ⟨dd.typeIs,fun b q=>?_,hd⟩;cases q;obtain ⟨ob,_,_,h1,h2,_⟩:=dd;exact ⟨ob,h1,h2.2.1⟩
 · obtain ⟨_,hd,xs,_,dd⟩:=ZeU I.hok e
   refine ⟨dd.typeIs,fun b q=>?_,hd⟩;cases q;obtain ⟨ob,_,_,h1,h2,_⟩:=dd;exact ⟨ob,h1,h2.2.1⟩
section
variable {X:Cx}{pins:List (Addr × Obj)}{σ:St}{H:Hp}{s:Shared}{a:Addr}{y d:V}{u r:Value}{o:Option V}{A:Around}{E:Value→Shared→Prop}
theorem d_get1 {Q:Value→Shared→Prop}(hu:A.units+1<cLine)(I:Inv X pins σ H s)(g:DGet H a y o)(ry:RelV y u)(h:∀ w' s',Inv X pins σ H s'→RelV (o.getD .non) w'→Q w' s') :
   wpAny (model X.prog X.w) A (call (.builtin "dict.get") [.ref a,u]) Q E s:=by
 rcases g with ⟨kvs,k,e,ey,l⟩ | ⟨kvs,k,b,e,ey,eb,l⟩
 · subst ey
   obtain ⟨z,hd,vs,rel,dd⟩:=ZeV I.hok e;refine call_meetsIn PySem.F.slot_dict_get dd.typeIs PySem.F.entry_dict_get (PySem.F.args_dict_get_2 _ _) (meets_dict_get (mixKind X.prog X.w) a (Zds ry) hd) ⟨_,dd.mapOf,h _ _ (I.tok _) ?_⟩;rw [l];exact (rel.val k).getD rfl
 · subst ey
   cases (show u=Value.ref b from ry);obtain ⟨z,hd,xs,rel,dd⟩:=ZeU I.hok e;refine call_meetsIn PySem.F.slot_dict_get dd.typeIs PySem.F.entry_dict_get (PySem.F.args_dict_get_2 _ _) (meetsH_dict_get (tupleKind (mixKind X.prog X.w)) a b hd) ⟨tupleKind_room_in1 hu,k,xs,ZdS I.hok eb,dd,h _ _ (I.tok _) ?_⟩;rw [l];exact (rel.val k).getD rfl
theorem d_get2 {Q:Value→Shared→Prop}(hu:A.units+1<cLine)(I:Inv X pins σ H s)(g:DGet H a y o)(ry:RelV y u)(rd:RelV d r)(h:∀ w' s',Inv X pins σ H s'→RelV (o.getD d) w'→Q w' s') :
   wpAny (model X.prog X.w) A (call (.builtin "dict.get") [.ref a,u,r]) Q E s:=by
 rcases g with ⟨kvs,k,e,ey,l⟩ | ⟨kvs,k,b,e,ey,eb,l⟩
 · subst ey
   obtain ⟨z,hd,vs,rel,dd⟩:=ZeV I.hok e;refine call_meetsIn PySem.F.slot_dict_get dd.typeIs PySem.F.entry_dict_get (PySem.F.args_dict_get_3 _ _ _) (meets_dict_get_default (mixKind X.prog X.w) a (Zds ry) hd r) ⟨_,dd.mapOf,h _ _ (I.tok _) ?_⟩;rw [l];exact (rel.val k).getD rd
 · subst ey
   cases (show u=Value.ref b from ry);obtain ⟨z,hd,xs,rel,dd⟩:=ZeU I.hok e;refine call_meetsIn PySem.F.slot_dict_get dd.typeIs PySem.F.entry_dict_get (PySem.F.args_dict_get_3 _ _ _) (meetsH_dict_get_default (tupleKind (mixKind X.prog X.w)) a b hd r) ⟨tupleKind_room_in1 hu,k,xs,ZdS I.hok eb,dd,h _ _ (I.tok _) ?_⟩;rw [l];exact (rel.val k).getD rd
end
def tDGet1 (td ty:TE):TE:=fun σ H Q=>td σ H fun x H1=>∃ a,x=.ref a∧IsD H1 a∧ty σ H1 fun y H2=>∃ o,DGet H2 a y o∧Q (o.getD .non) H2
def tDGet2 (td ty tx:TE):TE:=fun σ H Q=>td σ H fun x H1=>∃ a,x=.ref a∧IsD H1 a∧ty σ H1 fun y H2=>tx σ H2 fun z H3=>∃ o,DGet H3 a y o∧Q (o.getD z) H3
def tDPop1 (td ty:TE):TE:=fun σ H Q=>td σ H fun x H1=>∃ a,x=.ref a∧IsD H1 a∧ty σ H1 fun y H2=>∃ kvs k v,H2 a=some (.dK kvs)∧y=kV k∧valV kvs k=some v∧Q v (upd H2 a (.dK (dropK kvs k)))
def tDPop2 (td ty tx:TE):TE:=fun σ H Q=>td σ H fun x H1=>∃ a,x=.ref a∧IsD H1 a∧ty σ H1 fun y H2=>tx σ H2 fun z H3=>∃ kvs k,H3 a=some (.dK kvs)∧y=kV k ∧
 (∀ v,valV kvs k=some v→Q v (upd H3 a (.dK (dropK kvs k))))∧(valV kvs k=none→Q z H3)
section
variable {X:Cx}{o e f:Expr}{apos cpos:Pos}{td ty tx:TE}
theorem Zg6 (hu:X.A.units+1<cLine)(ho:PE X o td)(he:PE X e ty)(m:M1 X o "get" apos e cpos):PE X (.Call (.Attribute o "get" apos) [e] [] cpos) (tDGet1 td ty):=by intro pins s σ H Q I h;refine wpAny_Call_method m.base m.few m.line PySem.F.plainAttrs_dict PySem.F.slot_dict_get PySem.F.type_dict_get (thn (ho pins s σ H _ I h) fun u s1 ⟨x,H1,I1,rx,a,ex,d,q1⟩=>?_);subst ex;obtain rfl:u=Value.ref a:=rx;obtain ⟨t1,t2,_⟩:=ZeH I1 d;refine ⟨t1,t2,?_⟩;rw [m.trees];refine Calls.callWith_builtin rfl (Calls.evalArgs_plain (Calls.spliced_cons (thn (he pins s1 σ H1 _ I1 q1) fun iv s2 ⟨y,H2,I2,ry,ov,g,q2⟩=>Calls.spliced_nil ?_)));exact d_get1 hu I2 g ry fun w' s3 I3 rw'=>⟨_,H2,I3,rw',q2⟩
theorem pe_dget2 (hu:X.A.units+1<cLine)(ho:PE X o td)(he:PE X e ty)(hf:PE X f tx)(m:M2 X o "get" apos e f cpos):PE X (.Call (.Attribute o "get" apos) [e,f] [] cpos) (tDGet2 td ty tx):=by
 intro pins s σ H Q I h;refine wpAny_Call_method m.base m.few m.line PySem.F.plainAttrs_dict PySem.F.slot_dict_get PySem.F.type_dict_get (thn (ho pins s σ H _ I h) fun u s1 ⟨x,H1,I1,rx,a,ex,d,q1⟩=>?_);subst ex;obtain rfl:u=Value.ref a:=rx;obtain ⟨t1,t2,_⟩:=ZeH I1 d;refine ⟨t1,t2,?_⟩;rw [m.trees];refine Calls.callWith_builtin rfl (Calls.evalArgs_plain (Calls.spliced_cons (thn (he pins s1 σ H1 _ I1 q1) fun iv s2 ⟨y,H2,I2,ry,q2⟩ =>
   Calls.spliced_cons (thn (hf pins s2 σ H2 _ I2 q2) fun fv s3 ⟨z,H3,I3,rz,ov,g,q3⟩=>Calls.spliced_nil ?_))))
 exact d_get2 hu I3 g ry rz fun w' s4 I4 rw'=>⟨_,H3,I4,rw',q3⟩
theorem ZgP (ho:PE X o td)(he:PE X e ty)(m:M1 X o "pop" apos e cpos):PE X (.Call (.Attribute o "pop" apos) [e] [] cpos) (tDPop1 td ty):=by intro pins s σ H Q I h;refine wpAny_Call_method m.base m.few m.line PySem.F.plainAttrs_dict PySem.F.slot_dict_pop PySem.F.type_dict_pop (thn (ho pins s σ H _ I h) fun u s1 ⟨x,H1,I1,rx,a,ex,d,q1⟩=>?_);subst ex;obtain rfl:u=Value.ref a:=rx;obtain ⟨t1,t2,_⟩:=ZeH I1 d;refine ⟨t1,t2,?_⟩;rw [m.trees];refine Calls.callWith_builtin rfl (Calls.evalArgs_plain (Calls.spliced_cons (thn (he pins s1 σ H1 _ I1 q1) fun iv s2 ⟨y,H2,I2,ry,kvs,k,v,ea,ey,l,q2⟩=>Calls.spliced_nil ?_)));subst ey;exact d_pop I2 ea ry l (.inl rfl) fun w' s3 I3 rw'=>⟨v,_,I3,rw',q2⟩
theorem pe_dpop2 (ho:PE X o td)(he:PE X e ty)(hf:PE X f tx)(m:M2 X o "pop" apos e f cpos):PE X (.Call (.Attribute o "pop" apos) [e,f] [] cpos) (tDPop2 td ty tx):=by
 intro pins s σ H Q I h;refine wpAny_Call_method m.base m.few m.line PySem.F.plainAttrs_dict PySem.F.slot_dict_pop PySem.F.type_dict_pop (thn (ho pins s σ H _ I h) fun u s1 ⟨x,H1,I1,rx,a,ex,d,q1⟩=>?_);subst ex;obtain rfl:u=Value.ref a:=rx;obtain ⟨t1,t2,_⟩:=ZeH I1 d;refine ⟨t1,t2,?_⟩;rw [m.trees];refine Calls.callWith_builtin rfl (Calls.evalArgs_plain (Calls.spliced_cons (thn (he pins s1 σ H1 _ I1 q1) fun iv s2 ⟨y,H2,I2,ry,q2⟩ =>
   Calls.spliced_cons (thn (hf pins s2 σ H2 _ I2 q2) fun fv s3 ⟨z,H3,I3,rz,kvs,k,ea,ey,q3,q4⟩=>Calls.spliced_nil ?_))))
 subst ey;cases l:valV kvs k with
 | some v=>exact d_pop I3 ea ry l (.inr ⟨fv,rfl⟩) fun w' s4 I4 rw'=>⟨v,_,I4,rw',q3 v l⟩
 | none=>exact d_popD I3 ea ry l fun s4 I4=>⟨z,H3,I4,rz,q4 l⟩
end
section
variable {X:Cx}{pins:List (Addr × Obj)}{σ:St}{H:Hp}{s:Shared}{a:Addr}{kvs:List (Key × V)}{A:Around}{E:Value→Shared→Prop}
end
section
variable {X:Cx}{pins:List (Addr × Obj)}{σ:St}{H:Hp}{s:Shared}{a:Addr}{y:V}{u:Value}{A:Around}{E:Value→Shared→Prop}
end
section
variable {X:Cx}
end
section
variable {κ:Type}[DecidableEq κ]
end
end L2
namespace BM
open PySem L2 PyProof.Rows
def wd:List Nat→Nat
 | []=>0
 | p::r=>2^p+wd r
def Up:Nat→List Nat→Prop
 | _,[]=>True
 | a,p::r=>a≤p∧Up (p+1) r
theorem Up.mono:∀ {a b:Nat} {ps:List Nat},Up b ps→a≤b→Up a ps
 | _,_,[],_,_=>trivial
 | _,_,_::_,h,e=>⟨Nat.le_trans e h.1,h.2⟩
theorem Up.filter {p:Nat→Bool}:∀ {a:Nat} {ps:List Nat},Up a ps→Up a (ps.filter p)
 | _,[],_=>trivial
 | a,q::r,h=>by
   rw [List.filter_cons];split
   · exact ⟨h.1,Up.filter h.2⟩
   · exact (Up.filter h.2).mono (Nat.le_trans h.1 (Nat.le_succ _))
theorem Up.dvd:∀ {a:Nat} {ps:List Nat},Up a ps→2^a ∣ wd ps
 | _,[],_=>Nat.dvd_zero _
 | a,p::r,h=>Nat.dvd_add (Nat.pow_dvd_pow 2 h.1) (Nat.dvd_trans (Nat.pow_dvd_pow 2 (Nat.le_trans h.1 (Nat.le_succ _))) (Up.dvd h.2))
theorem Up.lt:∀ {a k:Nat} {ps:List Nat},Up a ps→(∀ p∈ps,p<k)→a≤k→wd ps+2^a≤2^k
 | _,_,[],_,_,e=>by
   show 0+_≤_;rw [Nat.zero_add];exact Nat.pow_le_pow_right (by decide) e
 | a,k,p::r,h,hk,_=>by
   have h1:p<k:=hk p List.mem_cons_self;have ih:=Up.lt (a:=p+1) (k:=k) h.2 (fun q hq=>hk q (List.mem_cons_of_mem _ hq)) h1;have h2:2^a≤2^p:=Nat.pow_le_pow_right (by decide) h.1;rw [Nat.pow_succ] at ih;show 2^p+wd r+2^a≤2^k;omega
theorem Up.lt' {k:Nat}{ps:List Nat}(h:Up 0 ps)(hk:∀ p∈ps,p<k):wd ps<2^k:=by have:=Up.lt h hk (Nat.zero_le _);omega
theorem and_pred (x p:Nat):(2^(p+1)*x+2^p) &&& (2^(p+1)*x+2^p-1)=2^(p+1)*x:=by
 have hp:0<2^p:=Nat.pow_pos (by decide);have e1:2^(p+1)*x+2^p-1=2^(p+1)*x+(2^p-1):=by omega
 have l1:2^p<2^(p+1):=Nat.pow_lt_pow_right (by decide) (Nat.lt_succ_self _);rw [e1];apply Nat.eq_of_testBit_eq
 intro i;have q:=Nat.testBit_two_pow_mul_add x (b:=0) (i:=p+1) (Nat.pow_pos (by decide)) i;rw [Nat.add_zero] at q;rw [Nat.testBit_and,Nat.testBit_two_pow_mul_add x l1 i,Nat.testBit_two_pow_mul_add x (b:=2^p-1) (i:=p+1) (by omega) i,q];split
 · rw [Nat.testBit_two_pow,Nat.testBit_two_pow_sub_one,Nat.zero_testBit]
   by_cases e:p=i
   · subst e;simp
   · simp [e]
 · simp
theorem ZfP {p:Nat}{r:List Nat}(h:Up (p+1) r):wd (p::r) &&& (wd (p::r)-1)=wd r:=by obtain ⟨x,hx⟩:=h.dvd;show (2^p+wd r) &&& (2^p+wd r-1)=wd r;rw [hx,Nat.add_comm (2^p)];exact and_pred x p
theorem Zf3 {p:Nat}{r:List Nat}:0<wd (p::r):=by have:0<2^p:=Nat.pow_pos (by decide);show 0<2^p+wd r;omega
theorem Zbm:∀ (xs ys:List Nat),wd (xs++ys)=wd xs+wd ys
 | [],ys=>(Nat.zero_add _).symm
 | x::xs,ys=>by
   show 2^x+wd (xs++ys)=2^x+wd xs+wd ys;rw [Zbm xs ys,Nat.add_assoc]
theorem Up.left:∀ {a:Nat} {xs ys:List Nat},Up a (xs++ys)→Up a xs
 | _,[],_,_=>trivial
 | _,_::_,_,h=>⟨h.1,Up.left h.2⟩
theorem Up.last:∀ {a p:Nat} {xs ys:List Nat},Up a (xs++p::ys)→∀ q∈xs,q<p
 | _,_,[],_,_,_,hq=>by simp at hq
 | a,p,x::xs,ys,h,q,hq=>by
   have h2:Up (x+1) (xs++p::ys):=h.2;rcases List.mem_cons.mp hq with e | e
   · subst e
     have:∀ {b:Nat} {zs:List Nat},Up b (zs++p::ys)→b≤p:=by
       intro b zs;induction zs generalizing b with
       | nil=>exact fun z=>z.1
       | cons z zs ih=>exact fun w=>Nat.le_trans w.1 (Nat.le_of_succ_le (ih w.2))
     exact this h2
   · exact Up.last h2 q e
theorem ZeW {x y:Int}(hx:0≤x)(hy:0≤y):Builtin.bitOr x y=((x.toNat ||| y.toNat:Nat):Int):=by
 have nn:∀ z:Int,Builtin.bitNot (Builtin.bitNot z)=z:=fun z=>by unfold Builtin.bitNot;omega
 have e:Builtin.bitOr x y=Builtin.bitNot (Builtin.bitAnd (Builtin.bitNot x) (Builtin.bitNot y)):=rfl;rw [e,bitAnd_nn (by unfold Builtin.bitNot;omega) (by unfold Builtin.bitNot;omega),nn,nn,nn]
def pint (ps:List Nat):List V:=ps.map fun (p:Nat)=>V.int (p:Int)
theorem ZbG {ps:List Nat}{i:Nat}{x:V}(hi:(pint ps)[i]?=some x):∃ p:Nat,ps[i]?=some p∧x=.int p:=by
 unfold pint at hi;rw [List.getElem?_map] at hi;cases e:ps[i]? with
 | none=>rw [e] at hi;cases hi
 | some p=>rw [e] at hi;exact ⟨p,rfl,(Option.some.inj hi).symm⟩
theorem Zg7 {ps:List Nat}{x:V}(hx:x∈pint ps):∃ p:Nat,p∈ps∧x=.int p:=by obtain ⟨p,h,e⟩:=List.mem_map.mp hx;exact ⟨p,h,e.symm⟩
theorem Zaq (ps:List Nat):(pint ps).length=ps.length:=List.length_map _
theorem ZaN:∀ {a:Nat} {ps:List Nat},Up a ps→∀ i,(wd ps).testBit i=decide (i∈ps)
 | _,[],_,i=>by simp [wd]
 | a,p :: r,h,i=>by
   obtain ⟨x,hx⟩:=Up.dvd h.2;have ih:=ZaN h.2 i;have l1:2^p<2^(p+1):=Nat.pow_lt_pow_right (by decide) (Nat.lt_succ_self _);have e:wd (p::r)=2^(p+1)*x+2^p:=by show 2^p+wd r=_;rw [hx];omega
   have q:=Nat.testBit_two_pow_mul_add x (b:=0) (i:=p+1) (Nat.pow_pos (by decide)) i;rw [Nat.add_zero,← hx,ih] at q;rw [e,Nat.testBit_two_pow_mul_add x l1 i];split
   · rename_i hlt
     rw [if_pos hlt] at q;have nm:i∉r:=by simpa using q
     rw [Nat.testBit_two_pow];by_cases hp:p=i
     · subst hp;simp
     · have:¬ i=p:=fun z=>hp z.symm
       simp [hp,nm,this]
   · rename_i hge
     rw [if_neg hge] at q;rw [← q];have:¬ i=p:=by omega
     simp [this]
theorem Up.of_lt:∀ {a:Nat} {ps:List Nat},Up a ps→∀ p∈ps,a≤p
 | _,[],_,_,h=>by simp at h
 | a,q::r,h,p,hp=>by
   rcases List.mem_cons.mp hp with e | e
   · subst e;exact h.1
   · have:=Up.of_lt h.2 p e
     have:=h.1;omega
theorem Up.ext:∀ {a:Nat} {ps qs:List Nat},Up a ps→Up a qs→(∀ i,i∈ps↔i∈qs)→ps=qs
 | _,[],[],_,_,_=>rfl
 | _,[],q::_,_,_,h=>by have:=(h q).mpr List.mem_cons_self;simp at this
 | _,p::_,[],_,_,h=>by have:=(h p).mp List.mem_cons_self;simp at this
 | a,p :: r,q::s,hp,hq,h=>by
   have e:p=q:=by
     have h1:=(h p).mp List.mem_cons_self;have h2:=(h q).mpr List.mem_cons_self;rcases List.mem_cons.mp h1 with z | z
     · exact z
     · rcases List.mem_cons.mp h2 with y | y
       · exact y.symm
       · have:=Up.of_lt hq.2 p z
         have:=Up.of_lt hp.2 q y;omega
   subst e;have:r=s:=Up.ext hp.2 hq.2 fun i=>by
     have:=h i;constructor
     · intro m
       have l:=Up.of_lt hp.2 i m;rcases List.mem_cons.mp (this.mp (List.mem_cons_of_mem _ m)) with z | z
       · omega
       · exact z
     · intro m
       have l:=Up.of_lt hq.2 i m;rcases List.mem_cons.mp (this.mpr (List.mem_cons_of_mem _ m)) with z | z
       · omega
       · exact z
   rw [this]
theorem ZeX {ps:List Nat}{w:Nat}(h:Up 0 ps)(hw:∀ i,w.testBit i=decide (i∈ps)):w=wd ps :=
 Nat.eq_of_testBit_eq fun i=>by rw [hw,ZaN h]
theorem Zdw (p:Nat→Bool)(n:Nat):Up 0 ((List.range n).filter p):=by
 have:∀ a,Up a ((List.range' a n).filter p):=by
   induction n with
   | zero=>exact fun a=>trivial
   | succ n ih =>
     intro a;rw [List.range'_succ,List.filter_cons];split
     · exact ⟨Nat.le_refl _,ih (a+1)⟩
     · exact (ih (a+1)).mono (Nat.le_succ _)
 rw [List.range_eq_range'];exact this 0
theorem Zfw:∀ (n a:Nat),Up a (List.range' a n)
 | 0,_=>trivial
 | n+1,a=>by rw [List.range'_succ];exact ⟨Nat.le_refl _,Zfw n (a+1)⟩
def pl (n w:Nat):List Nat:=(List.range n).filter w.testBit
theorem Zg8 (n w:Nat):Up 0 (pl n w):=Zdw _ _
theorem mem_pl {n w i:Nat}:i∈pl n w↔i<n∧w.testBit i=true:=by unfold pl;simp
theorem wd_pl {n w:Nat}(h:w<2^n):wd (pl n w)=w:=by
 symm
 refine ZeX (Zg8 n w) fun i=>?_
 have e:decide (i∈pl n w)=(decide (i<n)&&w.testBit i):=by have:=@mem_pl n w i;by_cases h1:i<n<;>cases h2:w.testBit i<;>simp [this,h1,h2]
 rw [e];by_cases h1:i<n
 · simp [h1]
 · have:w.testBit i=false:=Nat.testBit_lt_two_pow (Nat.lt_of_lt_of_le h (Nat.pow_le_pow_right (by decide) (by omega)))
   simp [this]
theorem pl_wd {n:Nat}{ps:List Nat}(h:Up 0 ps)(hn:∀ p∈ps,p<n):pl n (wd ps)=ps :=
 Up.ext (Zg8 _ _) h fun i=>by
   rw [mem_pl,ZaN h];simp;exact hn i
theorem Up.shift (k:Nat):∀ {a:Nat} {ps:List Nat},Up a ps→Up (a+k) (ps.map (·+k))
 | _,[],_=>trivial
 | a,p::r,h=>by
   have:=Up.shift k h.2;rw [List.map_cons];refine ⟨Nat.add_le_add_right h.1 k,?_⟩;have e:p+1+k=p+k+1:=by omega
   rw [e] at this;exact this
theorem Zgr (k:Nat):∀ (ps:List Nat),wd (ps.map (·+k))=wd ps*2^k
 | []=>by simp [wd]
 | p::r=>by
   rw [List.map_cons];show 2^(p+k)+wd _=(2^p+wd r)*2^k;rw [Zgr k r,Nat.pow_add,Nat.add_mul]
theorem up_from {k:Nat}:∀ {a:Nat} {ps:List Nat},Up a ps→(∀ p∈ps,k≤p)→Up k ps
 | _,[],_,_=>trivial
 | a,p::r,h,hk=>⟨hk p List.mem_cons_self,h.2⟩
theorem log2_wd {ps:List Nat}{p:Nat}(h:Up 0 (ps++[p])):(wd (ps++[p])).log2=p:=by
 have hl:wd ps<2^p:=Up.lt' (h.left) h.last;rw [Zbm];have e:wd [p]=2^p:=by show 2^p+0=2^p;omega
 rw [e];have h0:wd ps+2^p≠0:=by have:0<2^p:=Nat.pow_pos (by decide);omega
 have a1:=(Nat.le_log2 h0 (k:=p)).mpr (by omega);have a2:=(Nat.log2_lt h0 (k:=p+1)).mpr (by rw [Nat.pow_succ];omega);omega
theorem Zeb:∀ (n a:Nat),wd (List.range' a n)+2^a=2^(a+n)
 | 0,a=>by simp [wd]
 | n+1,a=>by
   rw [List.range'_succ];have:=Zeb n (a+1);show 2^a+wd _+2^a=_;have e:a+(n+1)=a+1+n:=by omega
   rw [e,← this,Nat.pow_succ];omega
def orW (ps:List Nat):Nat:=ps.foldl (fun w p=>w ||| 2^p) 0
theorem orW_snoc (ps:List Nat)(p:Nat):orW (ps++[p])=orW ps ||| 2^p:=by unfold orW;rw [List.foldl_append];rfl
theorem ZgC (ps:List Nat) (i:Nat):(orW ps).testBit i=decide (i∈ps):=by
 have:∀ (qs:List Nat) (w:Nat),(qs.foldl (fun w p=>w ||| 2^p) w).testBit i=(w.testBit i||decide (i∈qs)):=by
   intro qs;induction qs with
   | nil=>intro w;simp
   | cons p r ih =>
     intro w;rw [List.foldl_cons,ih,Nat.testBit_or,Nat.testBit_two_pow];by_cases h:p=i
     · subst h;simp
     · have:¬ i=p:=fun z=>h z.symm
       simp [h,this]
 unfold orW;rw [this];simp
theorem orW_up {ps:List Nat}(h:Up 0 ps):orW ps=wd ps:=ZeX h (ZgC ps)
def orR (rs:List (Nat × Nat)):Nat:=rs.foldl (fun w r=>w ||| wd (List.range' r.1 (r.2+1-r.1))) 0
theorem orR_snoc (rs:List (Nat × Nat))(r:Nat × Nat):orR (rs++[r])=orR rs ||| wd (List.range' r.1 (r.2+1-r.1)):=by unfold orR;rw [List.foldl_append];rfl
def cov (rs:List (Nat × Nat))(i:Nat):Prop:=∃ r∈rs,r.1≤i∧i≤r.2
theorem Zhy (rs:List (Nat × Nat)) (i:Nat):(orR rs).testBit i=true↔cov rs i:=by
 have:∀ (qs:List (Nat × Nat)) (w:Nat),(qs.foldl (fun w r=>w ||| wd (List.range' r.1 (r.2+1-r.1))) w).testBit i=true↔(w.testBit i=true∨cov qs i):=by
   intro qs;induction qs with
   | nil=>intro w;simp [cov]
   | cons r q ih =>
     intro w;rw [List.foldl_cons,ih,Nat.testBit_or,Bool.or_eq_true,ZaN (Zfw _ _)];have e:(decide (i∈List.range' r.1 (r.2+1-r.1))=true)↔(r.1≤i∧i≤r.2):=by rw [decide_eq_true_eq,List.mem_range'_1];omega
     rw [e];unfold cov;constructor
     · rintro ((h | h) | ⟨z,hz,h⟩)
       · exact .inl h
       · exact .inr ⟨r,List.mem_cons_self,h⟩
       · exact .inr ⟨z,List.mem_cons_of_mem _ hz,h⟩
     · rintro (h | ⟨z,hz,h⟩)
       · exact .inl (.inl h)
       · rcases List.mem_cons.mp hz with e2 | e2
         · subst e2;exact .inl (.inr h)
         · exact .inr ⟨z,e2,h⟩
 unfold orR;rw [this];simp
def addP (rs:List (Nat × Nat))(p:Nat):List (Nat × Nat):=match rs.getLast? with
 | some (a,b)=>if b+1=p then rs.dropLast++[(a,p)] else rs++[(p,p)]
 | none=>[(p,p)]
def runsOf (ps:List Nat):List (Nat × Nat):=ps.foldl addP []
theorem ZcQ (p:Nat):addP [] p=[(p,p)]:=rfl
theorem ZbS {rs:List (Nat × Nat)}{a b p:Nat}(h:b+1=p):addP (rs++[(a,b)]) p=rs++[(a,p)]:=by unfold addP;rw [List.getLast?_concat];show (if b+1=p then _ else _)=_;rw [if_pos h,List.dropLast_concat]
theorem Zbv {rs:List (Nat × Nat)}{a b p:Nat}(h:b+1≠p):addP (rs++[(a,b)]) p=rs++[(a,b)]++[(p,p)]:=by unfold addP;rw [List.getLast?_concat];show (if b+1=p then _ else _)=_;rw [if_neg h]
theorem ZbT (ps:List Nat)(p:Nat):runsOf (ps++[p])=addP (runsOf ps) p:=by unfold runsOf;rw [List.foldl_append];rfl
theorem runs_le:∀ {rs:List (Nat × Nat)} {p:Nat},(∀ r∈rs,r.1≤r.2)→∀ r∈addP rs p,r.1≤r.2:=by
 intro rs p h r hr;rcases List.eq_nil_or_concat rs with e | ⟨q,⟨a,b⟩,e⟩
 · subst e
   rw [ZcQ] at hr;have:r=(p,p):=by simpa using hr
   subst this;exact Nat.le_refl _
 · rw [List.concat_eq_append] at e
   subst e;have hab:=h (a,b) (by simp);by_cases e:b+1=p
   · rw [ZbS e] at hr
     rcases List.mem_append.mp hr with z | z
     · exact h r (List.mem_append.mpr (.inl z))
     · have:r=(a,p):=by simpa using z
       subst this;show a≤p;have hab:a≤b:=hab;omega
   · rw [Zbv e] at hr
     rcases List.mem_append.mp hr with z | z
     · exact h r z
     · have:r=(p,p):=by simpa using z
       subst this;exact Nat.le_refl _
theorem Zdh (rs qs:List (Nat × Nat))(i:Nat):cov (rs++qs) i↔cov rs i∨cov qs i:=by
 unfold cov;simp only [List.mem_append];constructor
 · rintro ⟨r,h | h,z⟩
   · exact .inl ⟨r,h,z⟩
   · exact .inr ⟨r,h,z⟩
 · rintro (⟨r,h,z⟩ | ⟨r,h,z⟩)
   · exact ⟨r,.inl h,z⟩
   · exact ⟨r,.inr h,z⟩
theorem Zeh (a b i:Nat):cov [(a,b)] i↔a≤i∧i≤b:=by unfold cov;simp
theorem cov_addP {rs:List (Nat × Nat)} (p i:Nat) (h:∀ r∈rs,r.1≤r.2):cov (addP rs p) i↔cov rs i∨i=p:=by
 rcases List.eq_nil_or_concat rs with e | ⟨q,⟨a,b⟩,e⟩
 · subst e
   rw [ZcQ,Zeh];unfold cov;simp;omega
 · rw [List.concat_eq_append] at e
   subst e;have hab:a≤b:=h (a,b) (by simp);by_cases e:b+1=p
   · rw [ZbS e,Zdh,Zdh,Zeh,Zeh]
     constructor
     · rintro (z | z)
       · exact .inl (.inl z)
       · by_cases hp:i=p
         · exact .inr hp
         · exact .inl (.inr (by omega))
     · rintro ((z | z) | z)
       · exact .inl z
       · exact .inr (by omega)
       · exact .inr (by omega)
   · rw [Zbv e,Zdh,Zeh]
     constructor
     · rintro (z | z)
       · exact .inl z
       · exact .inr (by omega)
     · rintro (z | z)
       · exact .inl z
       · exact .inr (by omega)
theorem snocInd {α:Type} {motive:List α→Prop} (nil:motive []) (snoc:∀ xs x,motive xs→motive (xs++[x])):∀ xs,motive xs:=by
 have:∀ n xs,xs.length=n→motive xs:=by
   intro n;induction n with
   | zero=>intro xs h;cases xs with
     | nil=>exact nil
     | cons _ _=>cases h
   | succ n ih =>
     intro xs h;rcases List.eq_nil_or_concat xs with e | ⟨ys,y,e⟩
     · subst e;exact nil
     · rw [List.concat_eq_append] at e
       subst e;rw [List.length_append] at h;exact snoc ys y (ih ys (by simpa using h))
 exact fun xs=>this _ xs rfl
theorem ZdE (ps:List Nat):∀ r∈runsOf ps,r.1≤r.2:=by
 induction ps using snocInd with
 | nil=>intro r h;simp [runsOf] at h
 | snoc ps p ih=>rw [ZbT];exact runs_le ih
theorem ZeG (ps:List Nat)(i:Nat):cov (runsOf ps) i↔i∈ps:=by
 induction ps using snocInd with
 | nil=>unfold cov runsOf;simp
 | snoc ps p ih=>rw [ZbT,cov_addP p i (ZdE ps),ih];simp
theorem Zh1 {ps:List Nat}(h:Up 0 ps):orR (runsOf ps)=wd ps:=ZeX h fun i=>by
 rw [Bool.eq_iff_iff,Zhy,ZeG];simp
theorem Zjp {ps:List Nat}{n:Nat}(h:∀ p∈ps,p<n):∀ r∈runsOf ps,r.2<n:=fun r hr=>by
 have h1:=ZdE ps r hr;exact h _ ((ZeG ps r.2).mp ⟨r,hr,h1,Nat.le_refl _⟩)
inductive Dec:List Nat→List (Nat × Nat)→Prop
 | nil:Dec [] []
 | cons {p n:Nat} {rest:List Nat} {rs:List (Nat × Nat)} (u:Up (p+n+2) rest) (h:Dec rest rs):Dec (List.range' p (n+1)++rest) ((p,p+n)::rs)
theorem ZdO:∀ (r:List Nat) (p:Nat),Up (p+1) r→∃ n rest,p::r=List.range' p (n+1)++rest∧Up (p+n+2) rest∧rest.length≤r.length
 | [],p,_=>⟨0,[],rfl,trivial,Nat.le_refl _⟩
 | q :: r,p,u=>by
   by_cases e:q=p+1
   · subst e
     obtain ⟨n,rest,h1,h2,h3⟩:=ZdO r (p+1) u.2;refine ⟨n+1,rest,?_,?_,?_⟩
     · rw [List.range'_succ,List.cons_append,← h1]
     · have e:p+(n+1)+2=p+1+n+2:=by omega
       rw [e];exact h2
     · rw [List.length_cons];omega
   · exact ⟨0,q::r,rfl,⟨by have:=u.1;omega,u.2⟩,Nat.le_refl _⟩
theorem dec_of:∀ (m:Nat) (ps:List Nat) {a:Nat},ps.length≤m→Up a ps→∃ rs,Dec ps rs
 | _,[],_,_,_=>⟨[],.nil⟩
 | 0,_::_,_,h,_=>by simp at h
 | m+1,p::r,_,h,u=>by
   obtain ⟨n,rest,h1,h2,h3⟩:=ZdO r p u.2;obtain ⟨rs,hd⟩:=dec_of m rest (by rw [List.length_cons] at h;omega) h2;exact ⟨_,by rw [h1];exact .cons h2 hd⟩
theorem ZgV {rs0 q:List (Nat × Nat)}(p:Nat)(h:q≠[]):addP (rs0++q) p=rs0++addP q p:=by
 rcases List.eq_nil_or_concat q with e | ⟨q0,⟨a,b⟩,e⟩
 · exact absurd e h
 · rw [List.concat_eq_append] at e
   subst e;by_cases e:b+1=p
   · rw [ZbS e,← List.append_assoc,ZbS e,List.append_assoc]
   · rw [Zbv e,← List.append_assoc,Zbv e,List.append_assoc,List.append_assoc,List.append_assoc]
theorem addP_ne (q:List (Nat × Nat))(p:Nat):addP q p≠[]:=by
 rcases List.eq_nil_or_concat q with e | ⟨q0,⟨a,b⟩,e⟩
 · subst e;rw [ZcQ];simp
 · rw [List.concat_eq_append] at e
   subst e;by_cases e:b+1=p
   · rw [ZbS e];simp
   · rw [Zbv e];simp
theorem Zd3:∀ (ys:List Nat) {rs0 q:List (Nat × Nat)},q≠[]→ys.foldl addP (rs0++q)=rs0++ys.foldl addP q
 | [],_,_,_=>rfl
 | y::ys,rs0,q,h=>by rw [List.foldl_cons,ZgV y h,List.foldl_cons,Zd3 ys (addP_ne q y)]
theorem fold_gap {b:Nat}{a:Nat}:∀ {ys:List Nat},Up (b+2) ys→ys.foldl addP [(a,b)]=(a,b)::ys.foldl addP []
 | [],_=>rfl
 | y :: ys,u=>by
   have e:addP [(a,b)] y=[(a,b)]++[(y,y)]:=by have:=Zbv (rs:=[]) (a:=a) (b:=b) (p:=y) (by have:=u.1;omega);simpa using this
   rw [List.foldl_cons,e,Zd3 ys (by simp),List.foldl_cons,ZcQ];rfl
theorem Zhw:∀ (n p a b:Nat),b+1=p→(List.range' p n).foldl addP [(a,b)]=[(a,b+n)]
 | 0,_,_,_,_=>rfl
 | n+1,p,a,b,e=>by
   rw [List.range'_succ,List.foldl_cons];have:=ZbS (rs:=[]) (a:=a) (b:=b) e;rw [show addP [(a,b)] p=[(a,p)] by simpa using this,Zhw n (p+1) a p rfl];congr 2
   omega
theorem ZhK (p n:Nat):runsOf (List.range' p (n+1))=[(p,p+n)]:=by unfold runsOf;rw [List.range'_succ,List.foldl_cons,ZcQ,Zhw n (p+1) p p rfl]
theorem Dec.runs:∀ {ps:List Nat} {rs:List (Nat × Nat)},Dec ps rs→runsOf ps=rs
 | _,_,.nil=>rfl
 | _,_,.cons (p:=p) (n:=n) (rest:=rest) u h=>by
   have ih:=Dec.runs h;unfold runsOf;rw [List.foldl_append];show rest.foldl addP (runsOf (List.range' p (n+1)))=_;rw [ZhK,fold_gap u];show _::runsOf rest=_;rw [ih]
theorem Zi0 {p n:Nat}{rest:List Nat}(u:Up (p+n+2) rest):wd (List.range' p (n+1)++rest)+2^p=wd ((p+n+1)::rest)∧wd (List.range' p (n+1)++rest)-wd (List.range' p (n+1))=wd rest:=by
 have h:=Zeb (n+1) p;rw [Zbm];refine ⟨?_,by omega⟩;show _=2^(p+n+1)+wd rest;have e:p+(n+1)=p+n+1:=by omega
 rw [e] at h;omega
theorem Zh4 {p n:Nat}{rest:List Nat}(u:Up (p+n+2) rest):runsOf (List.range' p (n+1)++rest)=(p,p+n)::runsOf rest:=by obtain ⟨rs,h⟩:=dec_of _ rest (Nat.le_refl _) u;rw [(Dec.cons u h).runs,h.runs]
end BM
namespace L2
open PySem PySem.Spec PyProof.Rows
section
variable {prog:Program}{w:World}{A:Around}{R:Result→Shared→Prop}{s:Shared}
theorem ZfU {elt target iter:Expr}{ifs:List Expr}{scope:Scope}{pos:Pos}{it acc:Value}{env:Env}(I:Nat→Shared→Prop)
   (turn : ∀ n s,I n s→wpAny (model prog w) A (pyNext it) (fun r s₁=>match r with
     | none=>R (.ok .next) s₁
     | some v=>wpAny (model prog w) A (letOwnedTupleGo target it v) (fun _ s₀=>wpAny (model prog w) A (assign target env v) (fun _ s₂ =>
         wpAny (model prog w) A (forIn ifs true fun c r=>if r=true then do let ok ← isTrue c env (eval c env);pure (ForInStep.yield ok) else pure (ForInStep.yield r)) (fun ok s₃ =>
           if ok=true then wpAny (model prog w) A (eval elt env) (fun x s₄ =>
             wpAny (model prog w) A (call (.builtin "list.append") [acc,x]) (fun _ s₅=>∃ m,m<n∧I m s₅) (fun _ _=>False) s₄) (fun _ _=>False) s₃
           else ∃ m,m<n∧I m s₃) (fun _ _=>False) s₂) (fun _ _=>False) s₀) (fun _ _=>False) s₁) (fun _ _=>False) s)
   (n:Nat) (h:I n s) :
   codeAny (model prog w) A (.compLoop (.ListComp elt [⟨target,iter,ifs,0⟩] scope pos) 0 it acc env) R s:=by
 refine codeAny_loop rfl I (fun n s hI=>?_) n h;show wpAny _ A ((compTurn (.ListComp elt [⟨target,iter,ifs,0⟩] scope pos) 0 it acc env).onRaise (fun x=>do noteFrame x env;theTreesLotGoes x)) _ _ s;refine wpAny_noted ?_;rw [compTurn_list];refine wpAny_bind (wpAny_standAt (wpAny_bind (wpAny_mono (turn n s hI) (fun r s₁ h₁=>?_) fun _ _ h'=>h'.elim)));cases r with
 | none=>exact wpAny_pure h₁
 | some v =>
   refine wpAny_bind (wpAny_mono h₁ (fun _ s₀ h₀=>?_) fun _ _ h'=>h'.elim);refine wpAny_bind (wpAny_mono h₀ (fun _ s₂ h₂=>wpAny_bind (wpAny_mono h₂ (fun ok s₃ h₃=>?_) fun _ _ h'=>h'.elim)) fun _ _ h'=>h'.elim);cases ok with
   | false=>exact wpAny_pure ⟨rfl,h₃⟩
   | true =>
     exact wpAny_bind (wpAny_bind (wpAny_mono h₃ (fun x s₄ h₄=>wpAny_bind (wpAny_mono h₄ (fun _ s₅ h₅=>wpAny_pure (wpAny_pure ⟨rfl,h₅⟩)) fun _ _ h'=>h'.elim)) fun _ _ h'=>h'.elim))
end
theorem ZcM {env:Env}:∀ (names:List (Str × NameKind)) (acc:List (Str × Addr)),(∀ z∈names,z.2=.free→∃ c,env.cells.lookup z.1=some c) →
   ∃ cl,(forIn names acc fun x r=>if (x.2==NameKind.free)=true then do let a ← cellOf env x.1;pure (ForInStep.yield ((x.1,a)::r)) else pure (ForInStep.yield r):Sem (List (Str × Addr)))=pure cl ∧
     (∀ y c,cl.lookup y=some c→acc.lookup y=some c∨env.cells.lookup y=some c)∧(∀ y,((∃ c,acc.lookup y=some c)∨(y,NameKind.free)∈names)→∃ c,cl.lookup y=some c)
 | [],acc,_=>⟨acc,by rw [List.forIn_nil],fun _ _ h=>.inl h,fun y h=>by
     rcases h with h | h
     · exact h
     · simp at h⟩
 | (n, k)::r,acc,h=>by
   have hr:∀ z∈r,z.2=.free→∃ c,env.cells.lookup z.1=some c:=fun z hz=>h z (List.mem_cons_of_mem _ hz)
   by_cases hk:k=.free
   · subst hk
     obtain ⟨c,hc⟩:=h (n,.free) List.mem_cons_self rfl;obtain ⟨cl,e,h1,h2⟩:=ZcM r ((n,c)::acc) hr;refine ⟨cl,?_,fun y d hd=>?_,fun y hy=>?_⟩
     · rw [List.forIn_cons]
       have e1:cellOf env n=pure c:=by unfold cellOf;rw [hc]
       simp only [beq_self_eq_true,if_true,e1,pure_bind];exact e
     · rcases h1 y d hd with z | z
       · rw [List.lookup_cons] at z
         cases hy:y==n with
         | true =>
           rw [hy] at z;have:y=n:=by simpa using hy
           subst this;cases z;exact .inr hc
         | false=>rw [hy] at z;exact .inl z
       · exact .inr z
     · refine h2 y ?_
       rcases hy with ⟨d,hd⟩ | hy
       · cases q:y==n with
         | true=>exact .inl ⟨c,by rw [List.lookup_cons,q]⟩
         | false=>exact .inl ⟨d,by rw [List.lookup_cons,q];exact hd⟩
       · rcases List.mem_cons.mp hy with z | z
         · cases z
           exact .inl ⟨c,by rw [List.lookup_cons,beq_self_eq_true]⟩
         · exact .inr z
   · obtain ⟨cl,e,h1,h2⟩:=ZcM r acc hr
     refine ⟨cl,?_,h1,fun y hy=>h2 y ?_⟩
     · rw [List.forIn_cons]
       have:(k==NameKind.free)=false:=by simpa using hk
       simp only [this,Bool.false_eq_true,if_false,pure_bind];exact e
     · rcases hy with z | z
       · exact .inl z
       · rcases List.mem_cons.mp z with q | q
         · cases q
           exact absurd rfl hk
         · exact .inr q
theorem Zh5 {scope:Scope}{env:Env}(h:∀ z∈scope.names,z.2=.free→∃ c,env.cells.lookup z.1=some c) :
   ∃ cl,closureFor scope env=pure cl∧(∀ y c,cl.lookup y=some c→env.cells.lookup y=some c)∧∀ y,(y,NameKind.free)∈scope.names→∃ c,cl.lookup y=some c:=by
 obtain ⟨cl,e,h1,h2⟩:=ZcM (env:=env) scope.names [] h;refine ⟨cl,?_,fun y c hc=>?_,fun y hy=>h2 y (.inr hy)⟩
 · unfold closureFor
   exact (congrArg (fun m:Sem (List (Str × Addr))=>m >>= fun cs=>pure cs) e).trans (pure_bind _ _)
 · rcases h1 y c hc with z | z
   · cases z
   · exact z
def compX (X:Cx)(scope:Scope)(own:List Str)(caps:List Nat)(cl:List (Str × Addr))(C:Addr)(s₃:Shared)(H₃:Hp)(fp:List Addr):Cx :=
 { X with env:=compEnvC scope cl C X.env,N:=own++caps.map fun j=>X.N.getD j Str.empty,s₀:=s₃,H₀:=H₃,outer:=X.stack,stack:=X.stack,ex:=fp,fn:=fun _=>false,pn:=[],xe:=fun _ _=>False }
def capSt (n:Nat)(caps:List Nat)(σ:St):St:=List.replicate n none++caps.map fun j=>σ.getD j none
def compOk (sc osc:Scope):Bool :=
 (sc.kind==.function)&&sc.names.all fun z=>match z.2 with
   | .cell=>false
   | .local=>sc.names.lookup z.1==some .local
   | .free=>osc.names.lookup z.1==some .cell||osc.names.lookup z.1==some .free
   | _=>true
def capOk (X:Cx)(sc:Scope):List Nat→Prop
 | []=>True
 | j::r=>(∃ y,X.N[j]?=some y∧sc.names.lookup y=some .free∧(X.env.scope.names.lookup y=some .cell∨X.env.scope.names.lookup y=some .free))∧capOk X sc r
def gOwn (n:Nat)(g:TG):Prop:=∀ v σ H Q,g v σ H Q→g v σ H fun σ' H'=>(σ'.length=σ.length∧σ'.drop n=σ.drop n)∧Q σ' H'
theorem ZdI:gOwn 1 (gName 0):=fun v σ H Q h=>⟨⟨by simp,by cases σ<;>simp⟩,h⟩
def tNoTest:TT:=fun _ H Q=>Q true H
def tComp (n:Nat) (caps:List Nat) (wi:TI) (g:TG) (tt:TT) (te:TE):TE:=fun σ H Q=>wi σ H fun J H1=>∀ D,H1 D=none→∃ W:Nat→Nat→Hp→Prop,(∃ m,W 0 m (upd H1 D (.lst [])))∧∀ i m H2,W i m H2 →
 (J.stop i H2∧Q (.ref D) H2)∨(J.go i H2∧∀ x H3,J.yld i H2 x H3→g x (capSt n caps σ) H3 fun σ4 H4=>tt σ4 H4 fun b H5 =>
   if b=true then te σ4 H5 fun y H6=>∃ xs,H6 D=some (.lst xs)∧xs.length<sizeLine∧∃ m',m'<m∧W (i+1) m' (upd H6 D (.lst (xs++[y]))) else ∃ m',m'<m∧W (i+1) m' H5)
def PTs (X:Cx) (ifs:List Expr) (t:TT):Prop :=
 ∀ (pins:List (Addr × Obj)) (s:Shared) (σ:St) (H:Hp) (Q:Bool→Hp→Prop),Inv X pins σ H s→t σ H Q →
   wpAny (model X.prog X.w) X.A (forIn ifs true fun c r=>if r=true then do let ok ← isTrue c X.env (eval c X.env);pure (ForInStep.yield ok) else pure (ForInStep.yield r)) (TP X pins σ Q) X.xe s
theorem Zix {X:Cx}:PTs X [] tNoTest:=fun _ _ _ H _ I h=>wpAny_tests_nil ⟨H,I,h⟩
theorem pts_one {X:Cx}{c:Expr}{t:TT}(h:PT X c t):PTs X [c] t:=fun pins s σ H Q I q=>wpAny_tests_one (h pins s σ H Q I q)
theorem Zbx {env:Env}:∀ {names:List (Str × NameKind)} {x:Str} {k:NameKind},names.lookup x=some k →
   (names.map fun (n,k)=>if (k==NameKind.free&&env.scope.kind==.function&&env.kindOf n==some .cell) then (n,NameKind.cell) else (n,k)).lookup x=some (if (k==NameKind.free&&env.scope.kind==.function&&env.kindOf x==some .cell) then NameKind.cell else k)
 | [],_,_,h=>by simp at h
 | (n,k')::r,x,k,h=>by
   have ih:=@Zbx env r x k;show List.lookup x ((if (k'==NameKind.free&&env.scope.kind==.function&&env.kindOf n==some .cell)=true then (n,NameKind.cell) else (n,k'))::_)=_;cases hx:x==n with
   | true =>
     simp only [List.lookup_cons,hx] at h;cases h;have:x=n:=by simpa using hx
     subst this;split<;>simp [List.lookup_cons]
   | false =>
     simp only [List.lookup_cons,hx] at h;split
     · simp only [List.lookup_cons,hx];exact ih h
     · simp only [List.lookup_cons,hx];exact ih h
theorem Zba {env:Env}:∀ {names:List (Str × NameKind)} {x:Str} {k:NameKind},
   (names.map fun (n,k)=>if (k==NameKind.free&&env.scope.kind==.function&&env.kindOf n==some .cell) then (n,NameKind.cell) else (n,k)).lookup x=some k →
   ∃ k',(x,k')∈names∧(k=k'∨(k'=.free∧k=.cell))
 | [],_,_,h=>by simp at h
 | (n, k')::r,x,k,h=>by
   have ih:=@Zba env r x k;rw [List.map_cons] at h;cases hc:(k'==NameKind.free&&env.scope.kind==.function&&env.kindOf n==some .cell) with
   | true =>
     simp only [hc,if_true,List.lookup_cons] at h;cases hx:x==n with
     | true =>
       simp only [hx,Option.some.injEq] at h;have e:x=n:=by simpa using hx
       have:k'=.free:=by simp only [Bool.and_eq_true,beq_iff_eq] at hc;exact hc.1.1
       exact ⟨.free,by rw [e,← this];exact List.mem_cons_self,.inr ⟨rfl,h.symm⟩⟩
     | false =>
       simp only [hx] at h;obtain ⟨q,m,z⟩:=ih h;exact ⟨q,List.mem_cons_of_mem _ m,z⟩
   | false =>
     simp only [hc,Bool.false_eq_true,if_false,List.lookup_cons] at h;cases hx:x==n with
     | true =>
       simp only [hx,Option.some.injEq] at h;have e:x=n:=by simpa using hx
       exact ⟨k',by rw [e];exact List.mem_cons_self,.inl h.symm⟩
     | false =>
       simp only [hx] at h;obtain ⟨q,m,z⟩:=ih h;exact ⟨q,List.mem_cons_of_mem _ m,z⟩
theorem ZeT {sc osc:Scope}(h:compOk sc osc=true):sc.kind=.function:=by unfold compOk at h;simp only [Bool.and_eq_true,beq_iff_eq] at h;exact h.1
theorem Zf8 {sc osc:Scope}(h:compOk sc osc=true):∀ z∈sc.names,(match z.2 with
   | .cell=>false
   | .local=>sc.names.lookup z.1==some .local
   | .free=>osc.names.lookup z.1==some .cell||osc.names.lookup z.1==some .free
   | _=>true)=true:=by
 unfold compOk at h;simp only [Bool.and_eq_true] at h;exact List.all_eq_true.mp h.2
theorem Zg1 {sc osc:Scope}(h:compOk sc osc=true):∀ z∈sc.names,z.2≠.cell:=fun z hz e=>by
 have:=Zf8 h z hz;rw [e] at this;cases this
theorem cok_loc {sc osc:Scope}(h:compOk sc osc=true):∀ z∈sc.names,z.2=.local→sc.names.lookup z.1=some .local:=fun z hz e=>by
 have:=Zf8 h z hz;rw [e] at this;simpa using this
theorem cok_free {sc osc:Scope}(h:compOk sc osc=true):∀ z∈sc.names,z.2=.free→osc.names.lookup z.1=some .cell∨osc.names.lookup z.1=some .free:=fun z hz e=>by
 have:=Zf8 h z hz;rw [e] at this;simpa using this
theorem capOk.get {X:Cx}{sc:Scope}:∀ {caps:List Nat} {j:Nat},capOk X sc caps→j∈caps→∃ y,X.N[j]?=some y∧sc.names.lookup y=some .free∧(X.env.scope.names.lookup y=some .cell∨X.env.scope.names.lookup y=some .free)
 | [],_,_,h=>by simp at h
 | i::r,j,h,hj=>by
   rcases List.mem_cons.mp hj with e | e
   · subst e;exact h.1
   · exact h.2.get e
theorem ZcI {x:Str}{k:NameKind}:∀ {l:List (Str × NameKind)},l.lookup x=some k→(x,k)∈l
 | [],h=>by simp at h
 | (n,k')::r,h=>by
   rw [List.lookup_cons] at h;cases hx:x==n with
   | true =>
     simp only [hx,Option.some.injEq] at h;have e:x=n:=by simpa using hx
     rw [e,h];exact List.mem_cons_self
   | false =>
     simp only [hx] at h;exact List.mem_cons_of_mem _ (ZcI h)
section
variable {X:Cx}{pins:List (Addr × Obj)}{σ:St}{H2:Hp}{s2:Shared}{scope:Scope}{own:List Str}{caps:List Nat}
theorem Zfy {n:Nat}{caps:List Nat}{σ:St}{i:Nat}{v:V}(h:(capSt n caps σ)[i]?=some (some v)):n≤i∧∃ j,caps[i-n]?=some j∧σ[j]?=some (some v):=by
 unfold capSt at h;rw [List.getElem?_append] at h;split at h
 · rename_i hl
   rw [List.length_replicate] at hl;rw [List.getElem?_replicate,if_pos hl] at h;cases h
 · rename_i hl
   rw [List.length_replicate] at h hl;refine ⟨by omega,?_⟩;rw [List.getElem?_map] at h;cases q:caps[i-n]? with
   | none=>rw [q] at h;cases h
   | some j =>
     rw [q] at h;refine ⟨j,rfl,?_⟩;have h:σ.getD j none=some v:=Option.some.inj h;rw [List.getD_eq_getElem?_getD] at h;cases z:σ[j]? with
     | none=>rw [z] at h;cases h
     | some o=>rw [z] at h;exact congrArg some h
theorem Inv.comp {n:Nat} {fp:List Addr} {cl:List (Str × Addr)} {C:Addr} {h4:Heap} {tk:Nat}
   (I2:Inv X pins σ H2 s2) (hok:compOk scope X.env.scope=true) (hcap:capOk X scope caps) (hown:own.length=n)
   (cl1:∀ y c,cl.lookup y=some c→X.env.cells.lookup y=some c) (cl2:∀ y,(y,NameKind.free)∈scope.names→∃ c,cl.lookup y=some c)
   (hfp:∀ b∈fp,FpOk X pins H2 b) (hobj:∀ b∈fp,b<s2.heap.objs.size) (hC:C=s2.heap.objs.size) (hn:h4.Ns C fun _=>none)
   (hsb:∀ b o,s2.heap.get? b=some o→h4.get? b=some o) :
   Inv (compX X scope own caps cl C s2 H2 fp) [] (capSt n caps σ) H2 { s2 with heap:=h4,toks:=tk }:=by
 have hkind:=ZeT hok;have ok':(compX X scope own caps cl C s2 H2 fp).Ok:=by
   refine ⟨I2.ok.mod,hkind,I2.ok.glob,I2.ok.blt,by rw [hC];exact Nat.le_refl _,fun x y c h1 h2=>I2.ok.inj x y c (cl1 x c h1) (cl1 y c h2),fun x hx=>?_,fun x c h=>(by cases h),I2.ok.hd,I2.ok.frames,.inl rfl,fun b hb=>⟨?_,fun x c h=>(hfp b hb).2.2.2.2.1 x c (cl1 x c h)⟩,I2.bs,?_,fun b o e hb=>?_,fun b hb hf=>?_,I2.stack,I2.stkFree⟩
   · have:∃ k',(x,k')∈scope.names∧(k'=.cell∨k'=.free):=by
       rcases hx with hx | hx
       · obtain ⟨k',m,z⟩:=Zba (env:=X.env) (names:=scope.names) (x:=x) (k:=.cell) hx
         rcases z with z | z
         · exact ⟨k',m,.inl z.symm⟩
         · exact ⟨k',m,.inr z.1⟩
       · obtain ⟨k',m,z⟩:=Zba (env:=X.env) (names:=scope.names) (x:=x) (k:=.free) hx
         rcases z with z | z
         · exact ⟨k',m,.inr z.symm⟩
         · cases z.2
     obtain ⟨k',m,z | z⟩:=this
     · subst z;exact absurd rfl (Zg1 hok _ m)
     · subst z;exact cl2 x m
   · show b≠C
     rw [hC];exact Nat.ne_of_lt (hobj b hb)
   · exact Nat.le_trans I2.ok.bsz (Nat.le_trans I2.ok.above (Nat.le_of_lt I2.lt))
   · rcases (hfp b hb).2.2.2.1 with z | z
     · exact I2.ok.noex b o e z
     · exact absurd (Nat.lt_of_lt_of_le (Heap.lt_size e) (Nat.le_trans I2.ok.bsz z)) (Nat.lt_irrefl _)
   · rcases List.mem_cons.mp (I2.stkSub b hf) with z | z
     · exact (hfp b hb).2.1 z
     · exact (hfp b hb).2.2.1 z
 have hCn:H2 C=none:=I2.hok.fresh (by rw [hC];exact Nat.le_refl _);refine ⟨ok',rfl,I2.bare,Un.kept hsb,⟨_,hn,fun i x v e1 e2 e3=>?_⟩,fun x c e=>?_,hCn,fun x c e=>I2.freeC x c (cl1 x c e),fun p hp=>(by cases hp),I2.hok.kept hsb,?_⟩
 · obtain ⟨hi,j,hj,hv⟩:=Zfy e2
   have e1:(own++caps.map fun j=>X.N.getD j Str.empty)[i]?=some x:=e1;rw [List.getElem?_append_right (by rw [hown];exact hi),List.getElem?_map,hown,hj] at e1;have e1:X.N.getD j Str.empty=x:=Option.some.inj e1;obtain ⟨y,hy,hfree,hout⟩:=hcap.get (List.mem_of_getElem? hj);rw [List.getD_eq_getElem?_getD,hy] at e1;have e1:y=x:=e1;subst e1;obtain ⟨m,hm,hl⟩:=I2.loc;obtain ⟨u,r,l⟩:=hl j y v hy hv (.inr hout);refine ⟨u,r,.inr ⟨?_,?_⟩⟩
   · have:=Zbx (env:=X.env) hfree
     show (relabel scope X.env).names.lookup y=some .cell∨(relabel scope X.env).names.lookup y=some .free;unfold relabel;rw [this];split
     · exact .inl rfl
     · exact .inr rfl
   · obtain ⟨c,hc⟩:=cl2 y (ZcI hfree)
     refine ⟨c,hc,?_⟩;rcases l with ⟨k,_⟩ | ⟨_,c',hc',hcell⟩
     · have k:X.env.scope.names.lookup y=some .local:=k
       rcases hout with z | z<;>(rw [k] at z;cases z)
     · rw [cl1 y c hc] at hc'
       cases hc';obtain ⟨o,ho,hd⟩:=hcell;exact ⟨o,hsb _ _ ho,hd⟩
 · obtain ⟨v,o,ho,hd⟩:=I2.cell x c (cl1 x c e)
   exact ⟨v,o,hsb _ _ ho,hd⟩
 · show (capSt n caps σ).length=(own++caps.map fun j=>X.N.getD j Str.empty).length
   unfold capSt;rw [List.length_append,List.length_append,List.length_replicate,List.length_map,List.length_map,hown]
theorem Zju {n:Nat} {tg iter elt:Expr} {ifs:List Expr} {pos:Pos} {it:Addr} {fp:List Addr} {tn:Nat→Heap→Prop} {J:It} {cl:List (Str × Addr)} {g:TG} {tt:TT} {te:TE} {E:Value→Shared→Prop} {RR:Value→Addr→Result→Shared→Prop} {Q:VK}
   (hc:X.calm=true) (I2:Inv X pins σ H2 s2) (T:Turn X.prog X.w X.K tg J fp it tn) (st2:tn 0 s2.heap) (f2:∀ b∈fp,FpOk X pins H2 b)
   (hok:compOk scope X.env.scope=true) (hcap:capOk X scope caps) (hown:own.length=n) (hgo:gOwn n g)
   (cl1:∀ y c,cl.lookup y=some c→X.env.cells.lookup y=some c) (cl2:∀ y,(y,NameKind.free)∈scope.names→∃ c,cl.lookup y=some c)
   (hg:∀ C s₃ H₃,PG (compX X scope own caps cl C s₃ H₃ fp) tg g) (ht:∀ C s₃ H₃,PTs (compX X scope own caps cl C s₃ H₃ fp) ifs tt) (he:∀ C s₃ H₃,PE (compX X scope own caps cl C s₃ H₃ fp) elt te)
   (h:∀ D,H2 D=none→∃ W:Nat→Nat→Hp→Prop,(∃ m,W 0 m (upd H2 D (.lst [])))∧∀ i m H2,W i m H2 →
     (J.stop i H2∧Q (.ref D) H2)∨(J.go i H2∧∀ x H3,J.yld i H2 x H3→g x (capSt n caps σ) H3 fun σ4 H4=>tt σ4 H4 fun b H5 =>
       if b=true then te σ4 H5 fun y H6=>∃ xs,H6 D=some (.lst xs)∧xs.length<sizeLine∧∃ m',m'<m∧W (i+1) m' (upd H6 D (.lst (xs++[y]))) else ∃ m',m'<m∧W (i+1) m' H5))
   (hRR:∀ D C s' H' m,s'.heap.Ns C m→Inv X pins σ H' s'→FpOk X pins H' C→Q (.ref D) H'→RR (.ref D) C (.ok .next) s') :
   wpAny (model X.prog X.w) X.A (newList []) (fun acc s₃=>wpAny (model X.prog X.w) X.A (newFunctionEnv scope X.env.globals cl [] X.env.qual none .none (some X.env)) (fun cenv s₄ =>
     codeAny (model X.prog X.w) X.A (.compStart (.ListComp elt [⟨tg,iter,ifs,0⟩] scope pos) 0 (.ref it) acc { cenv with scope:=relabel scope X.env }) (RR acc cenv.locals) s₄) E s₃) E s2:=by
 refine wpAny_newList (items:=[]) (wpAny_newFunctionEnv (Zg1 hok) (by intro y hy;simp at hy) (fun h₁ hns₁ hsb₁=>?_) (ZeT hok)) (by show 0≤sizeLine;decide);obtain ⟨W,⟨m0,w0⟩,turn⟩:=h s2.heap.objs.size I2.fresh;have I3:Inv X pins σ (upd H2 s2.heap.objs.size (.lst [])) { s2 with heap:=s2.heap.push { cls:=.type "list",data:=.seq ([]:List Value).toArray } }:=I2.lnew (t':=s2.toks) .nil (by show 0≤sizeLine;decide);generalize hs3:({ s2 with heap:=s2.heap.push { cls:=.type "list",data:=.seq ([]:List Value).toArray } }:Shared)=s₃ at *;have e3:s₃.heap.objs.size=s2.heap.objs.size+1:=by rw [← hs3];exact Heap.size_push _ _
 have k23:∀ b o,s2.heap.get? b=some o→s₃.heap.get? b=some o:=fun b o e=>by rw [← hs3];exact Heap.get?_push_of_some _ e
 have hold:∀ b o,s₃.heap.get? b=some o→h₁.get? b=some o:=fun b o e=>(hsb₁.2 b (Nat.ne_of_lt (Heap.lt_size e))).trans (Heap.get?_push_of_some _ e)
 have lt2:∀ b∈fp,b<s2.heap.objs.size:=fun b hb=>by
   obtain ⟨o,e,_⟩:=T.obj _ _ st2 b hb;exact Heap.lt_size e
 have f3:∀ b∈fp,FpOk X pins (upd H2 s2.heap.objs.size (.lst [])) b:=fun b hb=>by
   obtain ⟨z,r⟩:=f2 b hb;exact ⟨by rw [Zah (Nat.ne_of_lt (lt2 b hb))];exact z,r⟩
 have tn1:tn 0 h₁:=T.keep _ _ _ st2 fun b hb o e=>hold b o (k23 b o e)
 have I4:=Inv.comp (own:=own) (caps:=caps) (n:=n) (fp:=fp) (cl:=cl) (h4:=h₁) (tk:=s₃.toks+([]:List (Str × Value)).length) I3 hok hcap hown cl1 cl2 f3 (fun b hb=>by rw [e3];exact Nat.lt_succ_of_lt (lt2 b hb)) rfl (by simpa using hns₁) hold;have hXok:=I4.ok;have loop:codeAny (model X.prog X.w) X.A (.compLoop (.ListComp elt [⟨tg,iter,ifs,0⟩] scope pos) 0 (.ref it) (.ref s2.heap.objs.size) (compEnvC scope cl s₃.heap.objs.size X.env)) (RR (.ref s2.heap.objs.size) s₃.heap.objs.size) { s₃ with heap:=h₁,toks:=s₃.toks+([]:List (Str × Value)).length }:=by
   generalize hX:compX X scope own caps cl s₃.heap.objs.size s₃ (upd H2 s2.heap.objs.size (.lst [])) fp=X' at I4 hXok;have eP:X'.prog=X.prog:=by rw [← hX];rfl
   have eW:X'.w=X.w:=by rw [← hX];rfl
   have eK:X'.K=X.K:=by rw [← hX];rfl
   have eA:X'.A=X.A:=by rw [← hX];rfl
   have eC:X'.calm=true:=by rw [← hX];exact hc
   have eE:X'.env=compEnvC scope cl s₃.heap.objs.size X.env:=by rw [← hX];rfl
   have eL:X'.env.locals=s₃.heap.objs.size:=by rw [eE];rfl
   have eX:X'.xe=fun _ _=>False:=by rw [← hX];rfl
   have ePn:X'.pn=[]:=by rw [← hX];rfl
   have eEx:X'.ex=fp:=by rw [← hX];rfl
   have eFs:X'.fs=frs X.stack:=by rw [← hX];rfl
   have hg':=hg s₃.heap.objs.size s₃ (upd H2 s2.heap.objs.size (.lst []));have ht':=ht s₃.heap.objs.size s₃ (upd H2 s2.heap.objs.size (.lst []));have he':=he s₃.heap.objs.size s₃ (upd H2 s2.heap.objs.size (.lst []));have eS0:X'.s₀=s₃:=by rw [← hX];rfl
   have eH0:X'.H₀=upd H2 s2.heap.objs.size (.lst []):=by rw [← hX];rfl
   rw [hX] at hg' ht' he';have fpOk:∀ {H':Hp} (b:Addr),b∈fp→H' b=none→FpOk X' [] H' b:=fun b hb hn=>by
     refine ⟨hn,(hXok.exf b (eEx ▸ hb)).1,hXok.exfs b (eEx ▸ hb),.inl (eEx ▸ hb),(hXok.exf b (eEx ▸ hb)).2,fun p hp=>?_⟩;rw [ePn] at hp;cases hp
   rw [← eP,← eW,← eA,← eE];refine ZfU (fun n' s'=>∃ i H',Inv X' [] (capSt n caps σ) H' s'∧tn i s'.heap∧(∀ b∈fp,H' b=none)∧W i n' H') ?_ m0 ⟨0,_,I4,tn1,fun b hb=>(f3 b hb).1,w0⟩;rintro k s5 ⟨i,H5,I5,t5,fr5,w5⟩;have weaken:∀ {σ':St} {H':Hp} {s':Shared} {pl:List (Addr × Obj)},Inv X' pl σ' H' s'→σ'.length=(capSt n caps σ).length→σ'.drop n=(capSt n caps σ).drop n→Inv X' [] (capSt n caps σ) H' s':=fun {σ' H' s' pl} I' hl hd=>by
     have I'':Inv X' [] σ' H' s':=I'.pins_of fun p hp=>by cases hp
     refine I''.weak hl.symm fun j v e=>?_
     have hj:=(Zfy e).1;have q1:(σ'.drop n)[j-n]?=σ'[j]?:=by rw [List.getElem?_drop];congr 1;omega
     have q2:((capSt n caps σ).drop n)[j-n]?=(capSt n caps σ)[j]?:=by rw [List.getElem?_drop];congr 1;omega
     rw [← q1,hd,q2];exact e
   rcases turn i k H5 w5 with ⟨stop,qn⟩ | ⟨go,step⟩
   · have z:=T.done X' eP eW eK eC i [] s5 (capSt n caps σ) H5 (fun _ _=>False) I5 (fun b hb=>fpOk b hb (fr5 b hb)) t5 stop
     rw [← eP,← eW] at z;refine thn z fun r s6 ⟨hr,I6⟩=>?_
     subst hr;obtain ⟨m,hm,_⟩:=I6.loc;have ub:Un (frs X.stack) fp (upd H2 s2.heap.objs.size (.lst [])) H5 s₃.heap s6.heap:=by have z:=I6.base;rw [eFs,eEx,eS0,eH0] at z;exact z
     have u23:Un (frs X.stack) fp H2 (upd H2 s2.heap.objs.size (.lst [])) s2.heap s₃.heap:=Un.laid k23 (Nat.le_refl _) I2.fresh;have os6:s6.os=s2.os:=by rw [I6.os,eS0,← hs3]
     have hokk:HOk X.prog X.w H5 s6.heap:=by have z:=I6.hok;rw [eP,eW] at z;exact z
     have Iend:Inv X pins σ H5 s6:=I2.call' os6 (u23.trans ub) hokk I6.bare fun b hb=>⟨(f2 b hb).2.2.2.1,(f2 b hb).2.1,(f2 b hb).2.2.2.2.1,(f2 b hb).2.2.2.2.2⟩
     have hCn:H5 s₃.heap.objs.size=none:=by have z:=I6.free;rw [eL] at z;exact z
     rw [eL] at hm;exact hRR _ _ s6 H5 m hm Iend (I3.fpOk (Nat.le_refl _) hCn) qn
   · have z:=T.item X' eP eW eK eC i [] s5 (capSt n caps σ) H5 (fun _ _=>False) I5 (fun b hb=>fpOk b hb (fr5 b hb)) t5 go
     rw [← eP,← eW] at z;refine thn z fun r s6 ⟨u,hr,h6⟩=>?_
     subst hr;refine thn h6 fun _ s7 ⟨x,H7,I7,r7,y7,t7,fr7⟩=>?_
     have I7':=I7.pinned (fun b hb=>fpOk b hb (fr7 b hb)) (T.obj _ _ t7);have pinD:∀ {σ':St} {H':Hp} {s':Shared},Inv X' ([]++pinsAt fp s7.heap) σ' H' s'→tn (i+1) s'.heap∧∀ b∈fp,H' b=none:=fun {σ' H' s'} I'=>by
       have pin:∀ b∈fp,∀ o,s7.heap.get? b=some o→s'.heap.get? b=some o∧H' b=none:=fun b hb o e=>by
         have z:=I'.pin (b,o) (List.mem_append_right _ (List.mem_append_right _ (Zdd hb e)));exact ⟨z.1,z.2.1⟩
       refine ⟨T.keep _ _ _ t7 fun b hb o e=>(pin b hb o e).1,fun b hb=>?_⟩;obtain ⟨o,e,_⟩:=T.obj _ _ t7 b hb;exact (pin b hb o e).2
     have xf:∀ {α:Type} {t:Sem α} {Q':α→Shared→Prop} {s':Shared},wpAny (model X'.prog X'.w) X'.A t Q' X'.xe s'→wpAny (model X'.prog X'.w) X'.A t Q' (fun _ _=>False) s':=fun z=>by rw [eX] at z;exact z
     refine thn (xf (hg' _ s7 (capSt n caps σ) H7 x u _ I7' r7 (hgo _ _ _ _ (step x H7 y7)))) fun _ s8 ⟨σ8,H8,I8,⟨l8,d8⟩,q8⟩=>?_
     refine thn (xf (ht' _ s8 σ8 H8 _ I8 q8)) fun b s9 ⟨H9,I9,q9⟩=>?_
     cases b with
     | false =>
       rw [if_neg Bool.false_ne_true];obtain ⟨m',hm,w9⟩:=(show ∃ m',m'<k∧W (i+1) m' H9 by simpa using q9)
       obtain ⟨t9,fr9⟩:=pinD I9;exact ⟨m',hm,i+1,H9,weaken I9 l8 d8,t9,fr9,w9⟩
     | true =>
       rw [if_pos rfl];rw [if_pos rfl] at q9;refine thn (xf (he' _ s9 σ8 H9 _ I9 q9)) fun v s10 ⟨y,H10,I10,r10,xs,hD,hlen,m',hm,w10⟩=>?_
       refine thn (xf (ZcX _ s10 σ8 H10 (.ref s2.heap.objs.size) [y] (.ref s2.heap.objs.size) [v] (fun _ H'=>H'=upd H10 s2.heap.objs.size (.lst (xs++[y]))) I10 rfl (.cons r10 .nil) ⟨_,xs,y,rfl,rfl,hD,hlen,rfl⟩)) fun _ s11 ⟨_,H11,I11,_,e11⟩=>?_
       subst e11;obtain ⟨t11,fr11⟩:=pinD I11;exact ⟨m',hm,i+1,_,weaken I11 l8 d8,t11,fr11,w10⟩
 exact codeAny_compStart_list loop (T.self _ 0 _ _ _ tn1 loop)
theorem Inv.closure (I:Inv X pins σ H2 s2)(hok:compOk scope X.env.scope=true):∃ cl,closureFor scope X.env=pure cl∧(∀ y c,cl.lookup y=some c→X.env.cells.lookup y=some c)∧∀ y,(y,NameKind.free)∈scope.names→∃ c,cl.lookup y=some c :=
 Zh5 fun z hz e=>I.ok.has z.1 (cok_free hok z hz e)
end
section
variable {X:Cx}{tg iter elt:Expr}{ifs:List Expr}{scope:Scope}{pos:Pos}{wi:TI}{g:TG}{tt:TT}{te:TE}{n:Nat}
theorem ZfZ (own:List Str)(caps:List Nat)(hc:X.calm=true)(hi:PI X tg iter wi)(hg:∀ cl C s₃ H₃ fp,PG (compX X scope own caps cl C s₃ H₃ fp) tg g)(ht:∀ cl C s₃ H₃ fp,PTs (compX X scope own caps cl C s₃ H₃ fp) ifs tt)
   (he:∀ cl C s₃ H₃ fp,PE (compX X scope own caps cl C s₃ H₃ fp) elt te) (hcap:capOk X scope caps) (hgo:gOwn own.length g) (hok:compOk scope X.env.scope=true:=by rfl)
   (hs:∀ x,foldedSetIterable iter X.env x=pure x:=by intro _;rfl):PE X (.ListComp elt [⟨tg,iter,ifs,0⟩] scope pos) (tComp own.length caps wi g tt te):=by
 intro pins s σ H Q I h;obtain ⟨cl,hcl,cl1,cl2⟩:=I.closure hok;rw [eval_ListComp];refine wpAny_comprehension_free (use:=none) rfl hs hcl (ZeT hok) (cok_loc hok) (thn (hi pins s σ H _ I h) fun v s1 h1=>thn h1 fun itv s2 h2=>?_);obtain ⟨it,fp,tn,J,H2,e,I2,T,st2,f2,h3⟩:=h2;subst e;refine Zju (RR:=fun acc C=>compPost (model X.prog X.w) X.A X.xe none (EP X pins σ Q) acc C) (own:=own) (caps:=caps) (n:=own.length) (Q:=Q) hc I2 T st2 f2 hok hcap rfl hgo cl1 cl2 (fun C s₃ H₃=>hg cl C s₃ H₃ fp) (fun C s₃ H₃=>ht cl C s₃ H₃ fp) (fun C s₃ H₃=>he cl C s₃ H₃ fp) h3 ?_;intro D C s' H' m hm I' hC q;refine ⟨m,hm,fun h' hsb=>⟨.ref D,H',?_,rfl,q⟩⟩;exact I'.turned (it:=C) (t':=s'.toks) (fun b o hb e=>(hsb.2 b hb).trans e) hC.1 hC.2.1 hC.2.2.2.1 hC.2.2.2.2.1 hC.2.2.2.2.2
end
end L2
namespace L2
open PySem PySem.Spec PyProof.Rows
theorem ZaO:bootBuiltins "isinstance"=some (.builtin "isinstance"):=by decide +kernel
theorem ZfG:bootBuiltins "min"=some (.builtin "min"):=by decide +kernel
section
variable {X:Cx}
def vOf:V→Option Value
 | .ty n=>some (.type n)
 | .ref a=>some (.ref a)
 | _=>none
def rIsi (K:PySem.W.Frag):List V→Hp→VK→Prop:=fun xs H Q=>∃ x y c t b,xs=[x,y]∧vOf y=some c∧TyOf K H x t∧PySem.W.kitOne K t c=some b∧Q (.bl b) H
theorem call_isi:CallR X (.builtin "isinstance") (rIsi X.K):=by
 intro pins s σ H xs us Q I r h;obtain ⟨x,y,c,t,b,rfl,hy,ht,hk,q⟩:=h;obtain ⟨u,v,rfl,ru,rv⟩:=r.two;have ev:v=c:=by
   cases y with
   | ty n=>cases (show v=Value.type n from rv);exact Option.some.inj hy
   | ref a=>cases (show v=Value.ref a from rv);exact Option.some.inj hy
   | _=>cases hy
 subst ev;exact ZjD I ru ht hk fun tk=>⟨.bl b,H,I.tok _,rfl,q⟩
theorem Ze9 {a:Int}{k:Nat}(h:a.natAbs<2^k):Builtin.Int.intBits a≤k:=by
 unfold Builtin.Int.intBits;split
 · exact Nat.zero_le _
 · rename_i hz
   have h0:a.natAbs≠0:=by
     intro e;have:a=0:=by omega
     subst this;exact hz rfl
   have:=(Nat.log2_lt h0).mpr h;omega
def CShl (i j:Int):Prop:=0≤j∧j≤1000000∧i.natAbs<2^1000
theorem Zbg:OpR X (binaryOp .LShift) (rI CShl fun i j=>.int (i*2^j.toNat)):=opI fun i j _ _ _ _ _ hc q=>by
 have h1:=Ze9 hc.2.2;have h2:=hc.2.1;exact lshift_int hc.1 (by omega) q
def rBitLen:V→List V→Hp→VK→Prop:=fun x vs H Q=>∃ i,x=.int i∧vs=[]∧Q (.int (Builtin.Int.intBits i)) H
theorem Zi4:MtR X "int.bit_length" rBitLen:=by intro pins s σ H x vs v us Q I rx rv h;obtain ⟨i,rfl,rfl,q⟩:=h;obtain ⟨t,rfl⟩:=rx;cases rv.zero;exact call_int_bit_length ⟨.int _,H,I.tok _,⟨_,rfl⟩,q⟩
end
def LoopJ (J:It)(g:TG)(tb:TS)(D:Ends)(σ:St)(H:Hp):Prop:=∃ W:Nat→Nat→St→Hp→Prop,(∃ m,W 0 m σ H)∧∀ i m σ H,W i m σ H →
 (J.stop i H∧D.nx σ H)∨(J.go i H∧∃ N:St→Hp→Prop,(∀ σ' H',N σ' H'→∃ m',m'<m∧W (i+1) m' σ' H')∧∀ x H',J.yld i H x H'→g x σ H' fun σ2 H2=>tb { D with nx:=N,ct:=N,bk:=D.nx } σ2 H2)
theorem Zia {wi:TI}{g:TG}{tb:TS}{D:Ends}{σ:St}{H:Hp}:tFor wi g tb D σ H=wi σ H fun J H1=>LoopJ J g tb D σ H1:=rfl
theorem loopR {lo:Int}{n:Nat}{g:TG}{tb:TS}{D:Ends}{σ:St}{H:Hp}(Pv:Nat→St→Hp→Prop)(h0:Pv 0 σ H)
   (hs:∀ i σ H,i<n→Pv i σ H→g (.int (lo+i)) σ H fun σ2 H2=>tb { D with nx:=Pv (i+1),ct:=Pv (i+1),bk:=D.nx } σ2 H2) (hd:∀ σ H,Pv n σ H→D.nx σ H):LoopJ (Itr lo n) g tb D σ H:=Zjn Pv h0 hs hd
theorem loopL {K:PySem.W.Frag}{a:Addr}{xs:List V}{g:TG}{tb:TS}{D:Ends}{σ:St}{H:Hp}(Pv:Nat→St→Hp→Prop)(h0:Pv 0 σ H)(hl:∀ i σ H,i≤xs.length→Pv i σ H→SqL K H a xs)
   (hs:∀ i x σ H,xs[i]?=some x→Pv i σ H→g x σ H fun σ2 H2=>tb { D with nx:=Pv (i+1),ct:=Pv (i+1),bk:=D.nx } σ2 H2) (hd:∀ σ H,Pv xs.length σ H→D.nx σ H):LoopJ (Itl K a) g tb D σ H:=for_list Pv h0 hl hs hd
def CompJ (J:It) (n:Nat) (caps:List Nat) (g:TG) (tt:TT) (te:TE) (σ:St) (H1:Hp) (Q:VK):Prop:=∀ D,H1 D=none→∃ W:Nat→Nat→Hp→Prop,(∃ m,W 0 m (upd H1 D (.lst [])))∧∀ i m H2,W i m H2 →
 (J.stop i H2∧Q (.ref D) H2)∨(J.go i H2∧∀ x H3,J.yld i H2 x H3→g x (capSt n caps σ) H3 fun σ4 H4=>tt σ4 H4 fun b H5 =>
   if b=true then te σ4 H5 fun y H6=>∃ xs,H6 D=some (.lst xs)∧xs.length<sizeLine∧∃ m',m'<m∧W (i+1) m' (upd H6 D (.lst (xs++[y]))) else ∃ m',m'<m∧W (i+1) m' H5)
theorem Zhd {n:Nat}{caps:List Nat}{wi:TI}{g:TG}{tt:TT}{te:TE}{σ:St}{H:Hp}{Q:VK}:tComp n caps wi g tt te σ H Q=wi σ H fun J H1=>CompJ J n caps g tt te σ H1 Q:=rfl
theorem compPure {J:It} {m n:Nat} {caps:List Nat} {g:TG} {tt:TT} {te:TE} {σ:St} {H1:Hp} {Q:VK} (x:Nat→V) (p:Nat→Bool) (f:Nat→V) (hn:n≤1000000)
   (hstop:∀ H2,Same H1 H2→J.stop n H2) (hgo:∀ i H2,i<n→Same H1 H2→J.go i H2) (hy:∀ i H2 v H3,i<n→Same H1 H2→J.yld i H2 v H3→v=x i∧H3=H2)
   (hg:∀ i H2 R,i<n→Same H1 H2→(∀ σ4,σ4=(capSt m caps σ).set 0 (some (x i))→R σ4 H2)→g (x i) (capSt m caps σ) H2 R)
   (ht:∀ i H2 R,i<n→Same H1 H2→R (p i) H2→tt ((capSt m caps σ).set 0 (some (x i))) H2 R)
   (he:∀ i H2 R,i<n→p i=true→Same H1 H2→R (f i) H2→te ((capSt m caps σ).set 0 (some (x i))) H2 R)
   (hq:∀ D,H1 D=none→Q (.ref D) (upd H1 D (.lst (((List.range n).filter p).map f)))):CompJ J m caps g tt te σ H1 Q:=by
 intro D hD;have same:∀ l,Same H1 (upd H1 D (.lst l)):=fun l b o e=>by rw [Zah (Zan e hD)];exact e
 refine ⟨fun i k H2=>k=n-i∧i≤n∧H2=upd H1 D (.lst (((List.range i).filter p).map f)),⟨n,rfl,Nat.zero_le _,rfl⟩,?_⟩;rintro i k H2 ⟨rfl,hi,rfl⟩;by_cases hlt:i<n
 · refine .inr ⟨hgo i _ hlt (same _),fun v H3 y=>?_⟩
   obtain ⟨rfl,rfl⟩:=hy i _ v H3 hlt (same _) y;refine hg i _ _ hlt (same _) fun σ4 e4=>?_
   subst e4;refine ht i _ _ hlt (same _) ?_;have step:(List.range (i+1)).filter p=(List.range i).filter p++if p i=true then [i] else []:=by
     rw [List.range_succ,List.filter_append];congr 1
     cases hp:p i<;>simp [hp]
   cases hp:p i with
   | true =>
     rw [if_pos rfl];refine he i _ _ hlt hp (same _) ⟨_,Zab,?_,n-(i+1),by omega,rfl,hlt,?_⟩
     · rw [List.length_map]
       refine Nat.lt_of_le_of_lt (List.length_filter_le _ _) ?_;rw [List.length_range,sizeLine_eq];omega
     · rw [upd_upd,step,hp,if_pos rfl,List.map_append]
       rfl
   | false =>
     rw [if_neg Bool.false_ne_true];refine ⟨n-(i+1),by omega,rfl,hlt,?_⟩;rw [step,hp,if_neg Bool.false_ne_true,List.append_nil]
 · have e:i=n:=by omega
   subst e;exact .inl ⟨hstop _ (same _),hq D hD⟩
theorem Zbn {α β:Type}(p:α→Bool)(f:α→β):∀ (xs:List α) (P:Nat→Bool) (F:Nat→β),(∀ i x,xs[i]?=some x→P i=p x∧F i=f x)→((List.range xs.length).filter P).map F=(xs.filter p).map f
 | [],_,_,_=>rfl
 | x::r,P,F,h=>by
   have e:List.range (x::r).length=0::(List.range r.length).map Nat.succ:=by rw [List.length_cons,List.range_succ_eq_map]
   have ih:=Zbn p f r (P ∘ Nat.succ) (F ∘ Nat.succ) fun i y hy=>h (i+1) y (by simpa using hy)
   obtain ⟨h1,h2⟩:=h 0 x rfl;rw [e,List.filter_cons,List.filter_cons,h1,List.filter_map];split
   · rw [List.map_cons,List.map_cons,h2,List.map_map,ih]
   · rw [List.map_map,ih]
theorem compL {K:PySem.W.Frag}{a:Addr}{xs:List V}{m:Nat}{caps:List Nat}{tt:TT}{te:TE}{σ:St}{H1:Hp}{Q:VK}(p:V→Bool)(f:V→V)(hS:SqL K H1 a xs)(hn:xs.length≤1000000)
   (ht:∀ x H2 R,x∈xs→Same H1 H2→R (p x) H2→tt ((capSt m caps σ).set 0 (some x)) H2 R)
   (he:∀ x H2 R,x∈xs→p x=true→Same H1 H2→R (f x) H2→te ((capSt m caps σ).set 0 (some x)) H2 R)
   (hq:∀ D,H1 D=none→Q (.ref D) (upd H1 D (.lst ((xs.filter p).map f)))):CompJ (Itl K a) m caps (gName 0) tt te σ H1 Q:=by
 have get:∀ i,i<xs.length→xs[i]?=some (xs.getD i .non):=fun i hi=>by rw [List.getD_eq_getElem?_getD,List.getElem?_eq_getElem hi];rfl
 have mem:∀ i,i<xs.length→xs.getD i .non∈xs:=fun i hi=>List.mem_of_getElem? (get i hi)
 refine compPure (fun i=>xs.getD i .non) (fun i=>p (xs.getD i .non)) (fun i=>f (xs.getD i .non)) hn (fun H2 s=>⟨xs,s.seq hS,Nat.le_refl _⟩) (fun i H2 hi s=>⟨xs,_,s.seq hS,get i hi⟩)
   (fun i H2 v H3 hi s y=>⟨?_,y.1⟩) (fun i H2 R hi _ h=>h _ rfl) (fun i H2 R hi s h=>ht _ H2 R (mem i hi) s h) (fun i H2 R hi hp s h=>he _ H2 R (mem i hi) hp s h) (fun D hD=>?_)
 · have:=y.2 xs (s.seq hS)
   rw [get i hi] at this;exact (Option.some.inj this).symm
 · have:=Zbn p f xs (fun i=>p (xs.getD i .non)) (fun i=>f (xs.getD i .non)) fun i x hx=>by
     have:xs.getD i .non=x:=by rw [List.getD_eq_getElem?_getD,hx];rfl
     rw [this];exact ⟨rfl,rfl⟩
   rw [this];exact hq D hD
section
variable {D:Ends}{σ:St}{H:Hp}{Q:VK}{QT:Bool→Hp→Prop}{QA:List V→Hp→Prop}{ta tb tc:TE}{t u:TS}{tA tB':TT}{te:TE}{tl:TA}{r r':R2}
theorem ZiO:tSeq t u D σ H=t { D with nx:=u D } σ H:=rfl
theorem Zhm:tNext D σ H=D.nx σ H:=rfl
theorem Zio {g:TG}:tAsg te g D σ H=te σ H fun x H1=>g x σ H1 D.nx:=rfl
theorem ZcO {i:Nat}{v:V}{R:St→Hp→Prop}:gName i v σ H R=R (σ.set i (some v)) H:=rfl
theorem Zdx {i:Nat}:tVar i σ H Q=∃ v,σ[i]?=some (some v)∧Q v H:=rfl
theorem tC_ap {v:V}:tC v σ H Q=Q v H:=rfl
theorem ZeE:tOp r ta tb σ H Q=ta σ H fun x H1=>tb σ H1 fun y H2=>r x y H2 Q:=rfl
theorem tUn_ap {r:V→Hp→VK→Prop}:tUn r ta σ H Q=ta σ H fun x H1=>r x H1 Q:=rfl
theorem rI_ap {C:Int→Int→Prop}{g:Int→Int→V}{x y:V}:rI C g x y H Q=∃ i j,x=.int i∧y=.int j∧C i j∧Q (g i j) H:=rfl
theorem rI0_ap {g:Int→Int→V}{x y:V}:rI0 g x y H Q=∃ i j,x=.int i∧y=.int j∧Q (g i j) H:=rfl
theorem rU_ap {g:Int→V}{x:V}:rU g x H Q=∃ i,x=.int i∧Q (g i) H:=rfl
theorem rEq_ap {x y:V}:rEq x y H Q=(scal x y=true∧Q (.bl (decide (x=y))) H):=rfl
theorem rNe_ap {x y:V}:rNe x y H Q=(scal x y=true∧Q (.bl (!decide (x=y))) H):=rfl
theorem scal_ii {i j:Int}:scal (.int i) (.int j)=true:=rfl
theorem scal_bb {i j:Bool}:scal (.bl i) (.bl j)=true:=rfl
theorem scal_ss {i j:Str}:scal (.str i) (.str j)=true:=rfl
theorem ZiW:tRet te D σ H=te σ H D.rt:=rfl
theorem Zg9:tDrop te D σ H=te σ H fun _ H1=>D.nx σ H1:=rfl
theorem ZiT:tIfS tA t u D σ H=tA σ H fun b H1=>if b=true then t D σ H1 else u D σ H1:=rfl
theorem Zgz:tTest te σ H QT=te σ H fun x H'=>∃ k,x=.bl k∧QT k H':=rfl
theorem tB_ap:tB te σ H QT=te σ H fun x H1=>∃ c,x=.bl c∧QT c H1:=rfl
theorem ZiD:tAnd tA tB' σ H QT=tA σ H fun c H1=>if c=true then tB' σ H1 QT else QT false H1:=rfl
theorem tOr_ap:tOr tA tB' σ H QT=tA σ H fun c H1=>if c=true then QT true H1 else tB' σ H1 QT:=rfl
theorem ZiU:tNot tA σ H QT=tA σ H fun c H1=>QT (!c) H1:=rfl
theorem Zhk:tAndV ta tb σ H Q=ta σ H fun x H1=>∃ c,x=.bl c∧if c=true then tb σ H1 Q else Q (.bl false) H1:=rfl
theorem Zht:tNotV ta σ H Q=ta σ H fun x H1=>∃ c,x=.bl c∧Q (.bl (!c)) H1:=rfl
theorem tIf_ap:tIf tA ta tb σ H Q=tA σ H fun c H1=>if c=true then ta σ H1 Q else tb σ H1 Q:=rfl
theorem ZgL {sp:Sp}{dvs:List V}{E:XK}:tCall sp dvs E tl σ H Q=tl σ H fun vs H1=>sp (vs++dvs) H1 Q E:=rfl
theorem ZfM:tNil σ H QA=QA [] H:=rfl
theorem ZeC:tCons ta tl σ H QA=ta σ H fun x H1=>tl σ H1 fun xs H2=>QA (x::xs) H2:=rfl
theorem ZiM:tTup tl σ H Q=tl σ H fun xs H1=>xs.length≤sizeLine∧∀ p,H1 p=none→Q (.ref p) (upd H1 p (.tup xs)):=rfl
theorem Zgf:tLst tl σ H Q=tl σ H fun xs H1=>xs.length≤sizeLine∧∀ p,H1 p=none→Q (.ref p) (upd H1 p (.lst xs)):=rfl
theorem tCB_ap {r:List V→Hp→VK→Prop}:tCB r tl σ H Q=tl σ H fun vs H1=>r vs H1 Q:=rfl
theorem tBM_ap {K:PySem.W.Frag}{T:String}{r:V→List V→Hp→VK→Prop}:tBM K T r te tl σ H Q=te σ H fun x H1=>tyV K T x H1∧tl σ H1 fun xs H2=>r x xs H2 Q:=rfl
theorem ZiX {K:PySem.W.Frag}{T:String}{r:V→List V→Hp→VK→Prop}:tBM0 K T r te σ H Q=te σ H fun x H1=>tyV K T x H1∧r x [] H1 Q:=rfl
theorem tyV_int {K:PySem.W.Frag}{i:Int}:tyV K "int" (.int i) H:=rfl
theorem tyV_list {K:PySem.W.Frag}{p:Addr}:tyV K "list" (.ref p) H↔∃ xs,SqL K H p xs:=by unfold tyV;simp
theorem Zil {K:PySem.W.Frag}{x y:V}:rIxL K x y H Q=∃ p xs i v,x=.ref p∧y=.int i∧SqL K H p xs∧atI xs i=some v∧Q v H:=rfl
theorem Zic {K:PySem.W.Frag}{x y:V}:rIxT K x y H Q=∃ p xs i v,x=.ref p∧y=.int i∧SqT K H p xs∧atI xs i=some v∧Q v H:=rfl
theorem ZeF {x:V}{vs:List V}:rAppend x vs H Q=∃ l xs y,x=.ref l∧vs=[y]∧H l=some (.lst xs)∧xs.length<sizeLine∧Q .non (upd H l (.lst (xs++[y]))):=rfl
theorem ZeN {x:V}{vs:List V}:rBitLen x vs H Q=∃ i,x=.int i∧vs=[]∧Q (.int (Builtin.Int.intBits i)) H:=rfl
theorem Zek {x y:V}:rCat x y H Q=∃ l b xs zs,x=.ref l∧y=.ref b∧H l=some (.lst xs)∧H b=some (.lst zs)∧xs.length+zs.length≤sizeLine∧∀ p,H p=none→Q (.ref p) (upd H p (.lst (xs++zs))):=rfl
theorem ZfR {x y:V}:rRep x y H Q=∃ l k xs,x=.ref l∧y=.int k∧H l=some (.lst xs)∧-(2^63)≤k∧k<2^63∧xs.length*k.toNat≤sizeLine∧∀ p,H p=none→Q (.ref p) (upd H p (.lst (List.replicate k.toNat xs).flatten)):=rfl
theorem ZgE {R:It→Hp→Prop}:iRng1 tl σ H R=tl σ H fun vs H1=>∃ j:Int,vs=[.int j]∧-(2^62)≤j∧j<2^62∧R (Itr 0 j.toNat) H1:=rfl
theorem Zhj {K:PySem.W.Frag}{R:It→Hp→Prop}:iList K te σ H R=te σ H fun x H1=>∃ a,x=.ref a∧(∃ xs,SqL K H1 a xs)∧R (Itl K a) H1:=rfl
theorem Zew:tNoTest σ H QT=QT true H:=rfl
theorem rIsi_int {K:PySem.W.Frag}{i:Int}:rIsi K [.int i,.ty "int"] H Q↔Q (.bl true) H :=
 ⟨fun ⟨x,y,c,t,b,e,hy,ht,hk,q⟩=>by
   cases e;cases hy;cases ht;cases hk;exact q,fun q=>⟨_,_,_,_,true,rfl,rfl,.int i,rfl,q⟩⟩
theorem ZjN {K:PySem.W.Frag}{i:Int}:rIsi K [.int i,.ty "bool"] H Q↔Q (.bl false) H :=
 ⟨fun ⟨x,y,c,t,b,e,hy,ht,hk,q⟩=>by
   cases e;cases hy;cases ht;cases hk;exact q,fun q=>⟨_,_,_,_,false,rfl,rfl,.int i,rfl,q⟩⟩
theorem rIsi_blb {K:PySem.W.Frag}{k:Bool}:rIsi K [.bl k,.ty "bool"] H Q↔Q (.bl true) H :=
 ⟨fun ⟨x,y,c,t,b,e,hy,ht,hk,q⟩=>by
   cases e;cases hy;cases ht;cases hk;exact q,fun q=>⟨_,_,_,_,true,rfl,rfl,.bl k,rfl,q⟩⟩
theorem rIsi_bli {K:PySem.W.Frag}{k:Bool}:rIsi K [.bl k,.ty "int"] H Q↔Q (.bl true) H :=
 ⟨fun ⟨x,y,c,t,b,e,hy,ht,hk,q⟩=>by
   cases e;cases hy;cases ht;cases hk;exact q,fun q=>⟨_,_,_,_,true,rfl,rfl,.bl k,rfl,q⟩⟩
end
end L2
namespace L2
open PySem PySem.Spec PyProof.Rows
def FnAt (P:Program)(w:World)(K:PySem.W.Frag)(mg:Str→Option Value)(base:Heap)(x:Str)(ps:List Str)(k:Nat)(sp:Sp):Prop :=
 ∃ f fd,FnOk P w K mg base CX0 k f fd ps sp∧mg x=some (.ref f)∧PySem.W.keepIn K (.ref f)=true∧Binds K fd ps []
def DefAt (K:PySem.W.Frag)(mg:Str→Option Value)(x:Str)(st:Stmt)(ps:List Str):Prop:=∃ f fd,Fun K x x st f fd∧mg x=some (.ref f)∧Binds K fd ps []
section
variable {P:Program}{w:World}{K:PySem.W.Frag}{mg:Str→Option Value}{base:Heap}
theorem FnAt.of {x:Str}{st:Stmt}{N ps:List Str}{k:Nat}{sp:Sp}(d:DefAt K mg x st ps)(S:FnScope N ps (defScope st))(len:∀ vs H Q E,sp vs H Q E→vs.length=ps.length)
   (hbody:∀ (f:Addr) (cdv:Value) (A:Around) (outer:List Env) (s:Shared) (H:Hp) (vs:List V) (Q:VK) (E:XK),Room k (A.deeper (envOfC x (defScope st) s.heap.objs.size f cdv))→sp vs H Q E →
     ∃ t,PSs (cxOf CX0 P w K mg base N x (defScope st) f cdv A outer s H E).nox (defBody st) t∧t { nx:=fun _ H'=>Q .non H',rt:=Q } (start N vs) H):FnAt P w K mg base x ps (k+1) sp:=by
 obtain ⟨f,fd,F,m,b⟩:=d;exact ⟨f,fd,F.ok S len (hbody f),m,F.kp,b⟩
theorem ZcL {h:Heap}{x:Str}{st:Stmt}{ps:List Str}{f:Addr}{oc:Value}{od an:Option Addr}{osl:Array (Option Value)}{kV doc pm cdv ct:Value}(X:K.In h)(G:h.Ns mainGlobals mg)(a:PySem.W.nsIn K mainGlobals x=some (some (.ref f)))
   (l:K.lookup f=some ⟨oc,od,.func (PySem.W.fnOf x x (defArgs st) (defBody st) (defScope st) .none kV doc pm an cdv ct),osl⟩) (c:PySem.W.codeIn K cdv x=true) (k:PySem.W.keepIn K (.ref f)=true)
   (hb:∀ (kV doc pm:Value) (an:Option Addr) (cdv ct:Value) (us:List Value),us.length=ps.length→bindArgs (PySem.W.fnOf x x (defArgs st) (defBody st) (defScope st) .none kV doc pm an cdv ct) ⟨us,[]⟩=pure (ps.zip us)):DefAt K mg x st ps :=
 ⟨f,_,Zcm l c k,PySem.W.mg_of X G a,(Zcm l c k).binds hb⟩
end
section
variable {X:Cx}{x:Str}{ps:List Str}{k:Nat}{sp:Sp}{e:Expr}{es:List Expr}{t:TA}{p pos:Pos}
theorem Zaj (F:FnAt X.prog X.w X.K X.mg X.base x ps k sp)(hr:Room k X.A)(hg:Gl X x)(ha:PA X (e::es) t)
   (he:starEach (e::es) X.env=(false,eval e X.env)::starEach es X.env:=by rfl) (hdb:(x==("__debug__":Str))=false:=by decide) (hpl:(backTo pos (starEach es X.env)).any (·.1)=false:=by rfl):PE X (.Call (.Name x p) (e::es) [] pos) (tCall sp [] E0 t):=by
 obtain ⟨f,fd,G,m,kp,b⟩:=F;exact Zik G hr hg m kp b .nil pass0 ha hdb he hpl
end
section
variable {X:Cx}
def rLen (K:PySem.W.Frag):List V→Hp→VK→Prop:=fun xs H Q=>∃ p ys,xs=[.ref p]∧(SqL K H p ys∨SqT K H p ys)∧Q (.int ys.length) H
def rListOf (K:PySem.W.Frag):List V→Hp→VK→Prop:=fun xs H Q=>∃ p ys,xs=[.ref p]∧(SqL K H p ys∨SqT K H p ys)∧∀ l,H l=none→Q (.ref l) (upd H l (.lst ys))
theorem Za0 (K:PySem.W.Frag)(h:X.K=K:=by rfl):IxR X (rIxL K):=h ▸ ix_list
theorem Zih (K:PySem.W.Frag)(h:X.K=K:=by rfl):IxR X (rIxT K):=h ▸ ix_tup
theorem ZaP (K:PySem.W.Frag)(h:X.K=K:=by rfl):CallR X (.builtin "isinstance") (rIsi K):=h ▸ call_isi
theorem ZcZ (K:PySem.W.Frag)(h:X.K=K:=by rfl):CallR X (.builtin "len") (rLen K):=by subst h;exact ZfT
theorem ZbD (K:PySem.W.Frag)(h:X.K=K:=by rfl):CallR X (.type "list") (rListOf K):=by subst h;exact Zf7
theorem ZiN {K:PySem.W.Frag}{xs:List V}{H:Hp}{Q:VK}:rLen K xs H Q=∃ p ys,xs=[.ref p]∧(SqL K H p ys∨SqT K H p ys)∧Q (.int ys.length) H:=rfl
theorem Zeu {K:PySem.W.Frag}{xs:List V}{H:Hp}{Q:VK}:rListOf K xs H Q=∃ p ys,xs=[.ref p]∧(SqL K H p ys∨SqT K H p ys)∧∀ l,H l=none→Q (.ref l) (upd H l (.lst ys)):=rfl
end
section
variable {X:Cx}{tg l o e:Expr}{es:List Expr}{tl to:TE}{t:TA}{name:Str}{apos cpos:Pos}{T id:String}{r:V→List V→Hp→VK→Prop}
theorem Za5 (K:PySem.W.Frag)(hl:PE X l tl)(h:X.K=K:=by rfl):PI X tg l (iList K tl):=h ▸ pi_list hl
theorem Zga (K:PySem.W.Frag)(pa:PlainAttrs T)(slot:Slot T name id)(hty:typeOf (.builtin id)=pure (.type "method_descriptor"))(hm:MtR X id r)(ho:PE X o to)(ha:PA X (e::es) t)(hK:X.K=K:=by rfl)
   (hbase:attributeBase o name X.env (eval o X.env)=eval o X.env:=by rfl)
   (hfew:((backTo cpos (starEach (e::es) X.env)).all (fun x=>!x.1)&&(backToKw cpos (keywordEach [] X.env)).all (fun x=>x.1.isSome)
     && decide ((e::es).length+([]:List Keyword).length+(if ([]:List Keyword).isEmpty then 0 else 1)<30))=true:=by rfl)
   (hline:(apos.endLine==cpos.line)=true:=by rfl) (hs:starEach (e::es) X.env=(false,eval e X.env)::starEach es X.env:=by rfl) (hplain:(backTo cpos (starEach es X.env)).any (·.1)=false:=by rfl) :
   PE X (.Call (.Attribute o name apos) (e::es) [] cpos) (tBM K T r to t):=hK ▸ pe_bm pa slot hty hm ho ha hbase hfew hline hs hplain
theorem pe_bm0K (K:PySem.W.Frag)(pa:PlainAttrs T)(slot:Slot T name id)(hty:typeOf (.builtin id)=pure (.type "method_descriptor"))(hm:MtR X id r)(ho:PE X o to)(hK:X.K=K:=by rfl)
   (hbase:attributeBase o name X.env (eval o X.env)=eval o X.env:=by rfl) (hline:(apos.endLine==cpos.line)=true:=by rfl):PE X (.Call (.Attribute o name apos) [] [] cpos) (tBM0 K T r to):=hK ▸ pe_bm0 pa slot hty hm ho hbase hline
end
section
variable {X:Cx}{st:Stmt}{rest:List Stmt}{t u:TS}
def tCut (t u:TS):TS:=fun D σ H=>∃ Mid:St→Hp→Prop,t { D with nx:=Mid } σ H∧∀ σ' H',Mid σ' H'→u D σ' H'
theorem Zc0 (h1:PS X st t)(h2:PSs X rest u):PSs X (st::rest) (tCut t u):=by
 intro pins s σ H D I h;obtain ⟨Mid,h,hm⟩:=h;refine wpAny_execs_cons (thn (h1 pins s σ H _ I h) fun f s1 q=>?_);cases f with
 | next =>
   obtain ⟨σ1,H1,I1,q1⟩:=q;exact h2 pins s1 σ1 H1 D I1 (hm σ1 H1 q1)
 | brk=>exact q
 | cont=>exact q
 | ret v=>exact q
end
theorem rep0:List.replicate 0 (none:Option V)=[]:=rfl
theorem rep1:List.replicate 1 (none:Option V)=[none]:=rfl
theorem rep2:List.replicate 2 (none:Option V)=[none,none]:=rfl
theorem rep3:List.replicate 3 (none:Option V)=[none,none,none]:=rfl
theorem rep4:List.replicate 4 (none:Option V)=[none,none,none,none]:=rfl
theorem rep5:List.replicate 5 (none:Option V)=[none,none,none,none,none]:=rfl
theorem rep6:List.replicate 6 (none:Option V)=[none,none,none,none,none,none]:=rfl
theorem rep7:List.replicate 7 (none:Option V)=[none,none,none,none,none,none,none]:=rfl
theorem rep8:List.replicate 8 (none:Option V)=[none,none,none,none,none,none,none,none]:=rfl
theorem rep9:List.replicate 9 (none:Option V)=[none,none,none,none,none,none,none,none,none]:=rfl
theorem rep10:List.replicate 10 (none:Option V)=[none,none,none,none,none,none,none,none,none,none]:=rfl
theorem rep11:List.replicate 11 (none:Option V)=[none,none,none,none,none,none,none,none,none,none,none]:=rfl
end L2
namespace L2
open PySem PySem.Spec PyProof.Rows
mutual
inductive RdD (K:PySem.W.Frag) (H:Hp):V→PyData→Prop
 | non:RdD K H .non .none
 | bl (b:Bool):RdD K H (.bl b) (.bool b)
 | int (i:Int):RdD K H (.int i) (.int i)
 | str (x:Str):RdD K H (.str x) (.str x)
 | lst {a:Addr} {xs:List V} {ds:List PyData} (h:SqL K H a xs) (r:RdDs K H xs ds):RdD K H (.ref a) (.list ds)
 | tup {a:Addr} {xs:List V} {ds:List PyData} (h:SqT K H a xs) (r:RdDs K H xs ds):RdD K H (.ref a) (.tuple ds)
inductive RdDs (K:PySem.W.Frag) (H:Hp):List V→List PyData→Prop
 | nil:RdDs K H [] []
 | cons {x:V} {d:PyData} {xs:List V} {ds:List PyData} (h:RdD K H x d) (r:RdDs K H xs ds):RdDs K H (x::xs) (d::ds)
end
section
variable {X:Cx}{pins:List (Addr × Obj)}{σ:St}{H:Hp}{s:Shared}
mutual
theorem Inv.rd (I:Inv X pins σ H s):∀ {x:V} {d:PyData},RdD X.K H x d→∀ {u:Value},RelV x u→∃ as,Reads s.heap u d as
 | _,_,.non,_,r=>by cases r;exact ⟨_,.none⟩
 | _,_,.bl b,_,r=>by cases r;exact ⟨_,.bool b⟩
 | _,_,.int i,_,r=>by obtain ⟨t,rfl⟩:=r;exact ⟨_,.int i t⟩
 | _,_,.str x,_,r=>by obtain ⟨t,rfl⟩:=r;exact ⟨_,.str x t⟩
 | _,_,.lst h rs,_,r=>by
   cases r;obtain ⟨its,rv,pl,_⟩:=I.list h;obtain ⟨as,q⟩:=Inv.rds I rs rv;obtain ⟨o,ho,hc,n,hd⟩:=pl.isList;exact ⟨_,.list ho hc hd (by simpa using q)⟩
 | _,_,.tup h rs,_,r=>by
   cases r;obtain ⟨its,rv,pl,_⟩:=I.tuple h;obtain ⟨as,q⟩:=Inv.rds I rs rv;obtain ⟨o,ho,hc,n,hd⟩:=pl;exact ⟨_,.tuple ho hc hd (by simpa using q)⟩
theorem Inv.rds (I:Inv X pins σ H s):∀ {xs:List V} {ds:List PyData},RdDs X.K H xs ds→∀ {us:List Value},Vals xs us→∃ as,ReadsAll s.heap us ds as
 | _,_,.nil,_,r=>by cases r;exact ⟨_,.nil⟩
 | _,_,.cons h t,_,r=>by
   cases r with
   | cons r1 r2 =>
     obtain ⟨as,q⟩:=Inv.rd I h r1;obtain ⟨bs,p⟩:=Inv.rds I t r2;exact ⟨_,.cons q p⟩
end
end
section
variable {X:Cx}
def rEqD (K:PySem.W.Frag):R2:=fun x y H Q=>∃ d e,RdD K H x d∧RdD K H y e∧SeqAt.shaped d=true∧SeqAt.shaped e=true∧SeqAt.noMix d e=true∧Q (.bl (PySem.Spec.same d e)) H
def rNeD (K:PySem.W.Frag):R2:=fun x y H Q=>∃ d e,RdD K H x d∧RdD K H y e∧SeqAt.shaped d=true∧SeqAt.shaped e=true∧SeqAt.noMix d e=true∧Q (.bl (!PySem.Spec.same d e)) H
theorem op_eqD (K:PySem.W.Frag)(hu:X.A.units+64<cLine)(h:X.K=K:=by rfl):OpR X (compareOp .Eq) (rEqD K):=by subst h;intro pins s σ H x y v u Q I rx ry h;obtain ⟨d,e,h1,h2,s1,s2,nm,q⟩:=h;obtain ⟨as,r1⟩:=I.rd h1 rx;obtain ⟨bs,r2⟩:=I.rd h2 ry;exact eq_dataH_same r1 r2 s1 s2 hu nm ⟨.bl _,H,I,rfl,q⟩
theorem op_neD (K:PySem.W.Frag)(hu:X.A.units+64<cLine)(h:X.K=K:=by rfl):OpR X (compareOp .NotEq) (rNeD K):=by subst h;intro pins s σ H x y v u Q I rx ry h;obtain ⟨d,e,h1,h2,s1,s2,nm,q⟩:=h;obtain ⟨as,r1⟩:=I.rd h1 rx;obtain ⟨bs,r2⟩:=I.rd h2 ry;exact ne_dataH_same r1 r2 s1 s2 hu nm ⟨.bl _,H,I,rfl,q⟩
theorem hu64 {A:Around}{k:Nat}(hr:Room k A):A.units+64<cLine:=Nat.lt_of_le_of_lt (by omega) hr.un
end
theorem ZcP {K:PySem.W.Frag}{H:Hp}:∀ ns:List Int,RdDs K H (ns.map V.int) (ns.map PyData.int)
 | []=>.nil
 | n::r=>.cons (.int n) (ZcP r)
section
variable {K:PySem.W.Frag}{H:Hp}{Q:VK}{a b:Addr}
theorem ZjP {ns ms:List Int}(h1:SqL K H a (ns.map V.int))(h2:SqL K H b (ms.map V.int))(q:Q (.bl (decide (ns=ms))) H):rEqD K (.ref a) (.ref b) H Q :=
 ⟨_,_,.lst h1 (ZcP ns),.lst h2 (ZcP ms),PySem.W.ke_shaped_ints ns,PySem.W.ke_shaped_ints ms,SeqAt.noMix_of_shape (.list .int) rfl _ _ (list_map_has fun _=>rfl) (list_map_has fun _=>rfl),by rw [PySem.W.ke_same];exact q⟩
theorem Zjl {ns ms:List Int}(h1:SqL K H a (ns.map V.int))(h2:SqL K H b (ms.map V.int))(q:Q (.bl (!decide (ns=ms))) H):rNeD K (.ref a) (.ref b) H Q :=
 ⟨_,_,.lst h1 (ZcP ns),.lst h2 (ZcP ms),PySem.W.ke_shaped_ints ns,PySem.W.ke_shaped_ints ms,SeqAt.noMix_of_shape (.list .int) rfl _ _ (list_map_has fun _=>rfl) (list_map_has fun _=>rfl),by rw [PySem.W.ke_same];exact q⟩
end
theorem Zfk (ps:List Nat):BM.pint ps=(ps.map fun (p:Nat)=>(p:Int)).map V.int:=by unfold BM.pint;rw [List.map_map];rfl
theorem ZdY {ps qs:List Nat}:(ps.map fun (p:Nat)=>(p:Int))=(qs.map fun (p:Nat)=>(p:Int))↔ps=qs :=
 ⟨fun h=>List.map_inj_right (fun _ _ e=>Int.ofNat.inj e) |>.mp h,fun h=>by rw [h]⟩
section
variable {K:PySem.W.Frag}{H:Hp}{Q:VK}{a b:Addr}
theorem Zjd {ps qs:List Nat}(h1:SqL K H a (BM.pint ps))(h2:SqL K H b (BM.pint qs))(q:Q (.bl (decide (ps=qs))) H):rEqD K (.ref a) (.ref b) H Q:=by rw [Zfk] at h1 h2;refine ZjP h1 h2 ?_;rw [decide_eq_decide.mpr ZdY];exact q
theorem Zjr {ps qs:List Nat}(h1:SqL K H a (BM.pint ps))(h2:SqL K H b (BM.pint qs))(q:Q (.bl (!decide (ps=qs))) H):rNeD K (.ref a) (.ref b) H Q:=by rw [Zfk] at h1 h2;refine Zjl h1 h2 ?_;rw [decide_eq_decide.mpr ZdY];exact q
end
section
variable {X:Cx}
end
theorem Zfm {σ:St}{H:Hp}{Q:VK}:tDNewK σ H Q=∀ p,H p=none→Q (.ref p) (upd H p (.dK [])):=rfl
section
variable {K:PySem.W.Frag}{H:Hp}{Q:VK}{p:Addr}{xs:List V}
end
end L2
namespace BM
open PySem L2 PyProof.Rows
def mapI (f:Int→Int):V→V
 | .int z=>.int (f z)
 | v=>v
theorem Zg3 {f:Int→Int}{g:Nat→Nat}:∀ {ps:List Nat},(∀ p∈ps,f (p:Int)=((g p:Nat):Int))→(pint ps).map (mapI f)=pint (ps.map g)
 | [],_=>rfl
 | p::r,h=>by
   have ih:=Zg3 (f:=f) (g:=g) (ps:=r) fun q hq=>h q (List.mem_cons_of_mem _ hq)
   show V.int (f p)::(pint r).map (mapI f)=V.int ((g p:Nat):Int)::pint (r.map g);rw [h p List.mem_cons_self,ih]
theorem Zh2 {p:Nat}{r:List Nat}(h:Up (p+1) r):Builtin.bitAnd ((wd (p::r):Nat):Int) (-((wd (p::r):Nat):Int))=((2^p:Nat):Int):=by
 have hw:0<wd (p::r):=Zf3;have e:Builtin.bitAnd ((wd (p::r):Nat):Int) (-((wd (p::r):Nat):Int))=((wd (p::r):Nat):Int)-((((wd (p::r):Nat):Int).toNat &&& (Builtin.bitNot (-((wd (p::r):Nat):Int))).toNat:Nat):Int):=by unfold Builtin.bitAnd;rw [decide_eq_true (Int.natCast_nonneg _),decide_eq_false (by omega)]
 have e2:(Builtin.bitNot (-((wd (p::r):Nat):Int))).toNat=wd (p::r)-1:=by unfold Builtin.bitNot;omega
 rw [e,e2,Int.toNat_natCast,ZfP h];have:wd (p::r)=2^p+wd r:=rfl;rw [this,Int.natCast_add];omega
theorem Zgc {ps:List Nat}{p:Nat}(h:Up 0 (ps++[p])):Builtin.Int.intBits ((wd (ps++[p]):Nat):Int)=p+1:=by
 have h0:0<wd (ps++[p]):=by
   rw [Zbm];have:0<2^p:=Nat.pow_pos (by decide);show 0<wd ps+(2^p+0)
   omega
 unfold Builtin.Int.intBits;rw [if_neg (by rw [beq_iff_eq];omega),Int.natAbs_natCast,log2_wd h]
end BM
namespace L2
open PySem PySem.Spec PyProof.Rows
section
variable {X:Cx}{tg:Expr}
end
section
variable {X:Cx}
theorem tyV_str {K:PySem.W.Frag}{z:Str}{H:Hp}:tyV K "str" (.str z) H:=rfl
end
theorem int_mk {K:PySem.W.Frag}{h:Heap}{mg:Str→Option Value}{x:Str}{n:Int}{t:Tok}(X:K.In h)(G:h.Ns mainGlobals mg)(a:PySem.W.nsIn K mainGlobals x=some (some (.int n t))):∃ t,mg x=some (.int n t):=⟨t,PySem.W.mg_of X G a⟩
end L2
namespace L2
open PySem PySem.Spec PyProof.Rows
def MethAt (P:Program)(w:World)(K:PySem.W.Frag)(mg:Str→Option Value)(base:Heap)(C:Addr)(m:Str)(ps:List Str)(k:Nat)(sp:Sp):Prop :=
 Cls K C∧∃ f fd,Meth K C m f∧FnOk P w K mg base CX0 k f fd ps sp∧Binds K fd ps []
def MDefAt (K:PySem.W.Frag)(C:Addr)(m qual:Str)(st:Stmt)(ps:List Str):Prop:=∃ f fd,Fun K m qual st f fd∧Meth K C m f∧Binds K fd ps []
def MakeAt (P:Program)(w:World)(K:PySem.W.Frag)(mg:Str→Option Value)(base:Heap)(x:Str)(C:Addr)(ps:List Str)(k:Nat)(sp:Sp):Prop :=
 mg x=some (.ref C)∧∃ f fd,Mk K C f∧FnOk P w K mg base CX0 k f fd ps sp∧Binds K fd ps []
def MakerAt (K:PySem.W.Frag)(C:Addr)(qual:Str)(st:Stmt)(ps:List Str):Prop:=∃ f fd,Fun K "__init__" qual st f fd∧Mk K C f∧Binds K fd ps []
section
variable {P:Program}{w:World}{K:PySem.W.Frag}{mg:Str→Option Value}{base:Heap}
theorem MethAt.of {C:Addr}{m qual:Str}{st:Stmt}{N ps:List Str}{k:Nat}{sp:Sp}(c:Cls K C)(d:MDefAt K C m qual st ps)(S:FnScope N ps (defScope st))(len:∀ vs H Q E,sp vs H Q E→vs.length=ps.length)
   (hbody:∀ (f:Addr) (cdv:Value) (A:Around) (outer:List Env) (s:Shared) (H:Hp) (vs:List V) (Q:VK) (E:XK),Room k (A.deeper (envOfC qual (defScope st) s.heap.objs.size f cdv))→sp vs H Q E →
     ∃ t,PSs (cxOf CX0 P w K mg base N qual (defScope st) f cdv A outer s H E).nox (defBody st) t∧t { nx:=fun _ H'=>Q .non H',rt:=Q } (start N vs) H):MethAt P w K mg base C m ps (k+1) sp:=by
 obtain ⟨f,fd,F,m,b⟩:=d;exact ⟨c,f,fd,m,F.ok S len (hbody f),b⟩
theorem MakeAt.of {x:Str}{C:Addr}{qual:Str}{st:Stmt}{N ps:List Str}{k:Nat}{sp:Sp}(hx:mg x=some (.ref C))(d:MakerAt K C qual st ps)(S:FnScope N ps (defScope st))(len:∀ vs H Q E,sp vs H Q E→vs.length=ps.length)
   (hbody:∀ (f:Addr) (cdv:Value) (A:Around) (outer:List Env) (s:Shared) (H:Hp) (vs:List V) (Q:VK) (E:XK),Room k (A.deeper (envOfC qual (defScope st) s.heap.objs.size f cdv))→sp vs H Q E →
     ∃ t,PSs (cxOf CX0 P w K mg base N qual (defScope st) f cdv A outer s H E).nox (defBody st) t∧t { nx:=fun _ H'=>Q .non H',rt:=Q } (start N vs) H):MakeAt P w K mg base x C ps (k+1) sp:=by
 obtain ⟨f,fd,F,m,b⟩:=d;exact ⟨hx,f,fd,m,F.ok S len (hbody f),b⟩
theorem Zgm {C:Addr}{m qual:Str}{st:Stmt}{ps:List Str}{f:Addr}{oc:Value}{od an:Option Addr}{osl:Array (Option Value)}{kV doc pm cdv ct:Value}(a:PySem.W.findIn K (.ref C) m=some (some (.ref f)))
   (l:K.lookup f=some ⟨oc,od,.func (PySem.W.fnOf m qual (defArgs st) (defBody st) (defScope st) .none kV doc pm an cdv ct),osl⟩) (c:PySem.W.codeIn K cdv qual=true) (k:PySem.W.keepIn K (.ref f)=true) (fn:PySem.W.isFn K (.ref f)=true)
   (hb:∀ (kV doc pm:Value) (an:Option Addr) (cdv ct:Value) (us:List Value),us.length=ps.length→bindArgs (PySem.W.fnOf m qual (defArgs st) (defBody st) (defScope st) .none kV doc pm an cdv ct) ⟨us,[]⟩=pure (ps.zip us)):MDefAt K C m qual st ps :=
 ⟨f,_,Zcm l c k,⟨a,fn,k⟩,(Zcm l c k).binds hb⟩
theorem Zhp {C:Addr}{qual:Str}{st:Stmt}{ps:List Str}{f:Addr}{oc:Value}{od an:Option Addr}{osl:Array (Option Value)}{kV doc pm cdv ct:Value}(a:PySem.W.findIn K (.ref C) "__init__"=some (some (.ref f)))
   (l:K.lookup f=some ⟨oc,od,.func (PySem.W.fnOf "__init__" qual (defArgs st) (defBody st) (defScope st) .none kV doc pm an cdv ct),osl⟩) (c:PySem.W.codeIn K cdv qual=true) (k:PySem.W.keepIn K (.ref f)=true) (fn:PySem.W.isFn K (.ref f)=true)
   (mk:PySem.W.makesIn K C=true) (kC:PySem.W.keepIn K (.ref C)=true)
   (hb:∀ (kV doc pm:Value) (an:Option Addr) (cdv ct:Value) (us:List Value),us.length=ps.length→bindArgs (PySem.W.fnOf "__init__" qual (defArgs st) (defBody st) (defScope st) .none kV doc pm an cdv ct) ⟨us,[]⟩=pure (ps.zip us)):MakerAt K C qual st ps :=
 ⟨f,_,Zcm l c k,⟨mk,a,fn,kC⟩,(Zcm l c k).binds hb⟩
theorem ex_cls {h:Heap}{x:Str}{C:Addr}{R:Addr→Prop}(X:K.In h)(G:h.Ns mainGlobals mg)(a:PySem.W.nsIn K mainGlobals x=some (some (.ref C)))(r:R C):∃ C,mg x=some (.ref C)∧R C:=⟨C,PySem.W.mg_of X G a,r⟩
end
def tMeD (P:Program)(w:World)(K:PySem.W.Frag)(mg:Str→Option Value)(base:Heap)(k0:Nat)(m:Str)(ta:TE)(t:TA):TE:=fun σ H Q=>ta σ H fun x H1=>∃ a C dx fs ps sp,x=.ref a∧H1 a=some (.ins C dx fs)∧fs.lookup m=none ∧
 MethAt P w K mg base C m ps k0 sp∧t σ H1 fun vs H2=>sp (x::vs) H2 Q E0
section
variable {X:Cx}{k0:Nat}{x m:Str}{p pos apos:Pos}{e o:Expr}{es:List Expr}{ta:TE}{t:TA}{P:Program}{w:World}{K:PySem.W.Frag}{mg:Str→Option Value}{base:Heap}
theorem Zau (k0:Nat){pl:Sem Bool}(hr:Room k0 X.A)(he:PE X o ta)(ha:PA X (e::es) t)(hP:X.prog=P:=by rfl)(hw:X.w=w:=by rfl)(hK:X.K=K:=by rfl)(hmg:X.mg=mg:=by rfl)(hbs:X.base=base:=by rfl)
   (hst:starEach (e::es) X.env=(false,eval e X.env)::starEach es X.env:=by rfl) (hpl:(backTo pos (starEach es X.env)).any (·.1)=false:=by rfl)
   (ht:eval (.Call (.Attribute o m apos) (e::es) [] pos) X.env=(do
     let ov ← eval o X.env
     standAt apos.atName
     let (f,first) ← holding [ov] (getMethod ov m pl)
     callWith pos f first (backTo pos (starEach (e::es) X.env)) (backToKw pos (keywordEach [] X.env))):=by rfl) :
   PE X (.Call (.Attribute o m apos) (e::es) [] pos) (tMeD P w K mg base k0 m ta t):=by
 subst hP hw hK hmg hbs;intro pins s σ H Q I h;refine PySem.W.methodCall_KW (pl:=pl) (thn (he pins s σ H _ I h) fun u s1 hz=>?_) ht;obtain ⟨x,H1,I1,rx,a,C,dx,fs,ps,sp,ex,ea,l,⟨c,f,fd,me,F,b⟩,q⟩:=hz;subst ex;obtain rfl:u=Value.ref a:=rx;refine Zcj I1 ea c me l ?_;refine PySem.W.callWith_K (first:=[.ref a]) (h₀:=X.base) I.ok.mod.kin me.kp (thn (ha pos pins s1 σ H1 _ I1 q) fun us s2 ⟨vs,H2,I2,r,q2⟩=>⟨I2.kIn,?_⟩) hst hpl;exact ZdT (us:=.ref a::us) (vs:=.ref a::vs) (dvs:=[]) F hr b .nil pass0 I2 (.cons rfl r) (by rw [List.append_nil];exact q2)
theorem ZaR (k0:Nat){pl:Sem Bool}(hr:Room k0 X.A)(he:PE X o ta)(hP:X.prog=P:=by rfl)(hw:X.w=w:=by rfl)(hK:X.K=K:=by rfl)(hmg:X.mg=mg:=by rfl)(hbs:X.base=base:=by rfl)
   (ht:eval (.Call (.Attribute o m apos) [] [] pos) X.env=(do
     let ov ← eval o X.env
     standAt apos.atName
     let (f,first) ← holding [ov] (getMethod ov m pl)
     callWith pos f first (backTo pos (starEach [] X.env)) (backToKw pos (keywordEach [] X.env))):=by rfl) :
   PE X (.Call (.Attribute o m apos) [] [] pos) (tMeD P w K mg base k0 m ta tNil):=by
 subst hP hw hK hmg hbs;intro pins s σ H Q I h;refine PySem.W.methodCall_KW (pl:=pl) (thn (he pins s σ H _ I h) fun u s1 hz=>?_) ht;obtain ⟨x,H1,I1,rx,a,C,dx,fs,ps,sp,ex,ea,l,⟨c,f,fd,me,F,b⟩,q⟩:=hz;subst ex;obtain rfl:u=Value.ref a:=rx;refine Zcj I1 ea c me l ?_;exact PySem.W.callWith_K0 (first:=[.ref a]) I1.kIn me.kp (ZdT (us:=[.ref a]) (vs:=[.ref a]) (dvs:=[]) F hr b .nil pass0 I1 (.cons rfl .nil) q)
theorem ZcA {C:Addr}{ps:List Str}{k:Nat}{sp:Sp}(F:MakeAt X.prog X.w X.K X.mg X.base x C ps k sp)(hr:Room (k+1) X.A)(hg:Gl X x)(ha:PA X (e::es) t)
   (hdb:(x==("__debug__":Str))=false:=by decide) (he:starEach (e::es) X.env=(false,eval e X.env)::starEach es X.env:=by rfl) (hpl:(backTo pos (starEach es X.env)).any (·.1)=false:=by rfl) :
   PE X (.Call (.Name x p) (e::es) [] pos) (tMake C sp [] E0 t):=by
 obtain ⟨hm,f,fd,M,F,b⟩:=F;exact pe_make M F hr hg hm b .nil pass0 ha hdb he hpl
theorem ZaC (K:PySem.W.Frag){value:Expr}{f:Str}{tv:TE}{pos':Pos}(ha:PE X o ta)(hv:PE X value tv)(hs:swapsWith value (some (.Attribute o f pos')) pos.line X.env=pure false:=by rfl)(h:X.K=K:=by rfl):PS X (.Assign [.Attribute o f pos'] value pos) (sFld K ta tv f):=h ▸ ps_fld ha hv hs
theorem Zao (K:PySem.W.Frag){f:Str}(he:PE X e ta)(h:X.K=K:=by rfl)(hb:attributeBase e f X.env (eval e X.env)=eval e X.env:=by rfl):PE X (.Attribute e f pos) (tFld K ta f):=h ▸ pe_fld he hb
end
section
variable {P:Program}{w:World}{K:PySem.W.Frag}{mg:Str→Option Value}{base:Heap}{k0:Nat}{m f:Str}{ta tv:TE}{t:TA}{σ:St}{H:Hp}{Q:VK}{C:Addr}{sp:Sp}{dvs:List V}{E:XK}{D:Ends}
theorem ZiH:tMeD P w K mg base k0 m ta t σ H Q=ta σ H fun x H1=>∃ a C dx fs ps sp,x=.ref a∧H1 a=some (.ins C dx fs)∧fs.lookup m=none∧MethAt P w K mg base C m ps k0 sp∧t σ H1 fun vs H2=>sp (x::vs) H2 Q E0:=rfl
theorem Zgq:tMake C sp dvs E t σ H Q=t σ H fun vs H1=>∀ x dx,H1 x=none→H1 dx=none→dx≠x→sp (.ref x::(vs++dvs)) (upd (upd H1 dx (.own x)) x (.ins C dx [])) (fun v H2=>v=.non∧Q (.ref x) H2) E:=rfl
theorem Zep:tFld K ta f σ H Q=ta σ H fun x H1=>∃ a C dx fs v,x=.ref a∧H1 a=some (.ins C dx fs)∧Cls K C∧NoAttr K C f∧fs.lookup f=some v∧Q v H1:=rfl
theorem Zeq:sFld K ta tv f D σ H=tv σ H fun y H1=>ta σ H1 fun x H2=>∃ a C dx fs,x=.ref a∧H2 a=some (.ins C dx fs)∧Cls K C∧NoAttr K C f∧fs.length<1000∧D.nx σ (upd H2 a (.ins C dx (putF f y fs))):=rfl
theorem ZiV {n:Nat}{t:TGs}{v:V}{R:St→Hp→Prop}:gTup K n t v σ H R=∃ a xs,v=.ref a∧SqT K H a xs∧xs.length=n∧t xs σ H R:=rfl
theorem ZgZ {t:TG}{u:TGs}{vs:List V}{R:St→Hp→Prop}:gCons t u vs σ H R=∃ v r,vs=v::r∧t v σ H fun σ' H'=>u r σ' H' R:=rfl
theorem ZiF {vs:List V}{R:St→Hp→Prop}:gNil vs σ H R=(vs=[]∧R σ H):=rfl
theorem ZfX {r:V→Option Int→Option Int→Hp→VK→Prop}{te:TE}{tl th:TO}:tSl r te tl th σ H Q=te σ H fun x H1=>tl σ H1 fun l H2=>th σ H2 fun u H3=>r x l u H3 Q:=rfl
theorem Zck {R:Option Int→Hp→Prop}:tNoPart σ H R=R none H:=rfl
theorem Zdz {R:Option Int→Hp→Prop}:tPart ta σ H R=ta σ H fun x H1=>∃ i,x=.int i∧R (some i) H1:=rfl
theorem Zec {x:V}{lo hi:Option Int}:rSlL K x lo hi H Q=∃ a xs,x=.ref a∧SqL K H a xs∧∀ p,H p=none→Q (.ref p) (upd H p (.lst (cutV xs lo hi))):=rfl
theorem Zbu {X:Cx}(K:PySem.W.Frag)(h:X.K=K:=by rfl):SlR X (rSlL K):=h ▸ sl_list
theorem Zea {X:Cx}(K:PySem.W.Frag){pos:Pos}{es:List Expr}{k:Nat}{t:TGs}{n:Nat}(hc:X.calm=true)(h:PGs X es t)(hK:X.K=K:=by rfl)
   (hn:(assignEach es X.env).length=n:=by rfl) (hst:(assignEach es X.env).findIdx? (·.1)=none:=by rfl):PG X (.Tuple es k pos) (gTup K n t):=hK ▸ pg_tup hc h hn hst
end
def CompYes (n i:Nat)(D:Addr)(I:Nat→List V→Hp→Prop)(y:V)(H6:Hp):Prop:=∃ xs,H6 D=some (.lst xs)∧xs.length<sizeLine∧∃ m',m'<n-i∧m'=n-(i+1)∧∃ ys,I (i+1) ys (upd H6 D (.lst (xs++[y])))
def CompNo (n i:Nat)(I:Nat→List V→Hp→Prop)(H5:Hp):Prop:=∃ m',m'<n-i∧m'=n-(i+1)∧∃ ys,I (i+1) ys H5
theorem compYes {n i:Nat}{D:Addr}{I:Nat→List V→Hp→Prop}{y:V}{H6:Hp}{ys:List V}(hn:n≤1000000)(hi:i<n)(hl:ys.length≤i)(h:H6 D=some (.lst ys))(q:I (i+1) (ys++[y]) (upd H6 D (.lst (ys++[y])))):CompYes n i D I y H6 :=
 ⟨ys,h,by rw [sizeLine_eq];omega,n-(i+1),by omega,rfl,_,q⟩
theorem compNo {n i:Nat}{I:Nat→List V→Hp→Prop}{H5:Hp}{ys:List V}(hi:i<n)(q:I (i+1) ys H5):CompNo n i I H5:=⟨n-(i+1),by omega,rfl,_,q⟩
theorem compG {J:It}{m n:Nat}{caps:List Nat}{g:TG}{tt:TT}{te:TE}{σ:St}{H1:Hp}{Q:VK}(I:Addr→Nat→List V→Hp→Prop)
   (h0:∀ D,H1 D=none→I D 0 [] (upd H1 D (.lst []))) (hl:∀ D i ys H2,I D i ys H2→i≤n)
   (hstop:∀ D ys H2,H1 D=none→I D n ys H2→J.stop n H2) (hgo:∀ D i ys H2,H1 D=none→i<n→I D i ys H2→J.go i H2)
   (turn:∀ D i ys H2 x H3,H1 D=none→i<n→I D i ys H2→J.yld i H2 x H3→g x (capSt m caps σ) H3 fun σ4 H4=>tt σ4 H4 fun b H5=>if b=true then te σ4 H5 fun y H6=>CompYes n i D (I D) y H6 else CompNo n i (I D) H5)
   (hq:∀ D ys H2,H1 D=none→I D n ys H2→Q (.ref D) H2):CompJ J m caps g tt te σ H1 Q:=by
 intro D hD;refine ⟨fun i k H2=>k=n-i∧∃ ys,I D i ys H2,⟨n,rfl,[],h0 D hD⟩,?_⟩;rintro i k H2 ⟨rfl,ys,hI⟩;have h1:=hl D i ys H2 hI;by_cases hlt:i<n
 · exact .inr ⟨hgo D i ys H2 hD hlt hI,fun x H3 y=>turn D i ys H2 x H3 hD hlt hI y⟩
 · have e:i=n:=by omega
   subst e;exact .inl ⟨hstop D ys H2 hD hI,hq D ys H2 hD hI⟩
theorem Same.put {H H':Hp}{a:Addr}{o:HO}(s:Same H H')(h:H a=none):Same H (upd H' a o):=fun b u e=>by rw [Zah (Zan e h)];exact s b u e
theorem Same.new {H:Hp}{a:Addr}{o:HO}(h:H a=none):Same H (upd H a o):=(Same.refl H).put h
end L2
namespace L2
open PySem PySem.Spec PyProof.Rows
section
variable {prog:Program}{w:World}{A:Around}{E:Value→Shared→Prop}{s:Shared}
end
section
variable {X:Cx}{e:Expr}{te:TE}{p p' pos pos':Pos}
end
theorem Zey {x:V}{vs:List V}{H:Hp}{Q:VK}:rExtend x vs H Q=∃ l b xs zs,x=.ref l∧vs=[.ref b]∧H l=some (.lst xs)∧H b=some (.lst zs)∧xs.length+zs.length≤sizeLine∧Q .non (upd H l (.lst (xs++zs))):=rfl
end L2
namespace L2
open PySem PySem.Spec PyProof.Rows
section
variable {prog:Program}{w:World}{A:Around}{E:Value→Shared→Prop}
end
structure TyIns (K:PySem.W.Frag)(C:Addr):Prop where
 a:PySem.W.findIn K (.ref C) "__class__"=some (some (.builtin "object.__class__"))
 b:PySem.W.specialIn K (.builtin "object.__class__") "__get__"=some (some (.builtin "getset_descriptor.__get__"))
 c:PySem.W.takesIn K (.builtin "object.__class__")=some true
 d:PySem.W.mroIn K C (.type "object")=some true
def IsiTo (K:PySem.W.Frag)(mg:Str→Option Value)(C:Addr)(x:Str)(b:Bool):Prop:=∀ S,mg x=some (.ref S)→PySem.W.kitOne K (.ref C) (.ref S)=some b
theorem isi_to {K:PySem.W.Frag}{h:Heap}{mg:Str→Option Value}{x:Str}{C S:Addr}{b:Bool}(X:K.In h)(G:h.Ns mainGlobals mg)(a:PySem.W.nsIn K mainGlobals x=some (some (.ref S)))(r:PySem.W.kitOne K (.ref C) (.ref S)=some b):IsiTo K mg C x b:=fun T e=>by
 rw [PySem.W.mg_of X G a] at e;cases e;exact r
theorem ZeR {K:PySem.W.Frag}{H:Hp}{Q:VK}{mg:Str→Option Value}{a C S dx:Addr}{fs:List (Str × V)}{x:Str}{b:Bool}(ha:H a=some (.ins C dx fs))(c:Cls K C)(t:TyIns K C)(i:IsiTo K mg C x b)(hS:mg x=some (.ref S))(q:Q (.bl b) H):rIsi K [.ref a,.ref S] H Q :=
 ⟨_,_,_,_,b,rfl,rfl,.ins ha c t.a t.b t.c t.d,i S hS,q⟩
theorem all1 {α:Type}{p:List α→Prop}(h:∀ a,p [a]):∀ us:List α,us.length=1→p us
 | [a],_=>h a
theorem all2 {α:Type}{p:List α→Prop}(h:∀ a b,p [a,b]):∀ us:List α,us.length=2→p us
 | [a,b],_=>h a b
theorem all3 {α:Type}{p:List α→Prop}(h:∀ a b c,p [a,b,c]):∀ us:List α,us.length=3→p us
 | [a,b,c],_=>h a b c
theorem all4 {α:Type}{p:List α→Prop}(h:∀ a b c d,p [a,b,c,d]):∀ us:List α,us.length=4→p us
 | [a,b,c,d],_=>h a b c d
theorem all5 {α:Type}{p:List α→Prop}(h:∀ a b c d e,p [a,b,c,d,e]):∀ us:List α,us.length=5→p us
 | [a,b,c,d,e],_=>h a b c d e
end L2
namespace BM
open PySem L2 PyProof.Rows
theorem and_side {m a b c d:Nat}(ha:a<2^m)(hc:c<2^m):(a+2^m*b) &&& (c+2^m*d)=(a &&& c)+2^m*(b &&& d):=by
 have hac:a &&& c<2^m:=Nat.lt_of_le_of_lt Nat.and_le_left ha;apply Nat.eq_of_testBit_eq
 intro i;rw [Nat.testBit_and];rw [Nat.add_comm a,Nat.add_comm c,Nat.add_comm (a &&& c)];rw [Nat.testBit_two_pow_mul_add _ ha,Nat.testBit_two_pow_mul_add _ hc,Nat.testBit_two_pow_mul_add _ hac];split
 · rw [Nat.testBit_and]
 · rw [Nat.testBit_and]
def msk (k:Nat):Nat→Nat
 | 0=>0
 | n+1=>(2^k-1)+2^(2*k)*msk k n
def lay2 (k:Nat):Nat→Nat→Nat
 | 0,_=>0
 | n+1,w=>(w%2^k+w/2^k%2^k)+2^(2*k)*lay2 k n (w/2^(2*k))
def fs (k:Nat):Nat→Nat→Nat
 | 0,_=>0
 | n+1,w=>w%2^k+fs k n (w/2^k)
theorem Ziu (k:Nat):∀ (n w:Nat),w &&& msk k (n+1)=w%2^k+2^(2*k)*(w/2^(2*k) &&& msk k n):=by
 intro n w;have h2:2^k≤2^(2*k):=Nat.pow_le_pow_right (by decide) (by omega);have hp:0<2^k:=Nat.pow_pos (by decide);have e:w=w%2^(2*k)+2^(2*k)*(w/2^(2*k)):=(Nat.mod_add_div _ _).symm
 conv=>lhs;rw [e]
 show _ &&& ((2^k-1)+2^(2*k)*msk k n)=_;rw [and_side (Nat.mod_lt _ (Nat.pow_pos (by decide))) (by omega),Nat.and_two_pow_sub_one_eq_mod];congr 1
 exact Nat.mod_mod_of_dvd _ (Nat.pow_dvd_pow 2 (by omega))
theorem swar (k:Nat):∀ (n w:Nat),(w &&& msk k n)+((w >>> k) &&& msk k n)=lay2 k n w
 | 0,w=>by show (w &&& 0)+((w >>> k) &&& 0)=0;rw [Nat.and_zero,Nat.and_zero]
 | n+1,w=>by
   rw [Ziu,Ziu,Nat.shiftRight_eq_div_pow,Nat.div_div_eq_div_mul,← Nat.pow_add,Nat.add_comm k (2*k),Nat.pow_add,← Nat.div_div_eq_div_mul,← Nat.shiftRight_eq_div_pow (w/2^(2*k)) k];show _=(w%2^k+w/2^k%2^k)+2^(2*k)*lay2 k n (w/2^(2*k));rw [← swar k n (w/2^(2*k)),Nat.mul_add];omega
theorem Zdk {k:Nat}(hk:0<k):∀ (n w:Nat),fs (2*k) n (lay2 k n w)=fs k (2*n) w
 | 0,_=>rfl
 | n+1,w=>by
   have hp:0<2^k:=Nat.pow_pos (by decide);have h2:2^k*2≤2^(2*k):=by rw [← Nat.pow_succ];exact Nat.pow_le_pow_right (by decide) (by omega)
   have a1:=Nat.mod_lt w hp;have a2:=Nat.mod_lt (w/2^k) hp;have hs:w%2^k+w/2^k%2^k<2^(2*k):=by omega
   show lay2 k (n+1) w%2^(2*k)+fs (2*k) n (lay2 k (n+1) w/2^(2*k))=w%2^k+(w/2^k%2^k+fs k (2*n) (w/2^k/2^k))
   have e:lay2 k (n+1) w=(w%2^k+w/2^k%2^k)+2^(2*k)*lay2 k n (w/2^(2*k)):=rfl;rw [e,Nat.add_mul_mod_self_left,Nat.mod_eq_of_lt hs,Nat.add_mul_div_left _ _ (Nat.pow_pos (by decide)),Nat.div_eq_of_lt hs,Nat.zero_add,Zdk hk n,Nat.div_div_eq_div_mul,← Nat.pow_add,← Nat.two_mul];omega
theorem fs_mod (k : Nat):∀ (n w:Nat),w<2^(k*n)→w%(2^k-1)=fs k n w%(2^k-1)
 | 0, w, h => by have:w=0:=by simpa using h
                 subst this;rfl
 | n + 1,w,h=>by
   have hp:0<2^k:=Nat.pow_pos (by decide);have hd:w/2^k<2^(k*n):=by rw [Nat.div_lt_iff_lt_mul hp,← Nat.pow_add];exact h
   have ih:=fs_mod k n (w/2^k) hd;show _=(w%2^k+fs k n (w/2^k))%(2^k-1);rw [Nat.add_mod,← ih,← Nat.add_mod];have e:w=w%2^k+w/2^k+(2^k-1)*(w/2^k):=by
     have:=Nat.mod_add_div w (2^k);have:2^k*(w/2^k)=w/2^k+(2^k-1)*(w/2^k):=by
       generalize w/2^k=q;have z:2^k=1+(2^k-1):=by omega
       conv=>lhs;rw [z]
       rw [Nat.add_mul,Nat.one_mul]
     omega
   conv=>lhs;rw [e]
   rw [Nat.add_mul_mod_self_left]
theorem ZiJ {k:Nat}(hk:0<k):∀ (n w:Nat),lay2 k n w<2^(2*k*n)
 | 0,_=>by show 0<2^(2*k*0);exact Nat.pow_pos (by decide)
 | n+1,w=>by
   have hp:0<2^k:=Nat.pow_pos (by decide);have h2:2^k*2≤2^(2*k):=by rw [← Nat.pow_succ];exact Nat.pow_le_pow_right (by decide) (by omega)
   have a1:=Nat.mod_lt w hp;have a2:=Nat.mod_lt (w/2^k) hp;have ih:=ZiJ hk n (w/2^(2*k));have e:lay2 k (n+1) w=(w%2^k+w/2^k%2^k)+2^(2*k)*lay2 k n (w/2^(2*k)):=rfl;rw [e,Nat.mul_succ,Nat.add_comm (2*k*n),Nat.pow_add];have:2^(2*k)*(lay2 k n (w/2^(2*k))+1)≤2^(2*k)*2^(2*k*n):=Nat.mul_le_mul_left _ ih;rw [Nat.mul_succ] at this;omega
theorem fs_one:∀ (n w:Nat),fs 1 n w=((List.range n).filter w.testBit).length
 | 0,_=>rfl
 | n + 1,w=>by
   show w%2^1+fs 1 n (w/2^1)=_;rw [fs_one n,List.range_succ_eq_map,List.filter_cons,List.filter_map];have hc:(List.range n).filter (w/2^1).testBit=(List.range n).filter (w.testBit ∘ Nat.succ):=List.filter_congr fun i _=>by
     show (w/2^1).testBit i=w.testBit (i+1);rw [Nat.testBit_succ,Nat.pow_one]
   rw [hc];have h0:w.testBit 0=decide (w%2=1):=Nat.testBit_zero w;rw [h0];rcases Nat.mod_two_eq_zero_or_one w with z | z
   · simp [z]
   · simp [z];omega
theorem fs_le:∀ (n w:Nat),fs 1 n w≤n
 | 0,_=>Nat.le_refl _
 | n+1,w=>by
   show w%2^1+fs 1 n (w/2^1)≤_;have:=fs_le n (w/2^1);have:=Nat.mod_lt w (y:=2^1) (by decide);omega
theorem fs_mod16 (w:Nat)(h:w<2^(2*8*16)):w%65535=fs 16 16 w%65535:=by
 have:=fs_mod 16 16 w h;have e:(2:Nat)^16-1=65535:=by decide
 rw [e] at this;exact this
theorem popc (w:Nat):lay2 8 16 (lay2 4 32 (lay2 2 64 (lay2 1 128 w)))%65535=((List.range 256).filter w.testBit).length:=by have h1:=Zdk (k:=1) (by decide) 128 w;have h2:=Zdk (k:=2) (by decide) 64 (lay2 1 128 w);have h3:=Zdk (k:=4) (by decide) 32 (lay2 2 64 (lay2 1 128 w));have h4:=Zdk (k:=8) (by decide) 16 (lay2 4 32 (lay2 2 64 (lay2 1 128 w)));have b:=ZiJ (k:=8) (by decide) 16 (lay2 4 32 (lay2 2 64 (lay2 1 128 w)));have b1:=fs_le 256 w;generalize lay2 8 16 (lay2 4 32 (lay2 2 64 (lay2 1 128 w)))=z at h4 b ⊢;generalize lay2 4 32 (lay2 2 64 (lay2 1 128 w))=y at h3 h4;generalize lay2 2 64 (lay2 1 128 w)=x at h2 h3;generalize lay2 1 128 w=v at h1 h2;have e1:fs 16 16 z=fs 8 32 y:=h4;have e2:fs 8 32 y=fs 4 64 x:=h3;have e3:fs 4 64 x=fs 2 128 v:=h2;have e4:fs 2 128 v=fs 1 256 w:=h1;rw [fs_mod16 z b,e1,e2,e3,e4,← fs_one];exact Nat.mod_eq_of_lt (by omega)
theorem msk1:msk 1 128=0x5555555555555555555555555555555555555555555555555555555555555555:=by decide +kernel
theorem msk2:msk 2 64=0x3333333333333333333333333333333333333333333333333333333333333333:=by decide +kernel
theorem msk4:msk 4 32=0x0F0F0F0F0F0F0F0F0F0F0F0F0F0F0F0F0F0F0F0F0F0F0F0F0F0F0F0F0F0F0F0F:=by decide +kernel
theorem msk8:msk 8 16=0x00FF00FF00FF00FF00FF00FF00FF00FF00FF00FF00FF00FF00FF00FF00FF00FF:=by decide +kernel
theorem and_wd {ps qs:List Nat}(hp:Up 0 ps)(hq:Up 0 qs):wd ps &&& wd qs=wd (ps.filter fun p=>decide (p∈qs)):=ZeX hp.filter fun i=>by
 rw [Nat.testBit_and,ZaN hp,ZaN hq,Bool.eq_iff_iff];simp [List.mem_filter]
theorem Zis (f:Nat→Bool):∀ ps:List Nat,wd ps=wd (ps.filter f)+wd (ps.filter fun p=>!f p)
 | []=>rfl
 | p::r=>by
   have ih:=Zis f r;rw [List.filter_cons,List.filter_cons];cases f p with
   | true=>simp only [if_true,Bool.not_true,Bool.false_eq_true,if_false];show 2^p+wd r=2^p+wd _+_;omega
   | false=>simp only [if_true,Bool.not_false,Bool.false_eq_true,if_false];show 2^p+wd r=_+(2^p+wd _);omega
theorem ZiK {ps qs:List Nat}(hp:Up 0 ps)(hq:Up 0 qs):wd ps-(wd ps &&& wd qs)=wd (ps.filter fun p=>!decide (p∈qs)):=by rw [and_wd hp hq,Zis (fun p=>decide (p∈qs)) ps];omega
theorem or_wd {ps qs:List Nat}{n:Nat}(hp:Up 0 ps)(hq:Up 0 qs)(h1:∀ p∈ps,p<n)(h2:∀ p∈qs,p<n):wd ps ||| wd qs=wd ((List.range n).filter fun p=>decide (p∈ps)||decide (p∈qs)):=ZeX (Zdw _ _) fun i=>by
 rw [Nat.testBit_or,ZaN hp,ZaN hq,Bool.eq_iff_iff];simp [List.mem_filter];intro h;rcases h with h | h
 · exact h1 _ h
 · exact h2 _ h
def bgs (ps:List Nat):List Nat:=ps.filter fun p=>!decide (p∈ps.map (·+1))
theorem wd_bgs {ps:List Nat}(hp:Up 0 ps):wd ps-(wd ps &&& (wd ps*2))=wd (bgs ps):=by have e:wd ps*2=wd (ps.map (·+1)):=(Zgr 1 ps).symm;rw [e];exact ZiK hp ((hp.shift 1).mono (Nat.zero_le _))
theorem Zjw {ps:List Nat}{p:Nat}:∃ rs a,runsOf (ps++[p])=rs++[(a,p)]:=by
 rw [ZbT];rcases List.eq_nil_or_concat (runsOf ps) with e | ⟨rs,⟨a,b⟩,e⟩
 · rw [e];exact ⟨[],p,rfl⟩
 · rw [List.concat_eq_append] at e
   rw [e];by_cases w:b+1=p
   · exact ⟨rs,a,ZbS w⟩
   · exact ⟨rs++[(a,b)],p,Zbv w⟩
theorem runs_bgs {ps:List Nat} (hp:Up 0 ps):(runsOf ps).length=(bgs ps).length:=by
 induction ps using snocInd with
 | nil=>rfl
 | snoc ps p ih =>
   have up:Up 0 ps:=hp.left;have lt:∀ q∈ps,q<p:=hp.last;have ih:=ih up
   have hb : bgs (ps++[p])=bgs ps++(if p∈ps.map (·+1) then [] else [p]):=by
     unfold bgs;rw [List.filter_append,List.map_append];congr 1
     · apply List.filter_congr
       intro q hq;have:q≠p+1:=by have:=lt q hq;omega
       have e:(q∈List.map (·+1) ps++List.map (·+1) [p])↔q∈List.map (·+1) ps:=by
         rw [List.mem_append];constructor
         · intro h
           rcases h with h | h
           · exact h
           · simp at h;omega
         · exact .inl
       simp only [e]
     · have e:(p∈List.map (·+1) ps++List.map (·+1) [p])↔p∈List.map (·+1) ps:=by
         rw [List.mem_append];constructor
         · intro h
           rcases h with h | h
           · exact h
           · simp at h
         · exact .inl
       rw [List.filter_cons];simp only [e];by_cases w:p∈List.map (·+1) ps
       · rw [if_pos w];simp [w]
       · rw [if_neg w];simp [w]
   rw [hb,List.length_append,← ih,ZbT];rcases List.eq_nil_or_concat ps with e | ⟨qs,q,e⟩
   · subst e
     simp [runsOf,addP]
   · rw [List.concat_eq_append] at e
     subst e;obtain ⟨rs,a,er⟩:=Zjw (ps:=qs) (p:=q);rw [er];by_cases w:q+1=p
     · rw [ZbS w,if_pos (by simp [w])]
       simp
     · rw [Zbv w,if_neg ?_]
       · simp
       · intro z
         rw [List.map_append,List.mem_append] at z;rcases z with z | z
         · obtain ⟨x,hx,e⟩:=List.mem_map.mp z
           have l1:x<q:=Up.last (ys:=[p]) (by rw [List.append_assoc] at hp;exact hp) x hx;have l2:=lt q (by simp);omega
         · simp at z
           omega
theorem andNot (x y:Nat):Builtin.bitAnd (x:Int) (Builtin.bitNot (y:Int))=((x-(x &&& y):Nat):Int):=by
 have e:Builtin.bitAnd (x:Int) (Builtin.bitNot (y:Int))=(x:Int)-(((x:Int).toNat &&& (Builtin.bitNot (Builtin.bitNot (y:Int))).toNat:Nat):Int):=by unfold Builtin.bitAnd;rw [decide_eq_true (Int.natCast_nonneg _),decide_eq_false (by unfold Builtin.bitNot;omega)]
 have e2:Builtin.bitNot (Builtin.bitNot (y:Int))=y:=by unfold Builtin.bitNot;omega
 have:x &&& y≤x:=Nat.and_le_left;rw [e,e2,Int.toNat_natCast,Int.toNat_natCast];omega
theorem less_wdI {ps qs:List Nat}(hp:Up 0 ps)(hq:Up 0 qs):Builtin.bitAnd ((wd ps:Nat):Int) (Builtin.bitNot ((wd qs:Nat):Int))=((wd (ps.filter fun p=>!decide (p∈qs)):Nat):Int):=by rw [andNot,ZiK hp hq]
theorem or_wdI {ps qs:List Nat}{n:Nat}(hp:Up 0 ps)(hq:Up 0 qs)(h1:∀ p∈ps,p<n)(h2:∀ p∈qs,p<n):Builtin.bitOr ((wd ps:Nat):Int) ((wd qs:Nat):Int)=((wd ((List.range n).filter fun p=>decide (p∈ps)||decide (p∈qs)):Nat):Int):=by rw [ZeW (Int.natCast_nonneg _) (Int.natCast_nonneg _),Int.toNat_natCast,Int.toNat_natCast,or_wd hp hq h1 h2]
theorem bgs_wdI {ps:List Nat}(hp:Up 0 ps):Builtin.bitAnd ((wd ps:Nat):Int) (Builtin.bitNot ((wd ps:Nat)*2^(1:Int).toNat:Int))=((wd (bgs ps):Nat):Int):=by
 have e:((wd ps:Nat)*2^(1:Int).toNat:Int)=((wd ps*2:Nat):Int):=by rw [Int.natCast_mul];rfl
 rw [e,andNot,wd_bgs hp]
theorem len_pl {ps:List Nat}(h:Up 0 ps)(hn:∀ p∈ps,p<256):((List.range 256).filter (wd ps).testBit).length=ps.length:=by have:=pl_wd h hn;unfold pl at this;rw [this]
theorem swarI {k n w:Nat}{m d:Int}(hm:m=((msk k n:Nat):Int))(hd:d=((2^k:Nat):Int)):Builtin.bitAnd (w:Int) m+Builtin.bitAnd ((w:Int)/d) m=((lay2 k n w:Nat):Int):=by subst hm hd;rw [← Int.natCast_ediv,bitAnd_pp (Int.natCast_nonneg _) (Int.natCast_nonneg _),bitAnd_pp (Int.natCast_nonneg _) (Int.natCast_nonneg _),Int.toNat_natCast,Int.toNat_natCast,Int.toNat_natCast,← Int.natCast_add,← swar k n w,Nat.shiftRight_eq_div_pow]
theorem countI {ps:List Nat}(h:Up 0 ps)(hn:∀ p∈ps,p<256):((lay2 8 16 (lay2 4 32 (lay2 2 64 (lay2 1 128 (wd ps)))):Nat):Int)%65535=(ps.length:Int):=by have e:=popc (wd ps);rw [len_pl h hn] at e;rw [← e,Int.natCast_emod];rfl
theorem bgs_wdI2 {ps:List Nat}(hp:Up 0 ps):Builtin.bitAnd ((wd ps:Nat):Int) (Builtin.bitNot (((wd ps:Nat):Int)*2))=((wd (bgs ps):Nat):Int):=bgs_wdI hp
theorem bgs_lt {ps:List Nat}(h:∀ p∈ps,p<256):∀ p∈bgs ps,p<256:=fun p hp=>h p (List.mem_filter.mp hp).1
theorem wd_abs {ps:List Nat}(h:Up 0 ps)(hn:∀ p∈ps,p<256):(((wd ps:Nat):Int)).natAbs<2^1000:=by rw [Int.natAbs_natCast];exact Nat.lt_of_lt_of_le (h.lt' hn) (Nat.pow_le_pow_right (by decide) (by decide))
end BM
namespace L2
open PySem PySem.Spec PyProof.Rows
section
variable {X:Cx}{pins:List (Addr × Obj)}{σ:St}{H:Hp}{s:Shared}{h':Heap}
theorem Inv.turnedNew {t':Nat} {ch:List Addr} {T:Addr} {o:HO} (I:Inv X pins σ H s) (hf:∀ b∈ch,FpOk X pins H b) (k:∀ b u,b∉ch→s.heap.get? b=some u→h'.get? b=some u) (hT:s.heap.objs.size≤T)
   (new:ObjOk X.prog X.w (upd H T o) h' T o):Inv X pins σ (upd H T o) { s with heap:=h',toks:=t' }:=by
 have nT:H T=none:=I.hok.fresh hT;have nch:∀ b u,H b=some u→b∉ch:=fun b u e z=>by
   rw [(hf b z).1] at e;cases e
 have neT:∀ b u,s.heap.get? b=some u→b≠T:=fun b u e z=>absurd (Nat.lt_of_lt_of_le (Heap.lt_size e) (by rw [z];exact hT)) (Nat.lt_irrefl _)
 have lch:X.env.locals∉ch:=fun z=>(hf _ z).2.1 rfl
 refine I.step (g':=s.gens) (d':=s.drawn) (ch:=ch) (fun b hb=>?_) (fun b u _ _ hc e _=>k b u hc e) (fun b u _ _ hc e _=>⟨u.slots,k b u hc e⟩) (fun b u _ e n=>?_) (fun b u hc e=>⟨u,k b u hc e⟩) (fun b xs e=>?_) (fun b u v e=>?_) (fun b ps e=>⟨#[],?_⟩) (fun m hm=>?_) (fun b u e=>?_) I.bare
 · obtain ⟨_,f1,_,f3,f4,f5⟩:=hf b hb
   exact ⟨f3,f1,f4,f5⟩
 · rw [Zah (neT b u e)]
   exact n
 · rw [Zah (Zan e nT)]
   exact e
 · rw [Zah (Zan e nT)]
   exact e
 · rw [Zah (Zan e nT),e]
   simp
 · obtain ⟨u,es,ep,ho,r⟩:=hm
   exact ⟨u,es,ep,k _ u lch ho,r⟩
 · by_cases hb:b=T
   · subst hb
     rw [Zab] at e;cases e;exact new
   · rw [Zah hb] at e
     refine (I.hok b u e).stay (fun c v hc q=>k c v ?_ q) (fun c q=>?_) fun c xs q=>?_
     · rcases hc with z | z
       · rw [z];exact nch b u e
       · exact nch c _ z
     · rw [Zah (Zan q nT)]
       exact q
     · rw [Zah (Zan q nT)]
       exact q
theorem Inv.turnedL {t':Nat}{ch:List Addr}(I:Inv X pins σ H s)(hf:∀ b∈ch,FpOk X pins H b)(k:∀ b u,b∉ch→s.heap.get? b=some u→h'.get? b=some u):Inv X pins σ H { s with heap:=h',toks:=t' }:=by
 have nch:∀ b u,H b=some u→b∉ch:=fun b u e z=>by
   rw [(hf b z).1] at e;cases e
 have lch:X.env.locals∉ch:=fun z=>(hf _ z).2.1 rfl
 refine I.step (g':=s.gens) (d':=s.drawn) (ch:=ch) (fun b hb=>?_) (fun b u _ _ hc e _=>k b u hc e) (fun b u _ _ hc e _=>⟨u.slots,k b u hc e⟩) (fun _ _ _ _ n=>n) (fun b u hc e=>⟨u,k b u hc e⟩) (fun _ _ e=>e) (fun _ _ _ e=>e) (fun b ps e=>⟨#[],by rw [e];simp⟩) (fun m hm=>?_) (fun b u e=>?_) I.bare
 · obtain ⟨_,f1,_,f3,f4,f5⟩:=hf b hb
   exact ⟨f3,f1,f4,f5⟩
 · obtain ⟨u,es,ep,ho,r⟩:=hm
   exact ⟨u,es,ep,k _ u lch ho,r⟩
 · refine (I.hok b u e).stay (fun c v hc q=>k c v ?_ q) (fun _ q=>q) fun _ _ q=>q
   rcases hc with z | z
   · rw [z];exact nch b u e
   · exact nch c _ z
end
def Itz (K:PySem.W.Frag)(a b:Addr):It :=
 ⟨fun i H=>∃ xs ys x y,SqL K H a xs∧SqL K H b ys∧xs[i]?=some x∧ys[i]?=some y,
  fun i H v H'=>∃ T x y,v=.ref T∧H T=none∧H'=upd H T (.tup [x,y])∧(∀ xs,SqL K H a xs→xs[i]?=some x)∧(∀ ys,SqL K H b ys→ys[i]?=some y),
  fun i H=>∃ xs ys,SqL K H a xs∧SqL K H b ys∧(xs.length≤i∨ys.length≤i)⟩
structure ZipTn (z TI TO i1 i2 a b:Addr)(i:Nat)(h:Heap):Prop where
 z:IsZip h z TI TO .none
 ti:IsPair h TI (.ref i1) (.ref i2)
 to:∃ x y,IsPair h TO x y
 i1:h.IsListIter i1 a i
 i2:h.IsListIter i2 b i
theorem turn_zip {P:Program} {w:World} {K:PySem.W.Frag} {es:List Expr} {x1} {pos:Pos} {z TI TO i1 i2 a b:Addr} (D:ZipApart z TI TO i1 i2 a b):Turn P w K (.Tuple es x1 pos) (Itz K a b) [z,TI,TO,i1,i2] z (ZipTn z TI TO i1 i2 a b) where
 mem:=by simp
 obj:=fun i h st c hc=>by
   simp only [List.mem_cons,List.not_mem_nil,or_false] at hc;obtain ⟨x,y,hto⟩:=st.to;obtain ⟨o1,e1,_,d1⟩:=st.i1;obtain ⟨o2,e2,_,d2⟩:=st.i2;rcases hc with rfl | rfl | rfl | rfl | rfl
   · exact ⟨_,st.z,fun v q=>by cases q⟩
   · exact ⟨_,st.ti,fun v q=>by cases q⟩
   · exact ⟨_,hto,fun v q=>by cases q⟩
   · exact ⟨o1,e1,fun v q=>by rw [d1] at q;cases q⟩
   · exact ⟨o2,e2,fun v q=>by rw [d2] at q;cases q⟩
 keep:=fun i h h' st k=>by
   obtain ⟨x,y,hto⟩:=st.to;exact ⟨k z (by simp) _ st.z,k TI (by simp) _ st.ti,⟨x,y,k TO (by simp) _ hto⟩,st.i1.at fun o e=>k i1 (by simp) o e,st.i2.at fun o e=>k i2 (by simp) o e⟩
 item:=by
   intro X hP hw hK hc i pins s σ H E I hf st hg;subst hP hw hK;obtain ⟨xs,ys,x,y,hq,hr,hx,hy⟩:=hg;obtain ⟨its,rv,p,_⟩:=I.list hq;obtain ⟨jts,rw_,p2,_⟩:=I.list hr;obtain ⟨u,hu,ru⟩:=rv.get hx;obtain ⟨v,hv,rv2⟩:=rw_.get hy;obtain ⟨x0,y0,hto⟩:=st.to;refine wpAny_pyNext_zip_item D st.z st.ti hto st.i1 st.i2 p.isList p2.isList (x:=u) (y:=v) (by simpa using hu) (by simpa using hv) fun g1 k1 k2 k3 k4 k5 k6 k7=>?_
   refine ⟨_,rfl,wpAny_letOwnedTupleGo_zip k1 fun g2 k8 k9=>?_⟩;have lt:∀ {c:Addr} {o:Obj},s.heap.get? c=some o→s.heap.objs.size≠c:=fun e=>Nat.ne_of_gt (Heap.lt_size e)
   have keep:∀ c o,c∉[z,TI,TO,i1,i2]→s.heap.get? c=some o→g2.get? c=some o:=fun c o hc e=>by
     simp only [List.mem_cons,List.not_mem_nil,or_false,not_or] at hc;exact k9.extBut _ _ hc.1 (k7 c o hc.1 hc.2.2.1 hc.2.2.2.1 hc.2.2.2.2 e)
   have hT:g2.get? s.heap.objs.size=some { cls:=.type "tuple",data:=.seq #[u,v] }:=k9.extBut _ _ (lt st.z) k5;have nT:H s.heap.objs.size=none:=I.hok.fresh (Nat.le_refl _);have I1:Inv X pins σ (upd H s.heap.objs.size (.tup [x,y])) { s with heap:=g2 }:=I.turnedNew (t':=s.toks) hf keep (Nat.le_refl _) ⟨by show 2≤sizeLine;decide,[u,v],.cons ru (.cons rv2 .nil),_,hT,rfl,_,rfl⟩;refine ⟨.ref s.heap.objs.size,_,I1,rfl,⟨_,x,y,rfl,nT,rfl,fun zs hz=>by rw [I.list_inj hz hq];exact hx,fun zs hz=>by rw [I.list_inj hz hr];exact hy⟩,?_,fun c hc=>?_⟩
   · have nz:∀ c,c≠z→∀ o,g1.get? c=some o→g2.get? c=some o:=fun c hc o e=>k9.extBut _ _ hc e
     exact ⟨k8,nz _ D.TIz _ (k7 _ _ D.TIz D.TITO D.TIi1 D.TIi2 st.ti),⟨u,v,nz _ D.TOz _ k2⟩,k3.at fun o e=>nz _ D.i1z o e,k4.at fun o e=>nz _ D.i2z o e⟩
   · rw [Zah ?_]
     · exact (hf c hc).1
     · rintro rfl
       simp only [List.mem_cons,List.not_mem_nil,or_false] at hc;obtain ⟨o1,e1,_⟩:=st.i1;obtain ⟨o2,e2,_⟩:=st.i2;rcases hc with q | q | q | q | q
       · exact lt st.z q
       · exact lt st.ti q
       · exact lt hto q
       · exact lt e1 q
       · exact lt e2 q
 done:=by
   intro X hP hw hK hc i pins s σ H E I hf st hg;subst hP hw hK;obtain ⟨xs,ys,hq,hr,hx⟩:=hg;obtain ⟨its,rv,p,_⟩:=I.list hq;obtain ⟨jts,rw_,p2,_⟩:=I.list hr;obtain ⟨x0,y0,hto⟩:=st.to;have e1:=rv.length;have e2:=rw_.length;refine wpAny_pyNext_zip_end (I.ok.hd hc) D st.z st.ti hto st.i1 st.i2 p.isList p2.isList ?_ fun g1 k=>?_
   · rcases hx with q | q
     · exact .inl (by simp;omega)
     · exact .inr (by simp;omega)
   · refine ⟨rfl,I.turnedL (t':=s.toks) hf fun c o hc e=>?_⟩
     simp only [List.mem_cons,List.not_mem_nil,or_false,not_or] at hc;exact k c o hc.1 hc.2.2.1 hc.2.2.2.1 hc.2.2.2.2 e
 self:=fun _ _ _ _ _ st h=>wpAny_pyIter_zip st.z h
theorem boot_zip:bootBuiltins "zip"=some (.type "zip"):=by decide +kernel
def iZip (K:PySem.W.Frag)(ta:TA):TI:=fun σ H R=>ta σ H fun vs H1=>∃ a b,vs=[.ref a,.ref b]∧(∃ xs,SqL K H1 a xs)∧(∃ ys,SqL K H1 b ys)∧R (Itz K a b) H1
theorem pi_zipK {X:Cx} (K:PySem.W.Frag) {es:List Expr} {x1} {p3:Pos} {a b:Expr} {ta:TA} {p pos:Pos} (hg:Gl X "zip") (hm:X.mg "zip"=none) (ha:PA X [a,b] ta) (hK:X.K=K:=by rfl) (hs:starEach [a,b] X.env=[(false,eval a X.env),(false,eval b X.env)]:=by rfl) (hs2:starEach [b] X.env=[(false,eval b X.env)]:=by rfl) :
   PI X (.Tuple es x1 p3) (.Call (.Name "zip" p) [a,b] [] pos) (iZip K ta):=by
 subst hK;intro pins s σ H R I h;refine Call_ (ZeO I hg hm boot_zip (PyProof.Rows.callWith_type1 (thn (ha pos pins s σ H _ I h) fun us s1 ⟨vs,H1,I1,r1,q1⟩=>?_) (by rw [hs,hs2]) (by rw [hs2];rfl)));obtain ⟨l1,l2,rfl,⟨xs,hx⟩,⟨ys,hy⟩,q⟩:=q1;cases r1 with
 | cons r rr =>
   cases rr with
   | cons r' rr =>
     cases rr;cases r;cases r';obtain ⟨its,rv,pl1,_⟩:=I1.list hx;obtain ⟨jts,rw_,pl2,_⟩:=I1.list hy;refine call_zip_2 pl1.isList pl2.isList fun g k1 k2 k3 k4 k5 k6 k7=>?_
     refine wpAny_pyIter_zip k1 ?_;have lt1:l1<s1.heap.objs.size:=by obtain ⟨o,e,_⟩:=pl1.isList;exact Heap.lt_size e
     have lt2:l2<s1.heap.objs.size:=by obtain ⟨o,e,_⟩:=pl2.isList;exact Heap.lt_size e
     have D:ZipApart (s1.heap.objs.size+4) (s1.heap.objs.size+2) (s1.heap.objs.size+3) s1.heap.objs.size (s1.heap.objs.size+1) l1 l2:=by constructor<;>(intro q;simp only [Addr] at *;omega)
     refine ⟨_,_,_,_,H1,rfl,I1.kept (t':=s1.toks) k7,turn_zip D,⟨k1,k2,⟨_,_,k3⟩,k4,k5⟩,fun c hc=>?_,q⟩;have le:s1.heap.objs.size≤c:=by simp only [List.mem_cons,List.not_mem_nil,or_false] at hc;rcases hc with q | q | q | q | q<;>subst q<;>first | exact Nat.le_refl _ | exact Nat.le_add_right _ _
     exact I1.fpOk le (I1.hok.fresh le)
theorem Ziy {K:PySem.W.Frag}{ta:TA}{σ:St}{H:Hp}{R:It→Hp→Prop}:iZip K ta σ H R=ta σ H fun vs H1=>∃ a b,vs=[.ref a,.ref b]∧(∃ xs,SqL K H1 a xs)∧(∃ ys,SqL K H1 b ys)∧R (Itz K a b) H1:=rfl
theorem loopZ {K:PySem.W.Frag}{a b:Addr}{xs ys:List V}{g:TG}{tb:TS}{D:Ends}{σ:St}{H:Hp}(Pv:Nat→St→Hp→Prop)(h0:Pv 0 σ H)(hl:∀ i σ H,Pv i σ H→SqL K H a xs∧SqL K H b ys)
   (hs:∀ i x y T σ H,xs[i]?=some x→ys[i]?=some y→H T=none→Pv i σ H→g (.ref T) σ (upd H T (.tup [x,y])) fun σ2 H2=>tb { D with nx:=Pv (i+1),ct:=Pv (i+1),bk:=D.nx } σ2 H2)
   (hd:∀ σ H,Pv (min xs.length ys.length) σ H→D.nx σ H):LoopJ (Itz K a b) g tb D σ H:=by
 refine ⟨fun i m σ H=>m=min xs.length ys.length-i∧i≤min xs.length ys.length∧Pv i σ H,⟨_,rfl,Nat.zero_le _,h0⟩,?_⟩;rintro i m σ H ⟨rfl,hi,hp⟩;obtain ⟨h1,h2⟩:=hl i σ H hp;by_cases hlt:i<min xs.length ys.length
 · have l1:i<xs.length:=by omega
   have l2:i<ys.length:=by omega
   have e1:xs[i]?=some xs[i]:=List.getElem?_eq_getElem l1;have e2:ys[i]?=some ys[i]:=List.getElem?_eq_getElem l2;refine .inr ⟨⟨xs,ys,_,_,h1,h2,e1,e2⟩,Pv (i+1),fun σ' H' q=>⟨_,by omega,rfl,by omega,q⟩,?_⟩;rintro v H' ⟨T,x,y,rfl,nT,rfl,hx,hy⟩;have q1:=hx xs h1;have q2:=hy ys h2;exact hs i x y T σ H q1 q2 nT hp
 · have e:i=min xs.length ys.length:=by omega
   subst e;refine .inl ⟨⟨xs,ys,h1,h2,?_⟩,hd σ H hp⟩;omega
theorem Zfg {r r':R2}{ta tb tc:TE}{σ:St}{H:Hp}{Q:VK}:tChain r r' ta tb tc σ H Q=ta σ H fun x H1=>tb σ H1 fun y H2=>r x y H2 fun z H3=>∃ k,z=.bl k∧(if k=true then tc σ H3 fun w' H4=>r' y w' H4 Q else Q (.bl false) H3):=rfl
end L2
namespace L2
open PySem PySem.Spec PyProof.Rows
section
variable {x:V}{vs:List V}{H:Hp}{Q:VK}
end
end L2
namespace ZT
open PySem PySem.Spec PyProof.Rows
section
variable {prog:Program}{w:World}{A:Around}{E:Value→Shared→Prop}{s:Shared}
end
section
variable {prog:Program}{w:World}{A:Around}{E:Value→Shared→Prop}{s:Shared}
end
section
variable {prog:Program}{w:World}{A:Around}{E:Value→Shared→Prop}{s:Shared}
end
end ZT
namespace L2
open PySem PySem.Spec PyProof.Rows
structure ZipTt (z TI TO i1 i2 a b:Addr)(i:Nat)(h:Heap):Prop where
 z:IsZip h z TI TO .none
 ti:IsPair h TI (.ref i1) (.ref i2)
 to:∃ x y,IsPair h TO x y
 i1:IsTupIter h i1 a i
 i2:IsTupIter h i2 b i
end L2
namespace Srt
open PySem PyProof.Rows
def gallop':Bool→Keyed→Array Keyed→Nat→Nat→Nat→StateT SortSt Sem (Option Nat):=sortPriv% PySem.Builtin.gallop
def beyond' (left:Bool)(key:Keyed)(arr:Array Keyed)(base i:Nat):StateT SortSt Sem (Option Bool):=do
 let x ← elem' arr (base+i)
 if left then lt' x key else return (← lt' key x).map (!·)
structure Cmp (M:Model)(A:Around)(E:Value→Shared→Prop)(s:Shared)(kd:SortKind)(S:Keyed→Prop)(L:Keyed→Keyed→Bool):Prop where
 lt:∀ (x y:Keyed) (st:SortSt) (Q:Option Bool→SortSt→Prop),S x→S y→kindOf st=kd→Q (some (L x y)) st→wpS M A E s (lt' x y) Q st
 asym:∀ x y,L x y=true→L y x=false
 neg:∀ x y z,S x→S y→S z→L x z=true→L x y=true∨L y z=true
section
variable {M:Model}{A:Around}{E:Value→Shared→Prop}{s:Shared}{kd:SortKind}{S:Keyed→Prop}{L:Keyed→Keyed→Bool}
def pb (L:Keyed→Keyed→Bool)(left:Bool)(key:Keyed)(arr:Array Keyed)(base i:Nat):Bool:=match arr[base+i]? with
 | some x=>if left then L x key else !L key x
 | none=>false
theorem Zaz {arr:Array Keyed}{i:Nat}{x:Keyed}{st:SortSt}{Q:Keyed→SortSt→Prop}(e:arr[i]?=some x)(h:Q x st):wpS M A E s (elem' arr i) Q st:=by rw [elem'_eq,e];exact wpS_pure h
theorem ZhP (C:Cmp M A E s kd S L){left:Bool}{key:Keyed}{arr:Array Keyed}{base i:Nat}{st:SortSt}{Q:Option Bool→SortSt→Prop}(hk:kindOf st=kd)(sk:S key)(sa:∀ x∈arr.toList,S x)(hi:base+i<arr.size)
   (h:Q (some (pb L left key arr base i)) st):wpS M A E s (beyond' left key arr base i) Q st:=by
 have e:arr[base+i]?=some (arr[base+i]'hi):=getElem?_pos arr (base+i) hi;have sx:S (arr[base+i]'hi):=sa _ (by simp);unfold pb at h;rw [e] at h;unfold beyond';refine wpS_bind (Zaz e ?_);cases left with
 | true=>exact C.lt _ _ _ _ sx sk hk h
 | false =>
   simp only [Bool.false_eq_true,if_false] at h ⊢;exact wpS_bind (C.lt _ _ _ _ sk sx hk (wpS_pure h))
theorem Zbo (C:Cmp M A E s kd S L) {left:Bool} {key:Keyed} {arr:Array Keyed} {base n hint:Nat} {st:SortSt} {Q:Option Nat→SortSt→Prop} (hk:kindOf st=kd) (sk:S key) (sa:∀ x∈arr.toList,S x) (hn:base+n≤arr.size) (hh:hint<n)
   (mono:∀ i j,i≤j→j<n→pb L left key arr base j=true→pb L left key arr base i=true)
   (h:∀ k,k≤n→(∀ i,i<k→pb L left key arr base i=true)→(∀ i,k≤i→i<n→pb L left key arr base i=false)→Q (some k) st):wpS M A E s (gallop' left key arr base n hint) Q st:=by
 unfold gallop'
 k_delta "gallop"
 dsimp only;generalize hp:pb L left key arr base=p at mono h;have monoF:∀ i j,i≤j→j<n→p i=false→p j=false:=fun i j hij hj hi=>by
   cases e:p j with
   | false=>rfl
   | true=>rw [mono i j hij hj e] at hi;cases hi
 have ask:∀ {i:Nat} {Q':Option Bool→SortSt→Prop},i<n→Q' (some (p i)) st→wpS M A E s (beyond' left key arr base i) Q' st:=fun hi q =>
   ZhP C hk sk sa (by omega) (by rw [hp];exact q)
 refine wpS_bind (ask hh ?_);dsimp only;cases e0:p hint with
 | true =>
   rw [if_pos rfl];refine wpS_bind (wpS_mono (wpS_forRange (I:=fun x c st'=>st=st'∧c.1=none∧c.2.1<c.2.2∧hint+c.2.1<n∧x+1≤c.2.2∧p (hint+c.2.1)=true)
     (Q:=fun c st'=>st=st'∧c.1=none∧c.2.1<c.2.2∧hint+c.2.1<n∧p (hint+c.2.1)=true∧(c.2.2≥n-hint∨p (hint+c.2.2)=false)) ?step ?fin ?init) ?post)
   case init=>exact ⟨rfl,rfl,Nat.one_pos,hh,Nat.le_refl _,e0⟩
   case fin =>
     rintro ⟨c1,c2,c3⟩ st' ⟨rfl,e1,g1,g2,g3,g4⟩;refine ⟨rfl,e1,g1,g2,g4,.inl ?_⟩;dsimp only at *;omega
   case step =>
     rintro x ⟨c1,c2,c3⟩ st' _ hx ⟨rfl,e1,g1,g2,g3,g4⟩;dsimp only at *;subst e1;by_cases hlt:c3≥n-hint
     · rw [if_pos hlt]
       exact wpS_pure ⟨rfl,rfl,g1,g2,g4,.inl hlt⟩
     · rw [if_neg hlt]
       refine wpS_bind (ask (by omega) ?_);dsimp only;cases e:p (hint+c3) with
       | true =>
         rw [if_neg (by decide)];refine wpS_pure ⟨rfl,rfl,?_,?_,?_,e⟩
         · show c3<2*c3+1
           omega
         · show hint+c3<n
           omega
         · show x+1+1≤2*c3+1
           omega
       | false =>
         rw [if_pos (by decide)];exact wpS_pure ⟨rfl,rfl,g1,g2,g4,.inr e⟩
   case post =>
     rintro ⟨c1,c2,c3⟩ st' ⟨rfl,e1,g1,g2,g4,g5⟩;dsimp only at *;subst e1;dsimp only;have h1:hint+c2+1≤hint+min c3 (n-hint):=by omega
     have h2:hint+min c3 (n-hint)≤n:=by omega
     have h3:∀ i,i<hint+c2+1→p i=true:=fun i hi=>mono i (hint+c2) (by omega) g2 g4
     have h4:∀ i,hint+min c3 (n-hint)≤i→i<n→p i=false:=by
       intro i hi hin;rcases g5 with z | z
       · omega
       · by_cases hc:c3≥n-hint
         · omega
         · exact monoF _ i (by omega) hin z
     clear g1 g2 g4 g5;refine wpS_bind (wpS_mono (wpS_forRange (I:=fun x c st'=>st=st'∧c.1=none∧c.2.1≤c.2.2∧c.2.2≤n∧(c.2.2-c.2.1≤n-x)∧(∀ i,i<c.2.1→p i=true)∧(∀ i,c.2.2≤i→i<n→p i=false))
       (Q:=fun c st'=>st=st'∧c.1=none∧c.2.2≤n∧(∀ i,i<c.2.2→p i=true)∧(∀ i,c.2.2≤i→i<n→p i=false)) ?step2 ?fin2 ?init2) ?post2)
     case init2=>exact ⟨rfl,rfl,h1,h2,Nat.le_trans (Nat.sub_le _ _) h2,h3,h4⟩
     case fin2 =>
       rintro ⟨c1,c2,c3⟩ st' ⟨rfl,e1,g1,g2,g3,g4,g5⟩;dsimp only at *;have:c2=c3:=by omega
       subst this;exact ⟨rfl,e1,g2,g4,g5⟩
     case post2 =>
       rintro ⟨c1,c2,c3⟩ st' ⟨rfl,e1,g2,g4,g5⟩;dsimp only at *;subst e1;exact wpS_pure (h _ g2 g4 g5)
     case step2 =>
       rintro x ⟨c1,c2,c3⟩ st' _ hx ⟨rfl,e1,g1,g2,g3,g4,g5⟩;dsimp only at *;subst e1;by_cases hlt:c2≥c3
       · rw [if_pos hlt]
         have:c2=c3:=by omega
         subst this;exact wpS_pure ⟨rfl,rfl,g2,g4,g5⟩
       · rw [if_neg hlt]
         refine wpS_bind (ask (by omega) ?_);dsimp only;cases e:p (c2+(c3-c2)/2) with
         | true =>
           rw [if_pos rfl];refine wpS_pure ⟨rfl,rfl,?_,g2,?_,fun i hi=>?_,g5⟩
           · show c2+(c3-c2)/2+1≤c3
             omega
           · show c3-(c2+(c3-c2)/2+1)≤n-(x+1)
             omega
           · have hi:i<c2+(c3-c2)/2+1:=hi
             exact mono i _ (by omega) (by omega) e
         | false =>
           rw [if_neg (by decide)];refine wpS_pure ⟨rfl,rfl,?_,?_,?_,g4,fun i hi hin=>monoF _ i hi hin e⟩
           · show c2≤c2+(c3-c2)/2
             omega
           · show c2+(c3-c2)/2≤n
             omega
           · show c2+(c3-c2)/2-c2≤n-(x+1)
             omega
 | false =>
   rw [if_neg (by decide)];refine wpS_bind (wpS_mono (wpS_forRange (I:=fun x c st'=>st=st'∧c.1=none∧c.2.1<c.2.2∧c.2.1≤hint∧x+1≤c.2.2∧p (hint-c.2.1)=false)
     (Q:=fun c st'=>st=st'∧c.1=none∧c.2.1<c.2.2∧c.2.1≤hint∧p (hint-c.2.1)=false∧(c.2.2≥hint+1∨p (hint-c.2.2)=true)) ?step ?fin ?init) ?post)
   case init=>exact ⟨rfl,rfl,Nat.one_pos,Nat.zero_le _,Nat.le_refl _,e0⟩
   case fin =>
     rintro ⟨c1,c2,c3⟩ st' ⟨rfl,e1,g1,g2,g3,g4⟩;refine ⟨rfl,e1,g1,g2,g4,.inl ?_⟩;dsimp only at *;omega
   case step =>
     rintro x ⟨c1,c2,c3⟩ st' _ hx ⟨rfl,e1,g1,g2,g3,g4⟩;dsimp only at *;subst e1;by_cases hlt:c3≥hint+1
     · rw [if_pos hlt]
       exact wpS_pure ⟨rfl,rfl,g1,g2,g4,.inl hlt⟩
     · rw [if_neg hlt]
       refine wpS_bind (ask (by omega) ?_);dsimp only;cases e:p (hint-c3) with
       | true =>
         rw [if_pos rfl];exact wpS_pure ⟨rfl,rfl,g1,g2,g4,.inr e⟩
       | false =>
         rw [if_neg (by decide)];refine wpS_pure ⟨rfl,rfl,?_,?_,?_,e⟩
         · show c3<2*c3+1
           omega
         · show c3≤hint
           omega
         · show x+1+1≤2*c3+1
           omega
   case post =>
     rintro ⟨c1,c2,c3⟩ st' ⟨rfl,e1,g1,g2,g4,g5⟩;dsimp only at *;subst e1;dsimp only;have h1:hint+1-min c3 (hint+1)≤hint-c2:=by omega
     have h2:hint-c2≤n:=by omega
     have h3:∀ i,i<hint+1-min c3 (hint+1)→p i=true:=by
       intro i hi;rcases g5 with z | z
       · omega
       · by_cases hc:c3≥hint+1
         · omega
         · exact mono i (hint-c3) (by omega) (by omega) z
     have h4:∀ i,hint-c2≤i→i<n→p i=false:=fun i hi hin=>monoF _ i hi hin g4
     clear g1 g2 g4 g5;refine wpS_bind (wpS_mono (wpS_forRange (I:=fun x c st'=>st=st'∧c.1=none∧c.2.1≤c.2.2∧c.2.2≤n∧(c.2.2-c.2.1≤n-x)∧(∀ i,i<c.2.1→p i=true)∧(∀ i,c.2.2≤i→i<n→p i=false))
       (Q:=fun c st'=>st=st'∧c.1=none∧c.2.2≤n∧(∀ i,i<c.2.2→p i=true)∧(∀ i,c.2.2≤i→i<n→p i=false)) ?step2 ?fin2 ?init2) ?post2)
     case init2=>exact ⟨rfl,rfl,h1,h2,Nat.le_trans (Nat.sub_le _ _) h2,h3,h4⟩
     case fin2 =>
       rintro ⟨c1,c2,c3⟩ st' ⟨rfl,e1,g1,g2,g3,g4,g5⟩;dsimp only at *;have:c2=c3:=by omega
       subst this;exact ⟨rfl,e1,g2,g4,g5⟩
     case post2 =>
       rintro ⟨c1,c2,c3⟩ st' ⟨rfl,e1,g2,g4,g5⟩;dsimp only at *;subst e1;exact wpS_pure (h _ g2 g4 g5)
     case step2 =>
       rintro x ⟨c1,c2,c3⟩ st' _ hx ⟨rfl,e1,g1,g2,g3,g4,g5⟩;dsimp only at *;subst e1;by_cases hlt:c2≥c3
       · rw [if_pos hlt]
         have:c2=c3:=by omega
         subst this;exact wpS_pure ⟨rfl,rfl,g2,g4,g5⟩
       · rw [if_neg hlt]
         refine wpS_bind (ask (by omega) ?_);dsimp only;cases e:p (c2+(c3-c2)/2) with
         | true =>
           rw [if_pos rfl];refine wpS_pure ⟨rfl,rfl,?_,g2,?_,fun i hi=>?_,g5⟩
           · show c2+(c3-c2)/2+1≤c3
             omega
           · show c3-(c2+(c3-c2)/2+1)≤n-(x+1)
             omega
           · have hi:i<c2+(c3-c2)/2+1:=hi
             exact mono i _ (by omega) (by omega) e
         | false =>
           rw [if_neg (by decide)];refine wpS_pure ⟨rfl,rfl,?_,?_,?_,g4,fun i hi hin=>monoF _ i hi hin e⟩
           · show c2≤c2+(c3-c2)/2
             omega
           · show c2+(c3-c2)/2≤n
             omega
           · show c2+(c3-c2)/2-c2≤n-(x+1)
             omega
end
end Srt
namespace Srt
open PySem PyProof.Rows
structure Ord (S:Keyed→Prop)(L:Keyed→Keyed→Bool):Prop where
 asym:∀ x y,L x y=true→L y x=false
 neg:∀ x y z,S x→S y→S z→L x z=true→L x y=true∨L y z=true
abbrev Rise (L:Keyed→Keyed→Bool)(l:List Keyed):Prop:=l.Pairwise fun x y=>L y x=false
section
variable {S:Keyed→Prop}{L:Keyed→Keyed→Bool}
theorem Ord.step (O:Ord S L){x y z:Keyed}(sx:S x)(sy:S y)(sz:S z)(h1:L z y=false)(h2:L y x=false):L z x=false:=by
 cases e:L z x with
 | false=>rfl
 | true =>
   rcases O.neg z y x sz sy sx e with q | q
   · rw [q] at h1;cases h1
   · rw [q] at h2;cases h2
structure MI (L:Keyed→Keyed→Bool)(al bl ol:List Keyed)(ia ib:Nat):Prop where
 perm:ol.Perm (al.take ia++bl.take ib)
 rise:Rise L ol
 lea:∀ x∈ol,∀ y∈al.drop ia,L y x=false
 leb:∀ x∈ol,∀ y∈bl.drop ib,L y x=false
 ha:ia≤al.length
 hb:ib≤bl.length
theorem MI.len {al bl ol:List Keyed}{ia ib:Nat}(h:MI L al bl ol ia ib):ol.length=ia+ib:=by rw [h.perm.length_eq,List.length_append,List.length_take,List.length_take];have:=h.ha;have:=h.hb;omega
theorem Zfi {α:Type}(l:List α)(i k:Nat):l.take (i+k)=l.take i++(l.drop i).take k:=by rw [List.take_add]
theorem ZgT {α:Type}{l:List α}{i k:Nat}{y:α}(h:y∈l.drop (i+k)):y∈l.drop i:=by rw [← List.drop_drop] at h;exact List.mem_of_mem_drop h
theorem Zcz {l:List Keyed}(h:Rise L l)(i k:Nat):∀ x∈(l.drop i).take k,∀ y∈l.drop (i+k),L y x=false:=by intro x hx y hy;have h2:Rise L (l.drop i):=h.sublist (List.drop_sublist _ _);rw [← List.take_append_drop k (l.drop i)] at h2;rw [← List.drop_drop] at hy;exact (List.pairwise_append.mp h2).2.2 x hx y hy
theorem MI.takeB {al bl ol:List Keyed}{ia ib:Nat}(h:MI L al bl ol ia ib)(rb:Rise L bl)(k:Nat)(hk:ib+k≤bl.length)(c:∀ y∈(bl.drop ib).take k,∀ z∈al.drop ia,L z y=false):MI L al bl (ol++(bl.drop ib).take k) ia (ib+k) where
 perm:=by rw [Zfi,← List.append_assoc];exact h.perm.append_right _
 rise:=List.pairwise_append.mpr ⟨h.rise,(rb.sublist (List.drop_sublist _ _)).sublist (List.take_sublist _ _),fun x hx y hy=>h.leb x hx y (List.mem_of_mem_take hy)⟩
 lea:=fun x hx y hy=>by
   rcases List.mem_append.mp hx with z | z
   · exact h.lea x z y hy
   · exact c x z y hy
 leb:=fun x hx y hy=>by
   rcases List.mem_append.mp hx with z | z
   · exact h.leb x z y (ZgT hy)
   · exact Zcz rb ib k x z y hy
 ha:=h.ha
 hb:=hk
theorem MI.takeA {al bl ol:List Keyed}{ia ib:Nat}(h:MI L al bl ol ia ib)(ra:Rise L al)(k:Nat)(hk:ia+k≤al.length)(c:∀ y∈(al.drop ia).take k,∀ z∈bl.drop ib,L z y=false):MI L al bl (ol++(al.drop ia).take k) (ia+k) ib where
 perm:=by rw [Zfi];refine (h.perm.append_right _).trans ?_;rw [List.append_assoc,List.append_assoc];exact List.Perm.append_left _ List.perm_append_comm
 rise:=List.pairwise_append.mpr ⟨h.rise,(ra.sublist (List.drop_sublist _ _)).sublist (List.take_sublist _ _),fun x hx y hy=>h.lea x hx y (List.mem_of_mem_take hy)⟩
 lea:=fun x hx y hy=>by
   rcases List.mem_append.mp hx with z | z
   · exact h.lea x z y (ZgT hy)
   · exact Zcz ra ia k x z y hy
 leb:=fun x hx y hy=>by
   rcases List.mem_append.mp hx with z | z
   · exact h.leb x z y hy
   · exact c x z y hy
 ha:=hk
 hb:=h.hb
abbrev Mrg (L:Keyed→Keyed→Bool)(al bl ol:List Keyed):Prop:=ol.Perm (al++bl)∧Rise L ol
theorem MI.doneA {al bl ol:List Keyed}{ia:Nat}(h:MI L al bl ol ia bl.length)(ra:Rise L al):Mrg L al bl (ol++al.drop ia):=by
 constructor
 · refine (h.perm.append_right _).trans ?_
   rw [List.take_of_length_le (Nat.le_refl _),List.append_assoc];refine (List.Perm.append_left _ List.perm_append_comm).trans ?_;rw [← List.append_assoc,List.take_append_drop]
 · exact List.pairwise_append.mpr ⟨h.rise,ra.sublist (List.drop_sublist _ _),h.lea⟩
theorem MI.doneB {al bl ol:List Keyed}{ib:Nat}(h:MI L al bl ol al.length ib)(rb:Rise L bl):Mrg L al bl (ol++bl.drop ib):=by
 constructor
 · refine (h.perm.append_right _).trans ?_
   rw [List.take_of_length_le (Nat.le_refl al.length),List.append_assoc,List.take_append_drop]
 · exact List.pairwise_append.mpr ⟨h.rise,rb.sublist (List.drop_sublist _ _),h.leb⟩
theorem MI.lastA {al bl ol:List Keyed}{ia ib:Nat}(h:MI L al bl ol ia ib)(ra:Rise L al)(rb:Rise L bl)(c:∀ y∈bl.drop ib,∀ z∈al.drop ia,L z y=false):Mrg L al bl (ol++bl.drop ib++al.drop ia):=by
 constructor
 · refine ((h.perm.append_right _).append_right _).trans ?_
   have e:al.take ia++bl.take ib++bl.drop ib++al.drop ia=al.take ia++(bl++al.drop ia):=by rw [List.append_assoc (al.take ia),List.take_append_drop,List.append_assoc]
   rw [e];refine (List.Perm.append_left _ List.perm_append_comm).trans ?_;rw [← List.append_assoc,List.take_append_drop]
 · refine List.pairwise_append.mpr ⟨List.pairwise_append.mpr ⟨h.rise,rb.sublist (List.drop_sublist _ _),h.leb⟩,ra.sublist (List.drop_sublist _ _),fun x hx y hy=>?_⟩
   rcases List.mem_append.mp hx with z | z
   · exact h.lea x z y hy
   · exact c x z y hy
end
def mergeLo':Array Keyed→Array Keyed→StateT SortSt Sem (Array Keyed):=sortPriv% PySem.Builtin.mergeLo
def setMinGallop':Nat→StateT SortSt Sem Unit:=sortPriv% PySem.Builtin.setMinGallop
theorem ZdK (g:Nat):setMinGallop' g=modify fun s=>SortSt.mk' (kindOf s) (arrOf s) (pendingOf s) g (failedOf s):=rfl
structure Sm (st st':SortSt):Prop where
 kind:kindOf st'=kindOf st
 arr:arrOf st'=arrOf st
 pend:pendingOf st'=pendingOf st
 failed:failedOf st'=failedOf st
section
variable {M:Model}{A:Around}{E:Value→Shared→Prop}{s:Shared}{kd:SortKind}{S:Keyed→Prop}{L:Keyed→Keyed→Bool}
theorem Cmp.ord (C:Cmp M A E s kd S L):Ord S L:=⟨C.asym,C.neg⟩
theorem ZbI {a:Array Keyed}{i:Nat}(h:i<a.size):a.toList.drop i=a[i]::a.toList.drop (i+1):=by rw [List.drop_eq_getElem_cons (by simpa using h)];simp
theorem Zaw {a:Array Keyed}{i:Nat}(h:i<a.size):a[i]∈a.toList:=by simp
theorem Zee {a:Array Keyed}{i:Nat}(ra:Rise L a.toList)(h:i<a.size):∀ z∈a.toList.drop (i+1),L z a[i]=false:=by intro z hz;have h2:Rise L (a.toList.drop i):=ra.sublist (List.drop_sublist _ _);rw [ZbI h] at h2;exact (List.pairwise_cons.mp h2).1 z hz
theorem Zgj (O:Ord S L){a:Array Keyed}{i:Nat}(sa:∀ x∈a.toList,S x)(ra:Rise L a.toList)(h:i<a.size){y:Keyed}(sy:S y)(c:L a[i] y=false):∀ z∈a.toList.drop i,L z y=false:=by
 intro z hz;rw [ZbI h] at hz;rcases List.mem_cons.mp hz with e | e
 · rw [e]
   exact c
 · exact O.step sy (sa _ (Zaw h)) (sa _ (List.mem_of_mem_drop e)) (Zee ra h z e) c
variable {a b out:Array Keyed}{ia ib k:Nat}
theorem MI.pushB (O:Ord S L)(m:MI L a.toList b.toList out.toList ia ib)(sa:∀ x∈a.toList,S x)(sb:∀ x∈b.toList,S x)(ra:Rise L a.toList)(rb:Rise L b.toList)(hia:ia<a.size)(hib:ib<b.size)(c:L a[ia] b[ib]=false) :
   MI L a.toList b.toList (out.push b[ib]).toList ia (ib+1):=by
 have e:(b.toList.drop ib).take 1=[b[ib]]:=by rw [ZbI hib];rfl
 have:=m.takeB rb 1 (by simp;omega) (by
   rw [e];intro y hy z hz;have hy:y=b[ib]:=by simpa using hy
   subst hy;exact Zgj O sa ra hia (sb _ (Zaw hib)) c z hz)
 rw [e] at this;rw [Array.toList_push];exact this
theorem MI.pushA (O:Ord S L)(m:MI L a.toList b.toList out.toList ia ib)(sa:∀ x∈a.toList,S x)(sb:∀ x∈b.toList,S x)(ra:Rise L a.toList)(rb:Rise L b.toList)(hia:ia<a.size)(hib:ib<b.size)(c:L b[ib] a[ia]=false) :
   MI L a.toList b.toList (out.push a[ia]).toList (ia+1) ib:=by
 have e:(a.toList.drop ia).take 1=[a[ia]]:=by rw [ZbI hia];rfl
 have:=m.takeA ra 1 (by simp;omega) (by
   rw [e];intro y hy z hz;have hy:y=a[ia]:=by simpa using hy
   subst hy;exact Zgj O sb rb hib (sa _ (Zaw hia)) c z hz)
 rw [e] at this;rw [Array.toList_push];exact this
theorem ZeD (a:Array Keyed)(i k:Nat):(a.extract i (i+k)).toList=(a.toList.drop i).take k:=by simp [List.extract_eq_take_drop]
theorem Zc4 (a:Array Keyed)(i:Nat):(a.extract i a.size).toList=a.toList.drop i:=by simp only [Array.toList_extract,List.extract_eq_take_drop];exact List.take_of_length_le (by simp)
theorem Zbq {a:Array Keyed}{i k:Nat}{x:Keyed}(h:x∈(a.toList.drop i).take k):∃ j,j<k∧∃ q:i+j<a.size,x=a[i+j]:=by
 obtain ⟨j,hj,e⟩:=List.mem_iff_getElem.mp h;rw [List.length_take,List.length_drop] at hj;have:i+j<a.size:=by simp at hj;omega
 refine ⟨j,by omega,this,?_⟩;rw [← e];simp
theorem MI.extA (O:Ord S L)(m:MI L a.toList b.toList out.toList ia ib)(sa:∀ x∈a.toList,S x)(sb:∀ x∈b.toList,S x)(ra:Rise L a.toList)(rb:Rise L b.toList)(hib:ib<b.size)(hk:ia+k≤a.size)(c:∀ i,i<k→pb L false b[ib] a ia i=true) :
   MI L a.toList b.toList (out++a.extract ia (ia+k)).toList (ia+k) ib:=by
 rw [Array.toList_append,ZeD];refine m.takeA ra k (by simpa using hk) fun y hy z hz=>?_
 obtain ⟨j,hj,q,rfl⟩:=Zbq hy;have:=c j hj;unfold pb at this;rw [getElem?_pos a (ia+j) q] at this;simp only [Bool.false_eq_true,if_false,Bool.not_eq_true'] at this;exact Zgj O sb rb hib (sa _ (Zaw q)) this z hz
theorem MI.extB (O:Ord S L)(m:MI L a.toList b.toList out.toList ia ib)(sa:∀ x∈a.toList,S x)(sb:∀ x∈b.toList,S x)(ra:Rise L a.toList)(rb:Rise L b.toList)(hia:ia<a.size)(hk:ib+k≤b.size)(c:∀ i,i<k→pb L true a[ia] b ib i=true) :
   MI L a.toList b.toList (out++b.extract ib (ib+k)).toList ia (ib+k):=by
 rw [Array.toList_append,ZeD];refine m.takeB rb k (by simpa using hk) fun y hy z hz=>?_
 obtain ⟨j,hj,q,rfl⟩:=Zbq hy;have:=c j hj;unfold pb at this;rw [getElem?_pos b (ib+j) q] at this;simp only [if_true] at this;exact Zgj O sa ra hia (sb _ (Zaw q)) (O.asym _ _ this) z hz
theorem MI.finA (m:MI L a.toList b.toList out.toList ia ib)(ra:Rise L a.toList)(e:ib=b.size):Mrg L a.toList b.toList (out++a.extract ia a.size++b.extract ib b.size).toList:=by
 have e1:ib=b.toList.length:=by simpa using e
 subst e1;rw [Array.toList_append,Array.toList_append,Zc4,Zc4,List.drop_of_length_le (Nat.le_refl _),List.append_nil];exact m.doneA ra
theorem MI.finB (m:MI L a.toList b.toList out.toList ia ib)(rb:Rise L b.toList)(e:ia=a.size):Mrg L a.toList b.toList (out++a.extract ia a.size++b.extract ib b.size).toList:=by
 have e1:ia=a.toList.length:=by simpa using e
 subst e1;rw [Array.toList_append,Array.toList_append,Zc4,Zc4,List.drop_of_length_le (Nat.le_refl a.toList.length),List.append_nil];exact m.doneB rb
theorem MI.finL (m:MI L a.toList b.toList out.toList ia ib)(ra:Rise L a.toList)(rb:Rise L b.toList)(e:ia+1=a.size)(hl:∀ z∈a.toList.drop (a.size-1),∀ y∈b.toList,L z y=false) :
   Mrg L a.toList b.toList (out++b.extract ib b.size++a.extract ia a.size).toList:=by
 rw [Array.toList_append,Array.toList_append,Zc4,Zc4];refine m.lastA ra rb fun y hy z hz=>hl z (by rw [← e];exact hz) y (List.mem_of_mem_drop hy)
structure MS (L:Keyed→Keyed→Bool)(st:SortSt)(a b out:Array Keyed)(ia ib:Nat)(st':SortSt):Prop where
 sm:Sm st st'
 mi:MI L a.toList b.toList out.toList ia ib
 ha:ia+1<a.size
 hb:ib<b.size
theorem MI.size {a b out:Array Keyed}{ia ib:Nat}(m:MI L a.toList b.toList out.toList ia ib):out.size=ia+ib:=by have:=m.len;simpa using this
theorem Sm.refl (st:SortSt):Sm st st:=⟨rfl,rfl,rfl,rfl⟩
theorem Sm.gal {st st':SortSt}(h:Sm st st')(g:Nat):Sm st (SortSt.mk' (kindOf st') (arrOf st') (pendingOf st') g (failedOf st')):=⟨h.kind,h.arr,h.pend,h.failed⟩
theorem Zbr {g:Nat}{st:SortSt}{Q:Unit→SortSt→Prop}(h:Q () (SortSt.mk' (kindOf st) (arrOf st) (pendingOf st) g (failedOf st))):wpS M A E s (setMinGallop' g) Q st:=by rw [ZdK];exact wpS_modify h
theorem ZfH (O:Ord S L){a:Array Keyed}{ia n:Nat}{key:Keyed}(sa:∀ x∈a.toList,S x)(ra:Rise L a.toList)(sk:S key)(hn:ia+n≤a.size):∀ i j,i≤j→j<n→pb L false key a ia j=true→pb L false key a ia i=true:=by
 intro i j hij hj h;unfold pb at *;rw [getElem?_pos a (ia+j) (by omega)] at h;rw [getElem?_pos a (ia+i) (by omega)];simp only [Bool.false_eq_true,if_false,Bool.not_eq_true'] at h ⊢;rcases Nat.lt_or_ge i j with q | q
 · have:=Zee ra (i:=ia+i) (by omega) (a[ia+j]'(by omega)) (List.mem_iff_getElem.mpr ⟨j-i-1,by simp;omega,by simp;congr 1;omega⟩)
   exact O.step (sa _ (Zaw _)) (sa _ (Zaw _)) sk h this
 · have:i=j:=by omega
   subst this;exact h
theorem Zfv (O:Ord S L){a:Array Keyed}{ia n:Nat}{key:Keyed}(sa:∀ x∈a.toList,S x)(ra:Rise L a.toList)(sk:S key)(hn:ia+n≤a.size):∀ i j,i≤j→j<n→pb L true key a ia j=true→pb L true key a ia i=true:=by
 intro i j hij hj h;unfold pb at *;rw [getElem?_pos a (ia+j) (by omega)] at h;rw [getElem?_pos a (ia+i) (by omega)];simp only [if_true] at h ⊢;rcases Nat.lt_or_ge i j with q | q
 · have:=Zee ra (i:=ia+i) (by omega) (a[ia+j]'(by omega)) (List.mem_iff_getElem.mpr ⟨j-i-1,by simp;omega,by simp;congr 1;omega⟩)
   rcases O.neg _ _ _ (sa _ (Zaw _)) (sa _ (Zaw (i:=ia+i) (by omega))) sk h with z | z
   · rw [this] at z
     cases z
   · exact z
 · have:i=j:=by omega
   subst this;exact h
theorem pb_f {a:Array Keyed}{ia i:Nat}{key:Keyed}(q:ia+i<a.size):pb L false key a ia i=!L key a[ia+i]:=by unfold pb;rw [getElem?_pos a (ia+i) q];rfl
theorem pb_t {a:Array Keyed}{ia i:Nat}{key:Keyed}(q:ia+i<a.size):pb L true key a ia i=L a[ia+i] key:=by unfold pb;rw [getElem?_pos a (ia+i) q];rfl
theorem ZiC {α β γ:Type}{X:StateT SortSt Sem α}{Q:α→SortSt→Prop}{st:SortSt}(v:β→γ→StateT SortSt Sem α)(hv:∀ q x,wpS M A E s (v q x) Q st)(h:(∀ q x,wpS M A E s (v q x) Q st)→wpS M A E s X Q st):wpS M A E s X Q st:=h hv
theorem Zej {α β γ δ:Type}{X:StateT SortSt Sem α}{Q:α→SortSt→Prop}{st:SortSt}(v:β→γ→δ→StateT SortSt Sem α)(P:γ→δ→Prop)(hv:∀ q x y,P x y→wpS M A E s (v q x y) Q st)(h:(∀ q x y,P x y→wpS M A E s (v q x y) Q st)→wpS M A E s X Q st):wpS M A E s X Q st:=h hv
theorem Zgt (C:Cmp M A E s kd S L) {a b:Array Keyed} {st:SortSt} {Q:Array Keyed→SortSt→Prop} (hk:kindOf st=kd) (sa:∀ x∈a.toList,S x) (sb:∀ x∈b.toList,S x) (ra:Rise L a.toList) (rb:Rise L b.toList) (na:0<a.size) (nb:0<b.size)
   (h0:∀ z∈a.toList,L z b[0]=false) (hl:∀ z∈a.toList.drop (a.size-1),∀ y∈b.toList,L z y=false)
   (h:∀ o st',Sm st st'→Mrg L a.toList b.toList o.toList→Q o st'):wpS M A E s (mergeLo' a b) Q st:=by
 have O:=C.ord;unfold mergeLo'
 k_delta "mergeLo"
 refine wpS_bind (wpS_lift (wpAny_rule ⟨rfl,?_⟩));refine wpS_bind (Zaz (getElem?_pos b 0 nb) ?_);dsimp -zeta only;have nil:MI L a.toList b.toList (#[]:Array Keyed).toList 0 0:=⟨by simp,.nil,fun _ z=>by simp at z,fun _ z=>by simp at z,Nat.zero_le _,Nat.zero_le _⟩
 have ini:MI L a.toList b.toList (#[b[0]]:Array Keyed).toList 0 1:=nil.pushB O sa sb ra rb na nb (h0 _ (Zaw na));by_cases e1:(1==b.size)=true
 · rw [if_pos e1]
   exact wpS_pure (h _ _ (Sm.refl _) (ini.finA ra (by simpa using e1)))
 rw [if_neg e1];by_cases e2:(0+1==a.size)=true
 · rw [if_pos e2]
   exact wpS_pure (h _ _ (Sm.refl _) (ini.finL ra rb (by simpa using e2) hl))
 rw [if_neg e2];have e1':1<b.size:=by
   have:1≠b.size:=by simpa using e1
   omega
 have e2':1<a.size:=by
   have:1≠a.size:=by simpa using e2
   omega
 refine wpS_bind (wpS_get ?_);refine wpS_bind (wpS_mono (wpS_forRange (I:=fun x c st'=>c.1=none∧MS L st a b c.2.1 c.2.2.1 c.2.2.2.1 st'∧x+1≤c.2.1.size) (Q:=fun c st'=>∃ o,c.1=some o∧Sm st st'∧Mrg L a.toList b.toList o.toList) ?step ?fin ?init) ?post)
 case init=>exact ⟨rfl,⟨Sm.refl _,ini,e2',e1'⟩,by simp⟩
 case fin =>
   rintro ⟨c1,out,ia,ib,g⟩ st' ⟨_,ms,hs⟩;dsimp only at *;have:=ms.mi.size;have:=ms.ha;have:=ms.hb;omega
 case post =>
   rintro ⟨c1,out,ia,ib,g⟩ st' ⟨o,rfl,sm,m⟩;exact wpS_pure (h _ _ sm m)
 case step =>
   rintro x ⟨c1,out,ia,ib,g⟩ st' _ hx ⟨rfl,ms,hs⟩;dsimp -zeta only at *;refine wpS_bind (wpS_mono (wpS_forRange (I:=fun _ c st'=>c.1=none∧MS L st a b c.2.1 c.2.2.1 c.2.2.2.1 st'∧x+1≤c.2.1.size)
     (Q:=fun c st'=>(∃ o,c.1=some o∧Sm st st'∧Mrg L a.toList b.toList o.toList)∨(c.1=none∧MS L st a b c.2.1 c.2.2.1 c.2.2.2.1 st'∧x+1≤c.2.1.size)) ?step1 (fun _ _ z=>.inr z) ?init1) ?post1)
   case init1=>exact ⟨rfl,ms,hs⟩
   case step1 =>
     rintro y ⟨c1,out,ia,ib,ac,bc⟩ st' _ hy ⟨rfl,ms,hs⟩;dsimp only at *;have hib:=ms.hb;have hia:ia<a.size:=by have:=ms.ha;omega
     refine wpS_bind (Zaz (getElem?_pos b ib hib) ?_);refine wpS_bind (Zaz (getElem?_pos a ia hia) ?_);refine wpS_bind (C.lt _ _ _ _ (sb _ (Zaw hib)) (sa _ (Zaw hia)) (ms.sm.kind.trans hk) ?_);dsimp only;cases e:L b[ib] a[ia] with
     | true =>
       rw [if_pos rfl];refine wpS_bind (Zaz (getElem?_pos b ib hib) ?_);have m2:=ms.mi.pushB O sa sb ra rb hia hib (C.asym _ _ e);by_cases z:(ib+1==b.size)=true
       · rw [if_pos z]
         exact wpS_pure (.inl ⟨_,rfl,ms.sm,m2.finA ra (by simpa using z)⟩)
       · rw [if_neg z]
         have z':ib+1<b.size:=by
           have:ib+1≠b.size:=by simpa using z
           omega
         split
         · exact wpS_pure (.inr ⟨rfl,⟨ms.sm,m2,ms.ha,z'⟩,by simp;omega⟩)
         · exact wpS_pure ⟨rfl,⟨ms.sm,m2,ms.ha,z'⟩,by simp;omega⟩
     | false =>
       rw [if_neg (by decide)];refine wpS_bind (Zaz (getElem?_pos a ia hia) ?_);have m2:=ms.mi.pushA O sa sb ra rb hia hib e;by_cases z:(ia+1+1==a.size)=true
       · rw [if_pos z]
         exact wpS_pure (.inl ⟨_,rfl,ms.sm,m2.finL ra rb (by simpa using z) hl⟩)
       · rw [if_neg z]
         have z':ia+1+1<a.size:=by
           have:ia+1+1≠a.size:=by simpa using z
           have:=ms.ha;omega
         split
         · exact wpS_pure (.inr ⟨rfl,⟨ms.sm,m2,z',hib⟩,by simp;omega⟩)
         · exact wpS_pure ⟨rfl,⟨ms.sm,m2,z',hib⟩,by simp;omega⟩
   case post1 =>
     rintro ⟨c1,out,ia,ib,ac,bc⟩ st' (⟨o,rfl,sm,m⟩ | ⟨rfl,ms,hs⟩)
     · exact wpS_pure ⟨o,rfl,sm,m⟩
     · dsimp -zeta only at *
       refine wpS_bind (wpS_lift (wpAny_rule ⟨rfl,?_⟩));refine wpS_bind (wpS_mono (wpS_forRange (I:=fun y c st'=>c.1=none∧MS L st a b c.2.1 c.2.2.1 c.2.2.2.1 st'∧x+1+y≤c.2.1.size)
         (Q:=fun c st'=>(∃ o,c.1=some o∧Sm st st'∧Mrg L a.toList b.toList o.toList)∨(c.1=none∧MS L st a b c.2.1 c.2.2.1 c.2.2.2.1 st'∧x+2≤c.2.1.size)) ?step2 ?fin2 ?init2) ?post2)
       case init2=>exact ⟨rfl,ms,hs⟩
       case fin2 =>
         rintro ⟨c1,out,ia,ib,g,ac,bc⟩ st' ⟨e,ms,hs⟩;refine .inr ⟨e,ms,?_⟩;dsimp only at *;omega
       case post2 =>
         rintro ⟨c1,out,ia,ib,g,ac,bc⟩ st' (⟨o,rfl,sm,m⟩ | ⟨rfl,ms,hs⟩)
         · exact wpS_pure ⟨o,rfl,sm,m⟩
         · dsimp only at *
           exact wpS_bind (Zbr (wpS_pure ⟨rfl,⟨ms.sm.gal _,ms.mi,ms.ha,ms.hb⟩,by dsimp only;omega⟩))
       case step2 =>
         rintro y ⟨c1,out,ia,ib,g,ac,bc⟩ st' _ hy ⟨e3,ms,hs⟩;dsimp -zeta only at e3 ms hs ⊢;subst e3;have hib:=ms.hb;have hia:=ms.ha
         extract_lets +onlyGivenNames -underBinder s1 n1 s2 n2 s3 n3 s4 n4 s5 n5 n6 jp
         refine ZiC jp (fun _ g=>?_) fun hj=>by clear_value jp;split<;>exact hj _ _
         dsimp -zeta only [s1,s2,s3,s4,s5,n1,n2,n3,n4,n5,n6,jp];clear jp s1 s2 s3 s4 s5 n1 n2 n3 n4 n5 n6;refine wpS_bind (Zbr ?_);refine wpS_bind (Zaz (getElem?_pos b ib hib) ?_);refine wpS_bind (Zbo C (ms.sm.kind.trans hk) (sb _ (Zaw hib)) sa (by omega) (by omega) (ZfH O sa ra (sb _ (Zaw hib)) (by omega)) fun k1 hk1 ht1 hf1=>?_);dsimp -zeta only
         extract_lets +onlyGivenNames -underBinder ac jp
         refine Zej jp (fun out ia=>∃ h:ia+1<a.size,MI L a.toList b.toList out.toList ia ib∧L (a[ia]'(by omega)) b[ib]=false∧x+1+y≤out.size) ?_ ?_
         · rintro _ out ia ⟨ha,m1,nx,hs⟩
           dsimp -zeta only [jp];clear jp;refine wpS_bind (Zaz (getElem?_pos b ib hib) ?_);have m2:=m1.pushB O sa sb ra rb (by omega) hib nx
           extract_lets +onlyGivenNames -underBinder ou n1
           by_cases z3:(ib+1==b.size)=true
           · rw [if_pos z3]
             exact wpS_pure (.inl ⟨_,rfl,ms.sm.gal _,m2.finA ra (by simpa using z3)⟩)
           rw [if_neg z3];have z3':ib+1<b.size:=by
             have:ib+1≠b.size:=by simpa using z3
             omega
           refine wpS_bind (Zaz (getElem?_pos a ia (by omega)) ?_);refine wpS_bind (Zbo C (ms.sm.kind.trans hk) (sa _ (Zaw (by omega))) sb (by omega) (by omega) (Zfv O sb rb (sa _ (Zaw (by omega))) (by omega)) fun k2 hk2 ht2 hf2=>?_);dsimp -zeta only
           extract_lets +onlyGivenNames -underBinder bc jp
           refine Zej jp (fun ou ib=>∃ h:ib<b.size,MI L a.toList b.toList ou.toList ia ib∧L b[ib] (a[ia]'(by omega))=false∧x+2+y≤ou.size) ?_ ?_
           · rintro _ ou ib ⟨hb,m3,nx2,hs⟩
             dsimp -zeta only [jp];clear jp;refine wpS_bind (Zaz (getElem?_pos a ia (by omega)) ?_);have m4:=m3.pushA O sa sb ra rb (by omega) hb nx2;dsimp only;by_cases z5:(ia+1+1==a.size)=true
             · rw [if_pos z5]
               exact wpS_pure (.inl ⟨_,rfl,ms.sm.gal _,m4.finL ra rb (by simpa using z5) hl⟩)
             rw [if_neg z5];have z5':ia+1+1<a.size:=by
               have:ia+1+1≠a.size:=by simpa using z5
               omega
             split
             · exact wpS_pure (.inr ⟨rfl,⟨ms.sm.gal _,m4,z5',hb⟩,by simp;omega⟩)
             · exact wpS_pure ⟨rfl,⟨ms.sm.gal _,m4,z5',hb⟩,by simp;omega⟩
           clear_value jp
           intro hj;by_cases kz:k2 > 0
           · rw [if_pos kz]
             have m3:=m2.extB (k:=k2) O sa sb ra rb (by omega) (by omega) ht2;dsimp only;by_cases z4:(ib+1+k2==b.size)=true
             · rw [if_pos z4]
               exact wpS_pure (.inl ⟨_,rfl,ms.sm.gal _,m3.finA ra (by simpa using z4)⟩)
             rw [if_neg z4];have:ib+1+k2≠b.size:=by simpa using z4
             have nx2:=hf2 k2 (Nat.le_refl _) (by omega);rw [pb_t (by omega)] at nx2;exact hj _ _ _ ⟨by omega,m3,nx2,by simp [ou];omega⟩
           · rw [if_neg kz]
             have nx2:=hf2 0 (by omega) (by omega);rw [pb_t (by omega)] at nx2;exact hj _ _ _ ⟨by omega,m2,nx2,by simp [ou];omega⟩
         clear_value jp
         intro hj;by_cases kz:k1 > 0
         · rw [if_pos kz]
           have m1:=ms.mi.extA (k:=k1) O sa sb ra rb hib (by omega) ht1;dsimp only;by_cases z1:(ia+k1+1==a.size)=true
           · rw [if_pos z1]
             exact wpS_pure (.inl ⟨_,rfl,ms.sm.gal _,m1.finL ra rb (by simpa using z1) hl⟩)
           rw [if_neg z1];by_cases z2:(ia+k1==a.size)=true
           · rw [if_pos z2]
             exact wpS_pure (.inl ⟨_,rfl,ms.sm.gal _,m1.finB rb (by simpa using z2)⟩)
           rw [if_neg z2];have:ia+k1+1≠a.size:=by simpa using z1
           have:ia+k1≠a.size:=by simpa using z2
           have nx:=hf1 k1 (Nat.le_refl _) (by omega);rw [pb_f (by omega)] at nx;exact hj _ _ _ ⟨by omega,m1,C.asym _ _ (by simpa using nx),by simp;omega⟩
         · rw [if_neg kz]
           have nx:=hf1 0 (by omega) (by omega);rw [pb_f (by omega)] at nx;exact hj _ _ _ ⟨hia,ms.mi,C.asym _ _ (by simpa using nx),hs⟩
end
end Srt
namespace Srt
open PySem PyProof.Rows
section
variable {S:Keyed→Prop}{L:Keyed→Keyed→Bool}
structure MH (L:Keyed→Keyed→Bool)(al bl ol:List Keyed)(na nb:Nat):Prop where
 perm:ol.Perm (al.drop na++bl.drop nb)
 rise:Rise L ol
 lea:∀ x∈ol,∀ y∈al.take na,L x y=false
 leb:∀ x∈ol,∀ y∈bl.take nb,L x y=false
 ha:na≤al.length
 hb:nb≤bl.length
theorem MH.len {al bl ol:List Keyed}{na nb:Nat}(h:MH L al bl ol na nb):ol.length+na+nb=al.length+bl.length:=by rw [h.perm.length_eq,List.length_append,List.length_drop,List.length_drop];have:=h.ha;have:=h.hb;omega
theorem ZgJ {α:Type}{l:List α}{i n:Nat}{y:α}(hi:i≤n)(h:y∈l.take i):y∈l.take n:=by
 have:l.take i=(l.take n).take i:=by rw [List.take_take,Nat.min_eq_left hi]
 rw [this] at h;exact List.mem_of_mem_take h
theorem Zhn {α:Type}(l:List α){i n:Nat}(h:i≤n):l.drop i=(l.take n).drop i++l.drop n:=by
 rw [List.drop_take];have:l.drop n=(l.drop i).drop (n-i):=by rw [List.drop_drop];congr 1;omega
 rw [this,List.take_append_drop]
theorem Zcs {l:List Keyed}(h:Rise L l){i n:Nat}(hi:i≤n):∀ x∈(l.take n).drop i,∀ y∈l.take i,L x y=false:=by intro x hx y hy;have h2:Rise L (l.take n):=h.sublist (List.take_sublist _ _);rw [← List.take_append_drop i (l.take n)] at h2;rw [show l.take i=(l.take n).take i by rw [List.take_take,Nat.min_eq_left hi]] at hy;exact (List.pairwise_append.mp h2).2.2 y hy x hx
theorem MH.takeA {al bl ol:List Keyed}{na nb:Nat}(h:MH L al bl ol na nb)(ra:Rise L al)(i:Nat)(hi:i≤na)(c:∀ y∈(al.take na).drop i,∀ z∈bl.take nb,L y z=false):MH L al bl ((al.take na).drop i++ol) i nb where
 perm:=by rw [Zhn al hi,List.append_assoc];exact List.Perm.append_left _ h.perm
 rise:=List.pairwise_append.mpr ⟨(ra.sublist (List.take_sublist _ _)).sublist (List.drop_sublist _ _),h.rise,fun x hx y hy=>h.lea y hy x (List.mem_of_mem_drop hx)⟩
 lea:=fun x hx y hy=>by
   rcases List.mem_append.mp hx with z | z
   · exact Zcs ra hi x z y hy
   · exact h.lea x z y (ZgJ hi hy)
 leb:=fun x hx y hy=>by
   rcases List.mem_append.mp hx with z | z
   · exact c x z y hy
   · exact h.leb x z y hy
 ha:=Nat.le_trans hi h.ha
 hb:=h.hb
theorem MH.takeB {al bl ol:List Keyed}{na nb:Nat}(h:MH L al bl ol na nb)(rb:Rise L bl)(i:Nat)(hi:i≤nb)(c:∀ y∈(bl.take nb).drop i,∀ z∈al.take na,L y z=false):MH L al bl ((bl.take nb).drop i++ol) na i where
 perm:=by rw [Zhn bl hi];refine (List.Perm.append_left _ h.perm).trans ?_;rw [← List.append_assoc,← List.append_assoc];exact List.Perm.append_right _ List.perm_append_comm
 rise:=List.pairwise_append.mpr ⟨(rb.sublist (List.take_sublist _ _)).sublist (List.drop_sublist _ _),h.rise,fun x hx y hy=>h.leb y hy x (List.mem_of_mem_drop hx)⟩
 lea:=fun x hx y hy=>by
   rcases List.mem_append.mp hx with z | z
   · exact c x z y hy
   · exact h.lea x z y hy
 leb:=fun x hx y hy=>by
   rcases List.mem_append.mp hx with z | z
   · exact Zcs rb hi x z y hy
   · exact h.leb x z y (ZgJ hi hy)
 ha:=h.ha
 hb:=Nat.le_trans hi h.hb
theorem MH.doneB {al bl ol:List Keyed}{nb:Nat}(h:MH L al bl ol 0 nb)(rb:Rise L bl):Mrg L al bl (bl.take nb++ol):=by
 constructor
 · refine (List.Perm.append_left _ h.perm).trans ?_
   rw [List.drop_zero];refine (List.Perm.append_left _ List.perm_append_comm).trans ?_;rw [← List.append_assoc,List.take_append_drop];exact List.perm_append_comm
 · exact List.pairwise_append.mpr ⟨rb.sublist (List.take_sublist _ _),h.rise,fun x hx y hy=>h.leb y hy x hx⟩
theorem MH.doneA {al bl ol:List Keyed}{na:Nat}(h:MH L al bl ol na 0)(ra:Rise L al):Mrg L al bl (al.take na++ol):=by
 constructor
 · refine (List.Perm.append_left _ h.perm).trans ?_
   rw [List.drop_zero,← List.append_assoc,List.take_append_drop]
 · exact List.pairwise_append.mpr ⟨ra.sublist (List.take_sublist _ _),h.rise,fun x hx y hy=>h.lea y hy x hx⟩
theorem MH.firstB {al bl ol:List Keyed}{na nb:Nat}(h:MH L al bl ol na nb)(ra:Rise L al)(rb:Rise L bl)(c:∀ y∈bl.take nb,∀ z∈al.take na,L z y=false):Mrg L al bl (bl.take nb++al.take na++ol):=by
 constructor
 · refine (List.Perm.append_left _ h.perm).trans ?_
   have e:bl.take nb++al.take na++(al.drop na++bl.drop nb)=bl.take nb++(al++bl.drop nb):=by rw [List.append_assoc,← List.append_assoc (al.take na),List.take_append_drop]
   rw [e];refine (List.Perm.append_left _ List.perm_append_comm).trans ?_;rw [← List.append_assoc,List.take_append_drop];exact List.perm_append_comm
 · refine List.pairwise_append.mpr ⟨List.pairwise_append.mpr ⟨rb.sublist (List.take_sublist _ _),ra.sublist (List.take_sublist _ _),c⟩,h.rise,fun x hx y hy=>?_⟩
   rcases List.mem_append.mp hx with z | z
   · exact h.leb y hy x z
   · exact h.lea y hy x z
variable {a b out:Array Keyed}{na nb k:Nat}
theorem ZgF {a:Array Keyed}{i:Nat}(h:i<a.size):(a.toList.take (i+1)).drop i=[a[i]]:=by rw [List.drop_take,ZbI h,show i+1-i=1 by omega];rfl
theorem ZjG {a:Array Keyed}{n:Nat}{x:Keyed}(h:x∈a.toList.take n):∃ j,j<n∧∃ q:j<a.size,x=a[j]:=by have:=Zbq (a:=a) (i:=0) (k:=n) (x:=x) (by simpa using h);obtain ⟨j,hj,q,e⟩:=this;exact ⟨j,hj,by omega,by simpa using e⟩
theorem get_le {a:Array Keyed}(ra:Rise L a.toList)(O:Ord S L){i j:Nat}(hij:i≤j)(hj:j<a.size)(ir:L a[j] a[j]=false):L a[j] (a[i]'(by omega))=false:=by
 rcases Nat.lt_or_ge i j with q | q
 · exact Zee ra (i:=i) (by omega) a[j] (List.mem_iff_getElem.mpr ⟨j-i-1,by simp;omega,by simp;congr 1;omega⟩)
 · have:i=j:=by omega
   subst this;exact ir
theorem Ord.irr (O:Ord S L)(x:Keyed):L x x=false:=by
 cases e:L x x with
 | false=>rfl
 | true=>rw [O.asym x x e] at e;cases e
theorem Zgg (O:Ord S L)(sa:∀ x∈a.toList,S x)(ra:Rise L a.toList){n:Nat}(hn:n<a.size){y:Keyed}(sy:S y)(c:L y a[n]=false):∀ z∈a.toList.take (n+1),L y z=false:=by intro z hz;obtain ⟨j,hj,q,rfl⟩:=ZjG hz;exact O.step (sa _ (Zaw q)) (sa _ (Zaw hn)) sy c (get_le ra O (by omega) hn (O.irr _))
theorem ZgR (out:Array Keyed)(x:Keyed):(out.push x).reverse.toList=x::out.reverse.toList:=by simp
theorem Zit (out p:Array Keyed):(out++p.reverse).reverse.toList=p.toList++out.reverse.toList:=by simp
theorem MH.pushA (O:Ord S L)(m:MH L a.toList b.toList out.reverse.toList (na+1) (nb+1))(sa:∀ x∈a.toList,S x)(sb:∀ x∈b.toList,S x)(ra:Rise L a.toList)(rb:Rise L b.toList)(hna:na<a.size)(hnb:nb<b.size)(c:L a[na] b[nb]=false) :
   MH L a.toList b.toList (out.push a[na]).reverse.toList na (nb+1):=by
 have e:=ZgF hna;have:=m.takeA ra na (Nat.le_succ _) (by
   rw [e];intro y hy z hz;have hy:y=a[na]:=by simpa using hy
   subst hy;exact Zgg O sb rb hnb (sa _ (Zaw hna)) c z hz)
 rw [e] at this;rw [ZgR];exact this
theorem MH.pushB (O:Ord S L)(m:MH L a.toList b.toList out.reverse.toList (na+1) (nb+1))(sa:∀ x∈a.toList,S x)(sb:∀ x∈b.toList,S x)(ra:Rise L a.toList)(rb:Rise L b.toList)(hna:na<a.size)(hnb:nb<b.size)(c:L b[nb] a[na]=false) :
   MH L a.toList b.toList (out.push b[nb]).reverse.toList (na+1) nb:=by
 have e:=ZgF hnb;have:=m.takeB rb nb (Nat.le_succ _) (by
   rw [e];intro y hy z hz;have hy:y=b[nb]:=by simpa using hy
   subst hy;exact Zgg O sa ra hna (sb _ (Zaw hnb)) c z hz)
 rw [e] at this;rw [ZgR];exact this
theorem ZcY (a:Array Keyed){i n:Nat}(h:i≤n):(a.extract i n).toList=(a.toList.take n).drop i:=by simp only [Array.toList_extract,List.extract_eq_take_drop,List.drop_take]
theorem Zfh {a:Array Keyed}{i n:Nat}{x:Keyed}(h:x∈(a.toList.take n).drop i):∃ j,i≤j∧j<n∧∃ q:j<a.size,x=a[j]:=by rw [List.drop_take] at h;obtain ⟨j,hj,q,e⟩:=Zbq h;exact ⟨i+j,by omega,by omega,q,e⟩
theorem MH.extA (O:Ord S L)(m:MH L a.toList b.toList out.reverse.toList na (nb+1))(sa:∀ x∈a.toList,S x)(sb:∀ x∈b.toList,S x)(ra:Rise L a.toList)(rb:Rise L b.toList)(hnb:nb<b.size)(hk:k≤na)(c:∀ i,k≤i→i<na→pb L false b[nb] a 0 i=false) :
   MH L a.toList b.toList (out++(a.extract k na).reverse).reverse.toList k (nb+1):=by
 rw [Zit,ZcY a hk];refine m.takeA ra k hk fun y hy z hz=>?_
 obtain ⟨j,hj,hj2,q,rfl⟩:=Zfh hy;have:=c j hj hj2;rw [pb_f (by omega)] at this;have this:L b[nb] a[j]=true:=by simpa using this
 exact Zgg O sb rb hnb (sa _ (Zaw q)) (O.asym _ _ this) z hz
theorem MH.extB (O:Ord S L)(m:MH L a.toList b.toList out.reverse.toList (na+1) nb)(sa:∀ x∈a.toList,S x)(sb:∀ x∈b.toList,S x)(ra:Rise L a.toList)(rb:Rise L b.toList)(hna:na<a.size)(hk:k≤nb)(c:∀ i,k≤i→i<nb→pb L true a[na] b 0 i=false) :
   MH L a.toList b.toList (out++(b.extract k nb).reverse).reverse.toList (na+1) k:=by
 rw [Zit,ZcY b hk];refine m.takeB rb k hk fun y hy z hz=>?_
 obtain ⟨j,hj,hj2,q,rfl⟩:=Zfh hy;have:=c j hj hj2;rw [pb_t (by omega)] at this;have this:L b[j] a[na]=false:=by simpa using this
 exact Zgg O sa ra hna (sb _ (Zaw q)) this z hz
theorem ext0 (a:Array Keyed)(n:Nat):(a.extract 0 n).toList=a.toList.take n:=by rw [ZcY a (Nat.zero_le n),List.drop_zero]
theorem MH.fin0 (m:MH L a.toList b.toList out.reverse.toList na nb)(rb:Rise L b.toList)(e:na=0):Mrg L a.toList b.toList (a.extract 0 na++b.extract 0 nb++out.reverse).toList:=by subst e;rw [Array.toList_append,Array.toList_append,ext0,ext0,List.take_zero,List.nil_append];exact m.doneB rb
theorem MH.fin0b (m:MH L a.toList b.toList out.reverse.toList na nb)(ra:Rise L a.toList)(e:nb=0):Mrg L a.toList b.toList (a.extract 0 na++b.extract 0 nb++out.reverse).toList:=by subst e;rw [Array.toList_append,Array.toList_append,ext0,ext0,List.take_zero,List.append_nil];exact m.doneA ra
theorem MH.fin1 (m:MH L a.toList b.toList out.reverse.toList na nb)(ra:Rise L a.toList)(rb:Rise L b.toList)(e:nb=1)(h0:∀ z∈a.toList,∀ y∈b.toList.take 1,L z y=false):Mrg L a.toList b.toList (b.extract 0 nb++a.extract 0 na++out.reverse).toList:=by subst e;rw [Array.toList_append,Array.toList_append,ext0,ext0];exact m.firstB ra rb fun y hy z hz=>h0 z (List.mem_of_mem_take hz) y hy
theorem MH.size (m:MH L a.toList b.toList out.reverse.toList na nb):out.size+na+nb=a.size+b.size:=by have:=m.len;simpa using this
end
def mergeHi':Array Keyed→Array Keyed→StateT SortSt Sem (Array Keyed):=sortPriv% PySem.Builtin.mergeHi
section
variable {M:Model}{A:Around}{E:Value→Shared→Prop}{s:Shared}{kd:SortKind}{S:Keyed→Prop}{L:Keyed→Keyed→Bool}
structure MHS (L:Keyed→Keyed→Bool)(st:SortSt)(a b out:Array Keyed)(na nb:Nat)(st':SortSt):Prop where
 sm:Sm st st'
 mi:MH L a.toList b.toList out.reverse.toList na nb
 ha:0<na
 hb:1<nb
theorem pb0_f {a:Array Keyed}{i:Nat}{key:Keyed}(q:i<a.size):pb L false key a 0 i=!L key a[i]:=by unfold pb;rw [Nat.zero_add,getElem?_pos a i q];rfl
theorem pb0_t {a:Array Keyed}{i:Nat}{key:Keyed}(q:i<a.size):pb L true key a 0 i=L a[i] key:=by unfold pb;rw [Nat.zero_add,getElem?_pos a i q];rfl
variable {a b out:Array Keyed}{na nb k:Nat}
theorem MH.hA (m:MH L a.toList b.toList out.reverse.toList na nb):na≤a.size:=by simpa using m.ha
theorem MH.hB (m:MH L a.toList b.toList out.reverse.toList na nb):nb≤b.size:=by simpa using m.hb
theorem MH.putA (O:Ord S L)(m:MH L a.toList b.toList out.reverse.toList na nb)(sa:∀ x∈a.toList,S x)(sb:∀ x∈b.toList,S x)(ra:Rise L a.toList)(rb:Rise L b.toList)(hna:0<na)(hnb:0<nb)(qa:na-1<a.size)(qb:nb-1<b.size)(c:L a[na-1] b[nb-1]=false) :
   MH L a.toList b.toList (out.push a[na-1]).reverse.toList (na-1) nb:=by
 obtain ⟨i,rfl⟩:∃ i,na=i+1:=⟨na-1,by omega⟩
 obtain ⟨j,rfl⟩:∃ j,nb=j+1:=⟨nb-1,by omega⟩
 exact m.pushA O sa sb ra rb qa qb c
theorem MH.putB (O:Ord S L)(m:MH L a.toList b.toList out.reverse.toList na nb)(sa:∀ x∈a.toList,S x)(sb:∀ x∈b.toList,S x)(ra:Rise L a.toList)(rb:Rise L b.toList)(hna:0<na)(hnb:0<nb)(qa:na-1<a.size)(qb:nb-1<b.size)(c:L b[nb-1] a[na-1]=false) :
   MH L a.toList b.toList (out.push b[nb-1]).reverse.toList na (nb-1):=by
 obtain ⟨i,rfl⟩:∃ i,na=i+1:=⟨na-1,by omega⟩
 obtain ⟨j,rfl⟩:∃ j,nb=j+1:=⟨nb-1,by omega⟩
 exact m.pushB O sa sb ra rb qa qb c
theorem MH.putAs (O:Ord S L)(m:MH L a.toList b.toList out.reverse.toList na nb)(sa:∀ x∈a.toList,S x)(sb:∀ x∈b.toList,S x)(ra:Rise L a.toList)(rb:Rise L b.toList)(hnb:0<nb)(qb:nb-1<b.size)(hk:k≤na)(c:∀ i,k≤i→i<na→pb L false b[nb-1] a 0 i=false) :
   MH L a.toList b.toList (out++(a.extract k na).reverse).reverse.toList k nb:=by
 obtain ⟨j,rfl⟩:∃ j,nb=j+1:=⟨nb-1,by omega⟩
 exact m.extA O sa sb ra rb qb hk c
theorem MH.putBs (O:Ord S L)(m:MH L a.toList b.toList out.reverse.toList na nb)(sa:∀ x∈a.toList,S x)(sb:∀ x∈b.toList,S x)(ra:Rise L a.toList)(rb:Rise L b.toList)(hna:0<na)(qa:na-1<a.size)(hk:k≤nb)(c:∀ i,k≤i→i<nb→pb L true a[na-1] b 0 i=false) :
   MH L a.toList b.toList (out++(b.extract k nb).reverse).reverse.toList na k:=by
 obtain ⟨j,rfl⟩:∃ j,na=j+1:=⟨na-1,by omega⟩
 exact m.extB O sa sb ra rb qa hk c
theorem Zhf (C:Cmp M A E s kd S L) {a b:Array Keyed} {st:SortSt} {Q:Array Keyed→SortSt→Prop} (hk:kindOf st=kd) (sa:∀ x∈a.toList,S x) (sb:∀ x∈b.toList,S x) (ra:Rise L a.toList) (rb:Rise L b.toList) (na:0<a.size) (nb:0<b.size)
   (h0:∀ z∈a.toList,∀ y∈b.toList.take 1,L z y=false) (hl:∀ y∈b.toList,L (a[a.size-1]'(by omega)) y=false)
   (h:∀ o st',Sm st st'→Mrg L a.toList b.toList o.toList→Q o st'):wpS M A E s (mergeHi' a b) Q st:=by
 have O:=C.ord;unfold mergeHi'
 k_delta "mergeHi"
 refine wpS_bind (wpS_lift (wpAny_rule ⟨rfl,?_⟩));refine wpS_bind (Zaz (getElem?_pos a (a.size-1) (by omega)) ?_);dsimp -zeta only;have nil:MH L a.toList b.toList (#[]:Array Keyed).reverse.toList a.size b.size:=⟨by simp,.nil,fun _ z=>by simp at z,fun _ z=>by simp at z,by simp,by simp⟩
 have ini:MH L a.toList b.toList (#[a[a.size-1]'(by omega)]:Array Keyed).reverse.toList (a.size-1) b.size:=nil.putA O sa sb ra rb na nb (by omega) (by omega) (hl _ (Zaw (by omega)));by_cases e1:(a.size-1==0)=true
 · rw [if_pos e1]
   exact wpS_pure (h _ _ (Sm.refl _) (ini.fin0 rb (by simpa using e1)))
 rw [if_neg e1];by_cases e2:(b.size==1)=true
 · rw [if_pos e2]
   exact wpS_pure (h _ _ (Sm.refl _) (ini.fin1 ra rb (by simpa using e2) h0))
 rw [if_neg e2];have e1':0<a.size-1:=by
   have:a.size-1≠0:=by simpa using e1
   omega
 have e2':1<b.size:=by
   have:b.size≠1:=by simpa using e2
   omega
 refine wpS_bind (wpS_get ?_)
 skip
 refine wpS_bind (wpS_mono (wpS_forRange (I:=fun x c st'=>c.1=none∧MHS L st a b c.2.2.2.1 c.2.1 c.2.2.1 st'∧x+1≤c.2.2.2.1.size) (Q:=fun c st'=>∃ o,c.1=some o∧Sm st st'∧Mrg L a.toList b.toList o.toList) ?step ?fin ?init) ?post)
 case init=>exact ⟨rfl,⟨Sm.refl _,ini,e1',e2'⟩,by simp⟩
 case fin =>
   rintro ⟨c1,na,nb,out,g⟩ st' ⟨_,ms,hs⟩;dsimp only at *;have:=ms.mi.size;have:=ms.ha;have:=ms.hb;omega
 case post =>
   rintro ⟨c1,na,nb,out,g⟩ st' ⟨o,rfl,sm,m⟩;exact wpS_pure (h _ _ sm m)
 case step =>
   rintro x ⟨c1,na,nb,out,g⟩ st' _ hx ⟨rfl,ms,hs⟩;dsimp -zeta only at *;refine wpS_bind (wpS_mono (wpS_forRange (I:=fun _ c st'=>c.1=none∧MHS L st a b c.2.2.2.1 c.2.1 c.2.2.1 st'∧x+1≤c.2.2.2.1.size)
     (Q:=fun c st'=>(∃ o,c.1=some o∧Sm st st'∧Mrg L a.toList b.toList o.toList)∨(c.1=none∧MHS L st a b c.2.2.2.1 c.2.1 c.2.2.1 st'∧x+1≤c.2.2.2.1.size)) ?step1 (fun _ _ z=>.inr z) ?init1) ?post1)
   case init1=>exact ⟨rfl,ms,hs⟩
   case step1 =>
     rintro y ⟨c1,na,nb,out,ac,bc⟩ st' _ hy ⟨rfl,ms,hs⟩;dsimp only at *;have hA:=ms.mi.hA;have hB:=ms.mi.hB;have ha:=ms.ha;have hb:=ms.hb;refine wpS_bind (Zaz (getElem?_pos b (nb-1) (by omega)) ?_);refine wpS_bind (Zaz (getElem?_pos a (na-1) (by omega)) ?_);refine wpS_bind (C.lt _ _ _ _ (sb _ (Zaw (by omega))) (sa _ (Zaw (by omega))) (ms.sm.kind.trans hk) ?_);dsimp only;cases e:L (b[nb-1]'(by omega)) (a[na-1]'(by omega)) with
     | true =>
       rw [if_pos rfl];refine wpS_bind (Zaz (getElem?_pos a (na-1) (by omega)) ?_);have m2:=ms.mi.putA O sa sb ra rb (by omega) (by omega) (by omega) (by omega) (C.asym _ _ e);by_cases z:(na-1==0)=true
       · rw [if_pos z]
         exact wpS_pure (.inl ⟨_,rfl,ms.sm,m2.fin0 rb (by simpa using z)⟩)
       · rw [if_neg z]
         have z':0<na-1:=by
           have:na-1≠0:=by simpa using z
           omega
         split
         · exact wpS_pure (.inr ⟨rfl,⟨ms.sm,m2,z',hb⟩,by simp;omega⟩)
         · exact wpS_pure ⟨rfl,⟨ms.sm,m2,z',hb⟩,by simp;omega⟩
     | false =>
       rw [if_neg (by decide)];refine wpS_bind (Zaz (getElem?_pos b (nb-1) (by omega)) ?_);have m2:=ms.mi.putB O sa sb ra rb (by omega) (by omega) (by omega) (by omega) e;by_cases z:(nb-1==1)=true
       · rw [if_pos z]
         exact wpS_pure (.inl ⟨_,rfl,ms.sm,m2.fin1 ra rb (by simpa using z) h0⟩)
       · rw [if_neg z]
         have z':1<nb-1:=by
           have:nb-1≠1:=by simpa using z
           omega
         split
         · exact wpS_pure (.inr ⟨rfl,⟨ms.sm,m2,ha,z'⟩,by simp;omega⟩)
         · exact wpS_pure ⟨rfl,⟨ms.sm,m2,ha,z'⟩,by simp;omega⟩
   case post1 =>
     rintro ⟨c1,na,nb,out,ac,bc⟩ st' (⟨o,rfl,sm,m⟩ | ⟨rfl,ms,hs⟩)
     · exact wpS_pure ⟨o,rfl,sm,m⟩
     · iterate 10 skip
       dsimp (config:={ zeta:=false }) only at *;refine wpS_bind (wpS_lift (wpAny_rule ⟨rfl,?_⟩))
       skip
       refine wpS_bind (wpS_mono (wpS_forRange (I:=fun y c st'=>c.1=none∧MHS L st a b c.2.2.2.1 c.2.1 c.2.2.1 st'∧x+1+y≤c.2.2.2.1.size)
         (Q:=fun c st'=>(∃ o,c.1=some o∧Sm st st'∧Mrg L a.toList b.toList o.toList)∨(c.1=none∧MHS L st a b c.2.2.2.1 c.2.1 c.2.2.1 st'∧x+2≤c.2.2.2.1.size)) ?step2 ?fin2 ?init2) ?post2)
       case init2=>exact ⟨rfl,ms,hs⟩
       case fin2 =>
         rintro ⟨c1,na,nb,out,g,ac,bc⟩ st' ⟨e,ms,hs⟩;refine .inr ⟨e,ms,?_⟩;dsimp only at *;omega
       case post2 =>
         rintro ⟨c1,na,nb,out,g,ac,bc⟩ st' (⟨o,rfl,sm,m⟩ | ⟨rfl,ms,hs⟩)
         · exact wpS_pure ⟨o,rfl,sm,m⟩
         · dsimp only at *
           exact wpS_bind (Zbr (wpS_pure ⟨rfl,⟨ms.sm.gal _,ms.mi,ms.ha,ms.hb⟩,by dsimp only;omega⟩))
       case step2 =>
         rintro y ⟨c1,na,nb,out,g,ac,bc⟩ st' _ hy ⟨e3,ms,hs⟩;dsimp -zeta only at e3 ms hs ⊢;subst e3;have hA:=ms.mi.hA;have hB:=ms.mi.hB;have ha:=ms.ha;have hb:=ms.hb;have mz:=ms.mi.size
         extract_lets +onlyGivenNames -underBinder s1 n1 s2 n2 s3 n3 s4 n4 s5 n5 n6 jp
         refine ZiC jp (fun _ g=>?_) fun hj=>by clear_value jp;split<;>exact hj _ _
         dsimp -zeta only [s1,s2,s3,s4,s5,n1,n2,n3,n4,n5,n6,jp];clear jp s1 s2 s3 s4 s5 n1 n2 n3 n4 n5 n6;refine wpS_bind (Zbr ?_);refine wpS_bind (Zaz (getElem?_pos b (nb-1) (by omega)) ?_);refine wpS_bind (Zbo C (ms.sm.kind.trans hk) (sb _ (Zaw (by omega))) sa (by omega) (by omega) (ZfH O sa ra (sb _ (Zaw (by omega))) (by omega)) fun k1 hk1 ht1 hf1=>?_);dsimp -zeta only
         extract_lets +onlyGivenNames -underBinder k ac jp
         refine Zej jp (fun na out=>∃ _:0<na∧na≤a.size,MH L a.toList b.toList out.reverse.toList na nb∧L (b[nb-1]'(by omega)) (a[na-1]'(by omega))=false∧x+1+y≤out.size) ?_ ?_
         · rintro _ na out ⟨_,m1,nx,hs⟩
           dsimp -zeta only [jp];clear jp;refine wpS_bind (Zaz (getElem?_pos b (nb-1) (by omega)) ?_);have m2:=m1.putB O sa sb ra rb (by omega) (by omega) (by omega) (by omega) nx
           extract_lets +onlyGivenNames -underBinder ou
           by_cases z3:(nb-1==1)=true
           · rw [if_pos z3]
             exact wpS_pure (.inl ⟨_,rfl,ms.sm.gal _,m2.fin1 ra rb (by simpa using z3) h0⟩)
           rw [if_neg z3];have z3':1<nb-1:=by
             have:nb-1≠1:=by simpa using z3
             omega
           refine wpS_bind (Zaz (getElem?_pos a (na-1) (by omega)) ?_);refine wpS_bind (Zbo C (ms.sm.kind.trans hk) (sa _ (Zaw (by omega))) sb (by omega) (by omega) (Zfv O sb rb (sa _ (Zaw (by omega))) (by omega)) fun k2 hk2 ht2 hf2=>?_);dsimp -zeta only
           extract_lets +onlyGivenNames -underBinder k bc jp
           refine Zej jp (fun nb ou=>∃ _:1<nb∧nb≤b.size,MH L a.toList b.toList ou.reverse.toList na nb∧L (a[na-1]'(by omega)) (b[nb-1]'(by omega))=false∧x+2+y≤ou.size) ?_ ?_
           · rintro _ nb ou ⟨⟨h1,_⟩,m3,nx2,hs⟩
             dsimp -zeta only [jp];clear jp;refine wpS_bind (Zaz (getElem?_pos a (na-1) (by omega)) ?_);have m4:=m3.putA O sa sb ra rb (by omega) (by omega) (by omega) (by omega) nx2;dsimp only;by_cases z5:(na-1==0)=true
             · rw [if_pos z5]
               exact wpS_pure (.inl ⟨_,rfl,ms.sm.gal _,m4.fin0 rb (by simpa using z5)⟩)
             rw [if_neg z5];have z5':0<na-1:=by
               have:na-1≠0:=by simpa using z5
               omega
             split
             · exact wpS_pure (.inr ⟨rfl,⟨ms.sm.gal _,m4,z5',h1⟩,by simp;omega⟩)
             · exact wpS_pure ⟨rfl,⟨ms.sm.gal _,m4,z5',h1⟩,by simp;omega⟩
           clear_value jp
           intro hj;have nx2:∀ n,(hn:0<n)→n≤k2→(hb:n≤b.size)→L (a[na-1]'(by omega)) (b[n-1]'(by omega))=false:=fun n hn hk hb=>by
             have:=ht2 (n-1) (by omega);rw [pb0_t (by omega)] at this;exact C.asym _ _ this
           by_cases kz:k > 0
           · rw [if_pos kz]
             have m3:=m2.putBs (k:=k2) O sa sb ra rb (by omega) (by omega) hk2 hf2;dsimp only;by_cases z4:(k2==1)=true
             · rw [if_pos z4]
               exact wpS_pure (.inl ⟨_,rfl,ms.sm.gal _,m3.fin1 ra rb (by simpa using z4) h0⟩)
             rw [if_neg z4];by_cases z6:(k2==0)=true
             · rw [if_pos z6]
               exact wpS_pure (.inl ⟨_,rfl,ms.sm.gal _,m3.fin0b ra (by simpa using z6)⟩)
             rw [if_neg z6];have:k2≠1:=by simpa using z4
             have:k2≠0:=by simpa using z6
             exact hj _ _ _ ⟨⟨by omega,by omega⟩,m3,nx2 _ (by omega) (by omega) (by omega),by simp [ou];omega⟩
           · rw [if_neg kz]
             exact hj _ _ _ ⟨⟨by omega,by omega⟩,m2,nx2 _ (by omega) (by omega) (by omega),by simp [ou];omega⟩
         clear_value jp
         intro hj;have nx:∀ n,(hn:0<n)→n≤k1→(hb:n≤a.size)→L (b[nb-1]'(by omega)) (a[n-1]'(by omega))=false:=fun n hn hk hb=>by
           have:=ht1 (n-1) (by omega);rw [pb0_f (by omega)] at this;simpa using this
         by_cases kz:k > 0
         · rw [if_pos kz]
           have m1:=ms.mi.putAs (k:=k1) O sa sb ra rb (by omega) (by omega) hk1 hf1;dsimp only;by_cases z1:(k1==0)=true
           · rw [if_pos z1]
             exact wpS_pure (.inl ⟨_,rfl,ms.sm.gal _,m1.fin0 rb (by simpa using z1)⟩)
           rw [if_neg z1];have:k1≠0:=by simpa using z1
           exact hj _ _ _ ⟨⟨by omega,by omega⟩,m1,nx _ (by omega) (by omega) (by omega),by simp;omega⟩
         · rw [if_neg kz]
           exact hj _ _ _ ⟨⟨by omega,by omega⟩,ms.mi,nx _ (by omega) (by omega) (by omega),hs⟩
end
end Srt
namespace Srt
open PySem PyProof.Rows
section
variable {S:Keyed→Prop}{L:Keyed→Keyed→Bool}
theorem Zdo {arr:Array Keyed}{pre A rest:List Keyed}(e:arr.toList=pre++(A++rest)){i:Nat}(hi:i<A.length):arr[pre.length+i]?=some A[i]:=by rw [← Array.getElem?_toList,e,List.getElem?_append_right (by omega),show pre.length+i-pre.length=i by omega,List.getElem?_append_left hi];exact List.getElem?_eq_getElem hi
theorem seg_f {arr:Array Keyed}{pre A rest:List Keyed}(e:arr.toList=pre++(A++rest)){key:Keyed}{i:Nat}(hi:i<A.length):pb L false key arr pre.length i=!L key A[i]:=by unfold pb;rw [Zdo e hi];rfl
theorem seg_t {arr:Array Keyed}{pre A rest:List Keyed}(e:arr.toList=pre++(A++rest)){key:Keyed}{i:Nat}(hi:i<A.length):pb L true key arr pre.length i=L A[i] key:=by unfold pb;rw [Zdo e hi];rfl
theorem ZbE {A:List Keyed}(r:Rise L A){i j:Nat}(hij:i<j)(hj:j<A.length):L A[j] (A[i]'(by omega))=false:=List.pairwise_iff_getElem.mp r i j (by omega) hj hij
theorem ZhW (O:Ord S L){arr:Array Keyed}{pre A rest:List Keyed}(e:arr.toList=pre++(A++rest))(r:Rise L A)(sA:∀ x∈A,S x){key:Keyed}(sk:S key) :
   ∀ i j,i≤j→j<A.length→pb L false key arr pre.length j=true→pb L false key arr pre.length i=true:=by
 intro i j hij hj h;rw [seg_f e hj] at h;rw [seg_f e (by omega)];rcases Nat.lt_or_ge i j with q | q
 · have h:L key A[j]=false:=by simpa using h
   have:=O.step (sA _ (List.getElem_mem (by omega))) (sA _ (List.getElem_mem hj)) sk h (ZbE r q hj);simpa using this
 · have:i=j:=by omega
   subst this;exact h
theorem ZhA (O:Ord S L){arr:Array Keyed}{pre A rest:List Keyed}(e:arr.toList=pre++(A++rest))(r:Rise L A)(sA:∀ x∈A,S x){key:Keyed}(sk:S key) :
   ∀ i j,i≤j→j<A.length→pb L true key arr pre.length j=true→pb L true key arr pre.length i=true:=by
 intro i j hij hj h;rw [seg_t e hj] at h;rw [seg_t e (by omega)];rcases Nat.lt_or_ge i j with q | q
 · rcases O.neg _ (A[i]'(by omega)) _ (sA _ (List.getElem_mem hj)) (sA _ (List.getElem_mem (by omega))) sk h with z | z
   · rw [ZbE r q hj] at z
     cases z
   · exact z
 · have:i=j:=by omega
   subst this;exact h
theorem ZcF {A:List Keyed}{k:Nat}{x:Keyed}(h:x∈A.take k):∃ i,i<k∧∃ q:i<A.length,x=A[i]:=by obtain ⟨j,hj,e⟩:=List.mem_iff_getElem.mp h;rw [List.length_take] at hj;exact ⟨j,by omega,by omega,by rw [← e];simp⟩
theorem ZcD {A:List Keyed}{k:Nat}{x:Keyed}(h:x∈A.drop k):∃ i,k≤i∧∃ q:i<A.length,x=A[i]:=by obtain ⟨j,hj,e⟩:=List.mem_iff_getElem.mp h;rw [List.length_drop] at hj;exact ⟨k+j,by omega,by omega,by rw [← e];simp⟩
theorem ZiS:∀ (l:List Keyed) (n:Nat) (sa:Nat) (arr:Array Keyed),sa+n+l.length≤arr.size →
   ((l.zipIdx n).foldl (fun (a:Array Keyed) (q:Keyed × Nat)=>a.setIfInBounds (sa+q.2) q.1) arr).toList=arr.toList.take (sa+n)++l++arr.toList.drop (sa+n+l.length)
 | [],n,sa,arr,h=>by simp
 | x :: l,n,sa,arr,h=>by
   rw [List.zipIdx_cons,List.foldl_cons];have h':sa+(n+1)+l.length≤(arr.setIfInBounds (sa+n) x).size:=by rw [Array.size_setIfInBounds];simp only [List.length_cons] at h;omega
   rw [ZiS l (n+1) sa _ h'];have hlt:sa+n<arr.toList.length:=by simp only [List.length_cons] at h;simp;omega
   rw [Array.toList_setIfInBounds,List.take_set,List.drop_set];rw [if_pos (by omega)];have e1:(arr.toList.take (sa+(n+1))).set (sa+n) x=arr.toList.take (sa+n)++[x]:=by
     rw [show sa+(n+1)=sa+n+1 by omega,List.take_succ,List.getElem?_eq_getElem hlt];have hl:(arr.toList.take (sa+n)).length=sa+n:=by rw [List.length_take];omega
     rw [List.set_append_right _ _ (by omega),hl,Nat.sub_self];rfl
   rw [e1];simp only [List.length_cons,List.append_assoc,List.cons_append,List.nil_append];rw [show sa+(n+1)+l.length=sa+n+(l.length+1) by omega]
theorem Zda (O:Ord S L) {A B M:List Keyed} {k n:Nat} {b0 al:Keyed} (rA:Rise L A) (rB:Rise L B) (sA:∀ x∈A,S x) (sB:∀ x∈B,S x) (sb0:S b0) (sal:S al) (hb0:∀ y∈B,L y b0=false) (hal:∀ x∈A,L al x=false)
   (f1:∀ x∈A.take k,L b0 x=false) (f2:∀ y∈B.drop n,L y al=false) (pM:M.Perm (A.drop k++B.take n)) (rM:Rise L M):Rise L (A.take k++M++B.drop n)∧(A.take k++M++B.drop n).Perm (A++B):=by
 have bp:∀ x∈A.take k,∀ y∈B,L y x=false:=fun x hx y hy=>O.step (sA _ (List.mem_of_mem_take hx)) sb0 (sB _ hy) (hb0 y hy) (f1 x hx)
 have qa:∀ x∈A,∀ y∈B.drop n,L y x=false:=fun x hx y hy=>O.step (sA _ hx) sal (sB _ (List.mem_of_mem_drop hy)) (f2 y hy) (hal x hx)
 constructor
 · refine List.pairwise_append.mpr ⟨List.pairwise_append.mpr ⟨rA.sublist (List.take_sublist _ _),rM,fun x hx y hy=>?_⟩,rB.sublist (List.drop_sublist _ _),fun x hx y hy=>?_⟩
   · rcases List.mem_append.mp (pM.mem_iff.mp hy) with z | z
     · have r:=rA
       rw [← List.take_append_drop k A] at r;exact (List.pairwise_append.mp r).2.2 x hx y z
     · exact bp x hx y (List.mem_of_mem_take z)
   · rcases List.mem_append.mp hx with w | w
     · exact qa x (List.mem_of_mem_take w) y hy
     · rcases List.mem_append.mp (pM.mem_iff.mp w) with z | z
       · exact qa x (List.mem_of_mem_drop z) y hy
       · have r:=rB
         rw [← List.take_append_drop n B] at r;exact (List.pairwise_append.mp r).2.2 x z y hy
 · refine ((List.Perm.append_left _ pM).append_right _).trans ?_
   rw [← List.append_assoc,List.take_append_drop,List.append_assoc,List.take_append_drop]
end
structure Two (L:Keyed→Keyed→Bool)(st:SortSt)(i:Nat)(pre A B post:List Keyed):Prop where
 arr:(arrOf st).toList=pre++(A++(B++post))
 pa:∃ pw,(pendingOf st)[i]?=some (pre.length,A.length,pw)
 pb:∃ pw,(pendingOf st)[i+1]?=some (pre.length+A.length,B.length,pw)
 rA:Rise L A
 rB:Rise L B
 nA:0<A.length
 nB:0<B.length
section
variable {M:Model}{Ar:Around}{E:Value→Shared→Prop}{s:Shared}{kd:SortKind}{S:Keyed→Prop}{L:Keyed→Keyed→Bool}
theorem wpS_set {σ:Type}{x:σ}{Q:PUnit→σ→Prop}{st:σ}(h:Q ⟨⟩ x):wpS M Ar E s (set x:StateT σ Sem PUnit) Q st:=by unfold wpS;rw [StateT.run_set];exact wpAny_pure ⟨rfl,h⟩
theorem ZgG (C:Cmp M Ar E s kd S L){st:SortSt}{i:Nat}{pre A B post:List Keyed}{Q:Bool→SortSt→Prop}(hk:kindOf st=kd)(hf:failedOf st=none)(sS:∀ x∈(arrOf st).toList,S x)(T:Two L st i pre A B post)
   (h:∀ (st':SortSt) (R:List Keyed) (pw:Nat),kindOf st'=kd→failedOf st'=none→(arrOf st').toList=pre++(R++post)→Rise L R→R.Perm (A++B) →
     pendingOf st'=((pendingOf st).setIfInBounds i (pre.length,A.length+B.length,pw)).eraseIdxIfInBounds (i+1)→Q true st'):wpS M Ar E s (mergeAt' i) Q st:=by
 have O:=C.ord;obtain ⟨earr,⟨pw,epa⟩,⟨pw2,epb⟩,rA,rB,nA,nB⟩:=T;have sA:∀ x∈A,S x:=fun x hx=>sS x (by rw [earr];simp [hx])
 have sB:∀ x∈B,S x:=fun x hx=>sS x (by rw [earr];simp [hx])
 have earr2:(arrOf st).toList=(pre++A)++(B++post):=by rw [earr,List.append_assoc]
 have hsz:(arrOf st).size=pre.length+A.length+B.length+post.length:=by rw [← Array.length_toList,earr];simp only [List.length_append];omega
 have ga:=fun {j:Nat} (hj:j<A.length)=>Zdo earr hj
 have gb:∀ {j:Nat} (hj:j<B.length),(arrOf st)[pre.length+A.length+j]?=some B[j]:=fun {j} hj=>by
   have:=Zdo earr2 hj;rw [List.length_append] at this;exact this
 have ht:=fun {key:Keyed} {j:Nat} (hj:j<B.length)=>seg_t (L:=L) (key:=key) earr2 hj
 have mt:=fun {key:Keyed} (sk:S key)=>ZhA O earr2 rB sB sk
 rw [List.length_append] at ht mt;have aux:∀ {P:Prop},P→P:=fun x=>x
 unfold mergeAt'
 k_delta "mergeAt"
 refine wpS_bind (wpS_get ?_);dsimp only;rw [epa,epb];dsimp only;refine wpS_bind (wpS_set ?_);refine wpS_bind (Zaz (gb (j:=0) nB) ?_);refine wpS_bind (Zbo (arr:=arrOf st) C (by exact hk) (sB _ (List.getElem_mem nB)) sS (by omega) nA (ZhW O earr rA sA (sB _ (List.getElem_mem nB))) fun k hk1 t1 f1=>?_);dsimp only;have hb0:∀ y∈B,L y B[0]=false:=fun y hy=>by
   obtain ⟨j,hj,rfl⟩:=List.mem_iff_getElem.mp hy;rcases Nat.eq_zero_or_pos j with z | z
   · subst z
     exact O.irr _
   · exact ZbE rB z hj
 have hal:∀ x∈A,L A[A.length-1] x=false:=fun x hx=>by
   obtain ⟨j,hj,rfl⟩:=List.mem_iff_getElem.mp hx;rcases Nat.lt_or_ge j (A.length-1) with z | z
   · exact ZbE rA z (by omega)
   · have:j=A.length-1:=by omega
     subst this;exact O.irr _
 have F1:∀ x∈A.take k,L B[0] x=false:=fun x hx=>by
   obtain ⟨j,hj,q,rfl⟩:=ZcF hx;have:=t1 j hj;rw [seg_f earr q] at this;simpa using this
 have F1':∀ x∈A.drop k,L B[0] x=true:=fun x hx=>by
   obtain ⟨j,hj,q,rfl⟩:=ZcD hx;have:=f1 j hj q;rw [seg_f earr q] at this;simpa using this
 by_cases z1:(A.length-k==0)=true
 · rw [if_pos z1]
   have ek:A.length≤k:=by
     have:A.length-k=0:=by simpa using z1
     omega
   have:=Zda (M:=[]) (n:=0) O rA rB sA sB (sB _ (List.getElem_mem nB)) (sA A[A.length-1] (List.getElem_mem (by omega))) hb0 hal F1 (fun y hy=>?_) (by rw [List.drop_of_length_le ek];simp) .nil
   · refine wpS_pure (h _ (A.take k++[]++B.drop 0) pw hk hf ?_ this.1 this.2 rfl)
     rw [List.take_of_length_le ek];simp only [List.append_nil,List.drop_zero,List.append_assoc];exact earr
   · exact O.step (sA _ (List.getElem_mem (by omega))) (sB _ (List.getElem_mem nB)) (sB _ hy) (hb0 y hy) (F1 _ (by rw [List.take_of_length_le ek];exact List.getElem_mem (by omega)))
 rw [if_neg z1];have z1':k<A.length:=by
   have:A.length-k≠0:=by simpa using z1
   omega
 have el:(arrOf st)[pre.length+k+(A.length-k)-1]?=some A[A.length-1]:=by rw [show pre.length+k+(A.length-k)-1=pre.length+(A.length-1) by omega];exact ga (by omega)
 refine wpS_bind (Zaz el ?_);refine wpS_bind (Zbo (arr:=arrOf st) C (by exact hk) (sA _ (List.getElem_mem (by omega))) sS (by omega) (by omega) (mt (sA _ (List.getElem_mem (by omega)))) fun n hn t2 f2=>?_);dsimp only;have F2:∀ y∈B.drop n,L y A[A.length-1]=false:=fun y hy=>by
   obtain ⟨j,hj,q,rfl⟩:=ZcD hy;have:=f2 j hj q;rw [ht q] at this;exact this
 have F2':∀ y∈B.take n,L y A[A.length-1]=true:=fun y hy=>by
   obtain ⟨j,hj,q,rfl⟩:=ZcF hy;have:=t2 j hj;rw [ht q] at this;exact this
 by_cases z2:(n==0)=true
 · rw [if_pos z2]
   have en:n=0:=by simpa using z2
   subst en;have:=Zda (M:=A.drop k) (n:=0) O rA rB sA sB (sB _ (List.getElem_mem nB)) (sA A[A.length-1] (List.getElem_mem (by omega))) hb0 hal F1 F2 (by simp) (rA.sublist (List.drop_sublist _ _));refine wpS_pure (h _ (A.take k++A.drop k++B.drop 0) pw hk hf ?_ this.1 this.2 rfl);rw [List.take_append_drop,List.drop_zero,List.append_assoc];exact earr
 rw [if_neg z2];have z2':0<n:=by
   have:n≠0:=by simpa using z2
   omega
 have ex:((arrOf st).extract (pre.length+k) (pre.length+A.length)).toList=A.drop k:=by rw [ZcY _ (by omega),earr];rw [show pre++(A++(B++post))=(pre++A)++(B++post) by rw [List.append_assoc]];rw [List.take_append_of_le_length (by simp),List.take_of_length_le (by simp),← List.drop_drop];simp
 have ey:((arrOf st).extract (pre.length+A.length) (pre.length+A.length+n)).toList=B.take n:=by rw [ZeD,earr2];rw [show pre.length+A.length=(pre++A).length by simp,List.drop_left,List.take_append_of_le_length hn]
 generalize (arrOf st).extract (pre.length+k) (pre.length+A.length)=x at ex ⊢;generalize (arrOf st).extract (pre.length+A.length) (pre.length+A.length+n)=y at ey ⊢;have xs:x.size=A.length-k:=by rw [← Array.length_toList,ex,List.length_drop]
 have ys:y.size=n:=by rw [← Array.length_toList,ey,List.length_take];omega
 have y0:∀ (q:0<y.size),y[0]=B[0]:=fun q=>by
   have:y.toList[0]?=(B.take n)[0]?:=by rw [ey]
   rw [List.getElem?_take_of_lt z2',List.getElem?_eq_getElem nB,Array.getElem?_toList,getElem?_pos y 0 q] at this;exact Option.some.inj this
 have xl:∀ (q:x.size-1<x.size),x[x.size-1]=A[A.length-1]:=fun q=>by
   have e2:(A.drop k)[x.size-1]?=some A[A.length-1]:=by rw [List.getElem?_drop,xs,show k+(A.length-k-1)=A.length-1 by omega];exact List.getElem?_eq_getElem (by omega)
   have:x.toList[x.size-1]?=some A[A.length-1]:=by rw [ex];exact e2
   rw [Array.getElem?_toList,getElem?_pos x (x.size-1) q] at this;exact Option.some.inj this
 have fin:∀ (o:Array Keyed) (st':SortSt),Sm (setPending st (((pendingOf st).setIfInBounds i (pre.length,A.length+B.length,pw)).eraseIdxIfInBounds (i+1))) st'→Mrg L x.toList y.toList o.toList →
     wpS M Ar E s (do
       modify fun s=>setArr s (o.toList.zipIdx.foldl (fun (a:Array Keyed) (q:Keyed × Nat)=>a.setIfInBounds (pre.length+k+q.2) q.1) (arrOf s))
       return (failedOf (← get)).isNone) Q st':=by
   intro o st' sm ⟨mp,mr⟩;rw [ex,ey] at mp;have:=Zda O rA rB sA sB (sB _ (List.getElem_mem nB)) (sA A[A.length-1] (List.getElem_mem (by omega))) hb0 hal F1 F2 mp mr;have ol:o.toList.length=A.length-k+n:=by rw [mp.length_eq,List.length_append,List.length_drop,List.length_take];omega
   refine wpS_bind (wpS_modify ?_);refine wpS_bind (wpS_get (wpS_pure ?_));have ef:failedOf st'=none:=sm.failed.trans hf;show Q (failedOf st').isNone _;rw [ef];refine h _ _ pw (sm.kind.trans hk) ef ?_ this.1 this.2 sm.pend;show (o.toList.zipIdx.foldl _ (arrOf st')).toList=_;have ea:arrOf st'=arrOf st:=sm.arr;rw [ea];refine (ZiS o.toList 0 (pre.length+k) (arrOf st) (by omega)).trans ?_;rw [Nat.add_zero,earr,ol];have t3:(pre++(A++(B++post))).take (pre.length+k)=pre++A.take k:=by rw [List.take_append,List.take_of_length_le (by omega),show pre.length+k-pre.length=k by omega,List.take_append_of_le_length (by omega)]
   have t4:(pre++(A++(B++post))).drop (pre.length+k+(A.length-k+n))=B.drop n++post:=by rw [show pre.length+k+(A.length-k+n)=pre.length+(A.length+n) by omega,← List.drop_drop,List.drop_left,← List.drop_drop,List.drop_left,List.drop_append_of_le_length hn]
   rw [t3,t4];simp only [List.append_assoc]
 have sx:∀ z∈x.toList,S z:=fun z hz=>sA z (by rw [ex] at hz;exact List.mem_of_mem_drop hz)
 have sy:∀ z∈y.toList,S z:=fun z hz=>sB z (by rw [ey] at hz;exact List.mem_of_mem_take hz)
 have rx:Rise L x.toList:=by rw [ex];exact rA.sublist (List.drop_sublist _ _)
 have ry:Rise L y.toList:=by rw [ey];exact rB.sublist (List.take_sublist _ _)
 have hx0:∀ z∈x.toList,L z B[0]=false:=fun z hz=>C.asym _ _ (F1' z (by rw [← ex];exact hz))
 have hyl:∀ z∈y.toList,L A[A.length-1] z=false:=fun z hz=>C.asym _ _ (F2' z (by rw [← ey];exact hz))
 by_cases z3:A.length-k≤n
 · rw [if_pos z3]
   refine wpS_bind (Zgt C (by exact hk) sx sy rx ry (by omega) (by omega) (fun z hz=>by rw [y0 (by omega)];exact hx0 z hz) (fun z hz w hw=>?_) fin);rw [ZbI (by omega),show x.size-1+1=x.toList.length by simp;omega,List.drop_of_length_le (Nat.le_refl _)] at hz;have hz:z=x[x.size-1]:=by simpa using hz
   rw [hz,xl (by omega)];exact hyl w hw
 · rw [if_neg z3]
   refine wpS_bind (Zhf C (by exact hk) sx sy rx ry (by omega) (by omega) (fun z hz w hw=>?_) (fun w hw=>by rw [xl (by omega)];exact hyl w hw) fin);have e1:y.toList.take 1=[y[0]'(by omega)]:=by have:=ZbI (a:=y) (i:=0) (by omega);rw [List.drop_zero] at this;rw [this];rfl
   rw [e1] at hw;have hw:w=y[0]'(by omega):=by simpa using hw
   rw [hw,y0 (by omega)];exact hx0 z hz
end
end Srt
namespace Srt
open PySem PyProof.Rows
theorem swap_adj {xs:Array Keyed} {u v:List Keyed} {x y:Keyed} (e:xs.toList=u++(y::x::v)):(xs.swapIfInBounds (u.length+1) u.length).toList=u++(x::y::v):=by
 have sz:xs.size=u.length+(v.length+2):=by rw [← Array.length_toList,e];simp
 apply List.ext_getElem?
 intro t;rw [Array.getElem?_toList,getElem?_swapIB (by omega) (by omega)];have g:∀ i,xs[i]?=(u++(y::x::v))[i]?:=fun i=>by rw [← Array.getElem?_toList,e]
 rw [g,g,g];by_cases h1:u.length=t
 · subst h1
   rw [if_pos rfl,List.getElem?_append_right (by omega),List.getElem?_append_right (by omega),Nat.sub_self,show u.length+1-u.length=1 by omega];rfl
 · rw [if_neg h1]
   by_cases h2:u.length+1=t
   · subst h2
     rw [if_pos rfl,List.getElem?_append_right (by omega),List.getElem?_append_right (by omega),Nat.sub_self,show u.length+1-u.length=1 by omega];rfl
   · rw [if_neg h2]
     rcases Nat.lt_or_ge t u.length with q | q
     · rw [List.getElem?_append_left q,List.getElem?_append_left q]
     · rw [List.getElem?_append_right q,List.getElem?_append_right q]
       obtain ⟨w,hw⟩:∃ w,t-u.length=w+2:=⟨t-u.length-2,by omega⟩
       rw [hw];rfl
theorem Zd0 {arr:Array Keyed}{pre A rest:List Keyed}{x:Keyed}(e:arr.toList=pre++(A++(x::rest))):∀ d,d≤A.length→(bubble arr (pre.length+A.length) d).toList=pre++(A.take (A.length-d)++(x::(A.drop (A.length-d)++rest)))
 | 0,_=>by
   rw [Nat.sub_zero,List.take_of_length_le (Nat.le_refl _),List.drop_of_length_le (Nat.le_refl _),List.nil_append];exact e
 | d + 1,h=>by
   have ih:=Zd0 e d (by omega);rw [bubble_succ];obtain ⟨m,hm⟩:∃ m,A.length-d=m+1:=⟨A.length-d-1,by omega⟩
   have hm2:A.length-(d+1)=m:=by omega
   have hmA:m<A.length:=by omega
   rw [hm] at ih;rw [hm2];have e1:A.take (m+1)=A.take m++[A[m]]:=by rw [List.take_succ,List.getElem?_eq_getElem hmA];rfl
   have e2:A.drop m=A[m]::A.drop (m+1):=List.drop_eq_getElem_cons hmA;have ih2:(bubble arr (pre.length+A.length) d).toList=(pre++A.take m)++(A[m]::x::(A.drop (m+1)++rest)):=by rw [ih,e1];simp only [List.append_assoc,List.cons_append,List.nil_append]
   have:=swap_adj ih2;rw [show (pre++A.take m).length=pre.length+m by rw [List.length_append,List.length_take];omega] at this;rw [show pre.length+A.length-d=pre.length+m+1 by omega,show pre.length+m+1-1=pre.length+m by omega,this,e2];simp only [List.append_assoc,List.cons_append,List.nil_append]
theorem ZgW {arr:Array Keyed}{u w v:List Keyed}(e:arr.toList=u++(w++v)):(mirror arr u.length (u.length+w.length) ((u.length+w.length-u.length)/2)).toList=u++(w.reverse++v):=by
 have sz:arr.size=u.length+(w.length+v.length):=by rw [← Array.length_toList,e];simp
 apply List.ext_getElem?
 intro t;rw [Array.getElem?_toList,getElem?_mirror_all (by omega)];have g:∀ i,arr[i]?=(u++(w++v))[i]?:=fun i=>by rw [← Array.getElem?_toList,e]
 rw [g,g];by_cases h1:u.length≤t∧t<u.length+w.length
 · rw [if_pos h1,List.getElem?_append_right (by omega),List.getElem?_append_right h1.1,List.getElem?_append_left (by omega),List.getElem?_append_left (by rw [List.length_reverse];omega),List.getElem?_reverse (by omega)]
   congr 1
   omega
 · rw [if_neg h1]
   rcases Nat.lt_or_ge t u.length with q | q
   · rw [List.getElem?_append_left q,List.getElem?_append_left q]
   · rw [List.getElem?_append_right q,List.getElem?_append_right q,List.getElem?_append_right (by omega),List.getElem?_append_right (by rw [List.length_reverse];omega),List.length_reverse]
structure Sa (st st':SortSt):Prop where
 kind:kindOf st'=kindOf st
 pend:pendingOf st'=pendingOf st
 failed:failedOf st'=failedOf st
section
variable {M:Model}{Ar:Around}{E:Value→Shared→Prop}{s:Shared}{kd:SortKind}{S:Keyed→Prop}{L:Keyed→Keyed→Bool}
theorem Zdt (C:Cmp M Ar E s kd S L){st:SortSt}{i j:Nat}{x y:Keyed}{Q:Option Bool→SortSt→Prop}(hk:kindOf st=kd)(ei:(arrOf st)[i]?=some x)(ej:(arrOf st)[j]?=some y)(sx:S x)(sy:S y)(h:Q (some (L x y)) st):wpS M Ar E s (ltAt' i j) Q st:=by rw [ltAt'_eq];refine wpS_bind (wpS_get ?_);dsimp only;exact wpS_bind (Zaz ei (wpS_bind (Zaz ej (C.lt _ _ _ _ sx sy hk h))))
theorem ZhB (C:Cmp M Ar E s kd S L) {st:SortSt} {pre A U post:List Keyed} {Q:Bool→SortSt→Prop} (hk:kindOf st=kd) (sS:∀ x∈A++U,S x) (e:(arrOf st).toList=pre++(A++(U++post))) (rA:Rise L A) (nA:0<A.length)
   (h:∀ (st':SortSt) (R:List Keyed),Sa st st'→(arrOf st').toList=pre++(R++post)→Rise L R→R.Perm (A++U)→Q true st'):wpS M Ar E s (binarySort' pre.length (A.length+U.length) A.length) Q st:=by
 have O:=C.ord;rw [binarySort'_eq];rw [show max A.length 1=A.length by omega];refine wpS_bind (wpS_mono (wpS_forRange (I:=fun k c st'=>c.1=none∧Sa st st'∧A.length≤k∧k≤A.length+U.length∧∃ R,R.length=k∧(arrOf st').toList=pre++(R++(U.drop (k-A.length)++post))∧Rise L R∧R.Perm (A++U.take (k-A.length)))
   (Q:=fun c st'=>c.1=none∧Sa st st'∧∃ R,(arrOf st').toList=pre++(R++post)∧Rise L R∧R.Perm (A++U)) ?step ?fin ?init) ?post)
 case init=>exact ⟨rfl,⟨rfl,rfl,rfl⟩,Nat.le_refl _,by omega,A,rfl,by rw [Nat.sub_self,List.drop_zero];exact e,rA,by rw [Nat.sub_self];simp⟩
 case fin =>
   rintro c st' ⟨e1,sm,h1,h2,R,hl,ea,rR,pR⟩;refine ⟨e1,sm,R,?_,rR,?_⟩
   · rw [ea,List.drop_of_length_le (by omega),List.nil_append]
   · rw [List.take_of_length_le (by omega)] at pR
     exact pR
 case post =>
   rintro ⟨c1,c2⟩ st' ⟨e1,sm,R,ea,rR,pR⟩;dsimp only at e1;subst e1;exact wpS_pure (h st' R sm ea rR pR)
 case step =>
   rintro k ⟨c1,_⟩ st' _ hkn ⟨e1,sm,h1,h2,R,hl,ea,rR,pR⟩;dsimp only at e1 ⊢;subst e1;have hu:k-A.length<U.length:=by omega
   have ed:U.drop (k-A.length)=U[k-A.length]::U.drop (k-A.length+1):=List.drop_eq_getElem_cons hu;generalize hx:U[k-A.length]=x at ed;have sx:S x:=sS x (by rw [← hx];exact List.mem_append_right _ (List.getElem_mem hu));have sR:∀ z∈R,S z:=fun z hz=>sS z (by
     rcases List.mem_append.mp (pR.mem_iff.mp hz) with q | q
     · exact List.mem_append_left _ q
     · exact List.mem_append_right _ (List.mem_of_mem_take q))
   rw [ed] at ea;have ek:(arrOf st')[pre.length+k]?=some x:=by rw [← Array.getElem?_toList,ea,List.getElem?_append_right (by omega),show pre.length+k-pre.length=k by omega,List.getElem?_append_right (by omega),hl,Nat.sub_self];rfl
   have kk:kindOf st'=kd:=sm.kind.trans hk;refine wpS_bind (wpS_mono (wpS_forRange (I:=fun y c st2=>st'=st2∧c.1=none∧c.2.1≤c.2.2∧c.2.2≤k∧c.2.2-c.2.1≤k-y∧(∀ z∈R.take c.2.1,L x z=false)∧(∀ z∈R.drop c.2.2,L x z=true))
     (Q:=fun c st2=>st'=st2∧c.1=none∧c.2.1≤k∧(∀ z∈R.take c.2.1,L x z=false)∧(∀ z∈R.drop c.2.1,L x z=true)) ?step2 ?fin2 ?init2) ?post2)
   case init2=>exact ⟨rfl,rfl,Nat.zero_le _,Nat.le_refl _,by dsimp only;omega,fun z hz=>by simp at hz,fun z hz=>by rw [List.drop_of_length_le (by dsimp only;omega)] at hz;simp at hz⟩
   case fin2 =>
     rintro ⟨c1,l,r⟩ st2 ⟨rfl,e1,g1,g2,g3,g4,g5⟩;dsimp only at *;have:l=r:=by omega
     subst this;exact ⟨rfl,e1,g2,g4,g5⟩
   case step2 =>
     rintro y ⟨c1,l,r⟩ st2 _ hy ⟨rfl,e1,g1,g2,g3,g4,g5⟩;dsimp only at *;subst e1;by_cases hlt:l≥r
     · rw [if_pos hlt]
       have:l=r:=by omega
       subst this;exact wpS_pure ⟨rfl,rfl,g2,g4,g5⟩
     · rw [if_neg hlt]
       have hm:(l+r)/2<R.length:=by omega
       refine wpS_bind (Zdt C kk ek (Zdo ea hm) sx (sR _ (List.getElem_mem hm)) ?_);dsimp only;cases el:L x R[(l+r)/2] with
       | true =>
         rw [if_pos rfl];refine wpS_pure ⟨rfl,rfl,by dsimp only;omega,by dsimp only;omega,by dsimp only;omega,g4,fun z hz=>?_⟩;obtain ⟨j,hj,q,rfl⟩:=ZcD hz;dsimp only at hj;rcases Nat.lt_or_ge ((l+r)/2) j with w | w
         · rcases O.neg x R[j] R[(l+r)/2] sx (sR _ (List.getElem_mem q)) (sR _ (List.getElem_mem hm)) el with v | v
           · exact v
           · rw [ZbE rR w q] at v
             cases v
         · have:j=(l+r)/2:=by omega
           subst this;exact el
       | false =>
         rw [if_neg (by decide)];refine wpS_pure ⟨rfl,rfl,by dsimp only;omega,g2,by dsimp only;omega,fun z hz=>?_,g5⟩;obtain ⟨j,hj,q,rfl⟩:=ZcF hz;dsimp only at hj;rcases Nat.lt_or_ge j ((l+r)/2) with w | w
         · exact O.step (sR _ (List.getElem_mem q)) (sR _ (List.getElem_mem hm)) sx el (ZbE rR w hm)
         · have:j=(l+r)/2:=by omega
           subst this;exact el
   case post2 =>
     rintro ⟨c1,l,r⟩ st2 ⟨rfl,e1,g2,g4,g5⟩;dsimp only at *;subst e1;rw [moveDown'_eq];refine wpS_bind (wpS_modify (wpS_pure ⟨rfl,⟨sm.kind,sm.pend,sm.failed⟩,by omega,by omega,R.take l++(x::R.drop l),?_,?_,?_,?_⟩))
     · simp only [List.length_append,List.length_take,List.length_cons,List.length_drop]
       omega
     · show (bubble (arrOf st') (pre.length+k) (pre.length+k-(pre.length+l))).toList=_
       have:=Zd0 ea (k-l) (by omega);rw [hl,show k-(k-l)=l by omega] at this;rw [show pre.length+k-(pre.length+l)=k-l by omega,this,show k+1-A.length=k-A.length+1 by omega];simp only [List.append_assoc,List.cons_append];rfl
     · refine List.pairwise_append.mpr ⟨rR.sublist (List.take_sublist _ _),List.pairwise_cons.mpr ⟨fun z hz=>O.asym _ _ (g5 z hz),rR.sublist (List.drop_sublist _ _)⟩,fun z hz w hw=>?_⟩
       rcases List.mem_cons.mp hw with q | q
       · rw [q]
         exact g4 z hz
       · have r2:=rR
         rw [← List.take_append_drop l R] at r2;exact (List.pairwise_append.mp r2).2.2 z hz w q
     · rw [show k+1-A.length=k-A.length+1 by omega,List.take_succ,List.getElem?_eq_getElem hu,hx,← List.append_assoc]
       refine (List.perm_middle (l₁:=R.take l) (l₂:=R.drop l)).trans ?_;rw [List.take_append_drop];refine (List.Perm.cons x pR).trans ?_;exact (List.perm_append_singleton x _).symm
end
end Srt
namespace Srt
open PySem PyProof.Rows
abbrev Fall (L:Keyed→Keyed→Bool)(l:List Keyed):Prop:=l.Pairwise fun x y=>L x y=false
structure CR (st st':SortSt)(pre all D T:List Keyed):Prop where
 sa:Sa st st'
 arr:(arrOf st').toList=pre++(D++T)
 perm:(D++T).Perm all
section
variable {M:Model}{Ar:Around}{E:Value→Shared→Prop}{s:Shared}{kd:SortKind}{S:Keyed→Prop}{L:Keyed→Keyed→Bool}
theorem Sa.arr {st st':SortSt}(h:Sa st st')(a:Array Keyed):Sa st (setArr st' a):=⟨h.kind,h.pend,h.failed⟩
theorem CR.get {st st':SortSt}{pre all D T:List Keyed}(h:CR st st' pre all D T){i:Nat}(hi:i<(D++T).length):(arrOf st')[pre.length+i]?=some (D++T)[i]:=by rw [← Array.getElem?_toList,h.arr,List.getElem?_append_right (by omega),show pre.length+i-pre.length=i by omega];exact List.getElem?_eq_getElem hi
theorem CR.ends {st st':SortSt}{pre all D T:List Keyed}{x y:Keyed}(h:CR st st' pre all (D++[y]) (x::T)){n:Nat}(hn:n=D.length+1):(arrOf st')[pre.length+n]?=some x∧(arrOf st')[pre.length+n-1]?=some y:=by
 subst hn;constructor
 · rw [← Array.getElem?_toList,h.arr,List.getElem?_append_right (by omega),show pre.length+(D.length+1)-pre.length=D.length+1 by omega,List.getElem?_append_right (by simp)]
   simp
 · rw [← Array.getElem?_toList,h.arr,List.getElem?_append_right (by omega),show pre.length+(D.length+1)-1-pre.length=D.length by omega,List.getElem?_append_left (by simp),List.getElem?_append_right (by omega)]
   simp
theorem Ziw {D:List Keyed}(h:0<D.length):∃ D0 y,D=D0++[y]:=⟨D.dropLast,D.getLast (by intro e;rw [e] at h;simp at h),(List.dropLast_concat_getLast _).symm⟩
theorem Zi9 (O:Ord S L){D0:List Keyed}{x y:Keyed}(sD:∀ z∈D0++[y],S z)(sx:S x)(r:Rise L (D0++[y]))(c:L x y=false):Rise L (D0++[y]++[x]):=by
 refine List.pairwise_append.mpr ⟨r,by simp,fun z hz w hw=>?_⟩;have hw:w=x:=by simpa using hw
 subst hw;rcases List.mem_append.mp hz with q | q
 · exact O.step (sD z hz) (sD y (by simp)) sx c ((List.pairwise_append.mp r).2.2 z q y (by simp))
 · have q:z=y:=by simpa using q
   rw [q];exact c
theorem Zi7 (O:Ord S L){D0:List Keyed}{x y:Keyed}(sD:∀ z∈D0++[y],S z)(sx:S x)(r:Fall L (D0++[y]))(c:L y x=false):Fall L (D0++[y]++[x]):=by
 refine List.pairwise_append.mpr ⟨r,by simp,fun z hz w hw=>?_⟩;have hw:w=x:=by simpa using hw
 subst hw;rcases List.mem_append.mp hz with q | q
 · exact O.step sx (sD y (by simp)) (sD z hz) ((List.pairwise_append.mp r).2.2 z q y (by simp)) c
 · have q:z=y:=by simpa using q
   rw [q];exact c
theorem Zdm {D:List Keyed}(h:Fall L D):Rise L D.reverse:=List.pairwise_reverse.mpr h
theorem CR.next {st st':SortSt}{pre all D T:List Keyed}{x:Keyed}(h:CR st st' pre all D (x::T)):CR st st' pre all (D++[x]) T:=⟨h.sa,by rw [h.arr];simp,by have:=h.perm;simpa using this⟩
theorem CR.turn {st st':SortSt}{pre all D1 W T:List Keyed}(h:CR st st' pre all (D1++W) T):CR st (setArr st' (mirror (arrOf st') (pre.length+D1.length) (pre.length+D1.length+W.length) ((pre.length+D1.length+W.length-(pre.length+D1.length))/2))) pre all (D1++W.reverse) T:=by
 refine ⟨h.sa.arr _,?_,?_⟩
 · have e:(arrOf st').toList=(pre++D1)++(W++T):=by rw [h.arr];simp
   have:=ZgW e;rw [List.length_append] at this;show (mirror _ _ _ _).toList=_;rw [this];simp
 · refine List.Perm.trans ?_ h.perm
   exact (List.Perm.append_left _ (List.reverse_perm W)).append_right _
theorem Zdr (C:Cmp M Ar E s kd S L) {st st0:SortSt} {pre all D T:List Keyed} {n nrem:Nat} {f:Nat→Option (Option Nat) × Nat→StateT SortSt Sem (ForInStep (Option (Option Nat) × Nat))} {Q:Option (Option Nat) × Nat→SortSt→Prop} (hk:kindOf st=kd) (sS:∀ x∈all,S x)
   (h:CR st st0 pre all D T) (r:Rise L D) (hn:D.length=n) (nD:0<n) (hnr:n+T.length=nrem)
   (hf:∀ x c,f x c=(do
     let __x ← ltAt' (pre.length+c.2) (pre.length+c.2-1)
     match __x with
     | some smaller=>if smaller=true then pure (ForInStep.done (none,c.2)) else pure (ForInStep.yield (none,c.2+1))
     | _=>pure (ForInStep.done (some none,c.2))))
   (h2:∀ st' D' T' m,CR st st' pre all D' T'→Rise L D'→D'.length=m→n≤m→m+T'.length=nrem→(m=nrem∨∃ D0 y x T0,D'=D0++[y]∧T'=x::T0∧L x y=true)→Q (none,m) st') :
   wpS M Ar E s (forIn [n:nrem] ((none,n):Option (Option Nat) × Nat) f) Q st0:=by
 have O:=C.ord;refine wpS_forRange (I:=fun x c st'=>c.1=none∧c.2=x∧x≤nrem∧n≤x∧∃ D' T',CR st st' pre all D' T'∧Rise L D'∧D'.length=x∧x+T'.length=nrem) ?step ?fin ?init
 case init=>exact ⟨rfl,rfl,by omega,Nat.le_refl _,D,T,h,r,hn,hnr⟩
 case fin =>
   rintro ⟨c1,c2⟩ st' ⟨e1,e2,h3,h4,D',T',cr,r',hl,hT⟩;dsimp only at e1 e2;subst e1;rw [e2];exact h2 st' D' T' _ cr r' hl (by omega) (by omega) (.inl (by omega))
 case step =>
   rintro x ⟨c1,c2⟩ st' hx1 hx2 ⟨e1,e2,h3,h4,D',T',cr,r',hl,hT⟩;dsimp only at e1 e2;subst e1 e2;obtain ⟨D0,y,rfl⟩:=Ziw (D:=D') (by omega);cases T' with
   | nil=>simp at hT;omega
   | cons z T0 =>
     have hl':c2=D0.length+1:=by rw [← hl];simp
     obtain ⟨g1,g2⟩:=cr.ends hl';have sall:∀ w∈D0++[y]++z::T0,S w:=fun w hw=>sS w (cr.perm.mem_iff.mp hw)
     have sz:S z:=sall z (by simp);have sy:S y:=sall y (by simp);rw [hf];refine wpS_bind (Zdt C (cr.sa.kind.trans hk) g1 g2 sz sy ?_);dsimp only;cases e:L z y with
     | true =>
       rw [if_pos rfl];exact wpS_pure (h2 st' _ _ _ cr r' hl (by omega) hT (.inr ⟨D0,y,z,T0,rfl,rfl,e⟩))
     | false =>
       rw [if_neg (by decide)];refine wpS_pure ⟨rfl,rfl,by omega,by omega,D0++[y]++[z],T0,cr.next,Zi9 O (fun w hw=>sall w (List.mem_append_left _ hw)) sz r' e,?_,?_⟩
       · simp only [List.length_append,List.length_cons,List.length_nil] at hl ⊢
         omega
       · simp only [List.length_cons] at hT
         omega
structure Dn (L:Keyed→Keyed→Bool)(D:List Keyed)(neq:Nat):Prop where
 fall:Fall L D
 lt:neq<D.length
 same:∀ x∈D.drop (D.length-(neq+1)),∀ y∈D.drop (D.length-(neq+1)),L x y=false
theorem Dn.turn {D:List Keyed}{neq:Nat}(h:Dn L D neq):Fall L (D.take (D.length-(neq+1))++(D.drop (D.length-(neq+1))).reverse):=by have f:=h.fall;rw [← List.take_append_drop (D.length-(neq+1)) D] at f;obtain ⟨f1,f2,f3⟩:=List.pairwise_append.mp f;refine List.pairwise_append.mpr ⟨f1,?_,fun x hx y hy=>f3 x hx y (List.mem_reverse.mp hy)⟩;refine List.Pairwise.imp_of_mem (R:=fun _ _=>True) (fun {x y} hx hy _=>h.same x (List.mem_reverse.mp hx) y (List.mem_reverse.mp hy)) ?_;exact List.pairwise_of_forall fun _ _=>trivial
theorem ZbQ {i j:Nat}{st:SortSt}{Q:Unit→SortSt→Prop}(h:Q () (setArr st (mirror (arrOf st) i j ((j-i)/2)))):wpS M Ar E s (reverseSlice' i j) Q st:=by rw [reverseSlice'_eq];exact wpS_modify h
theorem CR.turnEnd {st st':SortSt}{pre all D T:List Keyed}{neq n:Nat}(h:CR st st' pre all D T)(d:Dn L D neq)(hn:D.length=n) :
   CR st (setArr st' (mirror (arrOf st') (pre.length+n-(neq+1)) (pre.length+n) ((pre.length+n-(pre.length+n-(neq+1)))/2))) pre all (D.take (n-(neq+1))++(D.drop (n-(neq+1))).reverse) T:=by
 subst hn;have hl:=d.lt;have h':CR st st' pre all (D.take (D.length-(neq+1))++D.drop (D.length-(neq+1))) T:=by rw [List.take_append_drop];exact h
 have:=h'.turn;rw [List.length_take,List.length_drop,Nat.min_eq_left (by omega),show pre.length+(D.length-(neq+1))+(D.length-(D.length-(neq+1)))=pre.length+D.length by omega,show pre.length+(D.length-(neq+1))=pre.length+D.length-(neq+1) by omega] at this;exact this
theorem ZdM {D:List Keyed}{x:Keyed}{k:Nat}(h:k≤D.length):(D++[x]).drop ((D++[x]).length-(k+1))=D.drop (D.length-k)++[x]:=by rw [List.length_append,List.length_singleton,show D.length+1-(k+1)=D.length-k by omega,List.drop_append_of_le_length (by omega)]
theorem ZgQ (C:Cmp M Ar E s kd S L) {st st0:SortSt} {pre all D T:List Keyed} {n nrem:Nat} {f:Nat→Option (Option Nat) × Nat × Nat→StateT SortSt Sem (ForInStep (Option (Option Nat) × Nat × Nat))} {Q:Option (Option Nat) × Nat × Nat→SortSt→Prop} (hk:kindOf st=kd) (sS:∀ x∈all,S x)
   (h:CR st st0 pre all D T) (r:Dn L D 0) (hn:D.length=n) (hnr:n+T.length=nrem)
   (hf : ∀ x c,f x c=(do
     let __x ← ltAt' (pre.length+c.2.1) (pre.length+c.2.1-1)
     match __x with
     | some smaller =>
       if smaller=true then
         if c.2.2 > 0 then do
           reverseSlice' (pre.length+c.2.1-(c.2.2+1)) (pre.length+c.2.1)
           pure (ForInStep.yield (none,c.2.1+1,0))
         else pure (ForInStep.yield (none,c.2.1+1,0))
       else do
         let __x ← ltAt' (pre.length+c.2.1-1) (pre.length+c.2.1)
         match __x with
         | some larger=>if larger=true then pure (ForInStep.done (none,c.2.1,c.2.2)) else pure (ForInStep.yield (none,c.2.1+1,c.2.2+1))
         | _=>pure (ForInStep.done (some none,c.2.1,c.2.2))
     | _=>pure (ForInStep.done (some none,c.2.1,c.2.2))))
   (h2:∀ st' D' T' m neq,CR st st' pre all D' T'→Dn L D' neq→D'.length=m→m+T'.length=nrem→Q (none,m,neq) st') :
   wpS M Ar E s (forIn [n:nrem] ((none,n,0):Option (Option Nat) × Nat × Nat) f) Q st0:=by
 have O:=C.ord;refine wpS_forRange (I:=fun x c st'=>c.1=none∧c.2.1=x∧x≤nrem∧∃ D' T',CR st st' pre all D' T'∧Dn L D' c.2.2∧D'.length=x∧x+T'.length=nrem) ?step ?fin ?init
 case init=>exact ⟨rfl,rfl,by omega,D,T,h,r,hn,hnr⟩
 case fin =>
   rintro ⟨c1,c2,c3⟩ st' ⟨e1,e2,h3,D',T',cr,r',hl,hT⟩;dsimp only at e1 e2 r';subst e1;exact h2 st' D' T' _ _ cr r' (hl.trans e2.symm) (by omega)
 case step =>
   rintro x ⟨c1,c2,c3⟩ st' hx1 hx2 ⟨e1,e2,h3,D',T',cr,dn,hl,hT⟩;dsimp only at e1 e2 dn;subst e1 e2;obtain ⟨D0,y,eD⟩:=Ziw (D:=D') (by have:=dn.lt;omega);cases T' with
   | nil=>simp at hT;omega
   | cons z T0 =>
     have hl':c2=D0.length+1:=by rw [← hl,eD];simp
     have cr':=cr;rw [eD] at cr';obtain ⟨g1,g2⟩:=cr'.ends hl';have sall:∀ w∈D'++z::T0,S w:=fun w hw=>sS w (cr.perm.mem_iff.mp hw)
     have sz:S z:=sall z (by simp);have sy:S y:=sall y (by rw [eD];simp);have hle:=dn.lt;simp only [List.length_cons] at hT;rw [hf];refine wpS_bind (Zdt C (cr.sa.kind.trans hk) g1 g2 sz sy ?_);dsimp only;cases e:L z y with
     | true =>
       rw [if_pos rfl];have zl:∀ w∈D',L w z=false:=by
         intro w hw;have f:=dn.fall;rw [eD] at f hw;rcases List.mem_append.mp hw with q | q
         · exact O.step sz sy (sall w (by rw [eD];exact List.mem_append_left _ (List.mem_append_left _ q))) ((List.pairwise_append.mp f).2.2 w q y (by simp)) (O.asym _ _ e)
         · have q:w=y:=by simpa using q
           rw [q];exact O.asym _ _ e
       have mk:∀ D2:List Keyed,Fall L D2→(∀ w∈D2,L w z=false)→Dn L (D2++[z]) 0:=by
         intro D2 f2 z2;refine ⟨List.pairwise_append.mpr ⟨f2,by simp,fun w hw v hv=>?_⟩,by simp,fun u hu v hv=>?_⟩
         · have hv:v=z:=by simpa using hv
           rw [hv];exact z2 w hw
         · rw [ZdM (Nat.zero_le _),Nat.sub_zero,List.drop_of_length_le (Nat.le_refl _),List.nil_append] at hu hv
           have hu:u=z:=by simpa using hu
           have hv:v=z:=by simpa using hv
           rw [hu,hv];exact O.irr z
       by_cases hq:c3 > 0
       · rw [if_pos hq]
         have ct:=cr.turnEnd dn hl;refine wpS_bind (ZbQ (wpS_pure ⟨rfl,rfl,by omega,_,T0,ct.next,mk _ (by have:=dn.turn;rw [hl] at this;exact this) (fun w hw=>zl w ?_),?_,by omega⟩))
         · rcases List.mem_append.mp hw with q | q
           · exact List.mem_of_mem_take q
           · exact List.mem_of_mem_drop (List.mem_reverse.mp q)
         · simp only [List.length_append,List.length_take,List.length_reverse,List.length_drop,List.length_cons,List.length_nil]
           omega
       · rw [if_neg hq]
         refine wpS_pure ⟨rfl,rfl,by omega,D'++[z],T0,cr.next,mk _ dn.fall zl,?_,by omega⟩;simp only [List.length_append,List.length_cons,List.length_nil];omega
     | false =>
       rw [if_neg (by decide)];refine wpS_bind (Zdt C (cr.sa.kind.trans hk) g2 g1 sy sz ?_);dsimp only;cases e':L y z with
       | true =>
         rw [if_pos rfl];exact wpS_pure (h2 st' _ _ _ _ cr dn hl (by simp only [List.length_cons];omega))
       | false =>
         rw [if_neg (by decide)];have yin:y∈D'.drop (D'.length-(c3+1)):=by rw [eD,List.length_append,List.length_singleton,List.drop_append_of_le_length (by omega)];simp
         refine wpS_pure ⟨rfl,rfl,by omega,D'++[z],T0,cr.next,⟨?_,by simp;omega,fun u hu v hv=>?_⟩,?_,by omega⟩
         · have f:=dn.fall
           rw [eD] at f ⊢;exact Zi7 O (fun w hw=>sall w (by rw [eD];exact List.mem_append_left _ hw)) sz f e'
         · dsimp only at hu hv
           rw [ZdM (by omega)] at hu hv;have sD:∀ w∈D'.drop (D'.length-(c3+1)),S w:=fun w hw=>sall w (List.mem_append_left _ (List.mem_of_mem_drop hw))
           rcases List.mem_append.mp hu with q | q
           · rcases List.mem_append.mp hv with p | p
             · exact dn.same u q v p
             · have p:v=z:=by simpa using p
               rw [p];exact O.step sz sy (sD u q) (dn.same u q y yin) e'
           · have q:u=z:=by simpa using q
             rw [q];rcases List.mem_append.mp hv with p | p
             · exact O.step (sD v p) sy sz e (dn.same y yin v p)
             · have p:v=z:=by simpa using p
               rw [p];exact O.irr z
         · simp only [List.length_append,List.length_cons,List.length_nil]
           omega
theorem Ze5 (C:Cmp M Ar E s kd S L) {st:SortSt} {pre all:List Keyed} {Q:Option Nat→SortSt→Prop} (hk:kindOf st=kd) (sS:∀ x∈all,S x) (e:(arrOf st).toList=pre++all) (ne:0<all.length)
   (h:∀ st' R T,Sa st st'→(arrOf st').toList=pre++(R++T)→Rise L R→(R++T).Perm all→0<R.length→Q (some R.length) st'):wpS M Ar E s (countRun' pre.length all.length) Q st:=by
 have O:=C.ord;rw [countRun'_eq];obtain ⟨x0,T0,rfl⟩:∃ x T,all=x::T:=by
   cases all with
   | nil=>simp at ne
   | cons x T=>exact ⟨x,T,rfl⟩
 have c0:CR st st pre (x0::T0) [x0] T0:=⟨⟨rfl,rfl,rfl⟩,e,List.Perm.refl _⟩
 dsimp only;refine wpS_bind (Zdr C hk sS c0 (by simp) rfl (by decide) (by simp;omega) (fun x c=>rfl) fun st1 D T m c1 r1 l1 m1 t1 w1=>?_);dsimp only;by_cases z1:(m==(x0::T0).length)=true
 · rw [if_pos z1,← l1]
   exact wpS_pure (h st1 D T c1.sa c1.arr r1 c1.perm (by omega))
 rw [if_neg z1];have z1':m≠(x0::T0).length:=by simpa using z1
 obtain ⟨D0,y,x,T1,eD,eT,hxy⟩:=w1.resolve_left z1';subst eD eT;have sall:∀ w∈D0++[y]++x::T1,S w:=fun w hw=>sS w (c1.perm.mem_iff.mp hw)
 have sx:S x:=sall x (by simp);have sD:∀ w∈D0++[y],S w:=fun w hw=>sall w (List.mem_append_left _ hw)
 have mk:∀ D2:List Keyed,Fall L D2→(∀ w∈D2,L w x=false)→Dn L (D2++[x]) 0:=by
   intro D2 f2 z2;refine ⟨List.pairwise_append.mpr ⟨f2,by simp,fun w hw v hv=>?_⟩,by simp,fun u hu v hv=>?_⟩
   · have hv:v=x:=by simpa using hv
     rw [hv];exact z2 w hw
   · rw [ZdM (Nat.zero_le _),Nat.sub_zero,List.drop_of_length_le (Nat.le_refl _),List.nil_append] at hu hv
     have hu:u=x:=by simpa using hu
     have hv:v=x:=by simpa using hv
     rw [hu,hv];exact O.irr x
 simp only [List.length_cons] at t1;by_cases z2:m > 1
 · rw [if_pos z2]
   have hD0:0<D0.length:=by simp only [List.length_append,List.length_cons,List.length_nil] at l1;omega
   have e0:(arrOf st1)[pre.length]?=some (D0[0]'hD0):=by have:=c1.get (i:=0) (by simp;omega);rw [Nat.add_zero] at this;rw [this,List.getElem_append_left (by simp),List.getElem_append_left hD0]
   have e1:(arrOf st1)[pre.length+m-1]?=some y:=by
     have hl':m=D0.length+1:=by rw [← l1];simp
     exact (c1.ends hl').2
   have s0:S (D0[0]'hD0):=sD _ (List.mem_append_left _ (List.getElem_mem hD0));refine wpS_bind (Zdt C (c1.sa.kind.trans hk) e0 e1 s0 (sD y (by simp)) ?_);dsimp only;cases er:L (D0[0]'hD0) y with
   | true =>
     rw [if_pos rfl,← l1];exact wpS_pure (h st1 _ _ c1.sa c1.arr r1 c1.perm (by omega))
   | false =>
     rw [if_neg (by decide)];have up0:∀ w∈D0++[y],L w (D0[0]'hD0)=false:=by
       intro w hw;obtain ⟨j,hj,rfl⟩:=List.mem_iff_getElem.mp hw;rcases Nat.eq_zero_or_pos j with q | q
       · subst q
         rw [List.getElem_append_left hD0];exact O.irr _
       · have:=ZbE r1 q hj
         rw [List.getElem_append_left (i:=0) hD0] at this;exact this
     have upy:∀ w∈D0++[y],L y w=false:=by
       intro w hw;rcases List.mem_append.mp hw with q | q
       · exact (List.pairwise_append.mp r1).2.2 w q y (by simp)
       · have q:w=y:=by simpa using q
         rw [q];exact O.irr y
     have sy:S y:=sD y (by simp);have toy:∀ w∈D0++[y],L w y=false:=fun w hw=>O.step sy s0 (sD w hw) (up0 w hw) er
     have eqv:∀ w∈D0++[y],∀ v∈D0++[y],L w v=false:=fun w hw v hv=>O.step (sD v hv) sy (sD w hw) (toy w hw) (upy v hv)
     have xl:∀ w∈D0++[y],L w x=false:=fun w hw=>by
       rcases O.neg x w y sx (sD w hw) sy hxy with q | q
       · exact O.asym _ _ q
       · rw [toy w hw] at q
         cases q
     have cd0:=CR.turn (D1:=[]) (by simpa using c1);rw [List.length_nil,Nat.add_zero,l1] at cd0;have cd:=cd0.next;have dd:=mk ([]++(D0++[y]).reverse) (by
       rw [List.nil_append];refine List.Pairwise.imp_of_mem (R:=fun _ _=>True) (fun {u v} hu hv _=>eqv u (List.mem_reverse.mp hu) v (List.mem_reverse.mp hv)) ?_;exact List.pairwise_of_forall fun _ _=>trivial) (fun w hw=>xl w (by rw [List.nil_append] at hw;exact List.mem_reverse.mp hw))
     have ld:([]++(D0++[y]).reverse++[x]).length=m+1:=by rw [← l1];simp
     have hTd:m+1+T1.length=(x0::T0).length:=by simp only [List.length_cons] at t1 ⊢;omega
     refine wpS_bind (ZbQ ?_);refine wpS_bind (wpS_lift (wpAny_rule ⟨rfl,?_⟩));refine wpS_bind (ZgQ C hk sS cd dd ld hTd (fun x c=>rfl) fun st3 D3 T3 m3 neq c3 d3 l3 hT3=>?_);dsimp only;have p3:=d3.lt;by_cases hq:neq > 0
     · rw [if_pos hq]
       have ct:=c3.turnEnd d3 l3;have ft:=d3.turn;rw [l3] at ft;have lt3:(List.take (m3-(neq+1)) D3++(List.drop (m3-(neq+1)) D3).reverse).length=m3:=by simp only [List.length_append,List.length_take,List.length_reverse,List.length_drop];omega
       refine wpS_bind (ZbQ ?_);have ct2:=CR.turn (D1:=[]) (by simpa using ct);rw [List.length_nil,Nat.add_zero,lt3] at ct2;refine wpS_bind (ZbQ ?_);refine wpS_bind (Zdr C hk sS ct2 (by rw [List.nil_append];exact Zdm ft) (by simp only [List.nil_append,List.length_reverse];exact lt3) (by omega) hT3 (fun x c=>rfl) fun st5 D5 T5 m5 c5 r5 l5 n5 t5 w5=>?_);dsimp only;rw [← l5];exact wpS_pure (h st5 D5 T5 c5.sa c5.arr r5 c5.perm (by omega))
     · rw [if_neg hq]
       have ct:=c3;have ft:=d3.fall;have lt3:=l3;have ct2:=CR.turn (D1:=[]) (by simpa using ct);rw [List.length_nil,Nat.add_zero,lt3] at ct2;refine wpS_bind (ZbQ ?_);refine wpS_bind (Zdr C hk sS ct2 (by rw [List.nil_append];exact Zdm ft) (by simp only [List.nil_append,List.length_reverse];exact lt3) (by omega) hT3 (fun x c=>rfl) fun st5 D5 T5 m5 c5 r5 l5 n5 t5 w5=>?_);dsimp only;rw [← l5];exact wpS_pure (h st5 D5 T5 c5.sa c5.arr r5 c5.perm (by omega))
 · rw [if_neg z2]
   have hD0:D0=[]:=by simp only [List.length_append,List.length_cons,List.length_nil] at l1;exact List.length_eq_zero_iff.mp (by omega)
   subst hD0;have cd:=c1.next;have dd:=mk ([]++[y]) (by simp) (fun w hw=>by
     have hw:w=y:=by simpa using hw
     rw [hw];exact O.asym _ _ hxy)
   have ld:([]++[y]++[x]).length=m+1:=by rw [← l1];simp
   have hTd:m+1+T1.length=(x0::T0).length:=by simp only [List.length_cons] at t1 ⊢;omega
   refine wpS_bind (wpS_lift (wpAny_rule ⟨rfl,?_⟩));refine wpS_bind (ZgQ C hk sS cd dd ld hTd (fun x c=>rfl) fun st3 D3 T3 m3 neq c3 d3 l3 hT3=>?_);dsimp only;have p3:=d3.lt;by_cases hq:neq > 0
   · rw [if_pos hq]
     have ct:=c3.turnEnd d3 l3;have ft:=d3.turn;rw [l3] at ft;have lt3:(List.take (m3-(neq+1)) D3++(List.drop (m3-(neq+1)) D3).reverse).length=m3:=by simp only [List.length_append,List.length_take,List.length_reverse,List.length_drop];omega
     refine wpS_bind (ZbQ ?_);have ct2:=CR.turn (D1:=[]) (by simpa using ct);rw [List.length_nil,Nat.add_zero,lt3] at ct2;refine wpS_bind (ZbQ ?_);refine wpS_bind (Zdr C hk sS ct2 (by rw [List.nil_append];exact Zdm ft) (by simp only [List.nil_append,List.length_reverse];exact lt3) (by omega) hT3 (fun x c=>rfl) fun st5 D5 T5 m5 c5 r5 l5 n5 t5 w5=>?_);dsimp only;rw [← l5];exact wpS_pure (h st5 D5 T5 c5.sa c5.arr r5 c5.perm (by omega))
   · rw [if_neg hq]
     have ct:=c3;have ft:=d3.fall;have lt3:=l3;have ct2:=CR.turn (D1:=[]) (by simpa using ct);rw [List.length_nil,Nat.add_zero,lt3] at ct2;refine wpS_bind (ZbQ ?_);refine wpS_bind (Zdr C hk sS ct2 (by rw [List.nil_append];exact Zdm ft) (by simp only [List.nil_append,List.length_reverse];exact lt3) (by omega) hT3 (fun x c=>rfl) fun st5 D5 T5 m5 c5 r5 l5 n5 t5 w5=>?_);dsimp only;rw [← l5];exact wpS_pure (h st5 D5 T5 c5.sa c5.arr r5 c5.perm (by omega))
end
end Srt
namespace Srt
open PySem PyProof.Rows
def Pd (L:Keyed→Keyed→Bool):Nat→List (Nat × Nat × Nat)→List (List Keyed)→Prop
 | _,[],[]=>True
 | off,p::ps,R::rs=>p.1=off∧p.2.1=R.length∧0<R.length∧Rise L R∧Pd L (off+R.length) ps rs
 | _,_,_=>False
section
variable {S:Keyed→Prop}{L:Keyed→Keyed→Bool}
theorem Pd.len:∀ {off:Nat} {ps:List (Nat × Nat × Nat)} {rs:List (List Keyed)},Pd L off ps rs→ps.length=rs.length
 | _,[],[],_=>rfl
 | _,_::_,_::_,h=>by simp [Pd.len h.2.2.2.2]
 | _,[],_::_,h=>h.elim
 | _,_::_,[],h=>h.elim
theorem Pd.append:∀ {off:Nat} {ps qs:List (Nat × Nat × Nat)} {rs ts:List (List Keyed)},Pd L off ps rs→Pd L (off+rs.flatten.length) qs ts→Pd L off (ps++qs) (rs++ts)
 | _,[],_,[],_,_,h=>by simpa using h
 | _,_::_,_,_::_,_,h,h2=>⟨h.1,h.2.1,h.2.2.1,h.2.2.2.1,Pd.append h.2.2.2.2 (by simpa [Nat.add_assoc] using h2)⟩
 | _,[],_,_::_,_,h,_=>h.elim
 | _,_::_,_,[],_,h,_=>h.elim
theorem Pd.split:∀ {off:Nat} {ps:List (Nat × Nat × Nat)} (rs:List (List Keyed)) {ts:List (List Keyed)},Pd L off ps (rs++ts)→∃ p1 p2,ps=p1++p2∧Pd L off p1 rs∧Pd L (off+rs.flatten.length) p2 ts
 | _,ps,[],_,h=>⟨[],ps,rfl,trivial,by simpa using h⟩
 | _,p::ps,R::rs,_,h=>by
   obtain ⟨p1,p2,e,h1,h2⟩:=Pd.split rs h.2.2.2.2;exact ⟨p::p1,p2,by rw [e];rfl,⟨h.1,h.2.1,h.2.2.1,h.2.2.2.1,h1⟩,by simpa [Nat.add_assoc] using h2⟩
 | _,[],_::_,_,h=>h.elim
theorem Pd.pos:∀ {off:Nat} {ps:List (Nat × Nat × Nat)} {rs:List (List Keyed)},Pd L off ps rs→rs.length≤rs.flatten.length
 | _,[],[],_=>by simp
 | _,_::_,R::rs,h=>by
   have:=Pd.pos h.2.2.2.2;have:=h.2.2.1;simp only [List.flatten_cons,List.length_append,List.length_cons];omega
 | _,[],_::_,h=>h.elim
 | _,_::_,[],h=>h.elim
structure SI (L:Keyed→Keyed→Bool)(kd:SortKind)(all:List Keyed)(st:SortSt)(runs:List (List Keyed))(T:List Keyed):Prop where
 arr:(arrOf st).toList=runs.flatten++T
 perm:(runs.flatten++T).Perm all
 pend:Pd L 0 (pendingOf st).toList runs
 kind:kindOf st=kd
 failed:failedOf st=none
theorem split_at {α:Type}{l:List α}{i:Nat}(h:i+1<l.length):∃ l1 a b l2,l=l1++(a::b::l2)∧l1.length=i:=by refine ⟨l.take i,l[i],l[i+1],l.drop (i+2),?_,by rw [List.length_take];omega⟩;rw [← List.drop_eq_getElem_cons (by omega),← List.drop_eq_getElem_cons (by omega),List.take_append_drop]
end
section
variable {M:Model}{Ar:Around}{E:Value→Shared→Prop}{s:Shared}{kd:SortKind}{S:Keyed→Prop}{L:Keyed→Keyed→Bool}
theorem Zb0 (C:Cmp M Ar E s kd S L){all:List Keyed}{st:SortSt}{runs:List (List Keyed)}{T:List Keyed}{i:Nat}{Q:Bool→SortSt→Prop}(sS:∀ x∈all,S x)(h:SI L kd all st runs T)(hi:i+1<runs.length)
   (q:∀ st' runs',SI L kd all st' runs' T→runs'.length+1=runs.length→runs'.flatten.length=runs.flatten.length→Q true st'):wpS M Ar E s (mergeAt' i) Q st:=by
 obtain ⟨r1,A,B,r2,er,hl⟩:=split_at hi;subst er;obtain ⟨p1,p2,ep,d1,d2⟩:=Pd.split r1 h.pend;have lp:=d1.len;obtain ⟨a,b,p3,rfl⟩:∃ a b p3,p2=a::b::p3:=by
   have:=d2.len
   match p2,this with
   | a::b::p3,_=>exact ⟨a,b,p3,rfl⟩
   | [],e=>simp at e
   | [_],e=>simp at e
 obtain ⟨a1,a2,a3,a4,b1,b2,b3,b4,d3⟩:=d2;rw [Nat.zero_add] at a1 b1 d3;obtain ⟨as_,an,apw⟩:=a;obtain ⟨bs_,bn,bpw⟩:=b;dsimp only at a1 a2 b1 b2;subst a1 a2 b1 b2;have hpa:(pendingOf st)[i]?=some (r1.flatten.length,A.length,apw):=by rw [← Array.getElem?_toList,ep,List.getElem?_append_right (by omega),show i-p1.length=0 by omega];rfl
 have hpb:(pendingOf st)[i+1]?=some (r1.flatten.length+A.length,B.length,bpw):=by rw [← Array.getElem?_toList,ep,List.getElem?_append_right (by omega),show i+1-p1.length=1 by omega];rfl
 have earr:(arrOf st).toList=r1.flatten++(A++(B++(r2.flatten++T))):=by rw [h.arr];simp
 refine ZgG C h.kind h.failed (fun x hx=>sS x (h.perm.mem_iff.mp (by rw [← h.arr];exact hx))) ⟨earr,⟨_,hpa⟩,⟨_,hpb⟩,a4,b4,a3,b3⟩ fun st' R pw k' f' ar' rR pR pe'=>?_
 refine q st' (r1++(R::r2)) ⟨?_,?_,?_,k',f'⟩ ?_ ?_
 · rw [ar']
   simp
 · refine List.Perm.trans ?_ h.perm
   simp only [List.flatten_append,List.flatten_cons,List.append_assoc];refine List.Perm.append_left _ ?_;rw [← List.append_assoc A];exact pR.append_right _
 · rw [pe']
   have lR:R.length=A.length+B.length:=by rw [pR.length_eq,List.length_append]
   have ee:(((pendingOf st).setIfInBounds i (r1.flatten.length,A.length+B.length,pw)).eraseIdxIfInBounds (i+1)).toList=p1++((r1.flatten.length,A.length+B.length,pw)::p3):=by
     have sz:(pendingOf st).size=p1.length+(p3.length+2):=by rw [← Array.length_toList,ep];simp
     rw [Array.eraseIdxIfInBounds,dif_pos (by rw [Array.size_setIfInBounds];omega)];have hp1:p1.length=i:=lp.trans hl;rw [Array.toList_eraseIdx,Array.toList_setIfInBounds,ep,List.set_append_right _ _ (by omega),show i-p1.length=0 by omega,List.set_cons_zero,List.eraseIdx_append_of_length_le (by omega),show i+1-p1.length=1 by omega];rfl
   rw [ee];refine Pd.append d1 ?_;rw [Nat.zero_add];exact ⟨rfl,lR.symm,by show 0<R.length;omega,rR,by rw [lR,← Nat.add_assoc];exact d3⟩
 · simp only [List.length_append,List.length_cons]
   omega
 · simp only [List.flatten_append,List.flatten_cons,List.length_append,pR.length_eq]
   omega
theorem ZgK (p:Prop)[Decidable p](a:Nat):(if p then a-1 else a)≤a:=by split<;>omega
theorem SI.setLast {all:List Keyed} {st:SortSt} {runs:List (List Keyed)} {T:List Keyed} (h:SI L kd all st runs T) (pw:Nat):SI L kd all (setPending st ((pendingOf st).modify ((pendingOf st).size-1) fun (s1,len,_)=>(s1,len,pw))) runs T:=by
 refine ⟨h.arr,h.perm,?_,h.kind,h.failed⟩;show Pd L 0 ((pendingOf st).modify _ _).toList runs;rw [Array.toList_modify];generalize (pendingOf st).size-1=j;have:∀ (ps:List (Nat × Nat × Nat)) (rs:List (List Keyed)) (off j:Nat),Pd L off ps rs→Pd L off (ps.modify j fun (s1,len,_)=>(s1,len,pw)) rs:=by
   intro ps;induction ps with
   | nil=>intro rs off j h;simpa using h
   | cons p ps ih =>
     intro rs off j h;cases rs with
     | nil=>exact h.elim
     | cons R rs =>
       obtain ⟨p0,p1,p2⟩:=p;cases j with
       | zero=>exact h
       | succ j=>exact ⟨h.1,h.2.1,h.2.2.1,h.2.2.2.1,ih rs _ j h.2.2.2.2⟩
 exact this _ _ _ _ h.pend
theorem SI.push {all:List Keyed}{st st':SortSt}{runs:List (List Keyed)}{R T:List Keyed}(pe:Pd L 0 (pendingOf st').toList runs)(k:kindOf st'=kd)(f:failedOf st'=none)(ar:(arrOf st').toList=runs.flatten++(R++T))(pm:(runs.flatten++(R++T)).Perm all)(rR:Rise L R)(nR:0<R.length){lo n:Nat}
   (hlo:lo=runs.flatten.length) (hn:n=R.length):SI L kd all (setPending st' ((pendingOf st').push (lo,n,0))) (runs++[R]) T:=by
 subst hlo hn;refine ⟨?_,?_,?_,k,f⟩
 · show (arrOf st').toList=_
   rw [ar];simp
 · have e:(runs++[R]).flatten++T=runs.flatten++(R++T):=by simp
   rw [e];exact pm
 · show Pd L 0 ((pendingOf st').push _).toList _
   rw [Array.toList_push];exact Pd.append pe ⟨by simp,rfl,nR,rR,trivial⟩
theorem Ze7 (C:Cmp M Ar E s kd S L) {all:List Keyed} {st:SortSt} {Q:Unit→SortSt→Prop} (sS:∀ x∈all,S x) (k:kindOf st=kd) (f:failedOf st=none) (pe:pendingOf st=#[]) (ar:(arrOf st).toList=all)
   (h:∀ st',failedOf st'=none→(arrOf st').toList.Perm all→Rise L (arrOf st').toList→Q () st'):wpS M Ar E s sortRuns' Q st:=by
 have h0:SI L kd all st [] all:=⟨by simpa using ar,by simp,by rw [pe];trivial,k,f⟩
 have sz:(arrOf st).size=all.length:=by rw [← Array.length_toList,ar]
 rw [sortRuns'_eq];refine wpS_bind (wpS_get ?_);dsimp only;rw [sz];generalize minRun' all.length all.length 0=mr;refine wpS_bind (wpS_mono (wpS_forRange (I:=fun x c st'=>c.1=none∧x≤c.2∧∃ runs T,SI L kd all st' runs T∧runs.flatten.length=c.2)
   (Q:=fun c st'=>c.1=none∧∃ runs,SI L kd all st' runs []) ?step ?fin ?init) ?post)
 case init=>exact ⟨rfl,Nat.zero_le _,[],all,h0,rfl⟩
 case fin =>
   rintro ⟨c1,lo⟩ st' ⟨e1,hx,runs,T,si,hl⟩;refine ⟨e1,runs,?_⟩;dsimp only at hx hl;have:=si.perm.length_eq;rw [List.length_append] at this;have hT:T=[]:=List.length_eq_zero_iff.mp (by omega);subst hT;exact si
 case post =>
   rintro ⟨c1,lo⟩ st' ⟨e1,runs,si⟩;dsimp only at e1 ⊢;subst e1;dsimp only;refine wpS_bind (wpS_mono (wpS_forRange (I:=fun x c st'=>c.1=none∧∃ runs,SI L kd all st' runs []∧(runs.length+x≤all.length∨runs.length≤1)) (Q:=fun c st'=>c.1=none∧∃ runs,SI L kd all st' runs []∧runs.length≤1) ?step5 ?fin5 ?init5) ?post5)
   case init5 =>
     refine ⟨rfl,runs,si,.inl ?_⟩;have h1:=si.pend.pos;have h2:=si.perm.length_eq;rw [List.append_nil] at h2;omega
   case fin5 =>
     rintro ⟨c1,u⟩ st' ⟨e1,runs,si,hr⟩;refine ⟨e1,runs,si,?_⟩;omega
   case post5 =>
     rintro ⟨c1,u⟩ st' ⟨e1,runs,si,hr⟩;dsimp only at e1;subst e1;have e2:=si.arr;rw [List.append_nil] at e2;refine wpS_pure (h st' si.failed ?_ ?_)
     · have:=si.perm
       rw [List.append_nil] at this;rw [e2];exact this
     · rw [e2]
       have pd:=si.pend
       match runs,hr,pd with
       | [],_,_=>simp
       | [R],_,pd =>
         match hq:(pendingOf st').toList,pd with
         | p::ps,pd=>simpa using pd.2.2.2.1
         | [],pd=>exact pd.elim
   case step5 =>
     rintro x ⟨c1,u⟩ st' _ hx ⟨e1,runs,si,hr⟩;dsimp only at e1;subst e1;have pl:(pendingOf st').size=runs.length:=by rw [← Array.length_toList];exact si.pend.len
     refine wpS_bind (wpS_get ?_);by_cases z:(pendingOf st').size≤1
     · rw [if_pos z]
       exact wpS_pure ⟨rfl,runs,si,by omega⟩
     · rw [if_neg z]
       refine wpS_bind (Zb0 C sS si (Nat.lt_of_le_of_lt (Nat.add_le_add_right (ZgK _ _) 1) (by omega)) fun st4 runs4 si4 hl4 _=>?_);simp only [Bool.not_true,Bool.false_eq_true,if_false];exact wpS_pure ⟨rfl,runs4,si4,by omega⟩
 case step =>
   rintro x ⟨c1,lo⟩ st' _ hx ⟨e1,hxl,runs,T,si,hl⟩;dsimp only at e1 hxl hl ⊢;subst e1;by_cases z:lo≥all.length
   · rw [if_pos z]
     refine wpS_pure ⟨rfl,runs,?_⟩;have:=si.perm.length_eq;rw [List.length_append] at this;have hT:T=[]:=List.length_eq_zero_iff.mp (by omega);subst hT;exact si
   · rw [if_neg z]
     have lT:all.length-lo=T.length:=by have:=si.perm.length_eq;rw [List.length_append] at this;omega
     rw [lT];have nT:0<T.length:=by omega
     have sT:∀ x∈T,S x:=fun x hx=>sS x (si.perm.mem_iff.mp (List.mem_append_right _ hx))
     have cnt:=fun {Q:Option Nat→SortSt→Prop}=>Ze5 (Q:=Q) (M:=M) (Ar:=Ar) (E:=E) (s:=s) C (st:=st') (pre:=runs.flatten) (all:=T) si.kind sT si.arr nT
     rw [hl] at cnt;refine wpS_bind (cnt fun st1 R1 T1 sa1 ar1 rR1 pR1 nR1=>?_);dsimp only;have pm1:(runs.flatten++(R1++T1)).Perm all:=(List.Perm.append_left _ pR1).trans si.perm;have l1:R1.length+T1.length=T.length:=by rw [← List.length_append];exact pR1.length_eq
     by_cases z2:R1.length<mr
     · rw [if_pos z2]
       refine wpS_bind (wpS_lift (wpAny_rule ⟨rfl,?_⟩));have hk:min T.length mr=R1.length+(T1.take (min T.length mr-R1.length)).length:=by rw [List.length_take];omega
       have bs:=fun {Q:Bool→SortSt→Prop}=>ZhB (Q:=Q) (M:=M) (Ar:=Ar) (E:=E) (s:=s) C (st:=st1) (pre:=runs.flatten) (A:=R1) (U:=T1.take (min T.length mr-R1.length)) (post:=T1.drop (min T.length mr-R1.length)) (sa1.kind.trans si.kind)
         (fun x hx=>sT x (pR1.mem_iff.mp (by
           rcases List.mem_append.mp hx with q | q
           · exact List.mem_append_left _ q
           · exact List.mem_append_right _ (List.mem_of_mem_take q)))) (by rw [List.take_append_drop];exact ar1) rR1 nR1
       rw [hl,← hk] at bs;refine wpS_bind (bs fun st2 R sa2 ar2 rR pR=>?_);simp only [Bool.not_true,Bool.false_eq_true,if_false];have hn:min T.length mr=R.length:=by rw [pR.length_eq,List.length_append];exact hk
       have nR:0<R.length:=by omega
       generalize hT2:T1.drop (min T.length mr-R1.length)=T2 at *;have si2:SI L kd all st2 runs (R++T2):=by refine ⟨ar2,?_,by rw [sa2.pend,sa1.pend];exact si.pend,sa2.kind.trans (sa1.kind.trans si.kind),sa2.failed.trans (sa1.failed.trans si.failed)⟩;refine List.Perm.trans (List.Perm.append_left _ ?_) pm1;refine (pR.append_right _).trans ?_;rw [List.append_assoc,← hT2,List.take_append_drop]
       generalize hnn:min T.length mr=nn at *;refine wpS_bind (wpS_get ?_);cases eb:(pendingOf st2).back? with
       | none =>
         dsimp only;refine wpS_bind (wpS_modify (wpS_pure ⟨rfl,by dsimp only;omega,_,T2,SI.push (st:=st2) si2.pend si2.kind si2.failed si2.arr si2.perm rR nR hl.symm hn,?_⟩));simp only [List.flatten_append,List.flatten_cons,List.flatten_nil,List.append_nil,List.length_append];omega
       | some p =>
         obtain ⟨s1,n1,w1⟩:=p;dsimp only;refine wpS_bind (wpS_mono (wpS_forRange (I:=fun _ c st3=>c.1=none∧∃ runs3,SI L kd all st3 runs3 (R++T2)∧runs3.flatten.length=lo) (Q:=fun c st3=>c.1=none∧∃ runs3,SI L kd all st3 runs3 (R++T2)∧runs3.flatten.length=lo) ?stepm (fun _ _ z=>z) ?initm) ?postm)
         case initm=>exact ⟨rfl,runs,si2,hl⟩
         case stepm =>
           rintro y ⟨c1,u⟩ st3 _ _ ⟨e3,runs3,si3,hl3⟩;dsimp only at e3;subst e3;refine wpS_bind (wpS_get ?_);have pl:(pendingOf st3).size=runs3.length:=by rw [← Array.length_toList];exact si3.pend.len
           split
           next older he =>
             split
             · exact wpS_pure ⟨rfl,runs3,si3,hl3⟩
             · have h1:(pendingOf st3).size > 1:=by
                 by_cases hz:(pendingOf st3).size > 1
                 · exact hz
                 · rw [if_neg hz] at he
                   cases he
               refine wpS_bind (Zb0 C sS si3 (by omega) fun st4 runs4 si4 _ hf4=>?_);simp only [Bool.not_true,Bool.false_eq_true,if_false];exact wpS_pure ⟨rfl,runs4,si4,hf4.trans hl3⟩
           next=>exact wpS_pure ⟨rfl,runs3,si3,hl3⟩
         case postm =>
           rintro ⟨c1,u⟩ st3 ⟨e3,runs3,si3,hl3⟩;dsimp only at e3;subst e3;dsimp only;refine wpS_bind (wpS_modify ?_);have si4:=si3.setLast (power' all.length (2*s1+n1) (2*s1+n1+n1+nn) all.length);refine wpS_bind (wpS_modify (wpS_pure ⟨rfl,by dsimp only;omega,_,T2,SI.push (st:=st3) si4.pend si4.kind si4.failed si4.arr si4.perm rR nR hl3.symm hn,?_⟩));simp only [List.flatten_append,List.flatten_cons,List.flatten_nil,List.append_nil,List.length_append];omega
     · rw [if_neg z2]
       have si2:SI L kd all st1 runs (R1++T1):=⟨ar1,pm1,by rw [sa1.pend];exact si.pend,sa1.kind.trans si.kind,sa1.failed.trans si.failed⟩
       have rR:=rR1;have nR:=nR1;obtain ⟨nn,hn⟩:∃ nn,nn=R1.length:=⟨_,rfl⟩
       rw [← hn];refine wpS_bind (wpS_get ?_);cases eb:(pendingOf st1).back? with
       | none =>
         dsimp only;refine wpS_bind (wpS_modify (wpS_pure ⟨rfl,by dsimp only;omega,_,T1,SI.push (st:=st1) si2.pend si2.kind si2.failed si2.arr si2.perm rR nR hl.symm hn,?_⟩));simp only [List.flatten_append,List.flatten_cons,List.flatten_nil,List.append_nil,List.length_append];omega
       | some p =>
         obtain ⟨s1,n1,w1⟩:=p;dsimp only;refine wpS_bind (wpS_mono (wpS_forRange (I:=fun _ c st3=>c.1=none∧∃ runs3,SI L kd all st3 runs3 (R1++T1)∧runs3.flatten.length=lo) (Q:=fun c st3=>c.1=none∧∃ runs3,SI L kd all st3 runs3 (R1++T1)∧runs3.flatten.length=lo) ?stepm (fun _ _ z=>z) ?initm) ?postm)
         case initm=>exact ⟨rfl,runs,si2,hl⟩
         case stepm =>
           rintro y ⟨c1,u⟩ st3 _ _ ⟨e3,runs3,si3,hl3⟩;dsimp only at e3;subst e3;refine wpS_bind (wpS_get ?_);have pl:(pendingOf st3).size=runs3.length:=by rw [← Array.length_toList];exact si3.pend.len
           split
           next older he =>
             split
             · exact wpS_pure ⟨rfl,runs3,si3,hl3⟩
             · have h1:(pendingOf st3).size > 1:=by
                 by_cases hz:(pendingOf st3).size > 1
                 · exact hz
                 · rw [if_neg hz] at he
                   cases he
               refine wpS_bind (Zb0 C sS si3 (by omega) fun st4 runs4 si4 _ hf4=>?_);simp only [Bool.not_true,Bool.false_eq_true,if_false];exact wpS_pure ⟨rfl,runs4,si4,hf4.trans hl3⟩
           next=>exact wpS_pure ⟨rfl,runs3,si3,hl3⟩
         case postm =>
           rintro ⟨c1,u⟩ st3 ⟨e3,runs3,si3,hl3⟩;dsimp only at e3;subst e3;dsimp only;refine wpS_bind (wpS_modify ?_);have si4:=si3.setLast (power' all.length (2*s1+n1) (2*s1+n1+n1+nn) all.length);refine wpS_bind (wpS_modify (wpS_pure ⟨rfl,by dsimp only;omega,_,T1,SI.push (st:=st3) si4.pend si4.kind si4.failed si4.arr si4.perm rR nR hl3.symm hn,?_⟩));simp only [List.flatten_append,List.flatten_cons,List.flatten_nil,List.append_nil,List.length_append];omega
end
end Srt
namespace L2
open PySem PySem.Spec PyProof.Rows
abbrev bmVal:List Value:=[.type "ValueError",.type "Exception",.type "BaseException",.type "object"]
structure XCls (K:PySem.W.Frag)(C:Addr):Prop where
 q:PySem.W.excIn K C bmVal "ValueError.__new__"=true
 kp:PySem.W.keepIn K (.ref C)=true
section
variable {K:PySem.W.Frag}{h:Heap}{C:Addr}
theorem XCls.obj (c:XCls K C) (X:K.In h):∃ (nm qn:Str) (N:Addr) (bs bm:List Value) (hd:Bool) (sn:List Str) (sub:List Value) (ab:Bool) (col:Option Bool) (dd:Option Addr) (k0 k1 k2 k3 k5:Option Value) (mN:Str→Option Value),
   h.get? C=some (excClassObj nm qn C N bs bm hd sn sub ab col dd k0 k1 k2 k3 k5 "ValueError.__new__")∧h.Ns N mN∧mN "__init__"=none∧OwnTail h bmVal bm:=by
 have q:=c.q;unfold PySem.W.excIn at q;split at q
 next dd cd sl ho =>
   split at q
   next C' bm k0 k1 k2 k3 n k5 hm hs =>
     simp only [Bool.and_eq_true,beq_iff_eq,Bool.not_eq_true'] at q;obtain ⟨⟨⟨⟨⟨e1,e2⟩,hdel⟩,ht⟩,hok⟩,hni⟩:=q;subst e1 e2;obtain ⟨nm,bs,mro,ns,qn,hd,sn,sub,ab,col,del⟩:=cd;dsimp only at hm hdel hok hni;subst hm hdel;have hsl:sl=#[k0,k1,k2,k3,some (.builtin "ValueError.__new__"),k5]:=by obtain ⟨l⟩:=sl;simp only at hs;rw [hs]
     subst hsl;exact ⟨nm,qn,ns,bs,bm,hd,sn,sub,ab,col,dd,k0,k1,k2,k3,k5,_,X _ _ ho,.of_isNs (PySem.W.isNs_of_in X hok),PySem.W.nsMap_none_of_in X hok hni,PySem.W.tail_of_in X ht⟩
   next=>cases q
 next=>cases q
end
section
variable {P:Program}{w:World}{H:Hp}{h h':Heap}{a:Addr}{o:HO}
end
section
variable {X:Cx}{C:Addr}
end
end L2
namespace Srt
open PySem PyProof.Rows
abbrev SInt (p:Keyed):Prop:=∃ n t,p.1=.int n t
abbrev LInt (x y:Keyed):Bool:=decide (numOf x.1<numOf y.1)
section
variable {prog:Program}{w:World}{Ar:Around}{E:Value→Shared→Prop}{s:Shared}
theorem cmp_int:Cmp (model prog w) Ar E s oneType' SInt LInt where
 lt:=fun x y st Q hx hy hk h=>by
   obtain ⟨x1,x2⟩:=x;obtain ⟨y1,y2⟩:=y;obtain ⟨n,t,ex⟩:=hx;obtain ⟨m,u,ey⟩:=hy;dsimp only at ex ey;subst ex ey;rw [lt'_eq];refine wpS_bind (wpS_get ?_);rw [hk,keyLt'_oneType];exact wpS_bind (wpS_lift (wpAny_attempt (oneLt_int ⟨rfl,wpS_pure h⟩)))
 asym:=fun x y h=>by
   have h:numOf x.1<numOf y.1:=by simpa using h
   simp;omega
 neg:=fun x y z _ _ _ h=>by
   have h:numOf x.1<numOf z.1:=by simpa using h
   simp;omega
theorem sort_ints {a:Addr} {vs:List Value} {ns:List Int} {n:Nat} {P:Fin→Shared→Prop} (ho:s.heap.get? a=some (seqObj "list" vs.toArray n)) (hI:IntsAre vs ns) (hz:vs.length≤sizeLine)
   (h:∀ (out:Array Value) (ns':List Int),IntsAre out.toList ns'→ns'.Perm ns→ns'.Pairwise (·≤·)→P (.done (.ret .none)) { s with heap:=sortedHeap s.heap a vs out }) :
   wpAny (model prog w) Ar (Builtin.«list.sort» ⟨[.ref a],[]⟩) P E s:=by
 rw [list_sort_plain];have la:a<s.heap.objs.size:=Heap.lt_size ho;refine wpAny_bind (listItems_at ho rfl (wpAny_bind (listUpdate_at ho rfl ?_ (hsz:=by simpa using hz))));obtain ⟨e1,h1⟩:∃ e1,(s.heap.update a (Obj.mapSeq fun _=>#[])).get? a=some (seqObj "list" #[] e1):=⟨_,get?_update_seq ho (fun _=>#[])⟩
 refine wpAny_bind (seqEpoch_at h1 rfl (wpAny_bind (wpAny_newTuple ?_ (by simpa using hz))));refine wpAny_bind (wpAny_newList (wpAny_holding ?_));have h6:(((s.heap.update a (Obj.mapSeq fun _=>#[])).push (seqObj "tuple" vs.toArray 0)).push (seqObj "list" #[] 0)).get? a=some (seqObj "list" #[] e1) :=
   Heap.get?_push_of_some _ (Heap.get?_push_of_some _ h1)
 show wpAny (model prog w) Ar _ P E { s with heap:=((s.heap.update a (Obj.mapSeq fun _=>#[])).push (seqObj "tuple" vs.toArray 0)).push (seqObj "list" #[] 0) };dsimp only;have pz:(pairsOf vs).size=vs.length:=pairsOf_size vs;have done:∀ st':SortSt,(arrOf st').toList.Perm (pairsOf vs).toList→Rise LInt (arrOf st').toList→P (.done (.ret .none)) { s with heap:=sortedHeap s.heap a vs ((arrOf st').map (·.2)) }:=by
   intro st' hp hs;have hp':(arrOf st').Perm (pairsOf vs):=Array.perm_iff_toList_perm.mpr hp;obtain ⟨ns',g1,g2,g3⟩:=sorted_out hI hp' (fun i j hij hj=>by
     have hj':j<(arrOf st').size:=by rw [hp'.size_eq];exact hj
     rw [K_eq (by omega),K_eq hj'];rcases Nat.lt_or_ge i j with q | q
     · have:=List.pairwise_iff_getElem.mp hs i j (by simp;omega) (by simpa using hj') q
       simp at this;exact this
     · have:i=j:=by omega
       subst this;exact Int.le_refl _)
   exact h _ ns' g1 g2 g3
 by_cases h2:vs.toArray.size<2
 · rw [if_pos h2,if_pos h2]
   refine wpAny_bind (wpAny_pure ?_);rw [StateT.run_pure];refine wpAny_bind (wpAny_pure ?_);dsimp only;refine wpAny_bind (seqEpoch_at h6 rfl (wpAny_bind (listUpdate_at h6 rfl ?_ (hsz2:=?_))))
   · simp only [bne_self_eq_false,Bool.false_eq_true,if_false]
     refine wpAny_pure (done (SortSt.mk' general' (pairsOf vs) #[] 7 none) (List.Perm.refl _) ?_);show Rise LInt (pairsOf vs).toList;have hl:(pairsOf vs).toList.length<2:=by rw [Array.length_toList,pz];simpa using h2
     match (pairsOf vs).toList,hl with
     | [],_=>simp
     | [_],_=>simp
     | _::_::_,hl=>simp at hl;omega
   · rw [Array.size_map]
     exact Nat.le_trans (Nat.le_of_eq pz) (Nat.le_succ_of_le hz)
 · rw [if_neg h2,if_neg h2]
   obtain ⟨v1,v2,rest,ev⟩:∃ v1 v2 rest,vs=v1::v2::rest:=by
     match vs,h2 with
     | [],h2=>simp at h2
     | [_],h2=>simp at h2
     | v1::v2::rest,_=>exact ⟨v1,v2,rest,rfl⟩
   have kk:keyKind' vs.toArray=pure oneType':=by subst ev;exact keyKind_ints hI
   rw [kk];refine wpAny_bind (wpAny_pure ?_);refine wpAny_bind (wpAny_mono (Ze7 (all:=(pairsOf vs).toList) (st:=SortSt.mk' oneType' (pairsOf vs) #[] 7 none) (Q:=fun _ st'=>(arrOf st').toList.Perm (pairsOf vs).toList∧failedOf st'=none∧Rise LInt (arrOf st').toList)
     cmp_int hI.intKeys rfl rfl rfl rfl fun st' f1 p1 r1=>⟨p1,f1,r1⟩) ?_ fun _ _ e=>e)
   rintro ⟨⟨⟩,st'⟩ s' ⟨rfl,hp,hf,hr⟩;dsimp only;refine wpAny_bind (seqEpoch_at h6 rfl (wpAny_bind (listUpdate_at h6 rfl ?_ (hsz2:=?_))))
   · rw [hf]
     simp only [bne_self_eq_false,Bool.false_eq_true,if_false];exact wpAny_pure (done st' hp hr)
   · rw [Array.size_map,← Array.length_toList,hp.length_eq,Array.length_toList]
     exact Nat.le_trans (Nat.le_of_eq pz) (Nat.le_succ_of_le hz)
end
end Srt
namespace L2
open PySem PySem.Spec PyProof.Rows
section
variable {X:Cx}
theorem boot_sorted:bootBuiltins "sorted"=some (.builtin "sorted"):=by decide +kernel
end
end L2
namespace Srt
open PySem PyProof.Rows PySem.W
section
variable {prog:Program}{w:World}{Ar:Around}{E:Value→Shared→Prop}{s:Shared}
end
end Srt
namespace L2
open PySem PySem.Spec PyProof.Rows
section
variable {X:Cx}
end
end L2
namespace SG
open PySem PySem.Spec PyProof.Rows
def Ris (xs:Array Nat):Prop:=∀ i j (hj:j<xs.size) (h:i<j),xs[i]<xs[j]
theorem Ris.le {xs:Array Nat}(r:Ris xs){i j:Nat}(hj:j<xs.size)(h:i≤j):xs[i]≤xs[j]:=by
 rcases Nat.lt_or_ge i j with q | q
 · exact Nat.le_of_lt (r i j hj q)
 · have:i=j:=Nat.le_antisymm h q
   subst this;exact Nat.le_refl _
theorem go_ok {xs:Array Nat} (r:Ris xs) (j:Nat):∀ (n lo hi:Nat),hi-lo≤n→lo≤hi→hi≤xs.size→(∀ i (h:i<xs.size),i<lo→xs[i]<j)→(∀ i (h:i<xs.size),hi≤i→j≤xs[i]) →
   (∀ i (h:i<xs.size),i<SetTable.below.go xs j n lo hi→xs[i]<j)∧(∀ i (h:i<xs.size),SetTable.below.go xs j n lo hi≤i→j≤xs[i])∧SetTable.below.go xs j n lo hi≤xs.size
 | 0,lo,hi,hn,h1,h2,a,b=>by
   have e:lo=hi:=by omega
   subst e;unfold SetTable.below.go;exact ⟨a,b,h2⟩
 | n + 1,lo,hi,hn,h1,h2,a,b=>by
   unfold SetTable.below.go;by_cases q:lo<hi
   · rw [if_pos q]
     have hm:(lo+hi)/2<xs.size:=by omega
     have eg:xs.getD ((lo+hi)/2) j=xs[(lo+hi)/2]:=by simp [Array.getD,hm]
     dsimp only;rw [eg];by_cases c:xs[(lo+hi)/2]<j
     · rw [if_pos c]
       refine go_ok r j n ((lo+hi)/2+1) hi (by omega) (by omega) h2 (fun i h hi'=>?_) b;exact Nat.lt_of_le_of_lt (r.le hm (by omega)) c
     · rw [if_neg c]
       refine go_ok r j n lo ((lo+hi)/2) (by omega) (by omega) (by omega) a (fun i h hi'=>?_);exact Nat.le_trans (Nat.le_of_not_lt c) (r.le h hi')
   · rw [if_neg q]
     have e:lo=hi:=by omega
     subst e;exact ⟨a,b,h2⟩
theorem below_ok {xs:Array Nat}(r:Ris xs)(j:Nat):(∀ i (h:i<xs.size),i<SetTable.below xs j→xs[i]<j)∧(∀ i (h:i<xs.size),SetTable.below xs j≤i→j≤xs[i])∧SetTable.below xs j≤xs.size:=by unfold SetTable.below;exact go_ok r j xs.size 0 xs.size (by omega) (by omega) (Nat.le_refl _) (fun i h z=>absurd z (Nat.not_lt_zero _)) (fun i h z=>absurd h (by omega))
theorem Zii {xs:Array Nat}:Ris xs↔xs.toList.Pairwise (·<·):=by
 rw [List.pairwise_iff_getElem];constructor
 · intro r i j hi hj h
   have:=r i j (by simpa using hj) h;simpa using this
 · intro r i j hj h
   have:=r i j (by simp;omega) (by simpa using hj) h;simpa using this
theorem ris_put {xs:Array Nat}(r:Ris xs){j:Nat}(n:xs[SetTable.below xs j]?≠some j):Ris (SetTable.insertAt xs (SetTable.below xs j) j):=by
 obtain ⟨a,b,c⟩:=below_ok r j;have b':∀ i (h:i<xs.size),SetTable.below xs j≤i→j<xs[i]:=by
   intro i h q;have h1:=b i h q;rcases Nat.lt_or_ge j xs[i] with z | z
   · exact z
   · exfalso
     have e:xs[i]=j:=Nat.le_antisymm z h1;have hp:SetTable.below xs j<xs.size:=by omega
     have e2:xs[SetTable.below xs j]=j:=Nat.le_antisymm (by have:=r.le h q;omega) (b _ hp (Nat.le_refl _));apply n
     rw [Array.getElem?_eq_getElem hp,e2]
 generalize SetTable.below xs j=p at a b' c;rw [Zii] at r ⊢;unfold SetTable.insertAt;have e:((xs.extract 0 p).push j++xs.extract p xs.size).toList=xs.toList.take p++j::xs.toList.drop p:=by simp [Array.toList_extract,List.extract];exact List.take_of_length_le (by rw [List.length_drop,Array.length_toList];exact Nat.le_refl _)
 rw [e,List.pairwise_append];refine ⟨r.sublist (List.take_sublist _ _),?_,?_⟩
 · rw [List.pairwise_cons]
   refine ⟨fun y hy=>?_,r.sublist (List.drop_sublist _ _)⟩;obtain ⟨i,hi,rfl⟩:=List.mem_iff_getElem.mp hy;rw [List.getElem_drop];have hl:p+i<xs.size:=by rw [List.length_drop,Array.length_toList] at hi;omega
   have:=b' (p+i) hl (by omega);simpa using this
 · intro y hy z hz
   have hy1:y<j:=by
     obtain ⟨i,hi,rfl⟩:=List.mem_iff_getElem.mp hy;rw [List.getElem_take];have hl:i<p:=by rw [List.length_take] at hi;omega
     have:=a i (by rw [List.length_take,Array.length_toList] at hi;omega) hl;simpa using this
   rcases List.mem_cons.mp hz with rfl | hz
   · exact hy1
   · obtain ⟨i,hi,rfl⟩:=List.mem_iff_getElem.mp hz
     rw [List.getElem_drop];have hl:p+i<xs.size:=by rw [List.length_drop,Array.length_toList] at hi;omega
     have:=b' (p+i) hl (by omega);have:j<xs.toList[p+i]'(by simpa using hl):=by simpa using this
     omega
theorem Zc8 {t:SetTable} {f:Nat→Int} {h:Int}:∀ (n:Nat) (p:SetTable.Probe) (j:Nat) (d:Option Nat),(∀ x,p.dummy=some x→t.slot x=.dummy)→SetTable.probe.go t f h n p=some (.empty j d)→(t.slot j=.empty)∧∀ x,d=some x→t.slot x=.dummy
 | 0,p,j,d,hd,e=>by unfold SetTable.probe.go at e;cases e
 | n + 1,p,j,d,hd,e=>by
   unfold SetTable.probe.go at e;have adv:∀ q:SetTable.Probe,(t.advance q).dummy=q.dummy:=by intro q;unfold SetTable.advance;split<;>rfl
   split at e
   · rename_i hs
     cases e;exact ⟨hs,hd⟩
   · rename_i hs
     refine Zc8 n _ j d (fun x hx=>?_) e;rw [adv] at hx;cases hx;exact hs
   · split at e
     · cases e
     · refine Zc8 n _ j d (fun x hx=>?_) e
       rw [adv] at hx;exact hd x hx
theorem Zhr {t:SetTable}{j:Nat}(h:t.slot j=.empty∨t.slot j=.dummy):t.place[SetTable.below t.place j]?≠some j:=by intro e;unfold SetTable.slot at h;simp only [e,beq_self_eq_true,if_true] at h;rcases h with h | h<;>cases h
theorem free_not {t:SetTable}{h:Int}{j:Nat}{b:Bool}(e:t.freeSlot h=some (j,b)):t.place[SetTable.below t.place j]?≠some j:=by
 unfold SetTable.freeSlot at e;split at e
 · rename_i j0 d hp
   unfold SetTable.probe at hp;obtain ⟨h1,h2⟩:=Zc8 _ _ _ _ (fun x hx=>by cases hx) hp;cases e;cases d with
   | none=>exact Zhr (.inl h1)
   | some x=>exact Zhr (.inr (h2 x rfl))
 · cases e
structure Good (bt:Bool)(t:SetTable):Prop where
 led:t.led=!bt
 ris:t.plain=true→Ris t.place
theorem Good.standIn {bt:Bool}{t:SetTable}(g:Good bt t)(n:Nat):Good bt (t.standIn n):=⟨g.led,fun h=>by cases h⟩
theorem Good.layNew {bt:Bool}{t:SetTable}(g:Good bt t)(es:Array (Int × Value))(h:Int)(x:Value):Good bt (layNew t es h x).2.1:=by
 unfold PySem.layNew;split
 · rename_i j b e
   show Good bt ((t.put j).1.orStandIn _);have gp:Good bt (t.put j).1:=⟨g.led,fun hp=>ris_put (g.ris hp) (free_not e)⟩
   unfold SetTable.orStandIn;split
   · exact gp
   · exact gp.standIn _
 · exact g.standIn _
theorem Good.relayAll {bt:Bool}{t:SetTable}(g:Good bt t)(es:Array (Int × Value))(n:Nat):Good bt (relayAll t es n).2.1:=by
 unfold PySem.relayAll;split
 · rename_i t' ord e
   have gt:Good bt t':=by unfold SetTable.relaid SetTable.laid at e;simp only [Option.bind_eq_bind,Option.bind_eq_some_iff,Option.pure_def] at e;obtain ⟨ow,_,e⟩:=e;cases e;refine ⟨g.led,fun _=>?_⟩;rw [Zii];show (List.map _ _).Pairwise _;rw [List.pairwise_map];refine List.Pairwise.filterMap (R:=(·<·)) _ (fun a a' haa b hb c hc=>?_) List.pairwise_lt_range;simp only [Option.map_eq_some_iff] at hb hc;obtain ⟨_,_,rfl⟩:=hb;obtain ⟨_,_,rfl⟩:=hc;exact haa
   dsimp only;split
   · exact gt
   · exact g.standIn _
 · exact g.standIn _
end SG
namespace SG
open PySem PySem.Spec PyProof.Rows
def iv:Value→Int
 | .int k _=>k
 | _=>0
def bt (w:World):Bool:=w.params.followText "set-order"
def ST (prog:Program)(w:World)(h:Heap)(a:Addr)(ks:List Int):Prop :=
 ∃ o es ep t,h.get? a=some o∧o.ExactSet∧o.data=.set es ep t∧ElemsOf (intKind prog w) es.toList∧es.size<scanBound∧t.fits es.size=true∧Good (bt w) t∧(es.toList.map fun e=>iv e.2)=ks∧ks.Nodup
section
variable {prog:Program}{w:World}{A:Around}{E:Value→Shared→Prop}{s:Shared}
theorem Zhq {k:Int}{e:Int × Value}{es:List (Int × Value)}(el:ElemsOf (intKind prog w) es)(he:e∈es):(intKind prog w).is k e.2=true↔iv e.2=k:=by
 obtain ⟨⟨k',h1,_⟩,_⟩:=el e he;obtain ⟨t,e2⟩:=Value.isInt_shape h1;rw [e2];constructor
 · intro h
   exact (intKind prog w).inj _ _ _ (intKind_is prog w k' t) h
 · intro h
   have h:k'=k:=h;subst h;exact intKind_is prog w k' t
theorem put_at {h:Heap}{a:Addr}{o:Obj}{es:Array (Int × Value)}{ep:Nat}{t:SetTable}(ho:h.get? a=some o)(hd:o.data=.set es ep t)(es':Array (Int × Value))(t':SetTable) :
   (h.update a (Obj.putSet es' t')).get? a=some { o with data:=.set es' (ep+1) t' }:=by
 have q:=Heap.get?_update_self (Obj.putSet es' t') ho (by rw [putSet_of es' t' hd];rfl);rw [putSet_of es' t' hd] at q;exact q
theorem ZjH {es es':Array (Int × Value)}(p:es'.toList.Perm es.toList):es'.size=es.size:=by rw [← Array.length_toList,p.length_eq,Array.length_toList]
theorem Zhz {g:Bool→Sem Unit}(hg:∀ (b:Bool) (s1:Shared) (Q':Unit→Shared→Prop),Q' () s1→wpAny (model prog w) A (g b) Q' E s1){a:Addr}{o:Obj}{es:Array (Int × Value)}{ep:Nat}{t:SetTable}(ho:s.heap.get? a=some o)(hx:o.ExactSet)(hd:o.data=.set es ep t)
   {es1:Array (Int × Value)} {t2:SetTable} {wd:Bool} {R:Option Bool→Shared→Prop} (el:ElemsOf (intKind prog w) es1.toList) (hb:es1.size<scanBound) (hf:t2.fits es1.size=true) (gd:Good (bt w) t2) (nd:(es1.toList.map fun e=>iv e.2).Nodup)
   (q:∀ h' ks',Heap.SameBut a s.heap h'→ST prog w h' a ks'→ks'.Perm (es1.toList.map fun e=>iv e.2)→R (some true) { s with heap:=h' }) :
   wpAny (model prog w) A (do storeSet a es1 t2;if (!wd&&t2.tooFull)=true then (do g (relayAll t2 es1 (SetTable.grown es1.size)).2.2;storeSet a (relayAll t2 es1 (SetTable.grown es1.size)).1 (relayAll t2 es1 (SetTable.grown es1.size)).2.1;pure (some true)) else pure (some true)) R E s:=by
 refine wpAny_bind (wpAny_storeSet_of ho hd ?_ (fits_of_scanBound hb));have ho1:=put_at ho hd es1 t2;have sb:=Heap.SameBut.update s.heap a (Obj.putSet es1 t2);split
 · have pp:=relayAll_perm t2 es1 (SetTable.grown es1.size)
   have pf:=relayAll_fits t2 es1 (SetTable.grown es1.size);have pg:=gd.relayAll es1 (SetTable.grown es1.size);generalize relayAll t2 es1 (SetTable.grown es1.size)=Z at pp pf pg ⊢;obtain ⟨es2,t3,gv⟩:=Z;have pp:es2.toList.Perm es1.toList:=pp;have hb2:es2.size<scanBound:=by rw [ZjH pp];exact hb
   refine wpAny_bind (hg _ _ _ (wpAny_bind (wpAny_storeSet_of ho1 rfl ?_ (fits_of_scanBound hb2))));refine wpAny_pure (q _ _ (sb.trans (Heap.SameBut.update _ a _)) ⟨_,es2,_,t3,put_at ho1 rfl es2 t3,hx,rfl,el.perm pp,hb2,pf,pg,rfl,?_⟩ (pp.map _));exact (pp.map fun e=>iv e.2).nodup_iff.mpr nd
 · exact wpAny_pure (q _ _ sb ⟨_,es1,_,t2,ho1,hx,rfl,el,hb,hf,gd,rfl,nd⟩ (.refl _))
theorem add_int {a:Addr} {ks:List Int} {k:Int} {tk:Tok} {Q:Bool→Shared→Prop} (hS:ST prog w s.heap a ks) (room:ks.length+1<scanBound)
   (q:∀ b h' ks',Heap.SameBut a s.heap h'→ST prog w h' a ks'→(∀ y,y∈ks'↔y∈ks∨y=k)→ks'.length≤ks.length+1→Q b { s with heap:=h' }):wpAny (model prog w) A (setAddHashed a (.int k tk) ((intKind prog w).hash k)) Q E s:=by
 obtain ⟨o,es,ep,t,ho,hx,hd,el,hb,hf,gd,rfl,nd⟩:=hS;have hk:=intKind_is prog w k tk;have lz:(es.toList.map fun e=>iv e.2).length=es.size:=by rw [List.length_map,Array.length_toList]
 unfold setAddHashed;unfold setAddHashedIn;refine wpAny_holding (wpAny_bind (wpAny_setState_of ho hd hf ?_));dsimp only;rw [byScan_of (x:=Value.int k tk) rfl hb el,if_pos rfl];unfold setAddByScan;refine wpAny_bind (wpAny_bind (wpAny_rule (wpAny_bind (wpAny_setScan_of hk ho hd hf el ?_))));cases hr:List.findIdx? (fun e=>(intKind prog w).is k e.2) es.toList with
 | some j =>
   dsimp only;obtain ⟨hj,pj,_⟩:=List.findIdx?_eq_some_iff_getElem.mp hr;have hm:k∈es.toList.map fun e=>iv e.2:=List.mem_map.mpr ⟨_,List.getElem_mem hj,(Zhq el (List.getElem_mem hj)).mp pj⟩
   refine wpAny_pure (wpAny_pure ?_);have:=q false s.heap _ (Heap.SameBut.refl a s.heap) ⟨o,es,ep,t,ho,hx,hd,el,hb,hf,gd,rfl,nd⟩ (fun y=>⟨.inl,fun z=>z.elim id fun e=>e ▸ hm⟩) (Nat.le_succ _);exact this
 | none =>
   dsimp only;have hm:k∉es.toList.map fun e=>iv e.2:=by intro z;obtain ⟨e,he,e1⟩:=List.mem_map.mp z;have:=List.findIdx?_eq_none_iff.mp hr e he;rw [(Zhq el he).mpr e1] at this;cases this
   have gw:∀ (b:Bool) (s1:Shared) (Q':Unit→Shared→Prop),Q' () s1→wpAny (model prog w) A (match b with | true=>rule "set.scan.the-table-gave-way" | false=>pure ()) Q' E s1:=fun b s1 Q' z=>by
     cases b
     · exact wpAny_pure z
     · exact wpAny_rule z
   have lp:=layNew_perm t es ((intKind prog w).hash k) (.int k tk);have lf:=layNew_fits t es ((intKind prog w).hash k) (.int k tk);have lg:=gd.layNew es ((intKind prog w).hash k) (.int k tk);generalize layNew t es ((intKind prog w).hash k) (.int k tk)=Z at lp lf lg ⊢;obtain ⟨es1,t1,wd,gv⟩:=Z;have lf:t1.fits es1.size=true:=lf;have lg:Good (bt w) t1:=lg;have lp:es1.toList.Perm (es.toList++[((intKind prog w).hash k,.int k tk)]):=by
     have:=lp
     rwa [Array.toList_push] at this
   have el1:ElemsOf (intKind prog w) es1.toList:=(el.push hk rfl).perm lp;have l1:es1.size=es.size+1:=by have:=lp.length_eq;rw [List.length_append,Array.length_toList,Array.length_toList] at this;exact this
   have hb1:es1.size<scanBound:=by rw [l1];rw [lz] at room;exact room
   have pm:(es1.toList.map fun e=>iv e.2).Perm ((es.toList.map fun e=>iv e.2)++[k]):=by
     have:=lp.map fun e=>iv e.2
     rwa [List.map_append] at this
   have nd1:(es1.toList.map fun e=>iv e.2).Nodup:=by rw [pm.nodup_iff,List.nodup_append];exact ⟨nd,(by simp),fun x hx y hy e=>hm (by rw [List.mem_singleton.mp hy] at e;rw [← e];exact hx)⟩
   have fin:∀ h' ks',Heap.SameBut a s.heap h'→ST prog w h' a ks'→ks'.Perm (es1.toList.map fun e=>iv e.2)→Q true { s with heap:=h' }:=fun h' ks' sb st p=>by
     refine q true h' ks' sb st (fun y=>?_) ?_
     · rw [p.mem_iff,pm.mem_iff,List.mem_append,List.mem_singleton]
     · rw [p.length_eq,List.length_map,Array.length_toList,l1,lz]
       exact Nat.le_refl _
   dsimp only;refine wpAny_bind (gw _ _ _ ?_);split
   · refine wpAny_bind ?_
     rw [hashByValue_scannable 8 (x:=Value.int k tk) rfl];refine wpAny_pure (Zhz (fun b s1 Q' z=>gw b s1 Q' z) ho hx hd el1 hb1 ?_ ?_ nd1 fun h' ks' sb st p=>wpAny_pure (fin h' ks' sb st p))
     · exact lf
     · exact lg
   · refine wpAny_bind (wpAny_pure (Zhz (fun b s1 Q' z=>gw b s1 Q' z) ho hx hd el1 hb1 ?_ ?_ nd1 fun h' ks' sb st p=>wpAny_pure (fin h' ks' sb st p)))
     · exact lf
     · exact lg
set_option maxHeartbeats 3200000 in
end
end SG
namespace SG
open PySem PySem.Spec PyProof.Rows
section
variable {prog:Program}{w:World}{A:Around}{E:Value→Shared→Prop}{s:Shared}{a:Addr}{o:Obj}{es:Array (Int × Value)}{ep:Nat}{t:SetTable}
end
end SG
namespace SG
open PySem PySem.Spec PyProof.Rows
section
variable {prog:Program}{w:World}{A:Around}{E:Value→Shared→Prop}{s:Shared}{a I:Addr}{o:Obj}{es:Array (Int × Value)}{ep:Nat}{t:SetTable}
end
end SG
namespace SG
open PySem PySem.Spec PyProof.Rows
structure Wk (prog:Program)(w:World)(h0 h2:Heap)(a:Addr)(ks:List Int)(I:Addr):Prop where
 ex:∃ (fp wr:List Addr) (vs:List Value) (ks':List Int) (St:Nat→Heap→Prop),(∀ A:Around,A.handled=none→Walks prog w A I fp wr vs.length (fun i v=>vs[i]?=some v) St)∧St 0 h2∧(∀ b∈fp,b<h2.objs.size)∧I∈fp∧(∀ b∈wr,h0.get? b=none)∧IntsAre vs ks'∧ks'.Perm ks∧(∀ b∈fp,b=a∨h0.get? b=none)
 old:∀ b o,h0.get? b=some o→h2.get? b=some o
section
variable {prog:Program}{w:World}{A:Around}{E:Value→Shared→Prop}{s:Shared}{a I:Addr}{o:Obj}{es:Array (Int × Value)}{ep:Nat}{t:SetTable}
end
end SG
namespace SG
open PySem PySem.Spec PyProof.Rows
section
variable {prog:Program}{w:World}{A:Around}{E:Value→Shared→Prop}{s:Shared}{a:Addr}
end
end SG
namespace SG
open PySem PySem.Spec PyProof.Rows Srt
section
variable {prog:Program}{w:World}{Ar:Around}{E:Value→Shared→Prop}{s:Shared}{a:Addr}
end
end SG
namespace L2
open PySem PySem.Spec PyProof.Rows
section
variable {X:Cx}{pins:List (Addr × Obj)}{σ:St}{H:Hp}{s:Shared}
end
section
variable {X:Cx}{e:Expr}{te:TE}{p p' pos pos':Pos}
end
end L2
namespace L2
open PySem PySem.Spec PyProof.Rows
def cxLam (P:Program)(w:World)(K:PySem.W.Frag)(mg:Str→Option Value)(base:Heap)(N:List Str)(qual:Str)(scope:Scope)(f:Addr)(cd:Value)(cl:List (Str × Addr))(A:Around)(outer:List Env)(s:Shared)(H:Hp):Cx where
 prog:=P
 w:=w
 K:=K
 mg:=mg
 base:=base
 A:=A.deeper (PySem.W.envX qual scope s.heap.objs.size f cd cl)
 N:=N
 s₀:=s
 H₀:=H
 env:=PySem.W.envX qual scope s.heap.objs.size f cd cl
 outer:=outer
 stack:=PySem.W.envX qual scope s.heap.objs.size f cd cl::outer
 ex:=[]
 calm:=true
 fn:=fun _=>false
 pn:=[]
 xe:=fun _ _=>False
structure LamScope (p:Str)(caps:List Str)(sc:Scope):Prop where
 kind:sc.kind=.function
 co:sc.isCoroutine=false
 gen:sc.isGenerator=false
 nd:(p::caps).Nodup
 par:sc.names.lookup p=some .local
 cap:∀ x∈caps,sc.names.lookup x=some .free
 has:∀ x,sc.names.lookup x=some .free→x∈caps
 nocell:∀ x∈sc.names,x.2≠.cell
theorem LamScope.nolook {p:Str}{caps:List Str}{sc:Scope}(S:LamScope p caps sc)(x:Str):sc.names.lookup x≠some .cell:=fun h=>S.nocell _ (PySem.mem_of_lookup h) rfl
structure LamCells (h:Heap)(caps:List Str)(cl:List (Str × Addr))(cvs:List V):Prop where
 at_:∀ (i:Nat) (x:Str),caps[i]?=some x→∃ (c:Addr) (u:Value) (v:V),cl.lookup x=some c∧h.IsCell c (some u)∧cvs[i]?=some v∧RelV v u
 inj:∀ x y c,cl.lookup x=some c→cl.lookup y=some c→x=y
 all:∀ x c,cl.lookup x=some c→∃ v,h.IsCell c v
 len:cvs.length=caps.length
abbrev Fz (o:Obj):HO:=.frz o (.own 0)
def CodeO (oc:Obj)(qual:Str):Prop:=∃ (vs:Array Value) (t:Tok),oc.data=.fields vs∧vs[1]?=some (.str qual t)
section
variable {P:Program}{w:World}{K:PySem.W.Frag}{mg:Str→Option Value}{base:Heap}{k:Nat}{f c':Addr}{oc:Obj}{name qual p:Str}{caps:List Str}{params:Arguments}{body:Expr}{scope:Scope}{cl:List (Str × Addr)}{pm ctv:Value}{cvs:List V}{tb:TE}
theorem fn_lam (hcd:CodeO oc qual) (S:LamScope p caps scope) (C:LamCells base caps cl cvs)
   (hbody:∀ (A:Around) (outer:List Env) (s:Shared) (H:Hp),Room k (A.deeper (PySem.W.envX qual scope s.heap.objs.size f (.ref c') cl))→PE (cxLam P w K mg base (p::caps) qual scope f (.ref c') cl A outer s H) body tb) :
   FnOk P w K mg base CX0 (k+1) f (PySem.W.kla_fn name qual params body scope cl pm (.ref c') ctv) [p] (fun vs H Q _=>∃ x,vs=[x]∧H f=some (Fz (PySem.W.kla_obj name qual params body scope cl pm c' ctv))∧H c'=some (Fz oc)∧tb (some x::cvs.map some) H Q):=by
 refine ⟨fun vs H Q E h=>by obtain ⟨x,rfl,_⟩:=h;rfl,fun A outer s H args us vs Q E hr e0 hb r hsp=>?_⟩;obtain ⟨x,rfl,hf,hc,ht⟩:=hsp;obtain ⟨u,rfl,ru⟩:=r.one;have lim:s.heap.NoLimit:=e0.mod.nolimit.keeps fun b o e=>(e0.bs b o e).1
 have hfo:s.heap.get? f=some (PySem.W.kla_obj name qual params body scope cl pm c' ctv):=(e0.hok f _ hf).1;have hcr:s.heap.CodeRec (.ref c') qual:=by obtain ⟨vs,t,e1,e2⟩:=hcd;exact ⟨c',oc,vs,t,rfl,(e0.hok c' _ hc).1,e1,e2⟩
 refine PySem.W.kla_callFunE hr.depth hfo rfl S.co S.gen rfl hcr (hb _ _ _ _ ?_);refine wpAny_newFunctionEnv S.nocell (fun y hy=>?_) (fun h1 hns hsb=>⟨lim.fresh _ hsb,?_⟩) S.kind
 · have:y=(p,u):=by simpa using hy
   rw [this];exact S.par
 have hk:∀ b o,s.heap.get? b=some o→h1.get? b=some o:=fun b o e=>hsb.extBut b o (Nat.ne_of_lt (Heap.lt_size e)) (Heap.get?_push_of_some _ e)
 have kc:∀ {c:Addr} {v:Option Value},base.IsCell c v→h1.IsCell c v∧H c=none:=fun {c v} z=>by
   obtain ⟨o,e,d⟩:=z;exact ⟨⟨o,hk _ _ (e0.bs _ _ e).1,d⟩,(e0.bs _ _ e).2⟩
 have I:Inv (cxLam P w K mg base (p::caps) qual scope f (.ref c') cl A outer s H) [] (some x::cvs.map some) H { s with heap:=h1,toks:=s.toks+1 }:=by
   refine ⟨⟨e0.mod,S.kind,rfl,rfl,Nat.le_refl _,C.inj,fun y hy=>?_,(fun y c h=>nomatch h),fun _=>hr.hd,Around.frames_deeper e0.frames,.inr ⟨rfl,rfl⟩,fun b z=>absurd (show b∈([]:List Addr) from z) (by simp),e0.bs,e0.bsz,fun b _ _ z=>absurd (show b∈([]:List Addr) from z) (by simp),fun b z=>absurd (show b∈([]:List Addr) from z) (by simp),e0.funs,e0.frf⟩,
     rfl,e0.bare,Un.kept hk,⟨_,hns,fun i y v h1 h2 h3=>?_⟩,fun y c h=>?_,e0.hok.fresh (Nat.le_refl _),fun y c h=>?_,fun q hq=>absurd (show q∈([]:List (Addr × Obj)) from hq) (by simp),e0.hok.kept hk,?_⟩
   · have hy:scope.names.lookup y=some .cell∨scope.names.lookup y=some .free:=hy
     rcases hy with hy | hy
     · exact absurd hy (S.nolook y)
     · obtain ⟨i,hi,e⟩:=List.mem_iff_getElem.mp (S.has y hy)
       obtain ⟨c,_,_,h,_⟩:=C.at_ i y (by rw [List.getElem?_eq_getElem hi,e]);exact ⟨c,h⟩
   · cases i with
     | zero =>
       cases (show p=y from Option.some.inj h1);cases (show x=v from Option.some.inj (Option.some.inj h2));exact ⟨u,ru,.inl ⟨S.par,by simp⟩⟩
     | succ i =>
       have h1:caps[i]?=some y:=h1;obtain ⟨c,u2,v2,e1,e2,e3,e4⟩:=C.at_ i y h1;have h2:(cvs.map some)[i]?=some (some v):=h2;rw [List.getElem?_map,e3] at h2;cases (show v2=v from Option.some.inj (Option.some.inj h2));exact ⟨u2,e4,.inr ⟨.inr (S.cap y (List.mem_of_getElem? h1)),c,e1,(kc e2).1⟩⟩
   · obtain ⟨v,e⟩:=C.all y c h
     exact ⟨v,(kc e).1⟩
   · obtain ⟨v,e⟩:=C.all y c h
     exact (kc e).2
   · show (some x::cvs.map some).length=(p::caps).length
     rw [List.length_cons,List.length_cons,List.length_map,C.len]
 refine PySem.W.kla_codeExpr (wpAny_mono (hbody A outer s H (hr.deeper _) [] _ _ H Q I ht) (fun v s' hs=>?_) fun e s' hs=>hs.elim);obtain ⟨v,H',J,rv,q⟩:=hs;exact ⟨v,H',J.os,J.bare,J.base,J.hok,rv,q⟩
end
def LamAt (P:Program)(w:World)(K:PySem.W.Frag)(mg:Str→Option Value)(base:Heap)(k:Nat)(f:Addr)(ps:List Str)(sp:Sp):Prop :=
 ∃ fd:FuncData,FnOk P w K mg base CX0 k f fd ps sp∧Binds K fd ps []
def tCallV (P:Program)(w:World)(K:PySem.W.Frag)(mg:Str→Option Value)(base:Heap)(k:Nat)(i:Nat)(t:TA):TE:=fun σ H Q=>∃ (f:Addr) (o:Obj) (fd:FuncData) (ps:List Str) (sp:Sp),
 σ[i]?=some (some (.ref f))∧H f=some (Fz o)∧o.data=.func fd∧LamAt P w K mg base k f ps sp∧t σ H fun vs H1=>H1 f=some (Fz o)∧sp vs H1 Q E0
theorem Zfz {P:Program}{w:World}{K:PySem.W.Frag}{mg:Str→Option Value}{base:Heap}{k i:Nat}{t:TA}{σ:St}{H:Hp}{Q:VK}:tCallV P w K mg base k i t σ H Q=∃ (f:Addr) (o:Obj) (fd:FuncData) (ps:List Str) (sp:Sp),
 σ[i]?=some (some (.ref f))∧H f=some (Fz o)∧o.data=.func fd∧LamAt P w K mg base k f ps sp∧t σ H fun vs H1=>H1 f=some (Fz o)∧sp vs H1 Q E0:=rfl
section
variable {X:Cx}{x:Str}{k:Nat}{e:Expr}{es:List Expr}{t:TA}{p pos:Pos}
theorem pe_callV (i:Nat)(hr:Room k X.A)(ha:PA X (e::es) t)(hN:X.N[i]?=some x:=by rfl)(hv:Vis X.env.scope x:=by first | exact Or.inl rfl | exact Or.inr (Or.inl rfl) | exact Or.inr (Or.inr rfl))(hd:(x==("__debug__":Str))=false:=by decide)(hcd:(x==("__classdict__":Str))=false:=by decide)
   (he:starEach (e::es) X.env=(false,eval e X.env)::starEach es X.env:=by rfl) (hpl:(backTo pos (starEach es X.env)).any (·.1)=false:=by rfl):PE X (.Call (.Name x p) (e::es) [] pos) (tCallV X.prog X.w X.K X.mg X.base k i t):=by
 intro pins s σ H Q I h;obtain ⟨f,o,fd,ps,sp,hs,hf,ho,⟨fd2,F,B⟩,h⟩:=h;have pn:PE X (.Name x p) (tVar i):=pv i hN hv hd hcd;refine wpAny_Call_Name_kw (thn (pn pins s σ H (fun v H1=>v=.ref f∧H1=H) I ?_) fun u s1 ⟨v,H1,I1,r1,e1,e2⟩=>?_)
 · exact ⟨.ref f,hs,rfl,rfl⟩
 subst e1 e2;cases r1;have fa:∀ {s2:Shared} {H2:Hp},Inv X pins σ H2 s2→H2 f=some (Fz o)→PySem.W.FnAt f s2.heap:=fun {s2 H2} J z=>by
   obtain ⟨oc,od,dat,sl⟩:=o;have ho:dat=.func fd:=ho;subst ho;exact ⟨oc,od,fd,sl,(J.hok f _ z).1⟩
 refine PySem.W.callWith_F (fa I1 hf) (thn (ha pos pins s1 σ H1 _ I1 h) fun us s2 ⟨vs,H2,I2,r,hf2,q⟩=>⟨fa I2 hf2,?_⟩) he hpl;have q':sp (vs++[]) H2 Q E0:=by rw [List.append_nil];exact q
 exact ZdT F hr B .nil pass0 I2 r q'
end
end L2
namespace L2
open PySem PySem.Spec PyProof.Rows
section
variable {X:Cx}{pins:List (Addr × Obj)}{σ:St}{H:Hp}{s:Shared}{h':Heap}
theorem Inv.grown {t':Nat} {Pt c f:Addr} {ts more:Array Value} {oc fo:Obj} (I:Inv X pins σ H s) (hP:H Pt=some (.tbl ts)) (k:∀ b u,b≠Pt→s.heap.get? b=some u→h'.get? b=some u) (hP':h'.get? Pt=some { cls:=.none,data:=.fields (ts++more) })
   (hc:(s.heap.objs.size≤c∨H c=some (Fz oc))∧h'.get? c=some oc) (hf:s.heap.objs.size≤f) (hf':h'.get? f=some fo) (nc:c≠f) (ncP:c≠Pt):Inv X pins σ (upd (upd (upd H Pt (.tbl (ts++more))) c (Fz oc)) f (Fz fo)) { s with heap:=h',toks:=t' }:=by
 have lP:Pt<s.heap.objs.size:=Heap.lt_size (show s.heap.get? Pt=some _ from I.hok Pt _ hP);have nfP:f≠Pt:=Nat.ne_of_gt (Nat.lt_of_lt_of_le lP hf);have neF:∀ b u,s.heap.get? b=some u→b≠f:=fun b u e z=>absurd (Nat.lt_of_lt_of_le (Heap.lt_size e) (by rw [z];exact hf)) (Nat.lt_irrefl _)
 have nF:H f=none:=I.hok.fresh hf;have same:∀ b o,H b=some o→b≠Pt→b≠c→upd (upd (upd H Pt (.tbl (ts++more))) c (Fz oc)) f (Fz fo) b=some o:=fun b o e n1 n2=>by
   rw [Zah (Zan e nF),Zah n2,Zah n1];exact e
 have keepAll:∀ b o,H b=some o→(∀ ps,o≠.tbl ps)→upd (upd (upd H Pt (.tbl (ts++more))) c (Fz oc)) f (Fz fo) b=some o:=fun b o e n=>by
   have n1:b≠Pt:=fun z=>by rw [z,hP] at e;cases e;exact n _ rfl
   by_cases n2:b=c
   · rcases hc.1 with z | z
     · have:=I.hok.fresh z
       rw [← n2,e] at this;cases this
     · rw [← n2,e] at z
       cases z;rw [Zah (Zan e nF),n2,Zab]
   · exact same b o e n1 n2
 refine I.step (g':=s.gens) (d':=s.drawn) (ch:=[]) (fun _ z=>nomatch z) (fun b u _ _ _ e n=>k b u (fun z=>by rw [z,hP] at n;cases n) e) (fun b u _ _ _ e n=>⟨u.slots,k b u (fun z=>by rw [z,hP] at n;cases n) e⟩) (fun b u _ e n=>?_) (fun b u _ e=>?_) (fun b xs e=>keepAll b _ e fun ps z=>by cases z) (fun b u v e=>keepAll b _ e fun ps z=>by cases z) (fun b ps e=>?_) (fun m hm=>?_) (fun b u e=>?_) I.bare
 · rw [Zah (neF b u e),Zah,Zah]
   · exact n
   · exact fun z=>by rw [z,hP] at n;cases n
   · intro z
     rcases hc.1 with y | y
     · rw [z] at e
       exact absurd (Nat.lt_of_lt_of_le (Heap.lt_size e) y) (Nat.lt_irrefl _)
     · rw [z,y] at n
       cases n
 · by_cases z:b=Pt
   · rw [z];exact ⟨_,hP'⟩
   · exact ⟨u,k b u z e⟩
 · by_cases z:b=Pt
   · rw [z,hP] at e
     cases e;exact ⟨more,by rw [z,Zah (Ne.symm nfP),Zah (Ne.symm ncP),Zab]⟩
   · refine ⟨#[],?_⟩
     have n2:b≠c:=fun y=>by
       rcases hc.1 with q | q
       · have:=I.hok.fresh q
         rw [← y,e] at this;cases this
       · rw [← y,e] at q;cases q
     rw [same b _ e z n2];simp
 · obtain ⟨u,es,ep,ho,r⟩:=hm
   exact ⟨u,es,ep,k _ u (fun z=>by have:=I.free;rw [z,hP] at this;cases this) ho,r⟩
 · by_cases q1:b=f
   · rw [q1,Zab] at e
     cases e;rw [q1];exact ⟨hf',⟨fo,hf'⟩⟩
   · rw [Zah q1] at e
     by_cases q2:b=c
     · rw [q2,Zab] at e
       cases e;rw [q2];exact ⟨hc.2,⟨oc,hc.2⟩⟩
     · rw [Zah q2] at e
       by_cases q3:b=Pt
       · rw [q3,Zab] at e
         cases e;rw [q3];exact hP'
       · rw [Zah q3] at e
         refine (I.hok b u e).stay (fun c' v hc' q=>k c' v ?_ q) (fun c' q=>keepAll c' _ q fun ps z=>by cases z) fun c' xs q=>keepAll c' _ q fun ps z=>by cases z
         rcases hc' with z | z
         · rw [z];exact q3
         · intro y;rw [y,hP] at z;cases z
end
def Tb (H:Hp)(Pt:Addr)(qual:Str)(lp:Pos):Prop:=H Pt=some (.tbl #[])∨∃ (c:Addr) (oc:Obj),H Pt=some (.tbl #[rawInt lp.line,rawInt lp.col,.ref c])∧H c=some (Fz oc)∧CodeO oc qual∧c≠Pt
theorem Tb.same {H H':Hp}{Pt:Addr}{qual:Str}{lp:Pos}(h:Tb H Pt qual lp)(s:Same H H'):Tb H' Pt qual lp:=by
 rcases h with h | ⟨c,oc,h1,h2,h3⟩
 · exact .inl (s _ _ h)
 · exact .inr ⟨c,oc,s _ _ h1,s _ _ h2,h3⟩
def SameT (Pt:Addr)(H H':Hp):Prop:=∀ b o,b≠Pt→H b=some o→H' b=some o
structure LamIn (X:Cx)(pn:Str)(caps:List Str)(ixs:List Nat)(scope:Scope)(clos:List (Str × Addr))(c Pt:Addr):Prop where
 sc:LamScope pn caps scope
 code:X.env.code=.ref c
 hd:PySem.W.CodeHd X.base c Pt
 cl:closureFor scope X.env=pure clos
 sub:∀ y a,clos.lookup y=some a→X.env.cells.lookup y=some a
 ix:∀ (i:Nat) (y:Str),caps[i]?=some y→∃ (j:Nat) (a:Addr),ixs[i]?=some j∧X.N[j]?=some y∧X.env.scope.names.lookup y=some .cell∧clos.lookup y=some a
 len:ixs.length=caps.length
 fn:∀ x,X.fn x=true
 blt:X.base.BuiltinsAt X.mg Pt
 ng:mainGlobals≠Pt
def valAt (σ:St)(j:Nat):V:=((σ[j]?).getD none).getD .non
structure Ready (P:Program)(w:World)(K:PySem.W.Frag)(mg:Str→Option Value)(base:Heap)(k:Nat)(pn:Str)(tb:TE)(cvs:List V)(H0 H:Hp)(f:Addr):Prop where
 ex:∃ (o:Obj) (fd:FuncData) (c:Addr) (oc:Obj),H f=some (Fz o)∧o.data=.func fd∧H c=some (Fz oc)∧H0 f=none ∧
   LamAt P w K mg base k f [pn] (fun vs H Q _=>∃ x,vs=[x]∧H f=some (Fz o)∧H c=some (Fz oc)∧tb (some x::cvs.map some) H Q)
def tCallLam (P:Program)(w:World)(K:PySem.W.Frag)(mg:Str→Option Value)(k:Nat)(pn:Str)(ixs:List Nat)(Pt:Addr)(qual:Str)(lp:Pos)(spg:Heap→Sp)(te tb:TE):TE:=fun σ H Q=>te σ H fun v H1 =>
 (∀ j∈ixs,∃ u,σ[j]?=some (some u))∧Tb H1 Pt qual lp∧∀ base' f H2,SameT Pt H1 H2→Tb H2 Pt qual lp→Ready P w K mg base' k pn tb (ixs.map (valAt σ)) H1 H2 f→spg base' [v,.ref f] H2 Q E0
theorem Zd2 {P:Program}{w:World}{K:PySem.W.Frag}{mg:Str→Option Value}{k:Nat}{pn:Str}{ixs:List Nat}{Pt:Addr}{qual:Str}{lp:Pos}{spg:Heap→Sp}{te tb:TE}{σ:St}{H:Hp}{Q:VK}:tCallLam P w K mg k pn ixs Pt qual lp spg te tb σ H Q=te σ H fun v H1 =>
 (∀ j∈ixs,∃ u,σ[j]?=some (some u))∧Tb H1 Pt qual lp∧∀ base' f H2,SameT Pt H1 H2→Tb H2 Pt qual lp→Ready P w K mg base' k pn tb (ixs.map (valAt σ)) H1 H2 f→spg base' [v,.ref f] H2 Q E0:=rfl
section
variable {X:Cx}{pins:List (Addr × Obj)}{σ:St}{H:Hp}{s:Shared}
open Classical in
noncomputable def withCells (h base:Heap) (clos:List (Str × Addr)):Heap:=hidT h (fun b=>if (∃ o,base.get? b=some o)∨∃ y,clos.lookup y=some b then none else some (.tbl #[]))
theorem Zb2 {h base:Heap}{clos:List (Str × Addr)}{b:Addr}{o:Obj}(e:h.get? b=some o)(a:(∃ o,base.get? b=some o)∨∃ y,clos.lookup y=some b):(withCells h base clos).get? b=some o :=
 Zho e (by rw [if_pos a])
theorem ZdA {h base:Heap}{clos:List (Str × Addr)}{b:Addr}{o:Obj}(e:(withCells h base clos).get? b=some o):h.get? b=some o∧((∃ o,base.get? b=some o)∨∃ y,clos.lookup y=some b):=by obtain ⟨e1,e2⟩:=ZiA e;refine ⟨e1,Classical.byContradiction fun n=>?_⟩;rw [if_neg n] at e2;cases e2
theorem Inv.env1 {pn:Str} {caps:List Str} {ixs:List Nat} {scope:Scope} {clos:List (Str × Addr)} {c Pt:Addr} (L:LamIn X pn caps ixs scope clos c Pt) (I:Inv X pins σ H s):Env0 X.prog X.w X.K X.mg (withCells s.heap X.base clos) X.A X.stack s H:=by
 have e0:=I.env0;have up:∀ b o,X.base.get? b=some o→(withCells s.heap X.base clos).get? b=some o:=fun b o e=>Zb2 (e0.bs b o e).1 (.inl ⟨o,e⟩)
 refine ⟨e0.frames,?_,fun b o e=>?_,Nat.le_of_eq (ZfI _ _),?_,e0.frf,e0.hok,e0.bare⟩
 · obtain ⟨m1,m2,⟨mb,m3,m4⟩,m5⟩:=e0.mod
   exact ⟨m1.keeps up,m2.keeps up,⟨mb,m3.keeps up,m4⟩,m5.keeps up⟩
 · obtain ⟨e1,e2⟩:=ZdA e
   rcases e2 with ⟨o',e2⟩ | ⟨y,e2⟩
   · obtain ⟨a1,a2⟩:=e0.bs b o' e2
     exact ⟨e1,a2⟩
   · exact ⟨e1,I.freeC y b (L.sub y b e2)⟩
 · have cab:∀ y b,clos.lookup y=some b→X.s₀.heap.objs.size≤b:=fun y b e=>I.ok.cab y b (L.fn y) (L.sub y b e)
   have key:∀ l:List Env,(∀ e∈l,∀ Lf,e.frame=some Lf→(X.base.get? Lf=none→(withCells s.heap X.base clos).get? Lf=none))→s.heap.FunFrames X.base l→s.heap.FunFrames (withCells s.heap X.base clos) l:=by
     intro l;induction l with
     | nil=>exact fun _ _=>trivial
     | cons env rest ih =>
       intro h1 h2;obtain ⟨a1,⟨Lf,o,a2,a3,a4,a5⟩,a6⟩:=h2;exact ⟨a1,⟨Lf,o,a2,h1 env (.head _) Lf a2 a3,a4,a5⟩,ih (fun e he=>h1 e (.tail _ he)) a6⟩
   refine key X.stack (fun e he Lf hL hb=>?_) e0.funs;cases q:(withCells s.heap X.base clos).get? Lf with
   | none=>rfl
   | some o =>
     exfalso
     obtain ⟨q1,q2⟩:=ZdA q;rcases q2 with ⟨o',q2⟩ | ⟨y,q2⟩
     · rw [q2] at hb;cases hb
     · obtain ⟨v,oc,z1,z2⟩:=I.cell y Lf (L.sub y Lf q2)
       have out:e∈X.outer→False:=fun ho=>by
         have lt:∀ l:List Env,e∈l→X.s₀.heap.FunFrames X.base l→Lf<X.s₀.heap.objs.size:=by
           intro l;induction l with
           | nil=>intro z;cases z
           | cons env rest ih =>
             intro z h2;obtain ⟨_,⟨L2,o2,a2,_,a4,_⟩,a6⟩:=h2;rcases List.mem_cons.mp z with z | z
             · rw [← z,hL] at a2
               cases a2;exact Heap.lt_size a4
             · exact ih z a6
         exact absurd (lt X.outer ho I.ok.funs) (Nat.not_lt.mpr (cab y Lf q2))
       rcases I.ok.stk with z | ⟨z,zf⟩
       · exact out (by rw [← z];exact he)
       · rw [z] at he
         rcases List.mem_cons.mp he with he | he
         · rw [he,zf] at hL
           cases hL;obtain ⟨m,⟨u,es,epn,hu,du,_⟩,_⟩:=I.loc;rw [hu] at z1;cases z1;rw [du] at z2;cases z2
         · exact out he
end
section
variable {X:Cx}{pn g a1 a2:Str}{caps:List Str}{ixs:List Nat}{params:Arguments}{scope:Scope}{clos:List (Str × Addr)}{c Pt:Addr}{body e1:Expr}{lp p pos:Pos}{te tb:TE}{k kg:Nat}{spg:Heap→Sp}
theorem cells_of {pins:List (Addr × Obj)}{σ:St}{H:Hp}{s:Shared}(L:LamIn X pn caps ixs scope clos c Pt)(I:Inv X pins σ H s)(hv:∀ j∈ixs,∃ u,σ[j]?=some (some u)):LamCells (withCells s.heap X.base clos) caps clos (ixs.map (valAt σ)):=by
 refine ⟨fun i y hy=>?_,fun x y b h1 h2=>I.ok.inj x y b (L.sub _ _ h1) (L.sub _ _ h2),fun y b h=>?_,by rw [List.length_map];exact L.len⟩
 · obtain ⟨j,a,h1,h2,h3,h4⟩:=L.ix i y hy
   obtain ⟨v,hv⟩:=hv j (List.mem_of_getElem? h1);obtain ⟨m,hn,hl⟩:=I.loc;obtain ⟨u,ru,hlk⟩:=hl j y v h2 hv (.inr (.inl h3));rcases hlk with ⟨q,_⟩ | ⟨_,b,hb,hc⟩
   · rw [show X.env.kindOf y=_ from h3] at q
     cases q
   · have:b=a:=Option.some.inj (hb.symm.trans (L.sub y a h4))
     subst this;obtain ⟨o,ho,hd⟩:=hc;refine ⟨b,u,v,h4,⟨o,Zb2 ho (.inr ⟨y,h4⟩),hd⟩,?_,ru⟩;rw [List.getElem?_map,h1];show some (valAt σ j)=some v;unfold valAt;rw [hv];rfl
 · obtain ⟨v,o,ho,hd⟩:=I.cell y b (L.sub _ _ h)
   exact ⟨v,o,Zb2 ho (.inr ⟨y,h⟩),hd⟩
end
end L2
namespace L2
open PySem PySem.Spec PyProof.Rows
section
variable {X:Cx}{pn g:Str}{ps:List Str}{caps:List Str}{ixs:List Nat}{params:Arguments}{scope:Scope}{clos:List (Str × Addr)}{c Pt:Addr}{body e1:Expr}{lp p pos:Pos}{te tb:TE}{k kg:Nat}{spg:Heap→Sp}
theorem make_lam {pins:List (Addr × Obj)}{σ:St}{H:Hp}{s:Shared}{Q:Value→Shared→Prop}(L:LamIn X pn caps ixs scope clos c Pt)(hdef:defaultsOf params X.env=([],[]))(I:Inv X pins σ H s)(ht:Tb H Pt (X.env.qual++"<lambda>") lp)
   (q:∀ f c' oc pm ctv h' tk H2,H2 f=some (Fz (PySem.W.kla_obj "<lambda>" (X.env.qual++"<lambda>") params body scope clos pm c' ctv))→H2 c'=some (Fz oc)→CodeO oc (X.env.qual++"<lambda>")→H f=none→SameT Pt H H2→Tb H2 Pt (X.env.qual++"<lambda>") lp→Inv X pins σ H2 { s with heap:=h',toks:=tk }→Q (.ref f) { s with heap:=h',toks:=tk }) :
   wpAny (model X.prog X.w) X.A (eval (.Lambda params body scope lp) X.env) Q X.xe s:=by
 have hg:s.heap.Ns mainGlobals X.mg:=I.mod.glob.keeps I.bk;have C:PySem.W.CodeHd s.heap c Pt:=L.hd.keeps I.bk;have hB:s.heap.BuiltinsAt X.mg Pt:=by obtain ⟨bm,o,b1,b2,b3,b4,b5,r⟩:=L.blt;exact ⟨bm,o,b1,b2,b3,b4,I.bk _ _ b5,r⟩
 refine PySem.W.kla_eval hdef ?_;have lt:∀ {ts:Array Value},H Pt=some (.tbl ts)→Pt<s.heap.objs.size:=fun h=>Heap.lt_size (show s.heap.get? Pt=some _ from I.hok Pt _ h)
 rcases ht with h0 | ⟨c0,oc,h0,hc0,hco,ncP⟩
 · refine PySem.W.kla_makeFunction L.cl I.ok.glob hg L.code C (I.hok Pt _ h0) trivial rfl L.ng hB fun c' ctv h' tk hx hge hlt hrec htb=>?_
   obtain ⟨c2,oc,vs,t,e1,e2,e3,e4⟩:=hrec;cases e1;have ncP:c'≠Pt:=Nat.ne_of_gt (Nat.lt_of_lt_of_le (lt h0) hge);have lf:s.heap.objs.size≤h'.objs.size:=Nat.le_of_lt (Nat.lt_of_le_of_lt hge hlt);have nf:h'.objs.size≠Pt:=Nat.ne_of_gt (Nat.lt_of_lt_of_le (lt h0) lf);have J:=I.grown (t':=tk) (more:=#[rawInt lp.line,rawInt lp.col,.ref c']) (h':=h'.push (PySem.W.kla_obj "<lambda>" (X.env.qual++"<lambda>") params body scope clos ((X.mg "__name__").getD .none) c' ctv)) h0 (fun b u ne e=>Heap.get?_push_of_some _ (hx b u ne e)) (Heap.get?_push_of_some _ htb) ⟨.inl hge,Heap.get?_push_of_some _ e2⟩ lf (Heap.get?_push_size _ rfl) (Nat.ne_of_lt hlt) ncP;have hfn:H h'.objs.size=none:=I.hok.fresh lf;have hcn:H c'=none:=I.hok.fresh hge;refine q h'.objs.size c' oc _ ctv _ tk _ Zab (by rw [Zah (Nat.ne_of_lt hlt),Zab]) ⟨vs,t,e3,e4⟩ hfn (fun b o n e=>?_) (.inr ⟨c',oc,?_,?_,⟨vs,t,e3,e4⟩,ncP⟩) J
   · rw [Zah (Zan e hfn),Zah (Zan e hcn),Zah n]
     exact e
   · rw [Zah (Ne.symm nf),Zah (Ne.symm ncP),Zab]
     rfl
   · rw [Zah (Nat.ne_of_lt hlt),Zab]
 · refine PySem.W.kla_makeFunctionHit (cv:=.ref c0) L.cl I.ok.glob hg L.code C (I.hok Pt _ h0) trivial ?_ hB fun ctv h' tk hk hsz=>?_
   · show (if ((lp.line:Int)==(lp.line:Int)&&(lp.col:Int)==(lp.col:Int))=true then some (Value.ref c0) else _)=_
     rw [if_pos (by simp)]
   have nf:h'.objs.size≠Pt:=Nat.ne_of_gt (Nat.lt_of_lt_of_le (lt h0) hsz);have lc:c0<s.heap.objs.size:=Heap.lt_size (I.hok c0 _ hc0).1;have ncf:c0≠h'.objs.size:=Nat.ne_of_lt (Nat.lt_of_lt_of_le lc hsz);have J:=I.grown (t':=tk) (more:=#[]) (h':=h'.push (PySem.W.kla_obj "<lambda>" (X.env.qual++"<lambda>") params body scope clos ((X.mg "__name__").getD .none) c0 ctv)) h0 (fun b u _ e=>Heap.get?_push_of_some _ (hk b u e)) (by rw [Array.append_empty];exact Heap.get?_push_of_some _ (hk _ _ (I.hok Pt _ h0))) ⟨.inr hc0,Heap.get?_push_of_some _ (hk _ _ (I.hok c0 _ hc0).1)⟩ hsz (Heap.get?_push_size _ rfl) ncf ncP;have hfn:H h'.objs.size=none:=I.hok.fresh hsz;refine q h'.objs.size c0 oc _ ctv _ tk _ Zab (by rw [Zah ncf,Zab]) hco hfn (fun b o n e=>?_) (.inr ⟨c0,oc,?_,?_,hco,ncP⟩) J
   · rw [Zah (Zan e hfn)]
     by_cases z:b=c0
     · rw [z,Zab];rw [z,hc0] at e;exact e
     · rw [Zah z,Zah n];exact e
   · rw [Zah (Ne.symm nf),Zah (Ne.symm ncP),Zab,Array.append_empty]
   · rw [Zah ncf,Zab]
theorem ZhZ (L:LamIn X pn caps ixs scope clos c Pt)(hdef:defaultsOf params X.env=([],[]))(hbnd:∀ (pm:Value) (c':Addr) (ctv u:Value),bindArgs (PySem.W.kla_fn "<lambda>" (X.env.qual++"<lambda>") params body scope clos pm (.ref c') ctv) ⟨[u],[]⟩=pure [(pn,u)])
   (hbody:∀ (base':Heap) (f c':Addr) (A:Around) (outer:List Env) (s:Shared) (H:Hp),Room k (A.deeper (PySem.W.envX (X.env.qual++"<lambda>") scope s.heap.objs.size f (.ref c') clos))→PE (cxLam X.prog X.w X.K X.mg base' (pn::caps) (X.env.qual++"<lambda>") scope f (.ref c') clos A outer s H) body tb)
   (Fg:∀ base',FnAt X.prog X.w X.K X.mg base' g ps kg (spg base')) (hr:Room kg X.A) (hg:Gl X g) (he1:PE X e1 te)
   (hs:starEach [e1,.Lambda params body scope lp] X.env=[(false,eval e1 X.env),(false,eval (.Lambda params body scope lp) X.env)]:=by rfl) (hs2:starEach [.Lambda params body scope lp] X.env=[(false,eval (.Lambda params body scope lp) X.env)]:=by rfl) (hdb:(g==("__debug__":Str))=false:=by decide) :
   PE X (.Call (.Name g p) [e1,.Lambda params body scope lp] [] pos) (tCallLam X.prog X.w X.K X.mg (k+1) pn ixs Pt (X.env.qual++"<lambda>") lp spg te tb):=by
 intro pins s σ H Q I h;obtain ⟨ff,fdf,_,mf,kp,_⟩:=Fg X.base;refine wpAny_Call_Name_kw (Zby I hg mf ?_ hdb);refine PySem.W.callWith_K (h₀:=X.base) I.ok.mod.kin kp ?_ (by rw [hs,hs2]) (by rw [hs2];rfl);rw [hs];show wpAny _ _ (spliced ((false,eval e1 X.env)::backTo pos [(false,eval (.Lambda params body scope lp) X.env)])) _ _ s;refine Calls.spliced_cons (thn (he1 pins s σ H _ I h) fun u s1 ⟨v,H1,I1,r1,hv,htb,q⟩=>?_);show wpAny _ _ (spliced ((false,eval (.Lambda params body scope lp) X.env)::backTo pos [])) _ _ s1;refine Calls.spliced_cons (make_lam L hdef I1 htb fun f c' oc pm ctv h' tk H2 e1 e2 e3 e4 e5 e6 J=>Calls.spliced_nil ⟨J.kIn,?_⟩);obtain ⟨f2,fd2,G,m2,_,b2⟩:=Fg (withCells h' X.base clos);have ef:f2=ff:=by have:=m2.symm.trans mf;cases this;rfl
 subst ef;have C:=cells_of L J hv;have FL:=fn_lam (P:=X.prog) (w:=X.w) (K:=X.K) (mg:=X.mg) (base:=withCells h' X.base clos) (k:=k) (f:=f) (c':=c') (oc:=oc) (name:="<lambda>") (params:=params) (body:=body) (pm:=pm) (ctv:=ctv) (tb:=tb) e3 L.sc C (hbody _ f c');have R:Ready X.prog X.w X.K X.mg (withCells h' X.base clos) (k+1) pn tb (ixs.map (valAt σ)) H1 H2 f:=⟨_,_,c',oc,e1,rfl,e2,e4,_,FL,Binds.all fun us hl=>by
   match us,hl with
   | [u],_=>exact hbnd pm c' ctv u⟩
 have hq:=q _ f H2 e5 e6 R;have e0:=J.env1 L;have hl:[u,Value.ref f].length=ps.length:=by have:=G.len _ _ _ _ hq;rw [← this];rfl
 refine wpAny_call (codeAny_mono (G.run X.A X.stack _ H2 ⟨[u,.ref f],[]⟩ [u,.ref f] [v,.ref f] Q E0 hr e0 ?_ (.cons r1 (.cons rfl .nil)) hq) fun r s' hq=>?_)
 · have:=b2 { s1 with heap:=h',toks:=tk } [u,.ref f] J.kIn (by simpa using hl)
   simpa using this
 · cases r with
   | error e=>exact hq.elim
   | ok fl =>
     cases fl with
     | ret u=>exact J.after hq
     | next=>exact False.elim hq
     | brk=>exact False.elim hq
     | cont=>exact False.elim hq
end
end L2
namespace L2
open PySem PySem.Spec PyProof.Rows
def TabIn (base:Heap)(mg:Str→Option Value)(t:Addr × Addr):Prop:=PySem.W.CodeHd base t.1 t.2∧base.BuiltinsAt mg t.2∧mainGlobals≠t.2
theorem ZjL {P:Program}{w:World}{K:PySem.W.Frag}{mg mb:Str→Option Value}{k:Nat}{fa a:Addr}{fd:FuncData}{x:Str}{sp:Sp}{s₁:Shared}{vs:List Value}{ns:List Int}{tabs:List (Addr × Addr)}
   (KX:K.In s₁.heap) (hns:s₁.heap.Ns mainGlobals mg) (hb:s₁.heap.Ns builtinsNs mb) (hbb:∀ x:Str,x≠"__name__"→mb x=bootBuiltins x) (hlim:s₁.heap.NoLimit) (hg:s₁.gens=#[])
   (hbm:∃ bm ob,mg "__builtins__"=some (.ref bm)∧bm≠builtinsNs∧s₁.heap.get? bm=some ob∧ob.cls=.type "module"∧ob.dict=some builtinsNs∧ob.data=.plain)
   (hT:PySem.W.TabsAt tabs s₁.heap) (hKT:∀ t∈tabs,K.lookup t.2=none)
   (ha:s₁.heap.get? a=some { cls:=.type "list",data:=.seq vs.toArray }) (hi:IntsAre vs ns) (hl:ns.length≤sizeLine) (hr:Room k callerA)
   (F:∀ base:Heap,K.In base→base.Ns mainGlobals mg→(∀ t∈tabs,TabIn base mg t)→FnOk P w K mg base CX0 k fa fd [x] sp) (hbind:∀ (s:Shared) (u:Value),BindsTo s fd ⟨[u],[]⟩ [(x,u)])
   (hsp:∀ H:Hp,(∀ t∈tabs,H t.2=some (.tbl #[]))→SqL K H a (ns.map V.int)→sp [.ref a] H (fun v _=>v=.bl true) fun _ _ _=>False) :
   codeAny (model P w) callerA (.call (.ref fa) ⟨[.ref a],[]⟩) (fun r s'=>r=.ok (.ret (.bool true))∧OldK s₁.heap s'.heap∧s'.os=s₁.os∧AllBare s'.gens) s₁:=by
 have rv:=ZdR hi;have aT:a∉tabs.map (·.2):=fun z=>by
   obtain ⟨t,ht,e⟩:=List.mem_map.mp z;have:=(hT t ht).2;rw [e,ha] at this;cases this
 obtain ⟨H,hH⟩:∃ H:Hp,H=fun b=>if b∈tabs.map (·.2) then some (.tbl #[]) else if b=a∧K.lookup a=none then some (.frz { cls:=.type "list",data:=.seq vs.toArray } (.lst (ns.map V.int))) else none:=⟨_,rfl⟩
 have hTab:∀ t∈tabs,H t.2=some (.tbl #[]):=fun t ht=>by rw [hH];exact if_pos (List.mem_map.mpr ⟨t,ht,rfl⟩)
 have cases_:∀ b o,H b=some o→(b∈tabs.map (·.2)∧o=.tbl #[])∨(b=a∧K.lookup a=none∧o=.frz { cls:=.type "list",data:=.seq vs.toArray } (.lst (ns.map V.int))):=fun b o e=>by
   rw [hH] at e;dsimp only at e;by_cases z:b∈tabs.map (·.2)
   · rw [if_pos z] at e;cases e;exact .inl ⟨z,rfl⟩
   · rw [if_neg z] at e
     by_cases y:b=a∧K.lookup a=none
     · rw [if_pos y] at e;cases e;exact .inr ⟨y.1,y.2,rfl⟩
     · rw [if_neg y] at e;cases e
 have tabO:∀ b,b∈tabs.map (·.2)→s₁.heap.get? b=some (PySem.W.tabObj #[])∧K.lookup b=none:=fun b z=>by
   obtain ⟨t,ht,rfl⟩:=List.mem_map.mp z;exact ⟨(hT t ht).2,hKT t ht⟩
 have hok:HOk P w H s₁.heap:=fun b o e=>by
   rcases cases_ b o e with ⟨z,rfl⟩ | ⟨rfl,_,rfl⟩
   · exact (tabO b z).1
   · exact ⟨ha,by rw [List.length_map];exact hl,vs,_,rv,ha⟩
 have base_of:∀ {b:Addr} {o:Obj},s₁.heap.get? b=some o→H b=none→(hidT s₁.heap H).get? b=some o:=fun e n=>Zho e n
 have free_of:∀ {b:Addr} {o:Obj},s₁.heap.get? b=some o→o≠PySem.W.tabObj #[]→o≠{ cls:=.type "list",data:=.seq vs.toArray }→H b=none:=fun {b o} e n1 n2=>by
   cases q:H b with
   | none=>rfl
   | some u =>
     rcases cases_ b u q with ⟨z,_⟩ | ⟨z,_⟩
     · rw [(tabO b z).1] at e;cases e;exact absurd rfl n1
     · rw [z,ha] at e;cases e;exact absurd rfl n2
 have nsK:∀ {b:Addr} {m:Str→Option Value},s₁.heap.Ns b m→(hidT s₁.heap H).Ns b m:=fun {b m} ⟨o,es,ep,e,d,r⟩=>⟨o,es,ep,base_of e (free_of e (fun z=>by rw [z] at d;cases d) fun z=>by rw [z] at d;cases d),d,r⟩
 have hKb:K.In (hidT s₁.heap H):=fun b o e=>base_of (KX b o e) (by
   cases q:H b with
   | none=>rfl
   | some u =>
     rcases cases_ b u q with ⟨z,_⟩ | ⟨z,z2,_⟩
     · rw [(tabO b z).2] at e;cases e
     · rw [z,z2] at e;cases e)
 have hM:Mod K mg (hidT s₁.heap H):=⟨hKb,nsK hns,⟨mb,nsK hb,hbb⟩,let ⟨mc,h1,h2⟩:=hlim;⟨mc,nsK h1,h2⟩⟩
 have e0:Env0 P w K mg (hidT s₁.heap H) callerA [] s₁ H:=⟨rfl,hM,fun b o e=>ZiA e,Nat.le_of_eq (ZfI _ _),trivial,fun b hb=>absurd (show b∈([]:List Addr) from hb) (by simp),hok,.of_eq hg⟩
 have hTI:∀ t∈tabs,TabIn (hidT s₁.heap H) mg t:=fun t ht=>by
   obtain ⟨o,vs0,file,tf,flags,tg,inF,text,tt,c1,c2,c3,rest⟩:=(hT t ht).1;obtain ⟨bm,ob,b1,b2,b3,b4,b5,b6⟩:=hbm;obtain ⟨og,es,ep,g1,g2,_⟩:=hns;refine ⟨⟨o,vs0,file,tf,flags,tg,inF,text,tt,base_of c1 (free_of c1 (fun z=>by rw [z] at c2;cases c2) fun z=>by rw [z] at c3;cases c3),c2,c3,rest⟩,⟨bm,ob,b1,b2,fun z=>?_,fun z=>?_,base_of b3 (free_of b3 (fun z=>by rw [z] at b4;cases b4) fun z=>by rw [z] at b6;cases b6),b4,b5,b6⟩,fun z=>?_⟩
   · rw [z,g1] at b3;cases b3;rw [g2] at b6;cases b6
   · have:=(hT t ht).2;rw [← z,b3] at this;cases this;cases b4
   · have:=(hT t ht).2;rw [← z,g1] at this;cases this;cases g2
 have hSq:SqL K H a (ns.map V.int):=by
   cases hk:K.lookup a with
   | some o =>
     have e:=KX a o hk;rw [ha] at e;cases e;exact .inr ⟨_,vs.toArray,_,hk,rfl,rfl,rfl,by rw [List.size_toArray,hi.length];exact hl,by simpa using rv⟩
   | none =>
     refine .inl (.inr ⟨{ cls:=.type "list",data:=.seq vs.toArray },?_⟩);rw [hH];exact (if_neg aT).trans (if_pos ⟨rfl,hk⟩)
 refine codeAny_mono ((F _ hKb (nsK hns) hTI).run callerA [] s₁ H ⟨[.ref a],[]⟩ [.ref a] [.ref a] _ _ hr e0 (hbind s₁ (.ref a)) (.cons rfl .nil) (hsp H hTab hSq)) fun r s' h=>?_
 cases r with
 | error e=>exact h.elim
 | ok fl =>
   cases fl with
   | next=>exact False.elim h
   | brk=>exact False.elim h
   | cont=>exact False.elim h
   | ret u =>
     obtain ⟨v,H',os,bare,un,hok',r',q⟩:=h;have q':v=.bl true:=q;subst q';obtain rfl:u=Value.bool true:=r';refine ⟨rfl,⟨fun b o e=>?_,fun b o e=>un.there b o e (by simp)⟩,os,bare⟩;cases q:H b with
     | none=>exact .inl (un.keep b o e q (by intro z;exact absurd (show b∈([]:List Addr) from z) (by simp)) (by simp))
     | some u =>
       rcases cases_ b u q with ⟨z,rfl⟩ | ⟨z,z2,rfl⟩
       · obtain ⟨t,ht,rfl⟩:=List.mem_map.mp z
         rw [(hT t ht).2] at e;cases e;obtain ⟨more,hm⟩:=un.tbls _ _ q;have hP:=hok' _ _ hm;exact .inr (.inl ⟨((hT t ht).1.tab (hT t ht).2).isCodeTable,rfl,#[],more,rfl,hP⟩)
       · have e2:=(hok' _ _ (un.frzs b _ _ q)).1
         rw [z,ha] at e;cases e;exact .inl e2
end L2
namespace Att
open PySem PySem.Spec PyProof.Rows PySem.W
theorem Zfl:∀ {ns:List Int} {z:Int},z∈ns→Builtin.Int.intBits z≤WData.weightAll (ns.map WData.int)
 | n::r,_,.head _=>by
   show _≤WData.weight (.int n)+1+WData.weightAll (r.map WData.int);have:WData.weight (.int n)=Builtin.Int.intBits n:=by simp only [WData.weight,Builtin.Int.intBits]
   omega
 | n::r,z,.tail _ h=>by
   show _≤WData.weight (.int n)+1+WData.weightAll (r.map WData.int);have:=Zfl h;omega
theorem attach_bits {l:OpenLaw}{n:Nat}{q:Program}{loose:List Str}{XP:(Str→Option Value)→Heap→Prop}{YP:World→Heap→Prop}{d:DefRec}(hn:l.most=some n)(hdf:d.params.defaults=[])
   (call:∀ (w:World) (s₀ s₁:Shared) (mg mb:Str→Option Value) (fa a:Addr) (vs:List Value) (ns:List Int),Ground q loose [] XP w s₀ mg mb s₁.heap→YP w s₁.heap→mg d.name=some (.ref fa) →
     s₁.heap.get? a=some { cls:=.type "list",data:=.seq vs.toArray }→IntsAre vs ns→ns.length≤n→(∀ z∈ns,Builtin.Int.intBits z≤2^20)→s₁.gens=#[] →
     codeAny (model l.prog w) callerA (.call (.ref fa) ⟨[.ref a],[]⟩) (fun r s'=>r=.ok (.ret (.bool true))∧OldK s₁.heap s'.heap∧s'.os=s₁.os∧AllBare s'.gens) s₁) :
   WalkO q loose XP YP l.row.toRowW d [] (fun f vs=>PySem.call f vs):=by
 intro w s₀ s₁ mg mb G Y fa o pm cd doc dV kV ho hd hcd hD hmg hg args vals as hpre hlay hrd hwl hlo;obtain ⟨a,vs,ns,rfl,rfl,hobj,hints,hlen⟩:=Zjv hn hpre hwl;have hbits:∀ z∈ns,Builtin.Int.intBits z≤2^20:=fun z hz=>by
   have h1:WData.layable (WData.list (ns.map WData.int))=true:=by have h2:([WData.list (ns.map WData.int)].all WData.layable)=true:=hlay;simpa using h2
   unfold WData.layable at h1;simp only [Bool.and_eq_true,decide_eq_true_eq] at h1;have h3:WData.weightAll (ns.map WData.int)≤2^20:=h1.2;exact Nat.le_trans (Zfl hz) h3
 refine enter_call (codeAny_mono (call w s₀ s₁ mg mb fa a vs ns G Y hmg hobj hints hlen hbits hg) fun r s' ⟨e,h2,h3,h4⟩=>?_);subst e;exact ⟨.inl ⟨.bool true,.bool true,[],rfl,fun _=>rfl,.bool true,Zjc l _,fun _=>⟨List.Pairwise.nil,fun _ hm=>(nomatch hm)⟩⟩,h2,h3,h4⟩
end Att
namespace L2
open PySem PySem.Spec PyProof.Rows
theorem walk_ofT {l:PySem.W.OpenLaw} {n k:Nat} {q:Program} {loose:List Str} {XP:(Str→Option Value)→Heap→Prop} {YP:World→Heap→Prop} {d:DefRec} {K:Params→PySem.W.Frag} {tabs:World→List (Addr × Addr)} {sp:World→Sp} {x:Str}
   (hn:l.most=some n) (hn2:n≤sizeLine) (hdf:d.params.defaults=[]) (hr:Room k callerA)
   (hY:∀ (w:World) (h:Heap),YP w h→(K w.params).In h)
   (hT:∀ (w:World) (s₀:Shared) (mg mb:Str→Option Value) (h:Heap),PySem.W.Ground q loose [] XP w s₀ mg mb h→(K w.params).In h→PySem.W.TabsAt (tabs w) h) (hKT:∀ w,∀ t∈tabs w,(K w.params).lookup t.2=none)
   (F:∀ (w:World) (mg:Str→Option Value) (fa:Addr) (h:Heap),(K w.params).In h→h.Ns mainGlobals mg→mg d.name=some (.ref fa) →
     ∃ fd:FuncData,(∀ (s:Shared) (u:Value),BindsTo s fd ⟨[u],[]⟩ [(x,u)]) ∧
       ∀ base:Heap,(K w.params).In base→base.Ns mainGlobals mg→(∀ t∈tabs w,TabIn base mg t)→FnOk l.prog w (K w.params) mg base CX0 k fa fd [x] (sp w))
   (hsp:∀ (w:World) (H:Hp) (a:Addr) (ns:List Int),ns.length≤n→(∀ z∈ns,Builtin.Int.intBits z≤2^20)→(∀ t∈tabs w,H t.2=some (.tbl #[]))→SqL (K w.params) H a (ns.map V.int)→sp w [.ref a] H (fun v _=>v=.bl true) fun _ _ _=>False) :
   PySem.W.WalkO q loose XP YP l.row.toRowW d [] (fun f vs=>PySem.call f vs):=by
 refine Att.attach_bits hn hdf fun w s₀ s₁ mg mb fa a vs ns G Y hmg hobj hints hlen hbits hg=>?_
 have KX:=hY w _ Y;obtain ⟨fd,hb,hF⟩:=F w mg fa _ KX G.T.g hmg;exact ZjL KX G.T.g G.T.b G.T.builtins G.T.nolimit hg G.T.bmain (hT w s₀ mg mb _ G KX) (hKT w) hobj hints (Nat.le_trans hlen hn2) hr hF hb fun H h1 h2=>hsp w H a ns hlen hbits h1 h2
end L2
namespace L2
open PySem PySem.Spec PyProof.Rows
def DefAtC (K:PySem.W.Frag)(mg:Str→Option Value)(x:Str)(st:Stmt)(ps:List Str)(c:Addr):Prop:=∃ f fd,Fun K x x st f fd∧mg x=some (.ref f)∧Binds K fd ps []∧fd.code=.ref c
section
variable {P:Program}{w:World}{K:PySem.W.Frag}{mg:Str→Option Value}{base:Heap}
theorem FnAt.ofC {x:Str}{st:Stmt}{N ps:List Str}{k:Nat}{sp:Sp}{c:Addr}(d:DefAtC K mg x st ps c)(S:FnScope N ps (defScope st))(len:∀ vs H Q E,sp vs H Q E→vs.length=ps.length)
   (hbody:∀ (f:Addr) (A:Around) (outer:List Env) (s:Shared) (H:Hp) (vs:List V) (Q:VK) (E:XK),Room k (A.deeper (envOfC x (defScope st) s.heap.objs.size f (.ref c)))→sp vs H Q E →
     ∃ t,PSs (cxOf CX0 P w K mg base N x (defScope st) f (.ref c) A outer s H E).nox (defBody st) t∧t { nx:=fun _ H'=>Q .non H',rt:=Q } (start N vs) H):FnAt P w K mg base x ps (k+1) sp:=by
 obtain ⟨f,fd,F,m,b,hc⟩:=d;refine ⟨f,fd,?_,m,F.kp,b⟩;obtain ⟨oc,od,kV,doc,pm,an,cdv,ct,osl,rfl,lk,hcd⟩:=F.ex;have hc:cdv=.ref c:=hc;subst hc;refine fn_of lk hcd S len fun A outer s H vs Q E hr hsp=>?_
 obtain ⟨t,h,q⟩:=hbody f A outer s H vs Q E hr hsp;exact ⟨t,h.nox,q⟩
end
theorem ZgB {p:Str}{caps:List Str}{sc:Scope}(h1:sc.kind=.function)(h2:sc.isCoroutine=false)(h3:sc.isGenerator=false)(h4:(p::caps).Nodup)(h5:sc.names.lookup p=some .local)(h6:∀ x∈caps,sc.names.lookup x=some .free)(h7:∀ q∈sc.names,q.2=.free→q.1∈caps)(h8:∀ q∈sc.names,q.2≠.cell):LamScope p caps sc :=
 ⟨h1,h2,h3,h4,h5,h6,fun x hx=>h7 _ (PySem.mem_of_lookup hx) rfl,h8⟩
def AllIn (cells:List (Str × Addr)):List (Str × Addr)→Prop
 | []=>True
 | p::r=>cells.lookup p.1=some p.2∧AllIn cells r
theorem AllIn.mem {cells:List (Str × Addr)}:∀ {l:List (Str × Addr)},AllIn cells l→∀ p∈l,cells.lookup p.1=some p.2
 | _::_,h,_,.head _=>h.1
 | _::_,h,_,.tail _ hp=>h.2.mem _ hp
def IxOk (N:List Str)(sc:Scope)(clos:List (Str × Addr)):List Str→List Nat→Prop
 | [],[]=>True
 | y::cs,j::js=>(N[j]?=some y∧sc.names.lookup y=some .cell∧∃ a,clos.lookup y=some a)∧IxOk N sc clos cs js
 | _,_=>False
theorem IxOk.get {N:List Str}{sc:Scope}{clos:List (Str × Addr)}:∀ {cs:List Str} {js:List Nat},IxOk N sc clos cs js→js.length=cs.length∧∀ (i:Nat) (y:Str),cs[i]?=some y→∃ (j:Nat) (a:Addr),js[i]?=some j∧N[j]?=some y∧sc.names.lookup y=some .cell∧clos.lookup y=some a
 | [],[],_=>⟨rfl,fun i y h=>by cases h⟩
 | [],_::_,h=>h.elim
 | _::_,[],h=>h.elim
 | y::cs,j::js,⟨⟨h1,h2,a,h3⟩,h4⟩=>by
   obtain ⟨l,g⟩:=IxOk.get h4;refine ⟨by rw [List.length_cons,List.length_cons,l],fun i z hz=>?_⟩;cases i with
   | zero=>cases (show y=z from Option.some.inj hz);exact ⟨j,a,rfl,h1,h2,h3⟩
   | succ i=>exact g i z hz
section
variable {P:Program}{w:World}{K:PySem.W.Frag}{mg:Str→Option Value}{base:Heap}{N:List Str}{x pn:Str}{sc scope:Scope}{f c Pt:Addr}{A:Around}{outer:List Env}{s:Shared}{H:Hp}{E:XK}{caps:List Str}{ixs:List Nat}{clos:List (Str × Addr)}
theorem lamIn_mk (T:TabIn base mg (c,Pt))(S:LamScope pn caps scope)(cl:closureFor scope (envOfC x sc s.heap.objs.size f (.ref c))=pure clos)(al:AllIn (envOfC x sc s.heap.objs.size f (.ref c)).cells clos)(ix:IxOk N sc clos caps ixs) :
   LamIn (cxOf CX0 P w K mg base N x sc f (.ref c) A outer s H E).nox pn caps ixs scope clos c Pt :=
 ⟨S,rfl,T.1,cl,fun y a h=>al.mem _ (PySem.mem_of_lookup h),ix.get.2,ix.get.1,fun _=>rfl,T.2.1,T.2.2⟩
end
end L2
namespace L2
open PySem PySem.Spec PyProof.Rows
def tabAt (K:PySem.W.Frag)(x:Str):Addr × Addr:=(PySem.W.tabIn K x).getD (0,0)
def tabsOk (K:PySem.W.Frag)(xs:List Str):Bool:=xs.all (fun x=>(PySem.W.tabIn K x).isSome&&(K.lookup (tabAt K x).2).isNone)&&decide ((xs.map fun x=>(tabAt K x).2).Nodup)
def recsOk (q:Program)(xs:List Str):Bool:=xs.all fun x=>((recsOf q).find? fun e=>e.name==x).isSome
section
variable {K:PySem.W.Frag}{mg:Str→Option Value}
theorem ZdF {xs:List Str}(h:tabsOk K xs=true){x:Str}(hx:x∈xs):PySem.W.tabIn K x=some (tabAt K x)∧K.lookup (tabAt K x).2=none:=by unfold tabsOk at h;rw [Bool.and_eq_true] at h;have:=List.all_eq_true.mp h.1 x hx;rw [Bool.and_eq_true] at this;refine ⟨?_,by simpa using this.2⟩;obtain ⟨t,ht⟩:=Option.isSome_iff_exists.mp this.1;unfold tabAt;rw [ht];rfl
theorem Zge {xs:List Str}(h:tabsOk K xs=true):(xs.map fun x=>(tabAt K x).2).Nodup:=by unfold tabsOk at h;rw [Bool.and_eq_true] at h;exact of_decide_eq_true h.2
theorem DefAt.toC {h:Heap}{x:Str}{st:Stmt}{ps:List Str}{t:Addr × Addr}(X:K.In h)(G:h.Ns mainGlobals mg)(d:DefAt K mg x st ps)(ht:PySem.W.tabIn K x=some t):DefAtC K mg x st ps t.1:=by obtain ⟨f,fd,F,m,b⟩:=d;refine ⟨f,fd,F,m,b,?_⟩;obtain ⟨oc,od,kV,doc,pm,an,cdv,ct,osl,rfl,lk,hcd⟩:=F.ex;exact PySem.W.law_code (c:=t.1) (P:=t.2) X G ht m (X _ _ lk) rfl
end
theorem walk_tabs {l:PySem.W.OpenLaw} {n k:Nat} {q:Program} {loose:List Str} {XP:(Str→Option Value)→Heap→Prop} {YP:World→Heap→Prop} {d:DefRec} {K:Params→PySem.W.Frag} {sp:World→Sp} {x:Str} (xs:List Str)
   (hn:l.most=some n) (hn2:n≤sizeLine) (hdf:d.params.defaults=[]) (hr:Room k callerA)
   (hY:∀ (w:World) (h:Heap),YP w h→(K w.params).In h) (ok:∀ P,tabsOk (K P) xs=true) (rok:recsOk q xs=true)
   (F:∀ (w:World) (mg:Str→Option Value) (fa:Addr) (h:Heap),(K w.params).In h→h.Ns mainGlobals mg→mg d.name=some (.ref fa) →
     ∃ fd:FuncData,(∀ (s:Shared) (u:Value),BindsTo s fd ⟨[u],[]⟩ [(x,u)]) ∧
       ∀ base:Heap,(K w.params).In base→base.Ns mainGlobals mg→(∀ y∈xs,TabIn base mg (tabAt (K w.params) y))→FnOk l.prog w (K w.params) mg base CX0 k fa fd [x] (sp w))
   (hsp:∀ (w:World) (H:Hp) (a:Addr) (ns:List Int),ns.length≤n→(∀ z∈ns,Builtin.Int.intBits z≤2^20)→(∀ y∈xs,H (tabAt (K w.params) y).2=some (.tbl #[]))→(xs.map fun x=>(tabAt (K w.params) x).2).Nodup→SqL (K w.params) H a (ns.map V.int)→sp w [.ref a] H (fun v _=>v=.bl true) fun _ _ _=>False) :
   PySem.W.WalkO q loose XP YP l.row.toRowW d [] (fun f vs=>PySem.call f vs):=by
 refine walk_ofT (x:=x) (tabs:=fun w=>xs.map (tabAt (K w.params))) hn hn2 hdf hr hY (fun w s₀ mg mb h G KX=>?_) (fun w t ht=>?_) (fun w mg fa h KX G m=>?_) fun w H a ns h1 h2 h3 h4=>hsp w H a ns h1 h2 (fun y hy=>h3 _ (List.mem_map.mpr ⟨y,hy,rfl⟩)) (Zge (ok _)) h4
 · intro t ht
   obtain ⟨y,hy,rfl⟩:=List.mem_map.mp ht;obtain ⟨r,hr⟩:=Option.isSome_iff_exists.mp (List.all_eq_true.mp rok y hy);exact PySem.W.tab_of G.T KX hr (ZdF (ok _) hy).1
 · obtain ⟨y,hy,rfl⟩:=List.mem_map.mp ht
   exact (ZdF (ok _) hy).2
 · obtain ⟨fd,hb,hF⟩:=F w mg fa h KX G m
   exact ⟨fd,hb,fun base h1 h2 h3=>hF base h1 h2 fun y hy=>h3 _ (List.mem_map.mpr ⟨y,hy,rfl⟩)⟩
end L2
namespace L2
open PySem PySem.Spec PyProof.Rows
def noT (H:Hp):Hp:=fun b=>match H b with
 | some (.tbl _)=>none
 | o=>o
section
variable {H H' H2:Hp}{b l Pt:Addr}{o o':HO}{q:Str}{lp:Pos}
theorem Zam (e:H b=some o)(n:∀ ts,o≠.tbl ts):noT H b=some o:=by unfold noT;rw [e];cases o<;>first | rfl | exact absurd rfl (n _)
theorem Zae (e:noT H b=some o):H b=some o∧∀ ts,o≠.tbl ts:=by
 unfold noT at e;split at e
 · cases e
 · rename_i h
   refine ⟨e,fun ts z=>?_⟩;rw [z] at e;exact h _ e
theorem ZaT (e:H b=none):noT H b=none:=by unfold noT;rw [e]
theorem noT_sub:Same (noT H) H:=fun _ _ e=>(Zae e).1
theorem Same.noT (s:Same H H'):Same (noT H) (noT H'):=fun b o e=>Zam (s _ _ (Zae e).1) (Zae e).2
theorem Zcr (n:∀ ts,o≠.tbl ts)(hb:H b=none∨∃ o',noT H b=some o'):noT (upd H b o)=upd (noT H) b o:=by
 funext c;by_cases z:c=b
 · rw [z,Zab]
   exact Zam Zab n
 · rw [Zah z]
   unfold L2.noT;rw [Zah z]
theorem nl (xs:List V)(ts:Array Value):HO.lst xs≠.tbl ts:=fun z=>by cases z
theorem nt (xs:List V)(ts:Array Value):HO.tup xs≠.tbl ts:=fun z=>by cases z
theorem ni (C dx:Addr)(fs:List (Str × V))(ts:Array Value):HO.ins C dx fs≠.tbl ts:=fun z=>by cases z
theorem nd (kvs:List (Key × V))(ts:Array Value):HO.dK kvs≠.tbl ts:=fun z=>by cases z
theorem Tb.ne (h:Tb H Pt q lp)(e:H b=some o)(n:∀ ts,o≠.tbl ts):b≠Pt:=fun z=>by
 rcases h with h | ⟨_,_,h,_⟩<;>(rw [← z,e] at h;exact n _ (Option.some.inj h))
theorem Tb.sameT {P1 P2:Addr}{q1 q2:Str}{l1 l2:Pos}(h:Tb H P2 q2 l2)(s:SameT P1 H H')(t:Tb H P1 q1 l1)(n:P2≠P1):Tb H' P2 q2 l2:=by
 rcases h with h | ⟨c,oc,h1,h2,h3⟩
 · exact .inl (s _ _ n h)
 · exact .inr ⟨c,oc,s _ _ n h1,s _ _ (Tb.ne t h2 fun _ z=>by cases z) h2,h3⟩
def Soft:HO→Prop
 | .tbl _=>False
 | .frz _ _=>False
 | _=>True
theorem Tb.put (h:Tb H Pt q lp)(e:H l=some o)(n:Soft o):Tb (upd H l o') Pt q lp:=by
 have ne:l≠Pt:=Tb.ne h e fun ts z=>by rw [z] at n;exact n
 rcases h with h | ⟨c,oc,h1,h2,h3⟩
 · exact .inl (by rw [Zah (Ne.symm ne)];exact h)
 · refine .inr ⟨c,oc,by rw [Zah (Ne.symm ne)];exact h1,?_,h3⟩
   have:c≠l:=fun z=>by rw [z,e] at h2;cases h2;exact n
   rw [Zah this];exact h2
end
abbrev Tabs:=List (Addr × Str × Pos)
def Tbs (ts:Tabs)(H:Hp):Prop:=∀ t∈ts,Tb H t.1 t.2.1 t.2.2
def TabsUq (ts:Tabs):Prop:=∀ t∈ts,∀ u∈ts,t.1=u.1→t=u
structure Nx (ts:Tabs)(H H':Hp):Prop where
 same:Same (noT H) (noT H')
 tb:Tbs ts H'
structure Nb (ts:Tabs)(m:Addr)(H H':Hp):Prop where
 same:∀ b o,b≠m→noT H b=some o→noT H' b=some o
 tb:Tbs ts H'
section
variable {ts:Tabs}{H H' H2:Hp}{b l m:Addr}{o o':HO}
theorem Tbs.same (h:Tbs ts H)(s:Same H H'):Tbs ts H':=fun t ht=>Tb.same (h t ht) s
theorem Tbs.nx (h:Tbs ts H)(s:Same H H'):Nx ts H H':=⟨s.noT,h.same s⟩
theorem Tbs.put (h:Tbs ts H)(e:H l=some o)(n:Soft o):Tbs ts (upd H l o'):=fun t ht=>Tb.put (h t ht) e n
theorem Nx.refl (h:Tbs ts H):Nx ts H H:=⟨fun _ _ e=>e,h⟩
theorem Nx.trans (a:Nx ts H H')(b:Nx ts H' H2):Nx ts H H2:=⟨a.same.trans b.same,b.tb⟩
theorem Nx.at (a:Nx ts H H')(e:noT H b=some o):noT H' b=some o:=a.same _ _ e
theorem Nx.nb (a:Nx ts H H'):Nb ts m H H':=⟨fun b o _ e=>a.same _ _ e,a.tb⟩
theorem Nb.trans (a:Nb ts m H H')(b:Nb ts m H' H2):Nb ts m H H2:=⟨fun c o n e=>b.same _ _ n (a.same _ _ n e),b.tb⟩
theorem Nx.new (h:Tbs ts H)(e:H l=none):Nx ts H (upd H l o'):=h.nx (Same.new e)
theorem Nx.put (a:Nx ts H H')(e:noT H l=none)(e':H' l=some o)(n:Soft o):Nx ts H (upd H' l o'):=by
 refine ⟨fun b x z=>?_,a.tb.put e' n⟩;have z2:=Zae (a.same _ _ z);have:b≠l:=fun y=>by rw [y,e] at z;cases z
 exact Zam (by rw [Zah this];exact z2.1) z2.2
theorem Nb.put (a:Nb ts m H H')(e':H' m=some o)(n:Soft o):Nb ts m H (upd H' m o'):=by refine ⟨fun b x y z=>?_,a.tb.put e' n⟩;have z2:=Zae (a.same _ _ y z);exact Zam (by rw [Zah y];exact z2.1) z2.2
theorem Nb.of_new (a:Nb ts m H H')(e:noT H m=none):Nx ts H H':=⟨fun b o z=>a.same _ _ (fun y=>by rw [y,e] at z;cases z) z,a.tb⟩
theorem Tbs.grow {P1:Addr}{q1:Str}{l1:Pos}(u:TabsUq ts)(h:Tbs ts H)(hm:(P1,q1,l1)∈ts)(s:SameT P1 H H')(t':Tb H' P1 q1 l1):Nx ts H H':=by
 have t:=h _ hm;refine ⟨fun b o e=>?_,fun x hx=>?_⟩
 · obtain ⟨e1,e2⟩:=Zae e
   exact Zam (s _ _ (Tb.ne t e1 e2) e1) e2
 · by_cases z:x.1=P1
   · have:=u x hx _ hm z
     rw [this];exact t'
   · exact Tb.sameT (h x hx) s t z
theorem SqL.noT {K:PySem.W.Frag}{a:Addr}{xs:List V}(h:SqL K (noT H) a xs):SqL K H a xs:=noT_sub.seq h
end
section
variable {P:Program}{w:World}{K:PySem.W.Frag}{mg:Str→Option Value}{base:Heap}{x m:Str}{C:Addr}{ps:List Str}{j k:Nat}{sp sp':Sp}
theorem FnAt.imp (F:FnAt P w K mg base x ps k sp)(h:∀ vs H Q E,sp' vs H Q E→sp vs H Q E):FnAt P w K mg base x ps k sp':=by obtain ⟨f,fd,a,b⟩:=F;exact ⟨f,fd,a.imp h,b⟩
end
end L2
namespace L2
open PySem PySem.Spec PyProof.Rows Srt SG
theorem ZfJ {D:Ends}{σ:St}{H:Hp}:tNever D σ H=False:=rfl
theorem hu1 {A:Around}{k:Nat}(hr:Room k A):A.units+1<cLine:=Nat.lt_of_le_of_lt (by omega) (hu64 hr)
section
variable {td ty tx tv:TE}{σ:St}{H:Hp}{Q:VK}{D:Ends}
theorem Zgw:tDGet td ty σ H Q=td σ H fun x H1=>ty σ H1 fun y H2=>∃ a v,x=.ref a∧DGet H2 a y (some v)∧Q v H2:=rfl
theorem Zfx:tDGet2 td ty tx σ H Q=td σ H fun x H1=>∃ a,x=.ref a∧IsD H1 a∧ty σ H1 fun y H2=>tx σ H2 fun z H3=>∃ o,DGet H3 a y o∧Q (o.getD z) H3:=rfl
theorem Zhs:sDPut td ty tv D σ H=tv σ H fun v H1=>td σ H1 fun x H2=>ty σ H2 fun y H3=>∃ a H4,x=.ref a∧DPut H3 a y v H4∧D.nx σ H4:=rfl
end
theorem Zd1:∀ {vs:List Value} {ns:List Int},vs.length=ns.length→(∀ (j:Nat) (v:Value),vs[j]?=some v→∃ i t,ns[j]?=some i∧v=Value.int i t)→IntsAre vs ns
 | [],[],_,_=>.nil
 | [],_::_,h,_=>by cases h
 | _::_,[],h,_=>by cases h
 | v::vs,n::ns,h,g=>by
   obtain ⟨i,t,e,rfl⟩:=g 0 v rfl;cases (show n=i from Option.some.inj e);exact .cons n t (Zd1 (Nat.succ.inj h) fun j v e=>g (j+1) v e)
section
variable {X:Cx}{x:Str}{p pos:Pos}
theorem ZdH {C:Addr}{ps:List Str}{k:Nat}{sp:Sp}(F:MakeAt X.prog X.w X.K X.mg X.base x C ps k sp)(hr:Room (k+1) X.A)(hg:Gl X x)(hdb:(x==("__debug__":Str))=false:=by decide):PE X (.Call (.Name x p) [] [] pos) (tMake C sp [] E0 tNil):=by obtain ⟨hm,f,fd,M,F,b⟩:=F;exact pe_make0 M F hr hg hm b .nil pass0 hdb
end
section
variable {X:Cx}
def rSortD:List V→Hp→VK→Prop:=fun xs H Q=>∃ (a:Addr) (kvs:List (Key × V)) (ns:List Int),xs=[.ref a]∧H a=some (.dK kvs)∧kvs.map (·.1)=ns.map Sum.inl∧∀ (l:Addr) (ns':List Int),H l=none→ns'.Perm ns→ns'.Pairwise (·≤·)→Q (.ref l) (upd H l (.lst (ns'.map V.int)))
theorem ZfC {xs:List V}{H:Hp}{Q:VK}:rSortD xs H Q=∃ (a:Addr) (kvs:List (Key × V)) (ns:List Int),xs=[.ref a]∧H a=some (.dK kvs)∧kvs.map (·.1)=ns.map Sum.inl∧∀ (l:Addr) (ns':List Int),H l=none→ns'.Perm ns→ns'.Pairwise (·≤·)→Q (.ref l) (upd H l (.lst (ns'.map V.int))):=rfl
theorem Zdu (hc:X.calm=true:=by rfl):CallR X (.builtin "sorted") rSortD:=by
 intro pins s σ H xs us Q I r h;obtain ⟨a,kvs,ns,rfl,ha,hk,q⟩:=h;obtain ⟨u,rfl,ru⟩:=r.one;cases (show u=Value.ref a from ru);obtain ⟨hz,lo,vs,kv,o,es,ep,g1,g2,g3,g4,g5,g6⟩:=Zer I.hok ha;have lk:kvs.length=vs.length:=kv.length;have ln:ns.length=kvs.length:=by have:=congrArg List.length hk;rw [List.length_map,List.length_map] at this;exact this.symm
 refine Calls.call_function_entry kind_sorted plain_sorted entry_sorted (args_sorted1 _) ?_;unfold Builtin.«sorted»;refine wpAny_bind (m:=checkCount "sorted" 1 1 _) (wpAny_pure ?_);refine wpAny_bind (PySem.W.kdu_collect (A:=X.A.in1) (PySem.W.kdl_dict (knd:=mixKind X.prog X.w) (kvs:=vs) (ep:=ep) lo) (show X.A.in1.handled=none from I.ok.hd hc) ⟨o,es,g1,g2,g3,g4,g5,g6⟩ (by omega) fun h1 tk acc old hacc=>?_);have hi:IntsAre acc.toList ns:=by
   refine Zd1 (by rw [Array.length_toList,hacc.1];omega) fun j v hv=>?_
   obtain ⟨k,y,e1,e2⟩:=hacc.2 j v (by rw [← Array.getElem?_toList];exact hv);have ek:(vs.map (·.1))[j]?=some k:=by rw [List.getElem?_map,e1];rfl
   rw [← kv.keys,hk,List.getElem?_map] at ek;cases en:ns[j]? with
   | none=>rw [en] at ek;cases ek
   | some i =>
     rw [en] at ek;cases (show Sum.inl i=k from Option.some.inj ek);rw [ZhX] at e2;rcases ZaG e2 with ⟨i',t,z1,z2⟩ | ⟨x,t,z1,z2⟩
     · cases z1
       exact ⟨i,t,rfl,z2⟩
     · cases z1
 have lv:acc.toList.length≤sizeLine:=by rw [IntsAre.length hi];omega
 refine wpAny_bind (wpAny_newList ?_ (by simpa using lv));have oL:(h1.push (seqObj "list" acc.toList.toArray 0)).get? h1.objs.size=some (seqObj "list" acc.toList.toArray 0):=Heap.get?_push_size _ rfl;show wpAny _ _ _ _ _ { s with heap:=h1.push (seqObj "list" acc.toList.toArray 0),toks:=tk };refine wpAny_bind (wpAny_holding (wpAny_call_entry slot_list_sort ⟨_,oL,rfl⟩ entry_list_sort (Srt.sort_ints oL hi lv fun out ns' g1 g2 g3=>⟨_,rfl,?_⟩) (args_list_sort _)));obtain ⟨e,he⟩:=sortedHeap_at (out:=out) oL;have I1:Inv X pins σ H { s with heap:=h1,toks:=tk }:=I.kept old;have lo2:(ns'.map V.int).length≤sizeLine:=by rw [List.length_map,g2.length_eq];omega
 refine wpAny_pure ⟨_,rfl,.ref h1.objs.size,_,I1.laid (t':=tk) (o:=.lst (ns'.map V.int)) (fun b u e2=>?_) (Nat.le_refl _) ⟨lo2,out.toList,e,ZdR g1,by rw [Array.toArray_toList];exact he⟩,rfl,q _ ns' (I1.hok.fresh (Nat.le_refl _)) g2 g3⟩;have lb:b<h1.objs.size:=Heap.lt_size e2;rw [sortedHeap_old (Nat.ne_of_lt lb) (by rw [size_push'];exact Nat.lt_succ_of_lt lb)];exact Heap.get?_push_of_some _ e2
end
end L2
namespace L2
open PySem PySem.Spec PyProof.Rows
def del (H:Hp)(p:Addr):Hp:=fun b=>if b=p then none else H b
section
variable {X:Cx}{pins:List (Addr × Obj)}{σ:St}{H H':Hp}{s:Shared}{p:Addr}{xs:List V}
end
section
variable {X:Cx}{P:Program}{w:World}{K:PySem.W.Frag}{mg:Str→Option Value}{base:Heap}{o e:Expr}{es:List Expr}{m:Str}{ta:TE}{t:TA}{apos pos:Pos}
end
end L2
namespace BM
structure Ent where
 key:Nat
 ps:List Nat
 loc:Nat
def kys (es:List Ent):List Nat:=es.map (·.key)
def tot:List Ent→Nat
 | []=>0
 | e::r=>e.ps.length+tot r
def ahs:Nat→List Ent→List Nat
 | _,[]=>[]
 | a,e::r=>a::ahs (a+e.ps.length) r
def flat:List Ent→List Nat
 | []=>[]
 | e::r=>e.ps.map (fun p=>256*e.key+p)++flat r
structure EsOk (es:List Ent):Prop where
 up:Up 0 (kys es)
 klt:∀ e∈es,e.key<256
 pup:∀ e∈es,Up 0 e.ps
 plt:∀ e∈es,∀ p∈e.ps,p<256
 ne:∀ e∈es,e.ps≠[]
def loE (k:Nat)(es:List Ent):List Ent:=es.filter fun e=>decide (e.key<k)
def miE (k:Nat)(es:List Ent):List Ent:=es.filter fun e=>decide (e.key=k)
def hiE (k:Nat)(es:List Ent):List Ent:=es.filter fun e=>decide (k<e.key)
def plcE (k:Nat)(es:List Ent):List Nat:=match miE k es with
 | []=>[]
 | e::_=>e.ps
def keepE (k:Nat)(ps:List Nat)(a:Nat)(es:List Ent):List Ent:=loE k es++(if ps=[] then [] else [⟨k,ps,a⟩])++hiE k es
theorem above {k:Nat}{es:List Ent}(h:∀ e∈es,k<e.key):loE k es=[]∧miE k es=[]∧hiE k es=es:=by
 refine ⟨List.filter_eq_nil_iff.mpr fun e he=>?_,List.filter_eq_nil_iff.mpr fun e he=>?_,List.filter_eq_self.mpr fun e he=>?_⟩
 · have:=h e he;simp;omega
 · have:=h e he;simp;omega
 · exact decide_eq_true (h e he)
theorem Zin {a:Nat}{es:List Ent}(h:Up a (kys es)):∀ e∈es,a≤e.key:=fun e he=>h.of_lt _ (List.mem_map.mpr ⟨e,he,rfl⟩)
theorem split:∀ {a:Nat} {es:List Ent} (k:Nat),Up a (kys es)→es=loE k es++miE k es++hiE k es
 | _,[],_,_=>rfl
 | a,e::r,k,h=>by
   obtain ⟨h1,h2⟩:a≤e.key∧Up (e.key+1) (kys r):=h;have ab:=Zin h2;rcases Nat.lt_trichotomy e.key k with c | c | c
   · have ih:=split k h2
     have e1:loE k (e::r)=e::loE k r:=List.filter_cons_of_pos (decide_eq_true c);have e2:miE k (e::r)=miE k r:=List.filter_cons_of_neg (by simp;omega);have e3:hiE k (e::r)=hiE k r:=List.filter_cons_of_neg (by simp;omega);rw [e1,e2,e3,List.cons_append,List.cons_append,← ih]
   · obtain ⟨a1,a2,a3⟩:=above (k:=k) (es:=r) fun x hx=>by have:=ab x hx;omega
     have e1:loE k (e::r)=loE k r:=List.filter_cons_of_neg (by simp;omega);have e2:miE k (e::r)=e::miE k r:=List.filter_cons_of_pos (decide_eq_true c);have e3:hiE k (e::r)=hiE k r:=List.filter_cons_of_neg (by simp;omega);rw [e1,e2,e3,a1,a2,a3];rfl
   · obtain ⟨a1,a2,a3⟩:=above (k:=k) (es:=r) fun x hx=>by have:=ab x hx;omega
     have e1:loE k (e::r)=loE k r:=List.filter_cons_of_neg (by simp;omega);have e2:miE k (e::r)=miE k r:=List.filter_cons_of_neg (by simp;omega);have e3:hiE k (e::r)=e::hiE k r:=List.filter_cons_of_pos (decide_eq_true c);rw [e1,e2,e3,a1,a2,a3];rfl
theorem Zb1:∀ {a:Nat} {es:List Ent} (k:Nat),Up a (kys es)→miE k es=[]∨∃ e,miE k es=[e]∧e.key=k∧e∈es
 | _,[],_,_=>.inl rfl
 | a,e::r,k,h=>by
   obtain ⟨h1,h2⟩:a≤e.key∧Up (e.key+1) (kys r):=h;by_cases c:e.key=k
   · obtain ⟨a1,a2,a3⟩:=above (k:=k) (es:=r) fun x hx=>by have:=Zin h2 x hx;omega
     have e2:miE k (e::r)=e::miE k r:=List.filter_cons_of_pos (decide_eq_true c);exact .inr ⟨e,by rw [e2,a2],c,.head _⟩
   · have e2:miE k (e::r)=miE k r:=List.filter_cons_of_neg (by simp;omega)
     rw [e2];rcases Zb1 k h2 with z | ⟨x,z1,z2,z3⟩
     · exact .inl z
     · exact .inr ⟨x,z1,z2,.tail _ z3⟩
theorem Zgd {k:Nat}{es:List Ent}{e:Ent}(h:e∈loE k es):e∈es∧e.key<k:=⟨(List.mem_filter.mp h).1,of_decide_eq_true (List.mem_filter.mp h).2⟩
theorem Zgi {k:Nat}{es:List Ent}{e:Ent}(h:e∈hiE k es):e∈es∧k<e.key:=⟨(List.mem_filter.mp h).1,of_decide_eq_true (List.mem_filter.mp h).2⟩
theorem Up.append {b:Nat}:∀ {a:Nat} {xs ys:List Nat},Up a xs→(∀ x∈xs,x<b)→Up b ys→a≤b→Up a (xs++ys)
 | _,[],_,_,_,h,l=>h.mono l
 | a,x::xs,ys,h,hb,h2,_=>by
   obtain ⟨h1,h3⟩:a≤x∧Up (x+1) xs:=h;exact ⟨h1,h3.append (fun y hy=>hb y (.tail _ hy)) h2 (hb x (.head _))⟩
theorem ZeZ (p:Nat→Bool)(es:List Ent):kys (es.filter fun e=>p e.key)=(kys es).filter p:=by unfold kys;rw [List.filter_map];rfl
theorem ZaK:∀ x y:List Ent,tot (x++y)=tot x+tot y
 | [],y=>by show tot y=0+tot y;omega
 | e::r,y=>by
   show e.ps.length+tot (r++y)=e.ps.length+tot r+tot y;rw [ZaK r y];omega
theorem ZbL:∀ (a:Nat) (x y:List Ent),ahs a (x++y)=ahs a x++ahs (a+tot x) y
 | _,[],_=>rfl
 | a,e::r,y=>by
   show a::ahs (a+e.ps.length) (r++y)=a::(ahs (a+e.ps.length) r++ahs (a+(e.ps.length+tot r)) y);rw [ZbL,Nat.add_assoc]
theorem ZbR:∀ (a:Nat) (es:List Ent),(ahs a es).length=es.length
 | _,[]=>rfl
 | a,e::r=>congrArg (·+1) (ZbR (a+e.ps.length) r)
theorem Zgl:∀ (a:Nat) (es:List Ent) (i:Nat),i<es.length→(ahs a es)[i]?=some (a+tot (es.take i))
 | _,[],_,h=>by cases h
 | a,e::r,0,_=>rfl
 | a,e::r,i+1,h=>by
   show (ahs (a+e.ps.length) r)[i]?=some (a+(e.ps.length+tot (r.take i)));rw [Zgl (a+e.ps.length) r i (Nat.lt_of_succ_lt_succ h),Nat.add_assoc]
theorem ZfF (m:Int):∀ (a b:Nat) (es:List Ent),(b:Int)=a+m→(ahs a es).map (fun (x:Nat)=>(x:Int)+m)=(ahs b es).map (fun (x:Nat)=>(x:Int))
 | _,_,[],_=>rfl
 | a,b,e::r,h=>by
   show ((a:Int)+m)::(ahs (a+e.ps.length) r).map _=(b:Int)::(ahs (b+e.ps.length) r).map _;rw [ZfF m (a+e.ps.length) (b+e.ps.length) r (by omega),h]
theorem Zd5:∀ x y:List Ent,flat (x++y)=flat x++flat y
 | [],_=>rfl
 | e::r,y=>by
   show e.ps.map _++flat (r++y)=e.ps.map _++flat r++flat y;rw [Zd5 r y,List.append_assoc]
theorem Zb6:∀ es:List Ent,(flat es).length=tot es
 | []=>rfl
 | e::r=>by
   show (e.ps.map _++flat r).length=e.ps.length+tot r;rw [List.length_append,List.length_map,Zb6 r]
theorem Zgu {n:Nat}:∀ {es:List Ent},(∀ e∈es,∀ p∈e.ps,p<256)→(n∈flat es↔∃ e∈es,e.key=n/256∧n%256∈e.ps)
 | [],_=>by
   constructor
   · intro h;cases h
   · rintro ⟨_,h,_⟩;cases h
 | e :: r,h=>by
   show n∈e.ps.map _++flat r↔_;rw [List.mem_append,Zgu (fun x hx=>h x (.tail _ hx))];constructor
   · rintro (z | ⟨x,x1,x2⟩)
     · obtain ⟨p,hp,rfl⟩:=List.mem_map.mp z
       have:=h e (.head _) p hp;exact ⟨e,.head _,by omega,by rw [show (256*e.key+p)%256=p by omega];exact hp⟩
     · exact ⟨x,.tail _ x1,x2⟩
   · rintro ⟨x,x1,x2,x3⟩
     rcases List.mem_cons.mp x1 with rfl | x1
     · exact .inl (List.mem_map.mpr ⟨_,x3,by omega⟩)
     · exact .inr ⟨x,x1,x2,x3⟩
theorem Zbe {n:Nat}{es:List Ent}(h:EsOk es):n∈flat es↔n%256∈plcE (n/256) es:=by
 rw [Zgu h.plt];rcases Zb1 (n/256) h.up with z | ⟨e,z1,z2,z3⟩
 · have:plcE (n/256) es=[]:=by unfold plcE;rw [z]
   rw [this];constructor
   · rintro ⟨x,x1,x2,x3⟩
     have:x∈miE (n/256) es:=List.mem_filter.mpr ⟨x1,decide_eq_true x2⟩;rw [z] at this;cases this
   · intro x;cases x
 · have:plcE (n/256) es=e.ps:=by unfold plcE;rw [z1]
   rw [this];constructor
   · rintro ⟨x,x1,x2,x3⟩
     have:x∈miE (n/256) es:=List.mem_filter.mpr ⟨x1,decide_eq_true x2⟩;rw [z1] at this;cases List.mem_singleton.mp this;exact x3
   · intro x
     exact ⟨e,z3,z2,x⟩
theorem ZeM {k:Nat}:∀ {a:Nat} {ps:List Nat},Up a ps→Up (256*k+a) (ps.map fun p=>256*k+p)
 | _,[],_=>trivial
 | a,p::r,h=>by
   obtain ⟨h1,h2⟩:a≤p∧Up (p+1) r:=h;exact ⟨by show 256*k+a≤256*k+p;omega,ZeM h2⟩
theorem ZiR:∀ {a:Nat} {es:List Ent},Up a (kys es)→(∀ e∈es,Up 0 e.ps)→(∀ e∈es,∀ p∈e.ps,p<256)→Up (256*a) (flat es)
 | _,[],_,_,_=>trivial
 | a,e::r,h,h2,h3=>by
   obtain ⟨g1,g2⟩:a≤e.key∧Up (e.key+1) (kys r):=h;have u1:=(ZeM (k:=e.key) (h2 e (.head _))).mono (a:=256*a) (by omega);refine u1.append (b:=256*(e.key+1)) (fun x hx=>?_) (ZiR g2 (fun x hx=>h2 x (.tail _ hx)) fun x hx=>h3 x (.tail _ hx)) (by omega);obtain ⟨p,hp,rfl⟩:=List.mem_map.mp hx;have:=h3 e (.head _) p hp;omega
theorem EsOk.flat_up {es:List Ent}(h:EsOk es):Up 0 (flat es):=ZiR h.up h.pup h.plt
theorem lo_up {k:Nat}{es:List Ent}(h:Up 0 (kys es)):Up 0 (kys (loE k es)):=by have:=ZeZ (fun x=>decide (x<k)) es;show Up 0 (kys (es.filter fun e=>decide (e.key<k)));rw [this];exact h.filter
theorem hi_up {k:Nat}{es:List Ent}(h:Up 0 (kys es)):Up (k+1) (kys (hiE k es)):=by have:=ZeZ (fun x=>decide (k<x)) es;show Up (k+1) (kys (es.filter fun e=>decide (k<e.key)));rw [this];exact up_from h.filter fun p hp=>of_decide_eq_true (List.mem_filter.mp hp).2
theorem ZcC {k:Nat} {ps:List Nat} {a:Nat} {es:List Ent} {e:Ent} (h:e∈keepE k ps a es):(e∈es∧e.key≠k)∨(ps≠[]∧e=⟨k,ps,a⟩):=by
 unfold keepE at h;rcases List.mem_append.mp h with h | h
 · rcases List.mem_append.mp h with h | h
   · exact .inl ⟨(Zgd h).1,Nat.ne_of_lt (Zgd h).2⟩
   · split at h
     · cases h
     · rename_i n
       exact .inr ⟨n,List.mem_singleton.mp h⟩
 · exact .inl ⟨(Zgi h).1,Nat.ne_of_gt (Zgi h).2⟩
theorem EsOk.keep {k:Nat}{ps:List Nat}{a:Nat}{es:List Ent}(h:EsOk es)(hk:k<256)(hu:Up 0 ps)(hl:∀ p∈ps,p<256):EsOk (keepE k ps a es):=by
 refine ⟨?_,fun e he=>?_,fun e he=>?_,fun e he=>?_,fun e he=>?_⟩
 · unfold keepE kys
   rw [List.map_append,List.map_append,List.append_assoc];refine Up.append (b:=k) (lo_up h.up) (fun x hx=>?_) ?_ (Nat.zero_le _)
   · obtain ⟨e,he,rfl⟩:=List.mem_map.mp hx
     exact (Zgd he).2
   · have:=hi_up (k:=k) h.up
     split
     · exact this.mono (Nat.le_succ _)
     · exact ⟨Nat.le_refl _,this⟩
 · rcases ZcC he with ⟨z,_⟩ | ⟨_,rfl⟩
   · exact h.klt e z
   · exact hk
 · rcases ZcC he with ⟨z,_⟩ | ⟨_,rfl⟩
   · exact h.pup e z
   · exact hu
 · rcases ZcC he with ⟨z,_⟩ | ⟨_,rfl⟩
   · exact h.plt e z
   · exact hl
 · rcases ZcC he with ⟨z,_⟩ | ⟨z,rfl⟩
   · exact h.ne e z
   · exact z
theorem mi_keep {k j:Nat}{ps:List Nat}{a:Nat}{es:List Ent}:miE j (keepE k ps a es)=if j=k then (if ps=[] then [] else [⟨k,ps,a⟩]) else miE j es:=by
 unfold keepE miE;rw [List.filter_append,List.filter_append];by_cases c:j=k
 · subst c
   rw [if_pos rfl];have l1:(loE j es).filter (fun e=>decide (e.key=j))=[]:=List.filter_eq_nil_iff.mpr fun e he=>by have:=(Zgd he).2;simp;omega
   have l2:(hiE j es).filter (fun e=>decide (e.key=j))=[]:=List.filter_eq_nil_iff.mpr fun e he=>by have:=(Zgi he).2;simp;omega
   rw [l1,l2];split<;>simp
 · rw [if_neg c]
   have l3:(if ps=[] then [] else [(⟨k,ps,a⟩:Ent)]).filter (fun e=>decide (e.key=j))=[]:=by
     split
     · rfl
     · simp;omega
   rw [l3,List.append_nil];unfold loE hiE;rw [List.filter_filter,List.filter_filter];rcases Nat.lt_or_gt_of_ne c with d | d
   · rw [show (es.filter fun e=>decide (e.key=j)&&decide (k<e.key))=[] from List.filter_eq_nil_iff.mpr fun e he=>by simp;omega,List.append_nil]
     exact List.filter_congr fun e he=>by by_cases z:e.key=j<;>simp [z,d]
   · rw [show (es.filter fun e=>decide (e.key=j)&&decide (e.key<k))=[] from List.filter_eq_nil_iff.mpr fun e he=>by simp;omega,List.nil_append]
     exact List.filter_congr fun e he=>by by_cases z:e.key=j<;>simp [z];omega
theorem Zg5 {k j:Nat}{ps:List Nat}{a:Nat}{es:List Ent}:plcE j (keepE k ps a es)=if j=k then ps else plcE j es:=by
 unfold plcE;rw [mi_keep];by_cases c:j=k
 · rw [if_pos c,if_pos c]
   by_cases n:ps=[]
   · rw [if_pos n,n]
   · rw [if_neg n]
 · rw [if_neg c,if_neg c]
end BM
namespace BM
end BM
namespace L2
open PySem PySem.Spec PyProof.Rows
theorem ObjOk.there {P:Program}{w:World}{H:Hp}{h:Heap}{a:Addr}{o:HO}(x:ObjOk P w H h a o):∃ u,h.get? a=some u:=by
 cases o with
 | lst xs=>obtain ⟨_,_,_,_,e⟩:=x;exact ⟨_,e⟩
 | tup xs=>obtain ⟨_,_,_,o,e,_⟩:=x;exact ⟨_,e⟩
 | dK kvs=>obtain ⟨_,_,_,_,o,_,_,e,_⟩:=x;exact ⟨_,e⟩
 | dT kvs=>obtain ⟨_,_,_,_,o,_,_,e,_⟩:=x;exact ⟨_,e⟩
 | set S n=>obtain ⟨o,_,_,_,e,_⟩:=x;exact ⟨_,e⟩
 | ins C dx fs=>obtain ⟨_,_,_,e,_⟩:=x;exact ⟨_,e⟩
 | own y=>obtain ⟨_,e⟩:=x;exact ⟨_,e⟩
 | xd fs=>obtain ⟨_,⟨_,_,_,e,_⟩,_⟩:=x;exact ⟨_,e⟩
 | rng lo hi=>obtain ⟨_,_,_,e⟩:=x;exact ⟨_,e⟩
 | frz ob u=>obtain ⟨e,_⟩:=x;exact ⟨_,e⟩
 | tbl ps=>exact ⟨_,show h.get? a=some _ from x⟩
 | met f y=>exact ⟨_,show h.get? a=some _ from x⟩
 | ext φ=>obtain ⟨_,⟨_,e⟩,_⟩:=x;exact ⟨_,e⟩
structure Cov (l:List Env)(h:Heap)(H:Hp)(B:Heap):Prop where
 old:∀ b o,h.get? b=some o→b∉frs l→∃ u,B.get? b=some u
 trk:∀ b u,H b=some u→∃ o,B.get? b=some o
def CXW (P:Program)(w:World):CXT:=fun outer H s E e s'=>∃ (ea C:Addr) (a0:Value) (B:Heap) (H':Hp),
 e=.ref ea∧s'.os=s.os∧AllBare s'.gens∧Un (frs outer) [] H H' s.heap s'.heap∧HOk P w H' s'.heap∧Heap.FlyingW B outer ea (.ref C) a0 s'.heap∧Cov outer s.heap H' B∧E (.ref C) none H'
section
variable {X:Cx}{pins:List (Addr × Obj)}{σ:St}{H:Hp}{s:Shared}
theorem Inv.frStack (I:Inv X pins σ H s){b:Addr}{o:Obj}(e:X.s₀.heap.get? b=some o)(f:b∉X.fs):b∉frs X.stack:=fun hb=>by
 rcases List.mem_cons.mp (I.stkSub b hb) with z | z
 · exact absurd (Heap.lt_size e) (Nat.not_lt.mpr (by rw [z];exact I.ok.above))
 · exact f z
theorem Inv.landed {B h':Heap}(I:Inv X pins σ H s)(hex:X.ex=[])(hB:B.StaysIn h')(hs:B.StaysIn s.heap)(c:Cov X.stack X.s₀.heap H B)(us:s.heap.UpToSlots h'):Un X.fs [] X.H₀ H X.s₀.heap h'∧HOk X.prog X.w H h':=by
 have same:∀ b o,s.heap.get? b=some o→(∃ u,B.get? b=some u)→h'.get? b=some o:=fun b o e ⟨u,hu⟩=>by
   have:=hs b u hu;rw [e] at this;cases this;exact hB b _ hu
 have nx:∀ b:Addr,b∉X.ex:=fun b hb=>by rw [hex] at hb;cases hb
 refine ⟨⟨fun b o e n f _=>same b o (I.base.keep b o e n f (nx b)) (c.old b o e (I.frStack e f)),fun b o e n f _=>?_,fun b o e n _=>I.base.free b o e n (nx b),fun b o e _=>?_,I.base.tups,I.base.frzs,I.base.tbls⟩,fun a o e=>?_⟩
 · obtain ⟨sl,h1⟩:=I.base.slot b o e n f (nx b)
   obtain ⟨_,o',ho',hd⟩:=I.funs.mem f;rw [h1] at ho';cases ho';obtain ⟨sl2,h2⟩:=us b _ h1 hd;exact ⟨sl2,h2⟩
 · by_cases f:b∈X.fs
   · obtain ⟨_,o',ho',hd⟩:=I.funs.mem f
     obtain ⟨sl,h2⟩:=us b o' ho' hd;exact ⟨_,h2⟩
   · obtain ⟨u,hu⟩:=c.old b o e (I.frStack e f)
     exact ⟨u,hB b u hu⟩
 · exact (I.hok a o e).stay (fun b u hb q=>same b u q (hb.elim (fun z=>by rw [z];exact c.trk a o e) fun z=>c.trk b _ z)) (fun _ q=>q) fun _ _ q=>q
end
section
variable {P:Program}{w:World}{K:PySem.W.Frag}{mg:Str→Option Value}{base:Heap}{N:List Str}{qual:Str}{scope:Scope}{f:Addr}{cd:Value}{A:Around}{outer:List Env}{s0:Shared}{H0:Hp}{E:XK}
theorem passW:Passes (CXW P w) (cxOf (CXW P w) P w K mg base N qual scope f cd A outer s0 H0 E) E:=by
 rintro pins σ H s e s' I ⟨ea,C,a0,B,H',rfl,os,bare,un,hok,fl,c,q⟩;have I':Inv (cxOf (CXW P w) P w K mg base N qual scope f cd A outer s0 H0 E) pins σ H' s':=I.call' os un hok bare fun b hb=>nomatch hb
 have c':Cov (envOfC qual scope s0.heap.objs.size f cd::outer) s0.heap H' B:=⟨fun b o e n=>by
   obtain ⟨o',e'⟩:=I.base.there b o e (fun z=>nomatch z);exact c.old b o' e' n,c.trk⟩
 refine wpAny_leaves_onW (I.ok.frames) rfl fl fun h' fl' us=>?_
 obtain ⟨un',hok'⟩:=I'.landed rfl fl'.1 fl.1 c' us;exact ⟨ea,C,a0,B,H',rfl,I'.os,bare,un',hok',fl',⟨fun b o e n=>c'.old b o e (I.frStack e n),c'.trk⟩,q⟩
theorem raiseW {pins:List (Addr × Obj)}{σ:St}{H:Hp}{s:Shared}{h1:Heap}{ea C:Addr}{args:List Value}(I:Inv (cxOf (CXW P w) P w K mg base N qual scope f cd A outer s0 H0 E) pins σ H s)(hx:Heap.MadeExcOf s.heap h1 ea (.ref C) args)(q:E (.ref C) none H) :
   (cxOf (CXW P w) P w K mg base N qual scope f cd A outer s0 H0 E).xe (.ref ea) { s with heap:=h1 }:=by
 have hin:∀ env∈(envOfC qual scope s0.heap.objs.size f cd::outer),∀ b,env.frame=some b→b∈frs (envOfC qual scope s0.heap.objs.size f cd::outer):=fun env he b hb=>List.mem_filterMap.mpr ⟨env,he,hb⟩
 have c:Cov (envOfC qual scope s0.heap.objs.size f cd::outer) s0.heap H (PySem.W.hideAll s.heap (frs (envOfC qual scope s0.heap.objs.size f cd::outer))):=⟨fun b o e n=>by
   obtain ⟨o',e'⟩:=I.base.there b o e (fun z=>nomatch z);exact ⟨o',PySem.W.hideAll_get _ e' n⟩,fun b u e=>by
   obtain ⟨o,ho⟩:=(I.hok b u e).there;refine ⟨o,PySem.W.hideAll_get _ ho fun hm=>?_⟩;rw [I.stkFree b hm] at e;cases e⟩
 refine wpAny_leaves_madeW (s:={ s with heap:=h1 }) (base:=PySem.W.hideAll s.heap (frs (envOfC qual scope s0.heap.objs.size f cd::outer))) I.ok.frames rfl (fun b o e=>PySem.W.of_hideAll _ e) (PySem.W.funFrames_hide I.stack hin) hx fun h' t fl tup _ us=>?_
 obtain ⟨un',hok'⟩:=I.landed rfl fl.1 (fun b o e=>PySem.W.of_hideAll _ e) c ((Heap.UpToSlots.of_keeps hx.keeps).trans us);exact ⟨ea,C,.ref t,_,H,rfl,I.os,I.bare,un',hok',fl,⟨fun b o e n=>c.old b o e (I.frStack e n),c.trk⟩,q⟩
end
end L2
namespace L2
open PySem PySem.Spec PyProof.Rows
section
variable {P:Program}{w:World}{K:PySem.W.Frag}{mg:Str→Option Value}{base:Heap}{N:List Str}{qual:Str}{scope:Scope}{f:Addr}{cd:Value}{A:Around}{outer:List Env}{s0:Shared}{H0:Hp}{E:XK}
def tRaise (C:Addr)(E:XK)(te:TE):TS:=fun _ σ H=>te σ H fun _ H1=>E (.ref C) none H1
theorem Zfs {C:Addr}{te:TE}{D:Ends}{σ:St}{H:Hp}:tRaise C E te D σ H=te σ H fun _ H1=>E (.ref C) none H1:=rfl
theorem ZfB {x:Str}{C:Addr}{e:Expr}{te:TE}{np cpos pos:Pos}(c:XCls K C)(hm:mg x=some (.ref C))(hg:Gl (cxOf (CXW P w) P w K mg base N qual scope f cd A outer s0 H0 E) x)(he:PE (cxOf (CXW P w) P w K mg base N qual scope f cd A outer s0 H0 E) e te)(hdb:(x==("__debug__":Str))=false:=by decide)
   (hs:starEach [e] (cxOf (CXW P w) P w K mg base N qual scope f cd A outer s0 H0 E).env=[(false,eval e (cxOf (CXW P w) P w K mg base N qual scope f cd A outer s0 H0 E).env)]:=by rfl) :
   PS (cxOf (CXW P w) P w K mg base N qual scope f cd A outer s0 H0 E) (.Raise (some (.Call (.Name x np) [e] [] cpos)) none pos) (tRaise C E te):=by
 intro pins s σ H D I h;obtain ⟨nm,qn,Nn,bs,bm,hd,sn,sub,ab,col,dd,k0,k1,k2,k3,k5,mN,hC,hN,hni,T⟩:=c.obj I.ok.mod.kin;refine wpAny_Raise_call_subU (nm:=nm) (q:=qn) (N:=Nn) (bs:=bs) (bm:=bm) (hdct:=hd) (sn:=sn) (sub:=sub) (ab:=ab) (col:=col) (dd:=dd) (k0:=k0) (k1:=k1) (k2:=k2) (k3:=k3) (k5:=k5) (newId:="ValueError.__new__") F.excBase_ValueError (by decide +kernel) F.excBase_ValueError (T.hasType (by decide +kernel)) (I.ok.hd rfl) (by rw [hs];rfl) hni (Zby I hg hm ⟨rfl,?_⟩ hdb);rw [hs];refine Calls.evalArgs_plain ?_;show wpAny _ _ (spliced ((false,eval e _)::backTo cpos [])) _ _ s;refine Calls.spliced_cons (thn (he pins s σ H _ I h) fun u s1 ⟨v,H1,I1,r1,q1⟩=>Calls.spliced_nil ?_);have kb:=I1.bk;exact ⟨rfl,by show 1≤sizeLine;decide,kb _ _ hC,hN.keeps kb,T.keeps kb,fun h' ea hx=>raiseW I1 hx q1⟩
end
def XP (X:Cx)(pins:List (Addr × Obj))(σ:St)(W:Addr→Hp→Prop)(e:Value)(s':Shared):Prop:=∃ (ea C:Addr) (a0:Value) (B:Heap) (H':Hp),
 e=.ref ea∧Inv X pins σ H' s'∧Heap.FlyingW B X.stack ea (.ref C) a0 s'.heap∧Cov X.stack X.s₀.heap H' B∧(∀ p∈X.pn++pins,∃ o,B.get? p.1=some o)∧W C H'
section
variable {X:Cx}{pins:List (Addr × Obj)}{σ:St}{H:Hp}{s:Shared}
theorem Inv.toXP {E:XK}{W:Addr→Hp→Prop}{e:Value}{s':Shared}(I:Inv X pins σ H s)(hex:X.ex=[])(q:CXW X.prog X.w X.stack H s E e s')(hW:∀ C H',E (.ref C) none H'→W C H'):XP X pins σ W e s':=by
 obtain ⟨ea,C,a0,B,H',rfl,os,bare,un,hok,fl,c,q⟩:=q;refine ⟨ea,C,a0,B,H',rfl,I.call' os un hok bare (fun b hb=>(nomatch hb)),fl,⟨fun b o e n=>?_,c.trk⟩,fun p hp=>?_,hW C H' q⟩
 · obtain ⟨o',e'⟩:=I.base.there b o e (fun z=>by rw [hex] at z;cases z)
   exact c.old b o' e' n
 · obtain ⟨e1,_,n1,n2,_⟩:=I.pin p hp
   refine c.old p.1 _ e1 fun hm=>?_
   rcases List.mem_cons.mp (I.stkSub _ hm) with z | z
   · exact n1 z
   · exact n2 z
theorem Inv.landed2 {B h':Heap}(I:Inv X pins σ H s)(hex:X.ex=[])(hB:B.StaysIn h')(hs:B.StaysIn s.heap)(c:Cov X.stack X.s₀.heap H B)(hp:∀ p∈X.pn++pins,∃ o,B.get? p.1=some o)(us:s.heap.UpToSlots h'):Inv X pins σ H { s with heap:=h' }:=by
 obtain ⟨un,hok⟩:=I.landed hex hB hs c us;have cl:∀ {c:Addr} {v:Option Value},s.heap.IsCell c v→h'.IsCell c v:=fun {c v} ⟨o,ho,hd⟩=>by
   obtain ⟨sl,e⟩:=us c o ho fun vs q=>by rw [hd] at q;cases q
   exact ⟨_,e,hd⟩
 refine ⟨I.ok,I.os,I.bare,by rw [hex];exact un,?_,fun x c h=>let ⟨v,q⟩:=I.cell x c h;⟨v,cl q⟩,I.free,I.freeC,fun p q=>?_,hok,I.len⟩
 · obtain ⟨m,hn,hl⟩:=I.loc
   refine ⟨m,us.ns hn,fun i x v e1 e2 e3=>?_⟩;obtain ⟨u,r,l⟩:=hl i x v e1 e2 e3;exact ⟨u,r,l.elim (fun z=>.inl z) fun ⟨k,c,hc,q⟩=>.inr ⟨k,c,hc,cl q⟩⟩
 · obtain ⟨e1,r⟩:=I.pin p q
   obtain ⟨o,ho⟩:=hp p q;have:=hs _ _ ho;rw [e1] at this;cases this;exact ⟨hB _ _ ho,r⟩
end
abbrev TX:=(Addr→St→Hp→Prop)→TS
def PX (X:Cx)(st:Stmt)(t:TX):Prop :=
 ∀ (pins:List (Addr × Obj)) (s:Shared) (σ:St) (H:Hp) (D:Ends) (W:Addr→St→Hp→Prop),Inv X pins σ H s→t W D σ H→wpAny (model X.prog X.w) X.A (exec st X.env) (SP X pins D) (fun e s'=>∃ σ',XP X pins σ' (fun C=>W C σ') e s') s
def PXs (X:Cx)(sts:List Stmt)(t:TX):Prop :=
 ∀ (pins:List (Addr × Obj)) (s:Shared) (σ:St) (H:Hp) (D:Ends) (W:Addr→St→Hp→Prop),Inv X pins σ H s→t W D σ H→wpAny (model X.prog X.w) X.A (execs sts X.env) (SP X pins D) (fun e s'=>∃ σ',XP X pins σ' (fun C=>W C σ') e s') s
section
variable {X:Cx}{st:Stmt}{sts rest:List Stmt}{t u:TX}{pos:Pos}
theorem Zdn:PXs X [] (fun _=>tNext):=fun _ _ σ H _ _ I h=>wpAny_execs_nil ⟨σ,H,I,h⟩
theorem Zcy (h1:PX X st t)(h2:PXs X rest u):PXs X (st::rest) (fun W=>tSeq (t W) (u W)):=by
 intro pins s σ H D W I h;refine wpAny_execs_cons (thn (h1 pins s σ H { D with nx:=u W D } W I h) fun f s1 q=>?_);cases f with
 | next =>
   obtain ⟨σ',H',I',q⟩:=q;exact h2 pins s1 σ' H' D W I' q
 | ret v=>exact q
 | brk=>exact q
 | cont=>exact q
theorem px_if {c:Expr}{a b:List Stmt}{tc:TT}(hc:PT X.nox c tc)(ha:PXs X a t)(hb:PXs X b u):PX X (.If c a b pos) (fun W=>tIfS tc (t W) (u W)):=by
 intro pins s σ H D W I h;refine wpAny_If (wpAny_mono (hc pins s σ H _ (I.wish _) h) (fun d s1 ⟨H1,I1,q1⟩=>?_) fun _ _ z=>False.elim z);cases d with
 | true=>exact ha pins s1 σ H1 D W I1.unwish q1
 | false=>exact hb pins s1 σ H1 D W I1.unwish q1
def MethX (P:Program)(w:World)(K:PySem.W.Frag)(mg:Str→Option Value)(base:Heap)(C:Addr)(m:Str)(ps:List Str)(k:Nat)(sp:Sp):Prop :=
 Cls K C∧∃ f fd,Meth K C m f∧FnOk P w K mg base (CXW P w) k f fd ps sp∧Binds K fd ps []
def tMeX (P:Program)(w:World)(K:PySem.W.Frag)(mg:Str→Option Value)(base:Heap)(k0:Nat)(m:Str)(ta:TE)(t:TA):TX:=fun W D σ H=>ta σ H fun x H1=>∃ a C dx fs ps sp,x=.ref a∧H1 a=some (.ins C dx fs)∧fs.lookup m=none ∧
 MethX P w K mg base C m ps k0 sp∧t σ H1 fun vs H2=>sp (x::vs) H2 (fun _ H3=>D.nx σ H3) (fun cls _ H3=>∃ C',cls=.ref C'∧W C' σ H3)
theorem ZfO (k0:Nat){P:Program}{w:World}{K:PySem.W.Frag}{mg:Str→Option Value}{base:Heap}{o e:Expr}{es:List Expr}{m:Str}{ta:TE}{t:TA}{pl:Sem Bool}{apos cpos:Pos}(hex:X.ex=[])(hr:Room k0 X.A)(he:PE X.nox o ta)(ha:PA X.nox (e::es) t)(hP:X.prog=P:=by rfl)(hw:X.w=w:=by rfl)(hK:X.K=K:=by rfl)(hmg:X.mg=mg:=by rfl)(hbs:X.base=base:=by rfl)
   (hsw:swapsWith (.Call (.Attribute o m apos) (e::es) [] cpos) none pos.line X.env=pure false:=by rfl)
   (hst:starEach (e::es) X.env=(false,eval e X.env)::starEach es X.env:=by rfl) (hpl:(backTo cpos (starEach es X.env)).any (·.1)=false:=by rfl)
   (ht:eval (.Call (.Attribute o m apos) (e::es) [] cpos) X.env=(do
     let ov ← eval o X.env
     standAt apos.atName
     let (f,first) ← holding [ov] (getMethod ov m pl)
     callWith cpos f first (backTo cpos (starEach (e::es) X.env)) (backToKw cpos (keywordEach [] X.env))):=by rfl) :
   PX X (.Expr (.Call (.Attribute o m apos) (e::es) [] cpos) pos) (tMeX P w K mg base k0 m ta t):=by
 subst hP hw hK hmg hbs;intro pins s σ H D W I h;refine wpAny_Expr_any (Q:=SP X pins D) ?_ I.quiet hsw;refine PySem.W.methodCall_KW (pl:=pl) (wpAny_mono (he pins s σ H _ (I.wish _) h) (fun u s1 ⟨x,H1,I1,rx,a,C,dx,fs,ps,sp,ex,ea,l,M,q⟩=>?_) fun _ _ z=>False.elim z) ht;have I1:=I1.unwish;subst ex;obtain rfl:u=Value.ref a:=rx;obtain ⟨c,f,fd,hm,F,hb⟩:=M;refine Zcj I1 ea c hm l ?_;refine PySem.W.callWith_K (first:=[.ref a]) (h₀:=X.base) I.ok.mod.kin hm.kp (wpAny_mono (ha cpos pins s1 σ H1 _ (I1.wish _) q) (fun us s2 ⟨vs,H2,I2,r,q2⟩=>⟨I2.unwish.kIn,?_⟩) fun _ _ z=>False.elim z) hst hpl;have I2:=I2.unwish;have r2:Vals (V.ref a::vs) (Value.ref a::us):=.cons rfl r;have hl:(Value.ref a::us).length=ps.length:=by rw [← r2.length];exact F.len _ _ _ _ q2
 have hb2:=hb s2 (Value.ref a::us) I2.kIn (by simpa using hl);rw [List.append_nil] at hb2;refine wpAny_call (codeAny_mono (F.run X.A X.stack s2 H2 ⟨Value.ref a::us,[]⟩ (Value.ref a::us) (V.ref a::vs) _ _ hr I2.env0 hb2 r2 q2) fun r s' hq=>?_);cases r with
 | error e =>
   have hq:CXW X.prog X.w X.stack H2 s2 (fun cls _ H3=>∃ C',cls=Value.ref C'∧W C' σ H3) e s':=hq;exact ⟨σ,I2.toXP hex hq fun C H' ⟨C',e1,z⟩=>by cases e1;exact z⟩
 | ok fl =>
   cases fl with
   | ret u =>
     obtain ⟨v,H3,I3,rv,q3⟩:=I2.after hq;exact ⟨σ,H3,I3,q3⟩
   | next=>exact False.elim hq
   | brk=>exact False.elim hq
   | cont=>exact False.elim hq
end
end L2
namespace L2
open PySem PySem.Spec PyProof.Rows
def inEx (X:Cx)(ea:Addr)(oe:Obj):Cx:={ X with A:=X.A.mark (some (.ref ea)),calm:=false,pn:=(ea,oe)::X.pn,xe:=fun _ _=>False }
section
variable {X:Cx}{pins:List (Addr × Obj)}{σ:St}{H:Hp}{s:Shared}{ea:Addr}{oe:Obj}
theorem Inv.inExc (I:Inv X pins σ H s)(e1:s.heap.get? ea=some oe)(e2:H ea=none)(n1:ea≠X.env.locals)(n2:ea∉X.fs)(n3:∀ v,oe.data≠.cell v):Inv (inEx X ea oe) pins σ H s :=
 ⟨⟨I.ok.mod,I.ok.kind,I.ok.glob,I.ok.blt,I.ok.above,I.ok.inj,I.ok.has,I.ok.cab,(fun z=>by cases z),I.ok.frames,I.ok.stk,I.ok.exf,I.ok.bs,I.ok.bsz,I.ok.noex,I.ok.exfs,I.ok.funs,I.ok.frf⟩,I.os,I.bare,I.base,I.loc,I.cell,I.free,I.freeC,fun p hp=>by
   rcases List.mem_append.mp hp with hp | hp
   · rcases List.mem_cons.mp hp with rfl | hp
     · exact ⟨e1,e2,n1,n2,n3⟩
     · exact I.pin p (List.mem_append_left _ hp)
   · exact I.pin p (List.mem_append_right _ hp),I.hok,I.len⟩
theorem Inv.outExc (I:Inv (inEx X ea oe) pins σ H s)(ok:X.Ok):Inv X pins σ H s :=
 ⟨ok,I.os,I.bare,I.base,I.loc,I.cell,I.free,I.freeC,fun p hp=>I.pin p (by
   rcases List.mem_append.mp hp with hp | hp
   · exact List.mem_append_left _ (.tail _ hp)
   · exact List.mem_append_right _ hp),I.hok,I.len⟩
theorem Inv.gone {h':Heap}{t':Nat}{m:Str→Option Value}{i:Nat}{n:Str}{v:Option Value}(I:Inv X pins σ H s)(hN:X.N.Nodup)(hi:X.N[i]?=some n)(hn:s.heap.Ns X.env.locals m)(hl:∀ (i:Nat) (x:Str) (v:V),X.N[i]?=some x→σ[i]?=some (some v)→Vis X.env.scope x→∃ u,RelV v u∧Look X.env s.heap m x u)
   (hn':h'.Ns X.env.locals (fun x=>if x=n then v else m x)) (sb:Heap.SameBut X.env.locals s.heap h'):Inv X pins (σ.set i none) H { s with heap:=h',toks:=t' }:=by
 have k:∀ b o,b≠X.env.locals→s.heap.get? b=some o→h'.get? b=some o:=fun b o ne e=>(sb.2 b ne).trans e
 have nl:∀ b o,X.s₀.heap.get? b=some o→b≠X.env.locals:=fun b o e z=>absurd (Heap.lt_size e) (Nat.not_lt.mpr (by rw [z];exact I.ok.above))
 have cl:∀ {c:Addr} {v:Option Value},c≠X.env.locals→s.heap.IsCell c v→h'.IsCell c v:=fun {c v} ne ⟨o,ho,hd⟩=>⟨o,k c o ne ho,hd⟩
 refine ⟨I.ok,I.os,I.bare,⟨fun b o e n f x=>k b o (nl b o e) (I.base.keep b o e n f x),fun b o e n f x=>?_,I.base.free,fun b o e x=>?_,I.base.tups,I.base.frzs,I.base.tbls⟩,⟨_,hn',fun j x w e1 e2 e3=>?_⟩,fun x c h=>let ⟨v,q⟩:=I.cell x c h;⟨v,cl (I.cne x c h) q⟩,I.free,I.freeC,fun p q=>?_,fun a o e=>?_,by rw [List.length_set];exact I.len⟩
 · obtain ⟨sl,h1⟩:=I.base.slot b o e n f x
   exact ⟨sl,k b _ (nl b o e) h1⟩
 · obtain ⟨o',h1⟩:=I.base.there b o e x
   exact ⟨o',k b _ (nl b o e) h1⟩
 · have ji:j≠i:=fun z=>by
     subst z;rw [List.getElem?_set] at e2;split at e2
     · split at e2<;>cases e2
     · exact absurd rfl (by assumption)
   rw [List.getElem?_set_ne (Ne.symm ji)] at e2;obtain ⟨u,r,l⟩:=hl j x w e1 e2 e3;refine ⟨u,r,l.elim (fun ⟨a,b⟩=>.inl ⟨a,?_⟩) fun ⟨a,c,hc,q⟩=>.inr ⟨a,c,hc,cl (I.cne x c hc) q⟩⟩;show (if x=n then v else m x)=some u;rw [if_neg fun z:x=n=>ji (Zex hN (by rw [← z];exact e1) hi)];exact b
 · obtain ⟨e1,e2,e3,r⟩:=I.pin p q
   exact ⟨k _ _ e3 e1,e2,e3,r⟩
 · refine (I.hok a o e).stay (fun b u hb q=>k b u (fun z=>?_) q) (fun _ q=>q) fun _ _ q=>q
   rcases hb with hb | hb
   · rw [← hb,z,I.free] at e
     cases e
   · rw [z,I.free] at hb
     cases hb
end
def tTry (i:Nat)(K:PySem.W.Frag)(S:Addr)(tb:TX)(ts:Addr→Addr→TS):TS:=fun D σ H =>
 tb (fun C σ1 H1=>PySem.W.exmOne K (.ref C) (.ref S)=some true∧∀ ea,H1 ea=none→ts ea C { nx:=fun σ2 H2=>D.nx (σ2.set i none) H2,rt:=fun _ _=>False } (σ1.set i (some (.ref ea))) H1) D σ H
theorem ZiQ {i:Nat}{K:PySem.W.Frag}{S:Addr}{tb:TX}{ts:Addr→Addr→TS}{D:Ends}{σ:St}{H:Hp}:tTry i K S tb ts D σ H =
 tb (fun C σ1 H1=>PySem.W.exmOne K (.ref C) (.ref S)=some true∧∀ ea,H1 ea=none→ts ea C { nx:=fun σ2 H2=>D.nx (σ2.set i none) H2,rt:=fun _ _=>False } (σ1.set i (some (.ref ea))) H1) D σ H:=rfl
section
variable {X:Cx}
theorem ps_tryW {i:Nat} {S:Addr} {x n:Str} {body suite:List Stmt} {b₀:Stmt} {tb:TX} {ts:Addr→Addr→TS} {np hpos pos:Pos} (K:PySem.W.Frag) (hm:X.mg x=some (.ref S)) (hb:PXs X body tb) (hs:∀ (ea C:Addr) (oe:Obj) (vs:Array Value),oe.cls=.ref C→oe.data=.fields vs→PSs (inEx X ea oe) (b₀::suite) (ts ea C))
   (hN:X.N.Nodup) (hi:X.N[i]?=some n) (hl:X.env.kindOf n=some .local) (hg:Gl X x) (hK:X.K=K:=by rfl) (hex:X.ex=[]:=by rfl) (hst:X.stack=X.env::X.outer:=by rfl) (hfr:X.env.frame=some X.env.locals:=by rfl) (hdb:(x==("__debug__":Str))=false:=by decide) :
   PS X (.Try body [.ExceptHandler (some (.Name x np)) (some n) (b₀::suite) hpos] [] [] pos) (tTry i K S tb ts):=by
 subst hK;intro pins s σ H D I h;refine wpAny_Try_except (wpAny_mono (hb pins s σ H D _ I h) (fun f s1 hf=>?_) fun e s1 ⟨σ1,ea,C,a0,B,H1,ee,I1,fl,cov,hp,hx,q⟩=>?_)
 · cases f with
   | next=>exact wpAny_execs_nil hf
   | ret v=>exact hf
   | brk=>exact hf
   | cont=>exact hf
 · subst ee
   have fl':Heap.FlyingW B (X.env::X.outer) ea (.ref C) a0 s1.heap:=hst ▸ fl;refine wpAny_looks_onW (by rw [← hst];exact I1.ok.frames) hfr fl' fun h2 held us1=>wpAny_landsW held fun h3 fl3 us2=>?_
   have I3:Inv X pins σ1 H1 { s1 with heap:=h3 }:=I1.landed2 hex fl3.1 fl.1 cov hp (us1.trans us2);have nH:H1 ea=none:=by
     cases z:H1 ea with
     | none=>rfl
     | some u =>
       obtain ⟨o,ho⟩:=cov.trk ea u z;rw [fl.2.1] at ho;cases ho
   have nfr:∀ {h':Heap} {oe:Obj} {vs:Array Value},h'.get? ea=some oe→oe.data=.fields vs→h'.FunFrames X.base X.stack→ea∉frs X.stack:=fun he hd hf hm=>by
     obtain ⟨_,o,ho,hno⟩:=hf.mem hm;rw [he] at ho;cases ho;exact hno _ hd
   have loc:ea∉frs X.stack→ea≠X.env.locals∧ea∉X.fs:=fun hn=>by
     rw [hst] at hn;unfold frs at hn;rw [List.filterMap_cons,hfr] at hn;exact ⟨fun z=>hn (z ▸ .head _),fun z=>hn (.tail _ z)⟩
   obtain ⟨oe,vs,he,hc,hd,_⟩:=fl3.first;obtain ⟨n1,n2⟩:=loc (nfr he hd I3.stack);have I3':=I3.inExc he nH n1 n2 fun v z=>by rw [hd] at z;cases z
   refine wpAny_handleBy_cons (codeAny_handlers_test (Zby (X:=inEx X ea oe) I3' hg hm ?_ hdb)) (by intro z;cases z);have LT:PySem.W.Looks (model X.prog X.w) h3 (typeOf (.ref ea)) (.ref C):=fun A' Q' E' s' k z=>by
     unfold typeOf;exact wpAny_bind (wpAny_loadPart (k _ _ he) (by rw [hc];exact wpAny_pure z))
   refine (PySem.W.exm_one (M:=model X.prog X.w) I3.kIn LT hx).at ?_;show codeAny _ _ (.handlers _ _ _) _ _;refine codeAny_handlers_suite_as (lands_againW fl3 fun h4 fl4 us4=>?_);have I4:Inv X pins σ1 H1 { s1 with heap:=h4 }:=I3.landed2 (h':=h4) hex fl4.1 fl3.1 cov hp us4;obtain ⟨oe4,vs4,he4,hc4,hd4,_⟩:=fl4.first;obtain ⟨n1,n2⟩:=loc (nfr he4 hd4 I4.stack);have I4':=I4.inExc he4 nH n1 n2 fun v z=>by rw [hd4] at z;cases z
   refine ZeQ (X:=inEx X ea oe4) I4' hN hi (.inl hl) (v:=V.ref ea) (u:=Value.ref ea) rfl (fun s5 I5=>?_) (.inr hl);refine wpAny_mono (hs ea C oe4 vs4 hc4 hd4 pins s5 _ H1 _ I5 (q ea nH)) (fun f s6 z=>?_) fun _ _ z=>z.elim
   cases f with
   | next =>
     obtain ⟨σ2,H2,I6,qq⟩:=z;have I7:=I6.outExc I.ok;obtain ⟨m,hn,hl'⟩:=I7.loc;refine wpAny_nameGoes_keeps hl hn (by rw [I.ok.kind];rfl) fun h7 v hn7 sb=>⟨σ2.set i none,H2,I7.gone hN hi hn hl' hn7 sb,qq⟩
   | ret u=>obtain ⟨_,_,_,_,_,z⟩:=z;exact z.elim
   | brk=>obtain ⟨_,_,_,z⟩:=z;exact z.elim
   | cont=>obtain ⟨_,_,_,z⟩:=z;exact z.elim
end
end L2
namespace EX
open PySem PySem.Spec PyProof.Rows PySem.W PySem.Calls Builtin Builtin.ObjectAttr Builtin.Getset_descriptor
structure XIsi (K:Frag)(C:Addr):Prop where
 cls:(clsIn K C).isSome=true
 ga:findIn K (.ref C) "__getattribute__"=some (some (.builtin "BaseException.__getattribute__"))
 no:findIn K (.ref C) "__getattr__"=some none
 ca:findIn K (.ref C) "__class__"=some (some (.builtin "object.__class__"))
 ob:mroIn K C (.type "object")=some true
 be:mroIn K C (.type "BaseException")=some true
section
variable {prog:Program}{w:World}{A:Around}{E:Value→Shared→Prop}{s:Shared}{K:Frag}{x C:Addr}{ox:Obj}
theorem ZhU {R:Result→Shared→Prop}{tp:Value}(Z:XIsi K C)(X:K.In s.heap)(L0:Looks (model prog w) s.heap (typeOf (.ref x)) (.ref C))(h:R (.ok (.ret (.ref C))) s) :
   codeAny (model prog w) A (.call (.builtin "getset_descriptor.__get__") ⟨[.builtin "object.__class__",.ref x,tp],[]⟩) R s:=by
 obtain ⟨hh,g,dr,t,os⟩:=s;have L1:=looks_mroIn (M:=model prog w) X Z.ob;refine codeAny_call_builtin KF.slot_gs.plain KF.entry_gs (KF.slot_gs.check _ _ _ _ _ _ _ _ KF.type_class (KF.args_gs _ _ _) ?_);unfold Builtin.«getset_descriptor.__get__» descrGet;rw [dga_obj];refine wpAny_bind (wpAny_pure ?_);unfold descrGetter descrCheckInstance descrNameAndClass isInstance;simp only [KF.owner_class]
 repeat lk
 refine ⟨Code.quiet_builtin _ (by decide +kernel),codeAny_builtin KF.entry_class ?_⟩;unfold Builtin.«object.__class__» shownTypeOf
 repeat lk
 exact h
theorem ZfQ {tk:Tok}{Q:Fin→Shared→Prop}(Z:XIsi K C)(X:K.In s.heap)(hx:s.heap.get? x=some ox)(hc:ox.cls=.ref C)(hq:Q (.done (.ret (.ref C))) s) :
   wpAny (model prog w) A (Builtin.«object.__getattribute__» ⟨[.ref x,.str "__class__" tk],[]⟩) Q E s:=by
 obtain ⟨hh,g,dr,t,os⟩:=s;have L0:Looks (model prog w) hh (typeOf (.ref x)) (.ref C):=fun A' Q' E' s' k z=>by
   unfold typeOf;exact wpAny_bind (wpAny_loadPart (k _ _ hx) (by rw [hc];exact wpAny_pure z))
 have L1:=looks_findIn (M:=model prog w) X Z.ca;have hT5:(⟨hh,g,dr,t,os⟩:Shared).TypeIs (.builtin "object.__class__") "getset_descriptor":=F.typeOf_object_class;have f5:=F.typeOf_object_class;have f6:=F.slot_gs_get.lookup;have f7:=F.slot_gs_set.lookup
 repeat (any_goals (first | assumption | with_reducible refine L0.at ?_ | with_reducible refine L1.at ?_ | wp_step))
 refine ZhU Z X L0 ?_
 repeat (any_goals (first | assumption | wp_step))
theorem Zjk {M:Model}{nameV:Value}{Q:Unit→Shared→Prop}(Z:XIsi K C)(X:K.In s.heap)(L0:Looks M s.heap (typeOf (.ref x)) (.ref C))(hq:Q () s):wpAny M A (checkBuiltinCall "BaseException.__getattribute__" ⟨[.ref x,nameV],[]⟩) Q E s:=by
 have hk:builtinKind "BaseException.__getattribute__"=some .slot:=by decide +kernel
 have hsplit:splitId "BaseException.__getattribute__"=some ("BaseException","__getattribute__"):=by decide +kernel
 have L1:=looks_mroIn (M:=M) X Z.be;have ha:=F.args_bexc_ga (.ref x) nameV;obtain ⟨hh,g,dr,t,os⟩:=s;simp only [checkBuiltinCall,hk,hsplit];refine wpAny_bind ?_;unfold isInstance
 repeat (first | with_reducible refine L0.at ?_ | with_reducible refine L1.at ?_ | wp_step)
 exact hq
theorem Zhv {Q:Option Value→Shared→Prop}(Z:XIsi K C)(X:K.In s.heap)(hx:s.heap.get? x=some ox)(hc:ox.cls=.ref C)(hq:Q (some (.ref C)) { s with toks:=s.toks+1 }):wpAny (model prog w) A (getAttr? (.ref x) "__class__") Q E s:=by
 obtain ⟨hh,g,dr,t,os⟩:=s;have L0:Looks (model prog w) hh (typeOf (.ref x)) (.ref C):=fun A' Q' E' s' k z=>by
   unfold typeOf;exact wpAny_bind (wpAny_loadPart (k _ _ hx) (by rw [hc];exact wpAny_pure z))
 have L1:=looks_findIn (M:=model prog w) X Z.ga;have L2:=looks_findIn (M:=model prog w) X Z.no;have f3:=F.excAttr_ValueError.ga.bind (.ref x);have hx0:(false&&onTheHeap (Value.builtin "BaseException.__getattribute__"))=false:=rfl;have hx2:(Value.builtin "BaseException.__getattribute__"==Value.builtin "object.__getattribute__")=false:=by decide +kernel
 have hx1:(onTheHeap (Value.ref C)&&Value.builtin "BaseException.__getattribute__"==Value.builtin "object.__getattribute__")=false:=by rw [hx2];rfl
 unfold getAttr? getAttrBy?
 repeat (any_goals (first | assumption | with_reducible refine L0.at ?_ | with_reducible refine L1.at ?_ | with_reducible refine L2.at ?_ | wp_step))
 refine codeAny_call_builtin F.excAttr_ValueError.ga.plain F.entry_bexc_ga (Zjk Z X L0 (ZfQ Z X hx hc ?_))
 repeat (any_goals (first | assumption | wp_step))
theorem kitx_exc (Z:XIsi K C)(hc:ox.cls=.ref C):KitX K (.ref x) (.ref C) (fun h=>h.get? x=some ox) where
 ty:=fun _ _ _ hx A' Q' E' s' k z=>by
   unfold typeOf;exact wpAny_bind (wpAny_loadPart (k _ _ hx) (by rw [hc];exact wpAny_pure z))
 it:=fun _ _ X _=>by
   obtain ⟨cdD,hcD⟩:=Option.isSome_iff_exists.mp Z.cls;unfold clsIn at hcD;split at hcD
   · rename_i c' d' cd' sl' ho
     intro A' Q' E' s' k q;unfold isType loadHead;exact wpAny_bind (wpAny_loadPart (k _ _ (X _ _ ho)) (wpAny_pure q))
   · cases hcD
 ne:=fun h tp dd its n sl X htp=>by
   obtain ⟨cdD,hcD⟩:=Option.isSome_iff_exists.mp Z.cls;refine Bool.eq_false_iff.mpr fun q=>?_
   have e:C=tp:=Value.ref.inj (beq_iff_eq.mp q);subst e;unfold clsIn at hcD;split at hcD
   · rename_i c' d' cd' sl' ho
     have z:=(X _ _ ho).symm.trans htp;cases z
   · cases hcD
 ca:=fun X hx k=>Zhv Z X hx hc k
end
end EX
namespace L2
open PySem PySem.Spec PyProof.Rows
def rIsiX (K:PySem.W.Frag)(ea C:Addr):List V→Hp→VK→Prop:=fun xs H Q=>∃ T b,xs=[.ref ea,.ref T]∧EX.XIsi K C∧PySem.W.kitOne K (.ref C) (.ref T)=some b∧Q (.bl b) H
theorem Zg0 {K:PySem.W.Frag}{ea C:Addr}{xs:List V}{H:Hp}{Q:VK}:rIsiX K ea C xs H Q=∃ T b,xs=[.ref ea,.ref T]∧EX.XIsi K C∧PySem.W.kitOne K (.ref C) (.ref T)=some b∧Q (.bl b) H:=rfl
theorem ZfL {X:Cx}(K:PySem.W.Frag){ea C:Addr}{oe:Obj}(hc:oe.cls=.ref C)(hK:X.K=K:=by rfl):CallR (inEx X ea oe) (.builtin "isinstance") (rIsiX K ea C):=by
 subst hK;intro pins s σ H xs us Q I r h;obtain ⟨T,b,rfl,Z,hb,q⟩:=h;cases r with
 | cons r rr =>
   cases rr with
   | cons r' rr =>
     cases rr;cases r;cases r';have hp:=(I.pin (ea,oe) (List.mem_append_left _ (.head _))).1;exact PySem.W.kia_one (EX.kitx_exc Z hc) I.kIn hp hb (by intro z;cases z) fun tk=>⟨.bl b,H,I.kept (t':=tk) fun _ _ e=>e,rfl,q⟩
section
variable {P:Program}{w:World}{K:PySem.W.Frag}{mg:Str→Option Value}{base:Heap}
theorem MethX.of {C:Addr}{m qual:Str}{st:Stmt}{N ps:List Str}{k:Nat}{sp:Sp}(c:Cls K C)(d:MDefAt K C m qual st ps)(S:FnScope N ps (defScope st))(len:∀ vs H Q E,sp vs H Q E→vs.length=ps.length)
   (hbody:∀ (f:Addr) (cdv:Value) (A:Around) (outer:List Env) (s:Shared) (H:Hp) (vs:List V) (Q:VK) (E:XK),Room k (A.deeper (envOfC qual (defScope st) s.heap.objs.size f cdv))→sp vs H Q E →
     ∃ t,PSs (cxOf (CXW P w) P w K mg base N qual (defScope st) f cdv A outer s H E) (defBody st) t∧t { nx:=fun _ H'=>Q .non H',rt:=Q } (start N vs) H):MethX P w K mg base C m ps (k+1) sp:=by
 obtain ⟨f,fd,F,m,b⟩:=d;obtain ⟨oc,od,kV,doc,pm,an,cdv,ct,osl,rfl,lk,hcd⟩:=F.ex;exact ⟨c,f,_,m,fn_of lk hcd S len (hbody f cdv),b⟩
def FnX (P:Program)(w:World)(K:PySem.W.Frag)(mg:Str→Option Value)(base:Heap)(x:Str)(ps:List Str)(k:Nat)(sp:Sp):Prop :=
 ∃ f fd,FnOk P w K mg base (CXW P w) k f fd ps sp∧mg x=some (.ref f)∧PySem.W.keepIn K (.ref f)=true∧Binds K fd ps []
theorem FnX.of {x:Str}{st:Stmt}{N ps:List Str}{k:Nat}{sp:Sp}(d:DefAt K mg x st ps)(S:FnScope N ps (defScope st))(len:∀ vs H Q E,sp vs H Q E→vs.length=ps.length)
   (hbody:∀ (f:Addr) (cdv:Value) (A:Around) (outer:List Env) (s:Shared) (H:Hp) (vs:List V) (Q:VK) (E:XK),Room k (A.deeper (envOfC x (defScope st) s.heap.objs.size f cdv))→sp vs H Q E →
     ∃ t,PSs (cxOf (CXW P w) P w K mg base N x (defScope st) f cdv A outer s H E) (defBody st) t∧t { nx:=fun _ H'=>Q .non H',rt:=Q } (start N vs) H):FnX P w K mg base x ps (k+1) sp:=by
 obtain ⟨f,fd,F,m,b⟩:=d;have kp:=F.kp;obtain ⟨oc,od,kV,doc,pm,an,cdv,ct,osl,rfl,lk,hcd⟩:=F.ex;exact ⟨f,_,fn_of lk hcd S len (hbody f cdv),m,kp,b⟩
variable {N:List Str}{qual:Str}{scope:Scope}{f:Addr}{cd:Value}{A:Around}{outer:List Env}{s0:Shared}{H0:Hp}{E:XK}
def tMeE (P:Program)(w:World)(K:PySem.W.Frag)(mg:Str→Option Value)(base:Heap)(E:XK)(k0:Nat)(m:Str)(ta:TE)(t:TA):TE:=fun σ H Q=>ta σ H fun x H1=>∃ a C dx fs ps sp,x=.ref a∧H1 a=some (.ins C dx fs)∧fs.lookup m=none ∧
 MethX P w K mg base C m ps k0 sp∧t σ H1 fun vs H2=>sp (x::vs) H2 Q E
theorem Ziq {k0:Nat}{m:Str}{ta:TE}{t:TA}{σ:St}{H:Hp}{Q:VK}:tMeE P w K mg base E k0 m ta t σ H Q=ta σ H fun x H1=>∃ a C dx fs ps sp,x=.ref a∧H1 a=some (.ins C dx fs)∧fs.lookup m=none ∧
 MethX P w K mg base C m ps k0 sp∧t σ H1 fun vs H2=>sp (x::vs) H2 Q E:=rfl
theorem pe_meE (k0:Nat){o e:Expr}{es:List Expr}{m:Str}{ta:TE}{t:TA}{apos pos:Pos}{pl:Sem Bool}(hr:Room k0 (A.deeper (envOfC qual scope s0.heap.objs.size f cd)))(he:PE (cxOf (CXW P w) P w K mg base N qual scope f cd A outer s0 H0 E) o ta)(ha:PA (cxOf (CXW P w) P w K mg base N qual scope f cd A outer s0 H0 E) (e::es) t)
   (hst:starEach (e::es) (envOfC qual scope s0.heap.objs.size f cd)=(false,eval e (envOfC qual scope s0.heap.objs.size f cd))::starEach es (envOfC qual scope s0.heap.objs.size f cd):=by rfl) (hpl:(backTo pos (starEach es (envOfC qual scope s0.heap.objs.size f cd))).any (·.1)=false:=by rfl)
   (ht:eval (.Call (.Attribute o m apos) (e::es) [] pos) (envOfC qual scope s0.heap.objs.size f cd)=(do
     let ov ← eval o (envOfC qual scope s0.heap.objs.size f cd)
     standAt apos.atName
     let (f',first) ← holding [ov] (getMethod ov m pl)
     callWith pos f' first (backTo pos (starEach (e::es) (envOfC qual scope s0.heap.objs.size f cd))) (backToKw pos (keywordEach [] (envOfC qual scope s0.heap.objs.size f cd)))):=by rfl) :
   PE (cxOf (CXW P w) P w K mg base N qual scope f cd A outer s0 H0 E) (.Call (.Attribute o m apos) (e::es) [] pos) (tMeE P w K mg base E k0 m ta t):=by
 intro pins s σ H Q I h;refine PySem.W.methodCall_KW (pl:=pl) (thn (he pins s σ H _ I h) fun u s1 hz=>?_) ht;obtain ⟨x,H1,I1,rx,a,C,dx,fs,ps,sp,ex,ea,l,⟨c,f,fd,me,F,b⟩,q⟩:=hz;subst ex;obtain rfl:u=Value.ref a:=rx;refine Zcj I1 ea c me l ?_;refine PySem.W.callWith_K (first:=[.ref a]) (h₀:=base) I.ok.mod.kin me.kp (thn (ha pos pins s1 σ H1 _ I1 q) fun us s2 ⟨vs,H2,I2,r,q2⟩=>⟨I2.kIn,?_⟩) hst hpl;exact ZdT (us:=.ref a::us) (vs:=.ref a::vs) (dvs:=[]) F hr b .nil passW I2 (.cons rfl r) (by rw [List.append_nil];exact q2)
end
end L2
namespace L2
open PySem PySem.Spec PyProof.Rows
def tFStr:TE:=fun _ H Q=>∀ z,Q (.str z) H
theorem Zgy {σ:St}{H:Hp}{Q:VK}:tFStr σ H Q=∀ z,Q (.str z) H:=rfl
theorem pe_fstr {X:Cx}{x g:Str}{j:Nat}{tk:Tok}{p1 p2 p3 pos:Pos}(hg:Gl X g)(hm:X.mg g=some (.int 65535 tk))(hx:x.length≤1000:=by decide)(hdb:(g==("__debug__":Str))=false:=by decide) :
   PE X (.JoinedStr [.Constant (.str x) j p1,.FormattedValue (.Name g p2) (-1) none p3] pos) tFStr:=by
 intro pins s σ H Q I h;refine JoinedStr_many (joinParts_cons (Calls.Constant_str ?_));have hxs:(Str.empty++x).length≤sizeLine:=by rw [Str.empty_append];exact Nat.le_trans hx (by decide)
 refine ⟨hxs,?_⟩;show wpAny _ _ (joinParts (Str.empty++x) (eval (.FormattedValue (.Name g p2) (-1) none p3) X.env::[])) _ _ _;refine joinParts_cons (PyProof.Rows.FormattedValue_plain (Zby (I.tok _) hg hm ?_ hdb));refine wpAny_formatField_int (by decide +kernel) ⟨?_,joinParts_nil ⟨.str _,H,I.kept fun _ _ e=>e,⟨_,rfl⟩,h _⟩ ?_⟩
 · rw [strLen_append,Str.empty_append]
   exact Nat.le_trans (Nat.add_le_add hx (show Str.length (toString (65535:Int):String)≤5 by decide +kernel)) (by decide)
 · rw [strLen_append,Str.empty_append]
   exact Nat.le_trans (Nat.add_le_add hx (show Str.length (toString (65535:Int):String)≤5 by decide +kernel)) (by decide)
section
variable {P:Program}{w:World}{K:PySem.W.Frag}{mg:Str→Option Value}{base:Heap}{N:List Str}{qual:Str}{scope:Scope}{f:Addr}{cd:Value}{A:Around}{outer:List Env}{s0:Shared}{H0:Hp}{E:XK}
theorem ZeS {x:Str}{ps:List Str}{k:Nat}{sp:Sp}{e:Expr}{es:List Expr}{t:TA}{p pos:Pos}(F:FnX P w K mg base x ps k sp)(hr:Room k (A.deeper (envOfC qual scope s0.heap.objs.size f cd)))(hg:Gl (cxOf (CXW P w) P w K mg base N qual scope f cd A outer s0 H0 E) x)(ha:PA (cxOf (CXW P w) P w K mg base N qual scope f cd A outer s0 H0 E) (e::es) t)
   (hdb:(x==("__debug__":Str))=false:=by decide) (he:starEach (e::es) (envOfC qual scope s0.heap.objs.size f cd)=(false,eval e (envOfC qual scope s0.heap.objs.size f cd))::starEach es (envOfC qual scope s0.heap.objs.size f cd):=by rfl) (hpl:(backTo pos (starEach es (envOfC qual scope s0.heap.objs.size f cd))).any (·.1)=false:=by rfl) :
   PE (cxOf (CXW P w) P w K mg base N qual scope f cd A outer s0 H0 E) (.Call (.Name x p) (e::es) [] pos) (tCall sp [] E t):=by
 obtain ⟨f',fd,F,m,kp,b⟩:=F;exact Zik F hr hg m kp b .nil passW ha hdb he hpl
end
end L2
namespace L2
open PySem PySem.Spec PyProof.Rows
section
variable {td ty tx:TE}{σ:St}{H:Hp}{Q:VK}
theorem Zid:tDIn ty td σ H Q=ty σ H fun y H1=>td σ H1 fun x H2=>∃ a o,x=.ref a∧DGet H2 a y o∧Q (.bl o.isSome) H2:=rfl
theorem Zfp:tDPop2 td ty tx σ H Q=td σ H fun x H1=>∃ a,x=.ref a∧IsD H1 a∧ty σ H1 fun y H2=>tx σ H2 fun z H3=>∃ kvs k,H3 a=some (.dK kvs)∧y=kV k∧(∀ v,valV kvs k=some v→Q v (upd H3 a (.dK (dropK kvs k))))∧(valV kvs k=none→Q z H3):=rfl
end
end L2
namespace L2
open PySem PySem.Spec PyProof.Rows
def tDSet (td ty tx:TE):TE:=fun σ H Q=>td σ H fun x H1=>∃ a,x=.ref a∧IsD H1 a∧ty σ H1 fun y H2=>tx σ H2 fun z H3=>∃ kvs k,H3 a=some (.dK kvs)∧y=kV k∧kvs.length<sizeLine ∧
 (∀ v,valV kvs k=some v→Q v H3)∧(valV kvs k=none→Q z (upd H3 a (.dK (putK kvs k z))))
theorem Zhu {td ty tx:TE}{σ:St}{H:Hp}{Q:VK}:tDSet td ty tx σ H Q=td σ H fun x H1=>∃ a,x=.ref a∧IsD H1 a∧ty σ H1 fun y H2=>tx σ H2 fun z H3=>∃ kvs k,H3 a=some (.dK kvs)∧y=kV k∧kvs.length<sizeLine ∧
 (∀ v,valV kvs k=some v→Q v H3)∧(valV kvs k=none→Q z (upd H3 a (.dK (putK kvs k z)))):=rfl
section
variable {X:Cx}{o e f:Expr}{apos cpos:Pos}{td ty tx:TE}
theorem d_setDef {pins:List (Addr × Obj)}{σ:St}{H:Hp}{s:Shared}{a:Addr}{kvs:List (Key × V)}{k:Key}{u r:Value}{z:V}{A:Around}{E:Value→Shared→Prop}{Q:Value→Shared→Prop}(I:Inv X pins σ H s)(e:H a=some (.dK kvs))(ry:RelV (kV k) u)(rz:RelV z r)(hl:kvs.length<sizeLine)
   (h1:∀ v w' s',valV kvs k=some v→Inv X pins σ H s'→RelV v w'→Q w' s') (h2:valV kvs k=none→∀ s',Inv X pins σ (upd H a (.dK (putK kvs k z))) s'→Q r s') :
   wpAny (model X.prog X.w) A (call (.builtin "dict.setdefault") [.ref a,u,r]) Q E s:=by
 obtain ⟨zz,hd,vs,rel,dd⟩:=Zer I.hok e;refine call_meetsIn PySem.F.slot_dict_setdefault dd.typeIs PySem.F.entry_dict_setdefault (PySem.F.args_dict_setdefault_3 _ _ _) (kt_meets_setdefault (mixKind X.prog X.w) a (Zds ry) hd r) ⟨vs,dd,by rw [← rel.length];exact zz,fun v hv=>?_,fun hn h' dd' hs=>?_⟩
 · have:=rel.val k
   rw [hv] at this;cases l:valV kvs k with
   | none=>rw [l] at this;exact absurd this (by intro q;cases q)
   | some v' =>
     rw [l] at this;exact h1 v' v _ l (I.tok _) this
 · have l:valV kvs k=none:=by
     have:=rel.val k;rw [hn] at this;cases l:valV kvs k with
     | none=>rfl
     | some v'=>rw [l] at this;exact absurd this (by intro q;cases q)
   refine h2 l _ ?_;have he:∃ q,h'.get? a=some q:=let ⟨q,_,_,hq,_⟩:=dd';⟨q,hq⟩
   exact Zeg I (by rw [e];exact True.intro) hs he (Zh9 (by have:=ZcK kvs k z;omega) hd (rel.put k rz) dd')
theorem Zim (ho:PE X o td)(he:PE X e ty)(hf:PE X f tx)(m:M2 X o "setdefault" apos e f cpos):PE X (.Call (.Attribute o "setdefault" apos) [e,f] [] cpos) (tDSet td ty tx):=by
 intro pins s σ H Q I h;refine wpAny_Call_method m.base m.few m.line PySem.F.plainAttrs_dict PySem.F.slot_dict_setdefault PySem.F.type_dict_setdefault (thn (ho pins s σ H _ I h) fun u s1 ⟨x,H1,I1,rx,a,ex,d,q1⟩=>?_);subst ex;obtain rfl:u=Value.ref a:=rx;obtain ⟨t1,t2,_⟩:=ZeH I1 d;refine ⟨t1,t2,?_⟩;rw [m.trees];refine Calls.callWith_builtin rfl (Calls.evalArgs_plain (Calls.spliced_cons (thn (he pins s1 σ H1 _ I1 q1) fun iv s2 ⟨y,H2,I2,ry,q2⟩ =>
   Calls.spliced_cons (thn (hf pins s2 σ H2 _ I2 q2) fun fv s3 ⟨z,H3,I3,rz,kvs,k,ea,ey,hl,q3,q4⟩=>Calls.spliced_nil ?_))))
 subst ey;exact d_setDef I3 ea ry rz hl (fun v w' s4 l I4 rw'=>⟨v,H3,I4,rw',q3 v l⟩) fun l s4 I4=>⟨z,_,I4,rz,q4 l⟩
end
end L2
namespace ZL
open PySem
abbrev ZipH (h:Heap)(z TI TO T:Addr)(b:Bool):Prop :=
 h.get? z=some { cls:=.type "zip",dict:=none,data:=.fields #[rawInt T,.bool b,.bool false,.ref TI,.ref TO],slots:=#[] }
section
variable {prog:Program}{w:World}{A:Around}{E:Value→Shared→Prop}{s:Shared}
theorem alive {M:Model}{a:Addr}{Q:Option Obj→Shared→Prop}(h:Q (s.heap.get? a) s):wpAny M A (loadIfAlive a) Q E s:=fun _ _ _=>h
structure ZI (z TI TO i1 i2 l1 l2:Addr)(xs ys:Array Value)(m i:Nat)(Ts:List Addr)(h:Heap):Prop where
 zz:(i=0∧IsZip h z TI TO .none∧∃ a b,IsPair h TO a b)∨(∃ T0 b,Ts[0]?=some T0∧ZipH h z TI TO T0 b)
 ti:IsPair h TI (.ref i1) (.ref i2)
 it1:h.IsListIter i1 l1 i
 it2:h.IsListIter i2 l2 i
 li1:h.IsList l1 xs
 li2:h.IsList l2 ys
 len:Ts.length=i
 nd:Ts.Nodup
 new:∀ T∈Ts,m≤T
 tup:∀ (j:Nat) (T:Addr),Ts[j]?=some T→∃ x y,xs[j]?=some x∧ys[j]?=some y∧IsPair h T x y
end
end ZL
namespace L2
open PySem PySem.Spec PyProof.Rows
section
variable {X:Cx}{pins:List (Addr × Obj)}{σ:St}{H:Hp}{s:Shared}{h':Heap}
end
section
variable {X:Cx}{a b:Expr}{ta:TA}{p p' pos pos':Pos}
end
end L2
namespace L2
open PySem PySem.Spec PyProof.Rows
section
variable {X:Cx}
theorem ZjM:bootBuiltins "sum"=some (.builtin "sum"):=by decide +kernel
def rSum (K:PySem.W.Frag):List V→Hp→VK→Prop:=fun xs H Q=>∃ (p:Addr) (ns:List Int),xs=[.ref p]∧SqL K H p (ns.map V.int)∧Q (.int ns.sum) H
theorem Zij {K:PySem.W.Frag}{xs:List V}{H:Hp}{Q:VK}:rSum K xs H Q=∃ (p:Addr) (ns:List Int),xs=[.ref p]∧SqL K H p (ns.map V.int)∧Q (.int ns.sum) H:=rfl
theorem ZgD (ns:List Int):∀ j,j≤ns.length→preSum (fun i=>ns.getD i 0) j=(ns.take j).sum
 | 0,_=>rfl
 | j+1,h=>by
   have hj:j<ns.length:=by omega
   show preSum _ j+ns.getD j 0=_;rw [ZgD ns j (by omega),List.take_succ,List.getElem?_eq_getElem hj,List.sum_append,List.getD_eq_getElem?_getD,List.getElem?_eq_getElem hj];simp
theorem ZjJ (K:PySem.W.Frag)(hK:X.K=K:=by rfl)(hc:X.calm=true:=by rfl):CallR X (.builtin "sum") (rSum K):=by
 subst hK;intro pins s σ H xs us Q I r h;obtain ⟨p,ns,rfl,hS,q⟩:=h;obtain ⟨u,rfl,ru⟩:=r.one;cases (show u=Value.ref p from ru);obtain ⟨its,vi,pl,hz⟩:=I.list hS;have ne:p≠s.heap.objs.size:=by obtain ⟨o,e,_⟩:=pl.isList;exact Nat.ne_of_lt (Heap.lt_size e)
 have hl:its.length=ns.length:=by have:=vi.length;rw [List.length_map] at this;exact this.symm
 have hb:∀ (i:Nat) (v:Value),its.toArray[i]?=some v→∃ t,v=.int (ns.getD i 0) t:=fun i v e=>by
   have e2:its[i]?=some v:=by simpa using e
   have hi:i<ns.length:=by have:=(List.getElem?_eq_some_iff.mp e2).1;omega
   obtain ⟨u,hu,ru⟩:=vi.get (i:=i) (x:=.int (ns.getD i 0)) (by rw [List.getElem?_map,List.getElem?_eq_getElem hi,List.getD_eq_getElem?_getD,List.getElem?_eq_getElem hi];rfl);rw [hu] at e2;cases e2;exact ru
 refine call_sum_walkG (wpAny_pyIter_list pl.isList ?_);refine ⟨s.heap.objs.size,_,_,_,_,_,fun i=>ns.getD i 0,rfl,Walks.list (A:=X.A.in1) (show X.A.in1.handled=none from I.ok.hd hc) s.heap.objs.size p ne its.toArray,⟨⟨_,Heap.get?_push_size _ rfl,rfl,rfl⟩,pl.isList.push _⟩,fun b hb=>?_,hb,fun h' tk t' hk=>?_⟩
 · obtain ⟨o,e,_⟩:=pl.isList
   have lp:=Heap.lt_size e;have:b=s.heap.objs.size∨b=p:=by simpa using hb
   show b<(s.heap.push _).objs.size;rw [size_push'];rcases this with rfl | rfl
   · exact Nat.lt_succ_self _
   · exact Nat.lt_succ_of_lt lp
 · have e:preSum (fun i=>ns.getD i 0) its.toArray.size=ns.sum:=by
     rw [List.size_toArray,hl,ZgD ns _ (Nat.le_refl _),List.take_length]
   rw [e];refine ⟨.int ns.sum,H,?_,⟨t',rfl⟩,q⟩;exact I.kept (t':=tk) fun b o q2=>hk b o (by
     intro z;have:b=s.heap.objs.size:=by simpa using z
     exact absurd (Heap.lt_size q2) (by rw [this];exact Nat.lt_irrefl _)) (Heap.get?_push_of_some _ q2)
end
end L2
namespace L2
open PySem PySem.Spec PyProof.Rows
section
variable {X:Cx}
end
end L2
namespace L2
open PySem PySem.Spec PyProof.Rows
section
variable {X:Cx}
theorem Zif:∀ {kvs:List (Key × V)} {k:Key} {v:V},(kvs.map (·.1)).Nodup→(k,v)∈kvs→valV kvs k=some v
 | [],_,_,_,h=>nomatch h
 | (k',v')::r,k,v,nd,h=>by
   obtain ⟨n1,n2⟩:=List.nodup_cons.mp nd;unfold valV;rw [List.find?_cons];rcases List.mem_cons.mp h with e | e
   · cases e
     simp
   · have ne:k'≠k:=fun z=>n1 (z ▸ List.mem_map.mpr ⟨_,e,rfl⟩)
     simp only [ne,decide_false];exact Zif n2 e
theorem Zfj {A:Around}{s:Shared}{kvs:List (Key × V)}{vb:List (Key × Value)}(nd:(kvs.map (·.1)).Nodup)(hi:∀ kv∈kvs,∃ i,kv.2=.int i)(rb:KV kvs vb):∀ {ks:List (Key × V)} {va:List (Key × Value)},(∀ x∈ks,x∈kvs)→KV ks va→PySem.W.KeqHits A s vb va true
 | [],_,_,.nil=>.nil
 | (k,v)::r,(k',v')::q,hs,.cons h t=>by
   obtain ⟨ek,rv⟩:=h;have ek:k'=k:=by first | exact ek | exact ek.symm
   subst ek;obtain ⟨i,e⟩:=hi _ (hs _ (.head _));have e:v=.int i:=e;subst e;have y:=rb.val k';rw [Zif nd (hs _ (.head _))] at y;cases z:valueAt vb k' with
   | none=>rw [z] at y;exact absurd y (by intro q;cases q)
   | some u =>
     rw [z] at y;obtain ⟨t1,rfl⟩:=(show RelV (.int i) v' from rv)
     obtain ⟨t2,rfl⟩:=(show RelV (.int i) u from y)
     have eq:=PySem.W.keq_flat (A:=A) (s:=s) (v:=.int i t1) (y:=.int i t2) (d:=.int i) (e:=.int i) (fun _=>.int ..) (fun _=>.int ..)
     have h3:=PySem.W.KeqHits.hit (A:=A) (s:=s) z eq (Zfj nd hi rb (fun x hx=>hs x (.tail _ hx)) t);have e1:(PyData.eqv (.int i) (.int i)&&true)=true:=by simp [PyData.eqv]
     rw [e1] at h3;exact h3
end
end L2
namespace L2
open PySem PySem.Spec PyProof.Rows
section
variable {prog:Program}{w:World}{A:Around}{R:Result→Shared→Prop}{I S:Addr}{fp wr:List Addr}{n:Nat}{P:Nat→Value→Prop}{St:Nat→Heap→Prop}
end
section
variable {prog:Program}{w:World}{A:Around}{E:Value→Shared→Prop}{s:Shared}
end
section
variable {X:Cx}{x:Str}{p pos:Pos}{e:Expr}{es:List Expr}{kws:List Keyword}{ks:List Str}{t tk:TA}{id:String}{r:List V→List V→Hp→VK→Prop}
end
end L2
namespace L2
open PySem PySem.Spec PyProof.Rows
structure MkN (K:PySem.W.Frag)(C:Addr):Prop where
 makes:PySem.W.makesIn K C=true
 init:PySem.W.findIn K (.ref C) "__init__"=some (some (.builtin "object.__init__"))
 kp:PySem.W.keepIn K (.ref C)=true
section
variable {X:Cx}{C:Addr}{x:Str}{p pos:Pos}
end
section
variable {K:PySem.W.Frag}{a:Addr}{xs:List V}{m:Nat}{caps:List Nat}{tt:TT}{te:TE}{σ:St}{H1:Hp}{Q:VK}
end
end L2
namespace L2
open PySem PySem.Spec PyProof.Rows
section
variable {X:Cx}{pins:List (Addr × Obj)}{σ:St}{H:Hp}{s:Shared}{p:Addr}{kvs:List (Key × V)}{o:Obj}
theorem Inv.swap {u u':HO}(I:Inv X pins σ H s)(hp:H p=some u)(ok:ObjOk X.prog X.w H s.heap p u')(n1:∀ xs,u≠.tup xs)(n2:∀ x,u≠.own x)(n3:∀ ps,u≠.tbl ps)(nf:∀ o v,X.H₀ p≠some (.frz o v)):Inv X pins σ (upd H p u') s:=by
 have np:∀ b o,H b=some o→o≠u→upd H p u' b=some o:=fun b o e n=>by
   rw [Zah fun z=>by rw [z,hp] at e;cases e;exact n rfl];exact e
 have nn:∀ b,H b=none→upd H p u' b=none:=fun b e=>by
   rw [Zah fun z=>by rw [z,hp] at e;cases e];exact e
 refine ⟨I.ok,I.os,I.bare,⟨I.base.keep,I.base.slot,fun b o e n x=>nn b (I.base.free b o e n x),I.base.there,fun b ys e=>np b _ (I.base.tups b ys e) (n1 _).symm,fun b o v e=>?_,fun b ps e=>?_⟩,I.loc,I.cell,nn _ I.free,fun x c h=>nn _ (I.freeC x c h),fun q hq=>?_,fun a o e=>?_,I.len⟩
 · have z:=I.base.frzs b o v e
   rw [Zah fun z=>by rw [z] at e;exact nf _ _ e];exact z
 · obtain ⟨more,e⟩:=I.base.tbls b ps e
   exact ⟨more,np b _ e (n3 _).symm⟩
 · obtain ⟨e1,e2,r⟩:=I.pin q hq
   exact ⟨e1,nn _ e2,r⟩
 · by_cases z:a=p
   · subst z
     rw [Zab] at e;cases e;exact ok.stay (fun _ _ _ q=>q) (fun b q=>np b _ q (n2 _).symm) fun b ys q=>np b _ q (n1 _).symm
   · rw [Zah z] at e
     exact (I.hok a o e).stay (fun _ _ _ q=>q) (fun b q=>np b _ q (n2 _).symm) fun b ys q=>np b _ q (n1 _).symm
theorem Inv.nofrz (I:Inv X pins σ H s)(hp:H p=some (.dK kvs)):∀ o v,X.H₀ p≠some (.frz o v):=fun o v e=>by
 have:=I.base.frzs p o v e;rw [hp] at this;cases this
theorem Inv.freeze (I:Inv X pins σ H s)(hp:H p=some (.dK kvs))(ho:s.heap.get? p=some o):Inv X pins σ (upd H p (.frz o (.dK kvs))) s :=
 I.swap hp ⟨ho,I.hok _ _ hp⟩ (fun _ z=>by cases z) (fun _ z=>by cases z) (fun _ z=>by cases z) (I.nofrz hp)
theorem Inv.thaw (I:Inv X pins σ H s)(hp:H p=some (.frz o (.dK kvs)))(nf:∀ o v,X.H₀ p≠some (.frz o v)):Inv X pins σ (upd H p (.dK kvs)) s :=
 I.swap hp (I.hok _ _ hp).2 (fun _ z=>by cases z) (fun _ z=>by cases z) (fun _ z=>by cases z) nf
end
def sThaw (t:TS):TS:=fun D σ H=>∃ p kvs,H p=some (.dK kvs)∧t { nx:=fun σ' H'=>∃ o,H' p=some (.frz o (.dK kvs))∧D.nx σ' (upd H' p (.dK kvs)),rt:=fun v H'=>∃ o,H' p=some (.frz o (.dK kvs))∧D.rt v (upd H' p (.dK kvs)),bk:=fun σ' H'=>∃ o,H' p=some (.frz o (.dK kvs))∧D.bk σ' (upd H' p (.dK kvs)),ct:=fun σ' H'=>∃ o,H' p=some (.frz o (.dK kvs))∧D.ct σ' (upd H' p (.dK kvs)) } σ H
theorem ps_thaw {X:Cx}{st:Stmt}{t:TS}(h:PS X st t):PS X st (sThaw t):=by
 intro pins s σ H D I q;obtain ⟨p,kvs,hp,q⟩:=q;have nf:=I.nofrz hp;refine thn (h pins s σ H _ I q) fun f s1 hq=>?_
 cases f with
 | next =>
   obtain ⟨σ',H1,I1,o,h1,q1⟩:=hq;exact ⟨σ',_,I1.thaw h1 nf,q1⟩
 | brk =>
   obtain ⟨σ',H1,I1,o,h1,q1⟩:=hq;exact ⟨σ',_,I1.thaw h1 nf,q1⟩
 | cont =>
   obtain ⟨σ',H1,I1,o,h1,q1⟩:=hq;exact ⟨σ',_,I1.thaw h1 nf,q1⟩
 | ret u =>
   obtain ⟨v,σ',H1,I1,r1,o,h1,q1⟩:=hq;exact ⟨v,σ',_,I1.thaw h1 nf,r1,q1⟩
def Itd (a:Addr)(o:Obj)(kvs:List (Key × V)):It :=
 ⟨fun i H=>H a=some (.frz o (.dK kvs))∧i<kvs.length,fun i H x H'=>H'=H∧∃ kv,kvs[i]?=some kv∧x=kV kv.1,fun i H=>H a=some (.frz o (.dK kvs))∧kvs.length≤i⟩
theorem key_rel {k:Key}{u:Value}(h:keyIs k u=true):RelV (kV k) u:=by
 rcases ZaG h with ⟨i,t,rfl,rfl⟩ | ⟨x,t,rfl,rfl⟩
 · exact ⟨t,rfl⟩
 · exact ⟨t,rfl⟩
theorem Zff {κ:Type}:∀ {kvs:List (κ × V)} {vs:List (κ × Value)} {i:Nat} {k:κ} {v:V},KV kvs vs→kvs[i]?=some (k,v)→∃ v',vs[i]?=some (k,v')
 | _,_,0,_,_,.cons q _,h=>by
   cases h;obtain ⟨q1,_⟩:=q;exact ⟨_,congrArg some (Prod.ext q1.symm rfl)⟩
 | _,_,i+1,_,_,.cons _ r,h=>Zff (i:=i) r h
theorem Zi5 {P:Program}{w:World}{K:PySem.W.Frag}{tg:Expr}{o:Obj}{es:Array DictEntry}{ep:Nat}{kvs:List (Key × V)}(a it:Addr)(ho:o.data=.dict es ep):Turn P w K tg (Itd a o kvs) [it] it (fun i h=>h.IsKeyIter it a i kvs.length ep) where
 mem:=by simp
 obj:=fun i h st b hb=>by
   have e:b=it:=by simpa using hb
   subst e;obtain ⟨o,e,c,d⟩:=st;exact ⟨o,e,fun v z=>by rw [d] at z;cases z⟩
 keep:=fun i h h' st k=>st.at fun o e=>k it (by simp) o e
 item:=by
   intro X hP hw hK hc i pins s σ H E I hf st hg;subst hP hw hK;obtain ⟨hq,hi⟩:=hg;obtain ⟨e1,_,_,vs,rel,o',es',ep',e2,ex,dt,ko,pr,nd⟩:=(show ObjOk X.prog X.w H s.heap a (.frz o (.dK kvs)) from I.hok _ _ hq)
   cases e1.symm.trans e2;cases ho.symm.trans dt;have gk:kvs[i]?=some (kvs[i].1,kvs[i].2):=List.getElem?_eq_getElem hi;obtain ⟨v',gv⟩:=Zff rel gk;have ll:kvs.length=vs.length:=Paired.length rel;rw [ll] at st;obtain ⟨f0,f1,f2,f3,f4,f5⟩:=hf it (by simp);refine wpAny_pyNext_dict_item (knd:=mixKind X.prog X.w) st ⟨o,es,e1,ex,dt,ko,pr,nd⟩ gv fun key h' kis st' sb=>?_
   have I1:Inv X pins σ H { s with heap:=h' }:=I.turned (t':=s.toks) (fun b o hb e=>(sb.2 b hb).trans e) f0 f1 f3 f4 f5;rw [← ll] at st';obtain ⟨oi,ei,ci,di⟩:=id st';exact ⟨key,rfl,go_of (s:={ s with heap:=h' }) ei ci di (by decide) ⟨kV kvs[i].1,H,I1,key_rel kis,⟨rfl,_,gk,rfl⟩,st',fun b hb=>(hf b hb).1⟩⟩
 done:=by
   intro X hP hw hK hc i pins s σ H E I hf st hg;subst hP hw hK;obtain ⟨hq,hi⟩:=hg;obtain ⟨e1,_,_,vs,rel,o',es',ep',e2,ex,dt,ko,pr,nd⟩:=(show ObjOk X.prog X.w H s.heap a (.frz o (.dK kvs)) from I.hok _ _ hq)
   cases e1.symm.trans e2;cases ho.symm.trans dt;have ll:kvs.length=vs.length:=Paired.length rel;rw [ll] at st;obtain ⟨f0,f1,f2,f3,f4,f5⟩:=hf it (by simp);exact wpAny_pyNext_dict_end (knd:=mixKind X.prog X.w) (I.ok.hd hc) st ⟨o,es,e1,ex,dt,ko,pr,nd⟩ (List.getElem?_eq_none (by omega)) fun h' eb=>⟨rfl,I.turned (t':=s.toks) (fun b o hb e=>eb b o hb e) f0 f1 f3 f4 f5⟩
 self:=fun _ _ _ _ _ st h=>wpAny_pyIter_keyiter st h
def iDict (tl:TE):TI:=fun σ H R=>tl σ H fun x H1=>∃ a kvs,x=.ref a∧H1 a=some (.dK kvs)∧∀ o,R (Itd a o kvs) (upd H1 a (.frz o (.dK kvs)))
theorem ZgY {tl:TE}{σ:St}{H:Hp}{R:It→Hp→Prop}:iDict tl σ H R=tl σ H fun x H1=>∃ a kvs,x=.ref a∧H1 a=some (.dK kvs)∧∀ o,R (Itd a o kvs) (upd H1 a (.frz o (.dK kvs))):=rfl
theorem pi_dict {X:Cx}{tg l:Expr}{tl:TE}(hl:PE X l tl):PI X tg l (iDict tl):=by
 intro pins s σ H R I h;refine thn (hl pins s σ H _ I h) fun v s1 ⟨x,H1,I1,r1,q1⟩=>?_
 obtain ⟨a,kvs,e,hq,q⟩:=q1;subst e;cases r1;obtain ⟨_,hs,vs,rel,o,es,ep,e2,ex,dt,ko,pr,nd⟩:=(show ObjOk X.prog X.w H1 s1.heap a (.dK kvs) from I1.hok _ _ hq)
 have ll:kvs.length=vs.length:=Paired.length rel;refine wpAny_pyIter_dict (knd:=mixKind X.prog X.w) hs ⟨o,es,e2,ex,dt,ko,pr,nd⟩ ?_;have I2:=I1.freeze hq e2;have hn:upd H1 a (.frz o (.dK kvs)) s1.heap.objs.size=none:=I2.hok.fresh (Nat.le_refl _);refine ⟨s1.heap.objs.size,[s1.heap.objs.size],_,_,_,rfl,I2.kept (t':=s1.toks) fun b o e=>Heap.get?_push_of_some _ e,Zi5 a _ dt,⟨_,Heap.get?_push_size _ rfl,rfl,?_⟩,fun b hb=>?_,q o⟩
 · rw [ll]
   rfl
 have e:b=s1.heap.objs.size:=by simpa using hb
 subst e;exact I2.fpOk (Nat.le_refl _) hn
end L2
namespace L2
open PySem PySem.Spec PyProof.Rows
end L2
namespace L2
open PySem PySem.Spec PyProof.Rows
section
variable {P:Program}{w:World}{l b p:Addr}{us vs:Array Value}{n m:Nat}{d1 d2:Option Addr}{z1 z2:Array (Option Value)}{s:Shared}{A:Around}{R:Result→Shared→Prop}
open MeetsSeq MeetsSeq2 MeetsSeq3 in
def EqW (P:Program)(w:World)(A:Around)(s:Shared)(u v:Value):Prop:=∀ (E:Value→Shared→Prop) (Q:Bool→Shared→Prop),Q true s→wpAny (model P w) A (eqBool u v) Q E s
abbrev FinW (P:Program)(w:World)(A:Around)(R:Result→Shared→Prop):Fin→Shared→Prop:=fun x s'=>match x with | .done f=>R (.ok f) s' | .again q=>q.quiet=true∧codeAny (model P w) A q R s'
abbrev LsAt (s:Shared)(l:Addr)(us:Array Value)(n:Nat)(d1:Option Addr)(z1:Array (Option Value)):Prop:=s.heap.get? l=some { cls:=.type "list",dict:=d1,data:=.seq us n,slots:=z1 }
abbrev TpAt (s:Shared)(l:Addr)(us:Array Value)(n:Nat)(d1:Option Addr)(z1:Array (Option Value)):Prop:=s.heap.get? l=some { cls:=.type "tuple",dict:=d1,data:=.seq us n,slots:=z1 }
open MeetsSeq MeetsSeq2 MeetsSeq3 AutoSeq1 in
theorem loopW (hs:us.size=vs.size){c:Int}{t:Bool}(hc:(c=2∧t=true)∨(c=3∧t=false)):∀ (k i:Nat),us.size-i=k→∀ {s:Shared},LsAt s l us n d1 z1→LsAt s b vs m d2 z2→(∀ (j:Nat) (h1:j<us.size) (h2:j<vs.size),EqW P w A.in1 s us[j] vs[j])→R (.ok (.ret (.bool t))) s →
   wpAny (model P w) A.in1 (Builtin.«list.__eq__.loop» ⟨[.ref l,.ref b,rawInt i,rawInt c],[]⟩) (FinW P w A R) (fun e s'=>R (.error e) s') s:=by
 intro k;induction k with
 | zero =>
   rintro i hk ⟨hp,g,d,tk,oz⟩ hL hB he h;have q1:us[((i:Nat):Int).toNat]?=none:=by simp;omega
   have q2:vs[((i:Nat):Int).toNat]?=none:=by simp;omega
   rcases hc with ⟨rfl,rfl⟩ | ⟨rfl,rfl⟩
   · wp_walk using wpAny_loadPart' hL,wpAny_loadPart' hB
     rw [q1,q2]
     wp_walk using wpAny_loadPart' hL,wpAny_loadPart' hB
     show R (.ok (.ret (.bool (us.size==vs.size)))) _;rw [hs];simpa using h
   · wp_walk using wpAny_loadPart' hL,wpAny_loadPart' hB
     rw [q1,q2]
     wp_walk using wpAny_loadPart' hL,wpAny_loadPart' hB
     show R (.ok (.ret (.bool (us.size != vs.size)))) _;rw [hs];simpa using h
 | succ k ih =>
   rintro i hk ⟨hp,g,d,tk,oz⟩ hL hB he h;have l1:i<us.size:=by omega
   have l2:i<vs.size:=by omega
   have q1:us[((i:Nat):Int).toNat]?=some us[i]:=by simp [l1]
   have q2:vs[((i:Nat):Int).toNat]?=some vs[i]:=by simp [l2]
   have nx:((i:Int)+1)=((i+1:Nat):Int):=by push_cast;rfl
   have hc':=hc;rcases hc with ⟨rfl,rfl⟩ | ⟨rfl,rfl⟩ <;>
   · wp_walk using wpAny_loadPart' hL,wpAny_loadPart' hB
     rw [q1,q2];refine wpAny_bind (he i l1 l2 _ _ ?_)
     wp_walk
     rw [nx];refine ⟨plainId_quiet plain_eq_loop _,codeAny_builtin entry_eq_loop ?_⟩;rw [Around.under_plainId plain_eq_loop];exact ih (i+1) (by omega) hL hB he h
open MeetsSeq MeetsSeq2 MeetsSeq3 AutoSeq1 in
theorem ZjC (hs:us.size=vs.size)(hL:LsAt s l us n d1 z1)(hB:LsAt s b vs m d2 z2)(he:∀ (j:Nat) (h1:j<us.size) (h2:j<vs.size),EqW P w A.in1 s us[j] vs[j])(h:R (.ok (.ret (.bool true))) s) :
   wpAny (model P w) A.in1 (Builtin.«list.__eq__» ⟨[.ref l,.ref b],[]⟩) (FinW P w A R) (fun e s'=>R (.error e) s') s:=by
 obtain ⟨hp,g,d,tk,oz⟩:=s;have fL:=AutoSeq1.sub_list_list;have hne:¬ (us.size != vs.size)=true:=by simp [hs]
 wp_walk using wpAny_loadPart' hL,wpAny_loadPart' hB
 refine ⟨plainId_quiet plain_eq_loop _,codeAny_builtin entry_eq_loop ?_⟩;rw [Around.under_plainId plain_eq_loop];exact loopW hs (.inl ⟨rfl,rfl⟩) _ 0 rfl hL hB he h
open MeetsSeq MeetsSeq2 MeetsSeq3 AutoSeq1 in
open MeetsSeq MeetsSeq2 MeetsSeq3 AutoSeq1 in
theorem tups_eqW (hs:us.size=vs.size) (hL:TpAt s l us n d1 z1) (hB:TpAt s b vs m d2 z2) (he:∀ (j:Nat) (h1:j<us.size) (h2:j<vs.size),EqW P w A.in1 s us[j] vs[j]) (h:R (.ok (.ret (.bool true))) s) :
   wpAny (model P w) A.in1 (Builtin.«tuple.__eq__» ⟨[.ref l,.ref b],[]⟩) (FinW P w A R) (fun e s'=>R (.error e) s') s:=by
 refine wpAny_mono (Q:=fun fin s'=>∃ v,fin=.done (.ret v)∧R (.ok (.ret v)) s') ?_ (fun fin s' h'=>by obtain ⟨v,rfl,hv⟩:=h';exact hv) fun _ _ x=>x
 obtain ⟨hp,g,d,tk,oz⟩:=s;have fT:=AutoSeq1.sub_tuple_tuple;have zl:(us.toList.zip vs.toList).length=us.size:=by simp [hs]
 wp_walk using wpAny_loadPart' hL,wpAny_loadPart' hB,wpAny_forIn_list _ (fun rest b s'=>b.1=none∧s'=⟨hp,g,d,tk,oz⟩∧∃ i,rest=(us.toList.zip vs.toList).drop i) _
 case turn =>
   rintro ⟨y,x⟩ rest b s' ⟨hB',rfl,i,hz⟩;have lt:i<(us.toList.zip vs.toList).length:=by
     rcases Nat.lt_or_ge i (us.toList.zip vs.toList).length with z | z
     · exact z
     · rw [List.drop_of_length_le z] at hz
       cases hz
   rw [List.drop_eq_getElem_cons lt] at hz;injection hz with e1 e2
   have l1:i<us.size:=by omega
   have l2:i<vs.size:=by omega
   have a1:y=us[i]:=by have:=congrArg Prod.fst e1;simpa using this
   have a2:x=vs[i]:=by have:=congrArg Prod.snd e1;simpa using this
   subst a1 a2;refine wpAny_bind (he i l1 l2 _ _ ?_)
   wp_walk
   exact ⟨rfl,rfl,i+1,e2⟩
 case fin =>
   rintro ⟨b1,b2⟩ s' ⟨hB',rfl,i,hz⟩;simp only at hB';subst hB'
   wp_walk
   exact ⟨_,rfl,by simpa [Builtin.Tuple.tupleCompareSizes,hs] using h⟩
 case h=>exact ⟨rfl,rfl,0,rfl⟩
theorem EqW.refs {u v:Addr}(hne:u≠v)(h:∀ (E:Value→Shared→Prop) (Q:Value→Shared→Prop),Q (.bool true) s→wpAny (model P w) A (richCompare .Eq (.ref u) (.ref v)) Q E s):EqW P w A s (.ref u) (.ref v):=fun E Q hq=>by
 unfold eqBool;refine wpAny_holding ?_;refine wpAny_ite_split (fun z=>absurd (by have e:=eq_of_beq z;injection e) hne) fun _=>?_
 exact wpAny_bind (h E _ (wpAny_truthy_bool hq))
theorem EqW.of {u v:Value}(h:SeqAt.EqAt A s u v true):EqW P w A s u v:=fun E Q hq=>h P w E Q hq
theorem EqW.lists {u v:Addr}(hne:u≠v)(hl:s.heap.IsList u us)(hb:s.heap.IsList v vs)(hs:us.size=vs.size)(hu:A.units<cLine)(he:∀ (j:Nat) (h1:j<us.size) (h2:j<vs.size),EqW P w A.in1 s us[j] vs[j]):EqW P w A s (.ref u) (.ref v):=by
 refine .refs hne fun E Q q=>?_
 obtain ⟨⟨c1,d1,e1,z1⟩,ho,hc,n,hd⟩:=id hl;obtain ⟨⟨c2,d2,e2,z2⟩,ho2,hc2,m,hd2⟩:=id hb;simp only at hc hd hc2 hd2;subst hc hd hc2 hd2;have hT:s.TypeIs (.ref u) "list":=⟨_,ho,rfl⟩
 exact wpAny_richCompare_same_room (op:=.Eq) hT ⟨_,ho2,rfl⟩ F.slot_list_eq (wpAny_call (codeAny_call_builtin F.slot_list_eq.plain F.entry_list_eq (F.slot_list_eq.check _ _ _ _ _ _ _ _ hT (F.args_list_eq_2 _ _) (ZjC (R:=wants (fun v s1=>v≠.notImplemented∧Q v s1) E) hs ho ho2 he ⟨(fun x=>nomatch x),q⟩)))) hu
theorem EqW.tups {u v:Addr}(hne:u≠v)(hl:s.heap.IsTuple u us)(hb:s.heap.IsTuple v vs)(hs:us.size=vs.size)(hu:A.units<cLine)(he:∀ (j:Nat) (h1:j<us.size) (h2:j<vs.size),EqW P w A.in1 s us[j] vs[j]):EqW P w A s (.ref u) (.ref v):=by
 refine .refs hne fun E Q q=>?_
 obtain ⟨⟨c1,d1,e1,z1⟩,ho,hc,n,hd⟩:=id hl;obtain ⟨⟨c2,d2,e2,z2⟩,ho2,hc2,m,hd2⟩:=id hb;simp only at hc hd hc2 hd2;subst hc hd hc2 hd2;have hT:s.TypeIs (.ref u) "tuple":=⟨_,ho,rfl⟩
 exact wpAny_richCompare_same_room (op:=.Eq) hT ⟨_,ho2,rfl⟩ F.slot_tuple_eq (wpAny_call (codeAny_call_builtin F.slot_tuple_eq.plain F.entry_tuple_eq (F.slot_tuple_eq.check _ _ _ _ _ _ _ _ hT (F.args_tuple_eq_2 _ _) (tups_eqW (R:=wants (fun v s1=>v≠.notImplemented∧Q v s1) E) hs ho ho2 he ⟨(fun x=>nomatch x),q⟩)))) hu
end
mutual
inductive Twn (K:PySem.W.Frag) (H:Hp):Nat→V→V→Prop
 | int {n:Nat} (i:Int):Twn K H n (.int i) (.int i)
 | str {n:Nat} (x:Str):Twn K H n (.str x) (.str x)
 | lst {n:Nat} {a b:Addr} {xs ys:List V} (ha:SqL K H a xs) (hb:SqL K H b ys) (r:Twns K H n xs ys):Twn K H (n+1) (.ref a) (.ref b)
 | tup {n:Nat} {a b:Addr} {xs ys:List V} (ha:SqT K H a xs) (hb:SqT K H b ys) (r:Twns K H n xs ys):Twn K H (n+1) (.ref a) (.ref b)
 | dic {n:Nat} {a b:Addr} {kvs:List (Key × V)} (ha:H a=some (.dK kvs)) (hb:H b=some (.dK kvs)) (nd:(kvs.map (·.1)).Nodup) (hi:∀ kv∈kvs,∃ i,kv.2=.int i):Twn K H (n+1) (.ref a) (.ref b)
inductive Twns (K:PySem.W.Frag) (H:Hp):Nat→List V→List V→Prop
 | nil {n:Nat}:Twns K H n [] []
 | cons {n:Nat} {x y:V} {xs ys:List V} (h:Twn K H n x y) (r:Twns K H n xs ys):Twns K H n (x::xs) (y::ys)
end
section
variable {X:Cx}{pins:List (Addr × Obj)}{σ:St}{H:Hp}{s:Shared}
mutual
theorem Inv.twn (I:Inv X pins σ H s):∀ {n:Nat} {x y:V},Twn X.K H n x y→∀ {u v:Value} {A:Around},RelV x u→RelV y v→A.units+n≤cLine→EqW X.prog X.w A s u v
 | _,_,_,.int i,u,v,A,ru,rv,_=>by
   obtain ⟨t,rfl⟩:=ru;obtain ⟨t',rfl⟩:=rv;have:=PySem.W.keq_flat (A:=A) (s:=s) (v:=.int i t) (y:=.int i t') (d:=.int i) (e:=.int i) (fun _=>.int ..) (fun _=>.int ..)
   rw [show PyData.eqv (.int i) (.int i)=true by simp [PyData.eqv]] at this;exact .of this
 | _,_,_,.str x,u,v,A,ru,rv,_=>by
   obtain ⟨t,rfl⟩:=ru;obtain ⟨t',rfl⟩:=rv;have:=PySem.W.keq_flat (A:=A) (s:=s) (v:=.str x t) (y:=.str x t') (d:=.str x) (e:=.str x) (fun _=>.str ..) (fun _=>.str ..)
   rw [show PyData.eqv (.str x) (.str x)=true by simp [PyData.eqv]] at this;exact .of this
 | _,_,_,.lst (n:=n) (a:=a) (b:=b) ha hb r,u,v,A,ru,rv,hu=>by
   cases ru;cases rv;by_cases hab:a=b
   · subst hab
     exact .of (SeqAt.EqAt.same _)
   obtain ⟨is1,r1,p1,_⟩:=I.list ha;obtain ⟨is2,r2,p2,_⟩:=I.list hb;obtain ⟨hl,he⟩:=Inv.twns I r r1 r2 (A:=A.in1) (by rw [Around.in1_units];omega);exact .lists hab p1.isList p2.isList (by simpa using hl) (by omega) fun j h1 h2=>by simpa using he j (by simpa using h1) (by simpa using h2)
 | _,_,_,.tup (n:=n) (a:=a) (b:=b) ha hb r,u,v,A,ru,rv,hu=>by
   cases ru;cases rv;by_cases hab:a=b
   · subst hab
     exact .of (SeqAt.EqAt.same _)
   obtain ⟨is1,r1,p1,_⟩:=I.tuple ha;obtain ⟨is2,r2,p2,_⟩:=I.tuple hb;obtain ⟨hl,he⟩:=Inv.twns I r r1 r2 (A:=A.in1) (by rw [Around.in1_units];omega);exact .tups hab p1 p2 (by simpa using hl) (by omega) fun j h1 h2=>by simpa using he j (by simpa using h1) (by simpa using h2)
 | _,_,_,.dic (n:=n) (a:=a) (b:=b) ha hb nd hi,u,v,A,ru,rv,hu=>by
   cases ru;cases rv;by_cases hab:a=b
   · subst hab
     exact .of (SeqAt.EqAt.same _)
   obtain ⟨z1,d1,va,r1,e1⟩:=Zer I.hok ha;obtain ⟨z2,d2,vb,r2,e2⟩:=Zer I.hok hb;refine .refs hab fun E Q h=>PySem.W.keq_eq (r:=true) d1 d2 e1 e2 (by omega) (fun _=>Zfj nd hi r2 (fun _ h=>h) r1) ?_
   rw [← r1.length,← r2.length];simpa using h
theorem Inv.twns (I:Inv X pins σ H s):∀ {n:Nat} {xs ys:List V},Twns X.K H n xs ys→∀ {us vs:List Value} {A:Around},Vals xs us→Vals ys vs→A.units+n≤cLine→us.length=vs.length∧∀ (j:Nat) (h1:j<us.length) (h2:j<vs.length),EqW X.prog X.w A s us[j] vs[j]
 | _,_,_,.nil,us,vs,A,ru,rv,_=>by
   cases ru;cases rv;exact ⟨rfl,fun j h1=>absurd h1 (by simp)⟩
 | _,_,_,.cons h r,us,vs,A,ru,rv,hu=>by
   cases ru with
   | cons a1 a2 =>
     cases rv with
     | cons b1 b2 =>
       obtain ⟨l,q⟩:=Inv.twns I r a2 b2 hu;refine ⟨by simp [l],fun j h1 h2=>?_⟩;cases j with
       | zero=>exact Inv.twn I h a1 b1 hu
       | succ j=>exact q j (by simpa using h1) (by simpa using h2)
end
end
section
variable {a:Addr}{o:Obj}{kvs:List (Key × V)}{m:Nat}{caps:List Nat}{tt:TT}{te:TE}{σ:St}{H1:Hp}{Q:VK}
end
end L2
namespace L2
open PySem
theorem ZgH {t:TS}{D:Ends}{σ:St}{H:Hp}:sThaw t D σ H=∃ p kvs,H p=some (.dK kvs)∧t { nx:=fun σ' H'=>∃ o,H' p=some (.frz o (.dK kvs))∧D.nx σ' (upd H' p (.dK kvs)),rt:=fun v H'=>∃ o,H' p=some (.frz o (.dK kvs))∧D.rt v (upd H' p (.dK kvs)),bk:=fun σ' H'=>∃ o,H' p=some (.frz o (.dK kvs))∧D.bk σ' (upd H' p (.dK kvs)),ct:=fun σ' H'=>∃ o,H' p=some (.frz o (.dK kvs))∧D.ct σ' (upd H' p (.dK kvs)) } σ H:=rfl
end L2
namespace L2
open PySem PySem.Spec PyProof.Rows
end L2
namespace L2
open PySem PySem.Spec PyProof.Rows
section
variable {prog:Program}{w:World}{A:Around}{E:Value→Shared→Prop}{h:Heap}{g:Array GenState}{d:Drawn}{t:Nat}{os:OsState}
variable {nm q:Str}{C N:Addr}{bs bm bmB:List Value}{hdc:Bool}{sn:List Str}{sub:List Value}{ab:Bool}{col:Option Bool}{dd:Option Addr}{k0 k1 k2 k3 k5:Option Value}{B Bn newId nid initId inN:String}{bmN:List Value}
end
section
variable {X:Cx}{x:Str}{e:Expr}{te:TE}{j:Nat}{p1 p3 pos:Pos}
end
end L2
namespace L2
open PySem PySem.Spec PyProof.Rows Builtin Builtin.ObjectAttr
structure XFld (K:PySem.W.Frag)(C M:Addr):Prop where
 cls:∃ cd,PySem.W.clsIn K C=some cd∧cd.mro=.ref C::.ref M::bmVal∧cd.hasDict=true
 sa:PySem.W.findIn K (.ref C) "__setattr__"=some (some (.builtin "object.__setattr__"))
 ob:PySem.W.mroIn K C (.type "object")=some true
section
variable {prog:Program}{w:World}{A:Around}{E:Value→Shared→Prop}{s:Shared}{K:PySem.W.Frag}{C M e ta:Addr}{name:Str}{v:Value}
end
end L2
namespace L2
open PySem PySem.Spec PyProof.Rows Builtin Builtin.ObjectAttr PySem.W
section
variable {prog:Program}{w:World}{A:Around}{E:Value→Shared→Prop}{s:Shared}{K:Frag}{C e ta dx:Addr}{name:Str}{v:Value}
end
end L2
namespace L2
open PySem PySem.Spec PyProof.Rows
structure XMk (K:PySem.W.Frag)(C M f:Addr):Prop where
 lk:∃ (nm q:Str) (N:Addr) (bs:List Value) (hd:Bool) (sn:List Str) (sub:List Value) (ab:Bool) (col:Option Bool) (dd:Option Addr) (k0 k1 k2 k3 k5:Option Value),K.lookup C=some (excClassObj nm q C N bs (.ref M::bmVal) hd sn sub ab col dd k0 k1 k2 k3 k5 "ValueError.__new__")
 lkM:∃ (nm q:Str) (N:Addr) (bs:List Value) (hd:Bool) (sn:List Str) (sub:List Value) (ab:Bool) (col:Option Bool) (dd:Option Addr) (k0 k1 k2 k3 k5:Option Value),K.lookup M=some (excClassObj nm q M N bs bmVal hd sn sub ab col dd k0 k1 k2 k3 k5 "ValueError.__new__")
 m:XCls K M
 init:PySem.W.findIn K (.ref C) "__init__"=some (some (.ref f))
 fn:PySem.W.typeIn K (.ref f)=some (.type "function")
 kp:PySem.W.keepIn K (.ref C)=true
section
variable {X:Cx}{C M f:Addr}{fd:FuncData}{k:Nat}{ps:List Str}{sp:Sp}{E:XK}{CX:CXT}{x:Str}{p pos:Pos}{e:Expr}{es:List Expr}{t:TA}
structure XIni (K:PySem.W.Frag)(M:Addr):Prop where
 sp:PySem.W.specialIn K (.ref M) "__getattribute__"=some (some (.builtin "type.__getattribute__"))
 rd:PySem.W.readsIn K M (.type "type")=true
 fc:PySem.W.findCls K (.ref M) (.type "type") "__init__"=some (.val (.builtin "ValueError.__init__"))
end
end L2
namespace L2
open PySem PySem.Spec PyProof.Rows
section
variable {X:Cx}{o value:Expr}{f:Str}{ta tv:TE}{pos pos':Pos}
end
end L2
namespace L2
open PySem PySem.Spec PyProof.Rows
section
variable {X:Cx}{C:Addr}{x:Str}{p pos:Pos}{e:Expr}{es:List Expr}{t:TA}
end
section
variable {P:Program}{w:World}{K:PySem.W.Frag}{mg:Str→Option Value}{base:Heap}
end
end L2
namespace L2
open PySem PySem.Spec PyProof.Rows
inductive KD {α:Type}:Sem α→Prop
 | pure (a:α):KD (.pure a)
 | uns (w:String):KD (.unsupported w)
 | at (p:Pos) {k:Unit→Sem α} (h:∀ u,KD (k u)):KD (.at p k)
 | load (a:Addr) (q:Option Value) {k:Obj→Sem α} (h:∀ o,KD (k o)):KD (.load a q k)
 | upd (a:Addr) (q:Option Value) {f:Obj→Obj} {k:Unit→Sem α} (hf:∀ o,(f o).dict=o.dict∧(o.data≠.freed→(f o).data≠.freed)) (h:∀ u,KD (k u)):KD (.update a q f k)
 | alive (a:Addr) {k:Option Obj→Sem α} (h:∀ o,KD (k o)):KD (.loadIfAlive a k)
 | alloc (o:Obj) {k:Addr→Sem α} (h:∀ a,KD (k a)):KD (.alloc o k)
 | ask {k:Setting→Sem α} (h:∀ a,KD (k a)):KD (.ask k)
 | stack {k:List (Code × Pos)→Sem α} (h:∀ a,KD (k a)):KD (.stack k)
 | thread {k:Nat→Sem α} (h:∀ a,KD (k a)):KD (.thread k)
section
variable {α β:Type}
def DictAt (h:Heap)(e:Addr)(d:Option Addr):Prop:=∃ o,h.get? e=some o∧o.dict=d
end
end L2
namespace L2
open PySem PySem.Spec PyProof.Rows
section
variable {X:Cx}{pins:List (Addr × Obj)}{σ:St}{H H':Hp}{s:Shared}{p:Addr}{φ:Heap→Prop}
end
section
variable {P:Program}{w:World}{K:PySem.W.Frag}{mg:Str→Option Value}{base:Heap}{N:List Str}{qual:Str}{scope:Scope}{f:Addr}{cd:Value}{A:Around}{outer:List Env}{s0:Shared}{H0:Hp}{E:XK}
end
end L2
namespace L2
open PySem PySem.Spec PyProof.Rows
section
variable {X:Cx}{C M f:Addr}{fd:FuncData}{k:Nat}{ps:List Str}{sp:Sp}{E:XK}{CX:CXT}
end
section
variable {P:Program}{w:World}{A:Around}{E:Value→Shared→Prop}{s:Shared}{env:Env}
variable {nm q:Str}{C N:Addr}{bs bm:List Value}{hdc:Bool}{sn:List Str}{sub:List Value}{ab:Bool}{col:Option Bool}{dd:Option Addr}{k0 k1 k2 k3 k5:Option Value}{newId:String}
end
end L2
namespace L2
open PySem PySem.Spec PyProof.Rows
section
variable {P:Program}{w:World}{K:PySem.W.Frag}{mg:Str→Option Value}{base:Heap}{N:List Str}{qual:Str}{scope:Scope}{f:Addr}{cd:Value}{A:Around}{outer:List Env}{s0:Shared}{H0:Hp}{E:XK}
end
section
variable {P:Program}{w:World}{K:PySem.W.Frag}{mg:Str→Option Value}{base:Heap}
variable {N:List Str}{qual:Str}{scope:Scope}{f:Addr}{cd:Value}{A:Around}{outer:List Env}{s0:Shared}{H0:Hp}{E:XK}
end
end L2
namespace L2
open PySem PySem.Spec PyProof.Rows
abbrev WX:=Addr→Option Addr→Hp→Prop
abbrev TXD:=(Addr→Option Addr→St→Hp→Prop)→TS
section
variable {X:Cx}{pins:List (Addr × Obj)}{σ:St}{H:Hp}{s:Shared}{k:Nat}{f:Addr}{fd:FuncData}{ps:List Str}{sp:Sp}
def eW (W:WX):XK:=fun cls dx H3=>∃ C',cls=.ref C'∧W C' dx H3
end
section
variable {X:Cx}{st:Stmt}{sts rest:List Stmt}{t u:TXD}{pos:Pos}
end
end L2
namespace L2
open PySem PySem.Spec PyProof.Rows
structure Caught (X:Cx)(pins:List (Addr × Obj))(σ:St)(H:Hp)(s:Shared)(ea C:Addr)(a0:Value)(B:Heap)(dx:Option Addr):Prop where
 inv:Inv X pins σ H s
 fl:Heap.FlyingW B X.stack ea (.ref C) a0 s.heap
 cov:Cov X.stack X.s₀.heap H B
 pn:∀ p∈X.pn++pins,∃ o,B.get? p.1=some o
 dd:DictAt s.heap ea dx
section
variable {X:Cx}{pins:List (Addr × Obj)}{σ:St}{H:Hp}{s:Shared}{ea C:Addr}{a0:Value}{B:Heap}{dx:Option Addr}
end
end L2
namespace L2
open PySem PySem.Spec PyProof.Rows Builtin Builtin.ObjectAttr PySem.W
section
variable {prog:Program}{w:World}{A:Around}{E:Value→Shared→Prop}{s:Shared}{K:Frag}{C e dx:Addr}{oe:Obj}{vs:Array Value}{name:Str}{v:Value}
end
section
variable {X:Cx}{o:Expr}{f:Str}{ta:TE}{pos:Pos}{ea C:Addr}{oe:Obj}{vs:Array Value}{dx:Option Addr}
end
end L2
namespace L2
open PySem PySem.Spec PyProof.Rows
section
variable {P:Program}{w:World}{K:PySem.W.Frag}{mg:Str→Option Value}{base:Heap}{N:List Str}{qual:Str}{scope:Scope}{f:Addr}{cd:Value}{A:Around}{outer:List Env}{s0:Shared}{H0:Hp}{E:XK}
end
end L2
namespace L2
open PySem PySem.Spec PyProof.Rows
section
variable {M:Model}{Γ:PySem.Ctx}{p:Pos}{s:Shared}{E:Value→Pos→Shared→Prop}
end
section
variable {M:Model}{Γ:PySem.Ctx}{p:Pos}{s:Shared}{E:Value→Pos→Shared→Prop}
end
section
variable {M:Model}{A:Around}{env:Env}{f:Addr}{Q:Value→Shared→Prop}
end
section
variable {P:Program}{w:World}{K:PySem.W.Frag}{mg:Str→Option Value}{base:Heap}{N:List Str}{qual:Str}{scope:Scope}{f:Addr}{cd:Value}{A:Around}{outer:List Env}{s0:Shared}{H0:Hp}{E:XK}
end
end L2
namespace L2
open PySem PySem.Spec PyProof.Rows
section
variable {X:Cx}
end
end L2
namespace L2
open PySem PySem.Spec PyProof.Rows
section
variable {X:Cx}
end
end L2
namespace L2
open PySem PySem.Spec PyProof.Rows
section
variable {X:Cx}
end
end L2
namespace L2
open PySem PySem.Spec PyProof.Rows
section
variable {X:Cx}
end
end L2
namespace L2
open PySem PySem.Spec PyProof.Rows
section
variable {X:Cx}{pos p1 p2:Pos}{j1 j2:Nat}{k:Str}{i:Int}
end
end L2
namespace L2
open PySem PySem.Spec PyProof.Rows
structure ByCls (K:PySem.W.Frag)(mg:Str→Option Value)(x m:Str)(M f:Addr):Prop where
 g:mg x=some (.ref M)
 sp:PySem.W.specialIn K (.ref M) "__getattribute__"=some (some (.builtin "type.__getattribute__"))
 rd:PySem.W.readsIn K M (.type "type")=true
 fc:PySem.W.findCls K (.ref M) (.type "type") m=some (.val (.ref f))
 kp:PySem.W.keepIn K (.ref f)=true
def BaseAt (P:Program)(w:World)(K:PySem.W.Frag)(mg:Str→Option Value)(base:Heap)(x m:Str)(ps:List Str)(k:Nat)(sp:Sp):Prop :=
 ∃ M f fd,ByCls K mg x m M f∧FnOk P w K mg base CX0 k f fd ps sp∧Binds K fd ps []
section
variable {X:Cx}{k:Nat}{ps:List Str}{sp:Sp}{x m:Str}{p pos apos:Pos}{e:Expr}{es:List Expr}{t:TA}{pl:Sem Bool}
theorem ZiI (F:BaseAt X.prog X.w X.K X.mg X.base x m ps k sp)(hr:Room k X.A)(hg:Gl X x)(ha:PA X (e::es) t)
   (hdb:(x==("__debug__":Str))=false:=by decide) (he:starEach (e::es) X.env=(false,eval e X.env)::starEach es X.env:=by rfl) (hpl:(backTo pos (starEach es X.env)).any (·.1)=false:=by rfl)
   (ht:eval (.Call (.Attribute (.Name x p) m apos) (e::es) [] pos) X.env=(do
     let ov ← eval (.Name x p) X.env
     standAt apos.atName
     let (f,first) ← holding [ov] (getMethod ov m pl)
     callWith pos f first (backTo pos (starEach (e::es) X.env)) (backToKw pos (keywordEach [] X.env))):=by rfl) :
   PE X (.Call (.Attribute (.Name x p) m apos) (e::es) [] pos) (tCall sp [] E0 t):=by
 obtain ⟨M,f,fd,c,F,b⟩:=F;intro pins s σ H Q I h;refine PySem.W.methodCall_KW (pl:=pl) (Zby I hg c.g ?_ hdb) ht;refine PySem.W.method_cls I.kIn c.sp (PySem.W.cls_value I.kIn c.rd c.fc rfl ?_);refine PySem.W.callWith_K (first:=[]) (h₀:=X.base) I.ok.mod.kin c.kp (thn (ha pos pins _ σ H _ (I.tok _) h) fun us s1 ⟨vs,H1,I1,r,q⟩=>⟨I1.kIn,?_⟩) he hpl;exact ZdT (us:=us) (vs:=vs) (dvs:=[]) F hr b .nil pass0 I1 r q
end
section
variable {P:Program}{w:World}{K:PySem.W.Frag}{mg:Str→Option Value}{base:Heap}{N:List Str}{qual:Str}{scope:Scope}{f:Addr}{cd:Value}{A:Around}{outer:List Env}{s0:Shared}{H0:Hp}{E:XK}
end
section
variable {X:Cx}{pins:List (Addr × Obj)}{σ:St}{H:Hp}{s:Shared}{k:Nat}{f C:Addr}{fd:FuncData}{ps:List Str}{sp:Sp}
end
end L2
namespace My
open PySem L2 BM PyProof.Rows
def top (i:Nat):Stmt:=PySem.Challenge.pw_runmarks_k51_values_put_and_taken.main.body.getD i (.Pass ⟨0,0,0,0⟩)
abbrev ZbF:Stmt:=top 7
theorem ZdU:FnScope ["thing"] ["thing"] (defScope ZbF):=by walk_at "s"
abbrev Zdi:Stmt:=top 8
theorem Zjb:FnScope ["word","place"] ["word","place"] (defScope Zdi):=by walk_at "s"
abbrev ZbP:Stmt:=top 9
theorem Zgh:FnScope ["place"] ["place"] (defScope ZbP):=by walk_at "s"
abbrev Za8:Stmt:=top 10
theorem ZdJ:FnScope ["word"] ["word"] (defScope Za8):=by walk_at "s"
abbrev ZcT:Stmt:=top 11
theorem sc_counted:FnScope ["word","by_two","by_four","by_eight","by_sixteen"] ["word"] (defScope ZcT):=by walk_at "s"
abbrev ZbY:Stmt:=top 12
theorem Zf9:FnScope ["word"] ["word"] (defScope ZbY):=by walk_at "s"
abbrev Zce:Stmt:=top 13
theorem Zgs:FnScope ["word"] ["word"] (defScope Zce):=by walk_at "s"
abbrev ZbW:Stmt:=top 14
theorem ZfS:FnScope ["first","last"] ["first","last"] (defScope ZbW):=by walk_at "s"
abbrev ZcW:Stmt:=top 15
theorem sc_word_of:FnScope ["places","word","place"] ["places"] (defScope ZcW):=by walk_at "s"
abbrev ZbU:Stmt:=top 16
theorem sc_places_of:FnScope ["word","places"] ["word"] (defScope ZbU):=by walk_at "s"
abbrev Zc3:Stmt:=top 17
theorem sc_runs_of:FnScope ["word","runs","first","behind"] ["word"] (defScope Zc3):=by walk_at "s"
abbrev Zbc:Stmt:=top 18
theorem sc_word_of_runs:FnScope ["runs","word","first","last"] ["runs"] (defScope Zbc):=by walk_at "s"
abbrev Zeo:Stmt:=top 29
theorem sc_sizes:FnScope ["word","begins"] ["word"] (defScope Zeo):=by walk_at "s"
abbrev ZfV:Stmt:=top 30
theorem sc_kept:FnScope ["word","as_list","as_bits","as_runs"] ["word"] (defScope ZfV):=by walk_at "s"
abbrev Zed:Stmt:=top 31
theorem sc_added:FnScope ["stretch","place"] ["stretch","place"] (defScope Zed):=by walk_at "s"
abbrev ZcS:Stmt:=top 32
theorem Zh3:FnScope ["stretch","place"] ["stretch","place"] (defScope ZcS):=by walk_at "s"
abbrev Ze3:Stmt:=top 34
theorem sc_halved:FnScope ["many","goes_on","low","high","looks","at"] ["many","goes_on"] (defScope Ze3):=by walk_at "s"
abbrev Zbs:Stmt:=top 35
theorem Ze4:FnScope ["keys","key"] ["keys","key"] (defScope Zbs):=by walk_at "s"
abbrev ZaX:Stmt:=top 38
theorem Zct:FnScope ["thing"] ["thing"] (defScope ZaX):=by walk_at "s"
abbrev ZbV:Stmt:=top 47
theorem Zf5:FnScope ["_law_script","_law_k"] ["_law_script","_law_k"] (defScope ZbV):=by walk_at "s"
abbrev ZcV:Stmt:=top 48
theorem sc_l_mixed:FnScope ["_law_cell","_law_k","_law_number"] ["_law_cell","_law_k"] (defScope ZcV):=by walk_at "s"
abbrev Zf2:Stmt:=top 49
theorem sc_l_is:FnScope ["_law_found","_law_due"] ["_law_found","_law_due"] (defScope Zf2):=by walk_at "s"
abbrev ZdB:Stmt:=top 50
theorem Zjh:FnScope ["_law_found","_law_due"] ["_law_found","_law_due"] (defScope ZdB):=by walk_at "s"
abbrev Zc2:Stmt:=top 51
theorem sc_l_value:FnScope ["_law_cell","_law_top","_law_number","_law_far"] ["_law_cell","_law_top"] (defScope Zc2):=by walk_at "s"
abbrev Zef:Stmt:=top 52
theorem sc_l_row:FnScope ["_law_script","_law_cell","_law_number","_law_head","_law_key"] ["_law_script","_law_cell"] (defScope Zef):=by walk_at "s"
abbrev Zch:Stmt:=top 53
theorem sc_l_column:FnScope ["_law_cell","_law_number","_law_top","_law_width"] ["_law_cell"] (defScope Zch):=by walk_at "s"
abbrev ZcU:Stmt:=top 54
theorem sc_l_tried:FnScope ["_law_column_here","_law_way","_law_row_here","_law_value_here","_law_found","e"] ["_law_column_here","_law_way","_law_row_here","_law_value_here"] (defScope ZcU):=by walk_at "s"
abbrev ZbN:Stmt:=top 55
theorem sc_l_refused:FnScope ["_law_column_here","_law_row_here","_law_value_here","_law_cell","_law_top","_law_number","_law_far","_law_bad_row","_law_bad_value","_law_way"] ["_law_column_here","_law_row_here","_law_value_here","_law_cell","_law_top"] (defScope ZbN):=by walk_at "s"
abbrev Zdq:Stmt:=top 56
theorem sc_l_deed:FnScope ["_law_column_here","_law_plain","_law_script","_law_cell","_law_top","_law_row_here","_law_value_here","_law_deed_here","_law_found"] ["_law_column_here","_law_plain","_law_script","_law_cell","_law_top"] (defScope Zdq):=by walk_at "s"
abbrev Zei:Stmt:=top 57
theorem sc_l_end:FnScope ["_law_column_here","_law_plain","_law_script","_law_row_here","_law_cell"] ["_law_column_here","_law_plain","_law_script"] (defScope Zei):=by walk_at "s"
abbrev ZdW:Stmt:=top 58
theorem sc_law:FnScope ["_law_script","_law_cell","_law_column_here","_law_top","_law_beside","_law_plain"] ["_law_script"] (defScope ZdW):=by walk_at "s"
abbrev ZaV:Stmt:=inClass (top 24) 1
theorem Zd6:FnScope ["self"] ["self"] (defScope ZaV):=by walk_at "s"
abbrev Za4:Stmt:=inClass (top 24) 2
theorem Zev:FnScope ["self","place"] ["self","place"] (defScope Za4):=by walk_at "s"
abbrev Zbh:Stmt:=inClass (top 25) 0
theorem Zb9:FnScope ["self","places"] ["self","places"] (defScope Zbh):=by walk_at "s"
abbrev ZbJ:Stmt:=inClass (top 25) 3
theorem Zc5:FnScope ["self"] ["self"] (defScope ZbJ):=by walk_at "s"
abbrev Zbj:Stmt:=inClass (top 26) 0
theorem Zci:FnScope ["self","word"] ["self","word"] (defScope Zbj):=by walk_at "s"
abbrev ZbO:Stmt:=inClass (top 26) 3
theorem Zde:FnScope ["self"] ["self"] (defScope ZbO):=by walk_at "s"
abbrev Zbk:Stmt:=inClass (top 27) 0
theorem Zco:FnScope ["self","runs"] ["self","runs"] (defScope Zbk):=by walk_at "s"
abbrev ZbZ:Stmt:=inClass (top 27) 3
theorem Zdb:FnScope ["self"] ["self"] (defScope ZbZ):=by walk_at "s"
abbrev Zb8:Stmt:=inClass (top 39) 0
theorem ZbM:FnScope ["self"] ["self"] (defScope Zb8):=by walk_at "s"
abbrev ZdZ:Stmt:=inClass (top 39) 1
theorem sc_Marks_put:FnScope ["self","n","stretch","place"] ["self","n"] (defScope ZdZ):=by walk_at "s"
abbrev Zdp:Stmt:=inClass (top 39) 2
theorem Zfc:FnScope ["self","n"] ["self","n"] (defScope Zdp):=by walk_at "s"
abbrev ZdX:Stmt:=inClass (top 39) 5
theorem sc_Marks_has:FnScope ["self","n","stretch"] ["self","n"] (defScope ZdX):=by walk_at "s"
abbrev Zdy:Stmt:=inClass (top 39) 6
theorem Ze8:FnScope ["self"] ["self"] (defScope Zdy):=by walk_at "s"
abbrev Zcv:Stmt:=inClass (top 39) 11
theorem sc_Marks_numbers:FnScope ["self","numbers","key","stretch"] ["self"] (defScope Zcv):=by walk_at "s"
abbrev ZbB:Stmt:=inClass (top 39) 18
theorem sc_Marks_stretch_at:FnScope ["self","key","at"] ["self","key"] (defScope ZbB):=by walk_at "s"
abbrev Zb7:Stmt:=inClass (top 39) 19
theorem sc_Marks_count_at:FnScope ["self","key","at"] ["self","key"] (defScope Zb7):=by walk_at "s"
abbrev ZcG:Stmt:=inClass (top 39) 21
theorem sc_Marks_copied:FnScope ["self","other"] ["self"] (defScope ZcG):=by walk_at "s"
abbrev Zc7:Stmt:=inClass (top 39) 23
theorem ZeP:FnScope ["self","key"] ["self","key"] (defScope Zc7):=by walk_at "s"
abbrev ZcE:Stmt:=inClass (top 39) 24
theorem Zd9:FnScope ["self","at","key"] ["self","at","key"] (defScope ZcE):=by walk_at "s"
abbrev Zcc:Stmt:=inClass (top 39) 25
theorem Zdj:FnScope ["self","at"] ["self","at"] (defScope Zcc):=by walk_at "s"
abbrev Zdv:Stmt:=inClass (top 39) 26
theorem sc_Marks_keep:FnScope ["self","key","stretch","at","behind","ahead","more","mine"] ["self","key","stretch"] (defScope Zdv):=by walk_at "s"
abbrev Zar:Stmt:=inClass (top 41) 0
theorem Zdc:FnScope ["self"] ["self"] (defScope Zar):=by walk_at "s"
abbrev ZaQ:Stmt:=inClass (top 41) 1
theorem Zdg:FnScope ["self","value"] ["self","value"] (defScope ZaQ):=by walk_at "s"
abbrev Zbi:Stmt:=inClass (top 41) 2
theorem sc_Column_put:FnScope ["self","row","value","number"] ["self","row","value"] (defScope Zbi):=by walk_at "s"
abbrev Za7:Stmt:=inClass (top 41) 3
theorem sc_Column_take:FnScope ["self","row","value","number","rows"] ["self","row"] (defScope Za7):=by walk_at "s"
abbrev Zbp:Stmt:=inClass (top 41) 4
theorem ZeI:FnScope ["self"] ["self"] (defScope Zbp):=by walk_at "s"
abbrev ZaL:Stmt:=inClass (top 41) 8
theorem ZcH:FnScope ["self","key"] ["self","key"] (defScope ZaL):=by walk_at "s"
abbrev ZbX:Stmt:=inClass (top 43) 0
theorem Zdf:FnScope ["self","width"] ["self","width"] (defScope ZbX):=by walk_at "s"
abbrev Zcf:Stmt:=inClass (top 43) 1
theorem Zfa:FnScope ["self"] ["self"] (defScope Zcf):=by walk_at "s"
abbrev Za3:Stmt:=inClass (top 43) 3
theorem ZcN:FnScope ["self","value"] ["self","value"] (defScope Za3):=by walk_at "s"
abbrev Zbf:Stmt:=inClass (top 43) 4
theorem Zcu:FnScope ["self","row"] ["self","row"] (defScope Zbf):=by walk_at "s"
abbrev ZbC:Stmt:=inClass (top 45) 0
theorem Zc6:FnScope ["self","top"] ["self","top"] (defScope ZbC):=by walk_at "s"
abbrev Zb3:Stmt:=inClass (top 45) 1
theorem Ze2:FnScope ["self"] ["self"] (defScope Zb3):=by walk_at "s"
abbrev ZaS:Stmt:=inClass (top 45) 3
theorem Zcw:FnScope ["self","value"] ["self","value"] (defScope ZaS):=by walk_at "s"
abbrev Za9:Stmt:=inClass (top 45) 4
theorem sc_ByValue_value:FnScope ["self","row","number"] ["self","row"] (defScope Za9):=by walk_at "s"
structure Blt (mg:Str→Option Value):Prop where
 len:mg "len"=none
 range:mg "range"=none
 isi:mg "isinstance"=none
 int:mg "int"=none
 bool:mg "bool"=none
 lst:mg "list"=none
 min:mg "min"=none
 sorted:mg "sorted"=none
 sum:mg "sum"=none
 dct:mg "dict"=none
 zip:mg "zip"=none
 ValueError:mg "ValueError"=none
structure CD_ListStretch (K:PySem.W.Frag)(mg:Str→Option Value)(C:Addr):Prop where
 at_:mg "ListStretch"=some (.ref C)
 c:Cls K C
 init:MakerAt K C "ListStretch.__init__" Zbh ["self","places"]
 m_word:MDefAt K C "word" "ListStretch.word" ZbJ ["self"]
 m_many:MDefAt K C "many" "Stretch.many" ZaV ["self"]
 m_has:MDefAt K C "has" "Stretch.has" Za4 ["self","place"]
 n_places:NoAttr K C "places"
structure CD_BitStretch (K:PySem.W.Frag)(mg:Str→Option Value)(C:Addr):Prop where
 at_:mg "BitStretch"=some (.ref C)
 c:Cls K C
 init:MakerAt K C "BitStretch.__init__" Zbj ["self","word"]
 m_word:MDefAt K C "word" "BitStretch.word" ZbO ["self"]
 m_many:MDefAt K C "many" "Stretch.many" ZaV ["self"]
 m_has:MDefAt K C "has" "Stretch.has" Za4 ["self","place"]
 n_ones:NoAttr K C "ones"
structure CD_RunStretch (K:PySem.W.Frag)(mg:Str→Option Value)(C:Addr):Prop where
 at_:mg "RunStretch"=some (.ref C)
 c:Cls K C
 init:MakerAt K C "RunStretch.__init__" Zbk ["self","runs"]
 m_word:MDefAt K C "word" "RunStretch.word" ZbZ ["self"]
 m_many:MDefAt K C "many" "Stretch.many" ZaV ["self"]
 m_has:MDefAt K C "has" "Stretch.has" Za4 ["self","place"]
 n_runs:NoAttr K C "runs"
structure CD_Marks (K:PySem.W.Frag)(mg:Str→Option Value)(C:Addr):Prop where
 at_:mg "Marks"=some (.ref C)
 c:Cls K C
 init:MakerAt K C "Marks.__init__" Zb8 ["self"]
 m_put:MDefAt K C "put" "Marks.put" ZdZ ["self","n"]
 m_take:MDefAt K C "take" "Marks.take" Zdp ["self","n"]
 m_has:MDefAt K C "has" "Marks.has" ZdX ["self","n"]
 m_many:MDefAt K C "many" "Marks.many" Zdy ["self"]
 m_numbers:MDefAt K C "numbers" "Marks.numbers" Zcv ["self"]
 m_stretch_at:MDefAt K C "stretch_at" "Marks.stretch_at" ZbB ["self","key"]
 m_count_at:MDefAt K C "count_at" "Marks.count_at" Zb7 ["self","key"]
 m_copied:MDefAt K C "copied" "Marks.copied" ZcG ["self"]
 m_found:MDefAt K C "found" "Marks.found" Zc7 ["self","key"]
 m_stands:MDefAt K C "stands" "Marks.stands" ZcE ["self","at","key"]
 m_ahead_of:MDefAt K C "ahead_of" "Marks.ahead_of" Zcc ["self","at"]
 m_keep:MDefAt K C "keep" "Marks.keep" Zdv ["self","key","stretch"]
 n_keyed:NoAttr K C "keyed"
 n_aheads:NoAttr K C "aheads"
 n_stretches:NoAttr K C "stretches"
 n_held:NoAttr K C "held"
structure CD_ByBits (K:PySem.W.Frag)(mg:Str→Option Value)(C:Addr):Prop where
 at_:mg "ByBits"=some (.ref C)
 c:Cls K C
 init:MakerAt K C "ByBits.__init__" ZbX ["self","width"]
 m_top:MDefAt K C "top" "ByBits.top" Zcf ["self"]
 m_numbers_of:MDefAt K C "numbers_of" "ByBits.numbers_of" Za3 ["self","value"]
 m_value:MDefAt K C "value" "ByBits.value" Zbf ["self","row"]
 m_can_have:MDefAt K C "can_have" "Column.can_have" ZaQ ["self","value"]
 m_put:MDefAt K C "put" "Column.put" Zbi ["self","row","value"]
 m_take:MDefAt K C "take" "Column.take" Za7 ["self","row"]
 m_rows:MDefAt K C "rows" "Column.rows" Zbp ["self"]
 m_numbers_at:MDefAt K C "numbers_at" "Column.numbers_at" ZaL ["self","key"]
 ty:TyIns K C
 i_Column:IsiTo K mg C "Column" true
 i_ByValue:IsiTo K mg C "ByValue" false
 i_ByBits:IsiTo K mg C "ByBits" true
 n_valued:NoAttr K C "valued"
 n_by_number:NoAttr K C "by_number"
 n_by_key:NoAttr K C "by_key"
 n_width:NoAttr K C "width"
structure CD_ByValue (K:PySem.W.Frag)(mg:Str→Option Value)(C:Addr):Prop where
 at_:mg "ByValue"=some (.ref C)
 c:Cls K C
 init:MakerAt K C "ByValue.__init__" ZbC ["self","top"]
 m_top:MDefAt K C "top" "ByValue.top" Zb3 ["self"]
 m_numbers_of:MDefAt K C "numbers_of" "ByValue.numbers_of" ZaS ["self","value"]
 m_value:MDefAt K C "value" "ByValue.value" Za9 ["self","row"]
 m_can_have:MDefAt K C "can_have" "Column.can_have" ZaQ ["self","value"]
 m_put:MDefAt K C "put" "Column.put" Zbi ["self","row","value"]
 m_take:MDefAt K C "take" "Column.take" Za7 ["self","row"]
 m_rows:MDefAt K C "rows" "Column.rows" Zbp ["self"]
 m_numbers_at:MDefAt K C "numbers_at" "Column.numbers_at" ZaL ["self","key"]
 ty:TyIns K C
 i_Column:IsiTo K mg C "Column" true
 i_ByValue:IsiTo K mg C "ByValue" true
 i_ByBits:IsiTo K mg C "ByBits" false
 n_valued:NoAttr K C "valued"
 n_by_number:NoAttr K C "by_number"
 n_by_key:NoAttr K C "by_key"
 n_greatest:NoAttr K C "greatest"
local macro_rules | `(tactic| walk_at "vc")=>`(tactic| ((try dsimp only [ZgH,ZgY,Zij,Zhu,Zid,Zfp,Zgy,Ziq,Zfs,ZiQ,Zg0,ZiO,Zhm,Zio,ZcO,Zdx,tC_ap,ZeE,tUn_ap,rI_ap,rI0_ap,rU_ap,rEq_ap,rNe_ap,ZiW,Zg9,ZiT,Zgz,tB_ap,ZiD,tOr_ap,ZiU,Zhk,Zht,tIf_ap,ZgL,ZfM,ZeC,ZiM,Zgf,tCB_ap,tBM_ap,ZiX,Zil,Zic,ZeF,ZeN,Zek,ZfR,ZgE,Zhj,Ziy,Zfz,Zd2,ZfJ,ZfC,Zgw,Zfx,Zhs,Zfg,Zew,Zia,Zhd,ZiN,Zeu,Zfm,ZiH,Zey,Zgq,Zep,Zeq,ZiV,ZgZ,ZiF,ZfX,Zck,Zdz,Zec,L2.start,capSt]); (try simp only [ZgH,ZgY,tDGet1,Zij,tDPop1,Zhu,Zid,Zfp,Zgy,Ziq,Zfs,ZiQ,Zg0,ZiO,Zhm,Zio,ZcO,Zdx,tC_ap,ZeE,tUn_ap,rI_ap,rI0_ap,rU_ap,rEq_ap,rNe_ap,scal_ii,scal_bb,scal_ss,ZiW,Zg9,ZiT,Zgz,tB_ap,ZiD,tOr_ap,ZiU,Zhk,Zht,tIf_ap,ZgL,ZfM,ZeC,ZiM,Zgf,tCB_ap,tBM_ap,ZiX,tyV_int,tyV_list,Zil,Zic,ZeF,ZeN,Zek,ZfR,ZgE,Zhj,Ziy,Zfz,Zd2,ZfJ,ZfC,Zgw,Zfx,Zhs,Zfg,Zew,rIsi_int,ZjN,rIsi_blb,rIsi_bli,Zia,Zhd,ZiN,Zeu,Zfm,ZiH,Zey,Zgq,Zep,Zeq,ZiV,ZgZ,ZiF,ZfX,Zck,Zdz,Zec,tyV_str,CDiv,CMul,CPow,CShl,L2.start,capSt,List.map_cons,List.map_nil,List.length_cons,List.length_nil,List.append_nil,List.nil_append,List.cons_append,List.getElem?_cons_zero,List.getElem?_cons_succ,List.set_cons_zero,List.set_cons_succ,List.getD_cons_zero,List.getD_cons_succ,rep0,rep1,rep2,rep3,rep4,rep5,rep6,rep7,rep8,rep9,rep10,rep11,Nat.reduceAdd,Nat.reduceSub,Int.reduceLT,Int.reduceLE,Int.reducePow,Int.reduceNeg,Int.reduceMul,Int.reduceAdd,Int.reduceSub,Int.reduceToNat,Int.reduceEq,reduceIte,Option.some.injEq,V.int.injEq,V.bl.injEq,V.ref.injEq,V.str.injEq,V.ty.injEq,List.cons.injEq,exists_and_left,exists_eq_left,exists_eq_left',exists_eq_right,exists_eq',exists_eq,and_true,true_and,Int.zero_add,decide_eq_true_eq,Bool.not_eq_true',decide_eq_false_iff_not,if_true,if_false,Bool.false_eq_true,Bool.true_eq_false,ite_not,not_true_eq_false,not_false_eq_true,Bool.not_true,Bool.not_false,decide_true,decide_false,or_true,true_or,reduceCtorEq,false_and,and_false,exists_false,false_or,or_false])))
def mixI (c k:Int):Int:=((c*48271+k*7919+104729)%2147483647)*((c*48271+k*7919+104729)%2147483647)%2147483629
def spMixed:Sp:=fun vs H Q _=>∃ c k:Int,vs=[.int c,.int k]∧Q (.int (mixI c k)) H
section
variable {P:Program}{w:World}{K:PySem.W.Frag}{mg:Str→Option Value}{base:Heap}
theorem ok_mixed (d:DefAt K mg "_law_mixed" ZcV ["_law_cell","_law_k"]):FnAt P w K mg base "_law_mixed" ["_law_cell","_law_k"] 1 spMixed:=by
 refine FnAt.of d sc_l_mixed (fun vs H Q E h=>?_) (fun f cdv A outer s H vs Q E hr h=>?_)
 · obtain ⟨c,k,rfl,_⟩:=h
   rfl
 obtain ⟨c,k,rfl,q⟩:=h;refine ⟨_,(Zac (Zal (i:=2) sc_l_mixed.nd rfl (by walk_at "l") (Zai Zax (Zai ZaD (Zai ZaD (Zai Zcp (pv 0) Zag) (Zai Zcp (pv 1) Zag)) Zag) Zag))
     (Zaf (Zak (Zai Zax (Zai Zcp (pv 2) (pv 2)) Zag)))),?_⟩
 walk_at "vc";have h1:=Int.emod_nonneg (c*48271+k*7919+104729) (b:=2147483647) (by decide);have h2:=Int.emod_lt_of_pos (c*48271+k*7919+104729) (b:=2147483647) (by decide);exact ⟨.inl ⟨by omega,by omega⟩,q⟩
end
def spCell (K:PySem.W.Frag):Sp:=fun vs H Q _=>∃ (a:Addr) (ns:List Int) (k:Nat),vs=[.ref a,.int k]∧SqL K H a (ns.map V.int)∧Q (.int (ns.getD k 0)) H
section
variable {P:Program}{w:World}{K:PySem.W.Frag}{mg:Str→Option Value}{base:Heap}
theorem ZhM (B:Blt mg)(d:DefAt K mg "_law_cell_at" ZbV ["_law_script","_law_k"]):FnAt P w K mg base "_law_cell_at" ["_law_script","_law_k"] 1 (spCell K):=by
 refine FnAt.of d Zf5 (fun vs H Q E h=>?_) (fun f cdv A outer s H vs Q E hr h=>?_)
 · obtain ⟨a,ns,k,rfl,_⟩:=h
   rfl
 obtain ⟨a,ns,k,rfl,hS,q⟩:=h;refine ⟨_,(Zac (ZaF (Zas ZfD (pv 1) (ZaA (ZcZ K) rfl B.len PySem.boot_len (Zaa (pv 0) Zad)) (nomark _)) (Zaf (Zak (Zca (Za0 K) (pv 0) (pv 1) (fun _ _=>rfl)))) Zat)
     (Zaf (Zak Zag))),?_⟩
 walk_at "vc";refine ⟨_,.inl hS,?_⟩;rw [List.length_map];by_cases hk:k<ns.length
 · rw [if_pos (by omega)]
   refine ⟨_,hS,.int (ns.getD k 0),Zem ?_,q⟩;rw [List.getElem?_map,List.getElem?_eq_getElem hk,List.getD_eq_getElem?_getD,List.getElem?_eq_getElem hk];rfl
 · rw [if_neg (by omega)]
   have e:ns.getD k 0=0:=by rw [List.getD_eq_getElem?_getD,List.getElem?_eq_none (by omega)];rfl
   rw [e] at q;exact q
end
def halvF:Nat→Nat→Nat→Nat→List Nat
 | 0,_,_,_=>[]
 | n+1,lo,hi,m=>if lo<hi then (lo+hi)/2::(if (lo+hi)/2<m then halvF n ((lo+hi)/2+1) hi m else halvF n lo ((lo+hi)/2) m) else []
def halv (lo hi m:Nat):List Nat:=halvF (hi-lo) lo hi m
theorem Zcx (m:Nat):∀ (n k lo hi:Nat),hi-lo≤n→hi-lo≤k→halvF n lo hi m=halvF k lo hi m
 | 0,0,_,_,_,_=>rfl
 | 0,k+1,lo,hi,h,_=>by rw [halvF,halvF,if_neg (by omega)]
 | n+1,0,lo,hi,_,h=>by rw [halvF,halvF,if_neg (by omega)]
 | n+1,k+1,lo,hi,h,h'=>by
   rw [halvF,halvF];by_cases c:lo<hi
   · rw [Zcx m n k _ hi (by omega) (by omega),Zcx m n k lo _ (by omega) (by omega)]
   · rw [if_neg c,if_neg c]
theorem halv_pos {lo hi m:Nat}(h:lo<hi):halv lo hi m=(lo+hi)/2::(if (lo+hi)/2<m then halv ((lo+hi)/2+1) hi m else halv lo ((lo+hi)/2) m):=by unfold halv;rw [Zcx m (hi-lo) (hi-lo-1+1) lo hi (by omega) (by omega),halvF,if_pos h,Zcx m (hi-lo-1) (hi-((lo+hi)/2+1)) _ hi (by omega) (by omega),Zcx m (hi-lo-1) ((lo+hi)/2-lo) lo _ (by omega) (by omega)]
theorem halv_neg {lo hi m:Nat}(h:¬ lo<hi):halv lo hi m=[]:=by unfold halv;rw [show hi-lo=0 by omega,halvF]
def spHalved (P:Program)(w:World)(K:PySem.W.Frag)(mg:Str→Option Value)(base:Heap):Sp:=fun vs H Q _=>∃ (n m:Nat) (f:Addr) (pn:Str) (tb:TE) (cvs:List V) (H0:Hp),vs=[.int n,.ref f]∧m≤n∧n≤1000∧Ready P w K mg base 1 pn tb cvs H0 H f ∧
 (∀ (H':Hp) (i:Nat) (R:VK),Same H H'→i<n→R (.bl (decide (i<m))) H'→tb (some (.int i)::cvs.map some) H' R)∧∀ t l H',Same H H'→H t=none→H l=none→H' t=some (.tup [.int m,.ref l])→H' l=some (.lst (pint (halv 0 n m)))→Q (.ref t) H'
structure HalvI (n m:Nat)(f l:Addr)(H:Hp)(σ:L2.St)(H':Hp):Prop where
 ex:∃ (lo hi:Nat) (pr:List Nat) (v5:Option V),σ=[some (.int n),some (.ref f),some (.int lo),some (.int hi),some (.ref l),v5]∧lo≤m∧m≤hi∧hi≤n∧pr.length+(hi-lo)≤n∧pr++halv lo hi m=halv 0 n m∧H' l=some (.lst (pint pr))
 same:Same H H'
def gapN:L2.St→Nat
 | _::_::some (.int lo)::some (.int hi)::_=>(hi-lo).toNat
 | _=>0
section
variable {P:Program}{w:World}{K:PySem.W.Frag}{mg:Str→Option Value}{base:Heap}
theorem Zja (d:DefAt K mg "halved" Ze3 ["many","goes_on"]):FnAt P w K mg base "halved" ["many","goes_on"] 2 (spHalved P w K mg base):=by
 refine FnAt.of d sc_halved (fun vs H Q E h=>?_) (fun f cdv A outer s H vs Q E hr h=>?_)
 · obtain ⟨n,m,f,pn,tb,cvs,H0,rfl,_⟩:=h
   rfl
 obtain ⟨n,m,fl,pn,tb,cvs,H0,rfl,mn,n1000,⟨o,fd,c',oc,hf,hfd,hc,nf,LA⟩,htb,q⟩:=h;refine ⟨_,(Zac (Zal (i:=2) sc_halved.nd rfl (by walk_at "l") Zag)
     (Zac (Zal (i:=3) sc_halved.nd rfl (by walk_at "l") (pv 0))
     (Zac (Zal (i:=4) sc_halved.nd rfl (by walk_at "l") (ZaM Zad))
     (Zac (ZeY PassesOwn.never (Zas ZfD (pv 2) (pv 3) (nomark _)) (Zac (Zal (i:=5) sc_halved.nd rfl (by walk_at "l") (Zai Zay (Zai ZaD (pv 2) (pv 3)) Zag))
     (Zac (ZaE (Zga K PySem.F.plainAttrs_list PySem.F.slot_list_append PySem.F.type_list_append ZcX (pv 4) (Zaa (pv 5) Zad)))
     (Zaf (ZaF (ZaJ (pe_callV (k:=1) 1 (hr.mono (by decide)) (Zaa (pv 5) Zad))) (Zaf (Zal (i:=2) sc_halved.nd rfl (by walk_at "l") (Zai ZaD (pv 5) Zag))) (Zaf (Zal (i:=3) sc_halved.nd rfl (by walk_at "l") (pv 5))))))))
     (Zaf (Zak (ZcB (Zaa (pv 2) (Zaa (pv 4) Zad))))))))),?_⟩
 walk_at "vc";refine ⟨Nat.zero_le _,fun l nl=>?_⟩;refine Ze1 (HalvI n m fl l H) (fun σ _=>gapN σ) ⟨⟨0,n,[],_,rfl,Nat.zero_le _,mn,Nat.le_refl _,by show 0+(n-0)≤n;omega,rfl,Zab⟩,Same.new nl⟩ ?_ (fun σ H R R' h ⟨v,e,v2,e',i,j,e1,e2,k,e3,q⟩=>⟨v,e,v2,e',i,j,e1,e2,k,e3,h _ _ q⟩);rintro σ H1 ⟨⟨lo,hi,pr,v5,rfl,h1,h2,h3,h4,h5,h6⟩,sm⟩;walk_at "vc";have nlf:fl≠l:=fun z=>by rw [z,nl] at hf;cases hf
 have nlc:c'≠l:=fun z=>by rw [z,nl] at hc;cases hc
 by_cases lt:lo<hi
 · rw [if_pos (by omega)]
   have em:((lo:Int)+(hi:Int))/2=(((lo+hi)/2:Nat):Int):=by omega
   rw [em];have hv:halv lo hi m=(lo+hi)/2::(if (lo+hi)/2<m then halv ((lo+hi)/2+1) hi m else halv lo ((lo+hi)/2) m):=by exact halv_pos lt
   rw [hv] at h5;have l1:lo≤(lo+hi)/2:=by omega
   have l2:(lo+hi)/2<hi:=by omega
   generalize (lo+hi)/2=mid at h5 hv l1 l2 ⊢;have s2:Same H (upd H1 l (.lst (pint pr++[V.int mid]))):=sm.put nl;have hl2:upd H1 l (.lst (pint pr++[V.int mid])) l=some (.lst (pint (pr++[mid]))):=by rw [Zab];unfold pint;rw [List.map_append];rfl
   refine ⟨⟨_,SqL.of h6⟩,_,h6,small1000 (by rw [Zaq];omega),?_⟩;generalize upd H1 l (.lst (pint pr++[V.int mid]))=H2 at s2 hl2 ⊢;refine ⟨o,s2 _ _ hf,fd,hfd,_,_,LA,s2 _ _ hf,_,rfl,s2 _ _ hf,s2 _ _ hc,htb H2 mid _ s2 (by omega) ⟨_,rfl,?_⟩⟩;by_cases c:mid<m
   · rw [if_pos c] at h5
     rw [decide_eq_true c,if_pos rfl];refine ⟨⟨⟨mid+1,hi,pr++[mid],_,rfl,by omega,h2,h3,by rw [List.length_append];show pr.length+1+_≤_;omega,by rw [List.append_assoc];exact h5,hl2⟩,s2⟩,?_⟩;show (((hi:Int)-((mid:Int)+1)).toNat)<((hi:Int)-(lo:Int)).toNat
     omega
   · rw [if_neg c] at h5
     rw [decide_eq_false c,if_neg (by decide)];refine ⟨⟨⟨lo,mid,pr++[mid],_,rfl,h1,by omega,by omega,by rw [List.length_append];show pr.length+1+_≤_;omega,by rw [List.append_assoc];exact h5,hl2⟩,s2⟩,?_⟩;show (((mid:Int)-(lo:Int)).toNat)<((hi:Int)-(lo:Int)).toNat
     omega
 · rw [if_neg (by omega)]
   refine ⟨by decide,fun t nt=>?_⟩;have e1:lo=m:=by omega
   have hv:halv lo hi m=[]:=halv_neg lt;rw [hv,List.append_nil] at h5;have sT:=Same.new (o:=.tup [V.int lo,V.ref l]) nt;refine q t l _ (sm.trans sT) (sm.free nt) nl (by rw [Zab,e1]) ?_;rw [← h5];exact sT _ _ h6
end
def cnt (p:Int→Bool)(ks:List Int):Nat:=(ks.filter p).length
def Pre (p:Int→Bool)(ks:List Int):Prop:=∀ (i:Nat) (k:Int),ks[i]?=some k→p k=decide (i<cnt p ks)
def spHK (pr:Int→Int→Bool)(df:Int)(c P1:Addr)(qual:Str)(lp:Pos):Sp:=fun vs H Q _=>∃ (a:Addr) (ks:List Int) (y:Int),vs=[.ref a,.int y]∧H a=some (.lst (ks.map V.int))∧ks.length≤1000∧Pre (pr y) ks∧Tb H P1 qual lp ∧
 ∀ t l H',SameT P1 H H'→Tb H' P1 qual lp→H t=none→H l=none→H' t=some (.tup [.int ((cnt (pr y) ks:Int)-df),.ref l])→H' l=some (.lst (pint (halv 0 ks.length (cnt (pr y) ks))))→Q (.ref t) H'
theorem cnt_le (p:Int→Bool)(ks:List Int):cnt p ks≤ks.length:=List.length_filter_le _ _
theorem freeT {H H2:Hp}{Pt b:Addr}{q:Str}{lp:Pos}(s:SameT Pt H H2)(t:Tb H2 Pt q lp)(f:H2 b=none):H b=none:=by
 cases e:H b with
 | none=>rfl
 | some o =>
   by_cases z:b=Pt
   · rw [z] at f
     rcases t with h | ⟨_,_,h,_⟩<;>(rw [f] at h;cases h)
   · rw [s _ _ z e] at f
     cases f
def lpK:Pos:=match defBody Zbs with | [.Return (some (.Call _ [_,.Lambda _ _ _ p] _ _)) _]=>p | _=>⟨0,0,0,0⟩
def qK:Str:=(Str.ofString "halved_keys"++Str.ofString ".<locals>.")++Str.ofString "<lambda>"
theorem get_int {ks:List Int}{i:Nat}(h:i<ks.length):atI (ks.map V.int) (i:Int)=some (.int (ks.getD i 0)):=Zem (by rw [List.getElem?_map,List.getD_eq_getElem?_getD,List.getElem?_eq_getElem h];rfl)
section
variable {P:Program}{w:World}{K:PySem.W.Frag}{mg:Str→Option Value}{base:Heap}{c1 P1 c2 P2:Addr}
theorem ok_hkeys (B:Blt mg)(T_halved_keys:TabIn base mg (c1,P1))(h_halved:∀ base,FnAt P w K mg base "halved" ["many","goes_on"] 2 (spHalved P w K mg base))(d:DefAtC K mg "halved_keys" Zbs ["keys","key"] c1):FnAt P w K mg base "halved_keys" ["keys","key"] 3 (spHK (fun y k=>decide (k<y)) 0 c1 P1 qK lpK):=by
 refine FnAt.ofC d Ze4 (fun vs H Q E h=>?_) (fun f A outer s H vs Q E hr h=>?_)
 · obtain ⟨a,ks,y,rfl,_⟩:=h
   rfl
 obtain ⟨a,ks,y,rfl,ha,hl,hp,hT,q⟩:=h;refine ⟨_,(Zaf (Zak (ZhZ (k:=0) (caps:=["key","keys"]) (ixs:=[1,0]) (lamIn_mk T_halved_keys (ZgB rfl rfl rfl (by decide +kernel) rfl (by decide +kernel) (by decide +kernel) (by decide +kernel)) rfl ⟨rfl,⟨rfl,trivial⟩⟩ ⟨⟨rfl,rfl,_,rfl⟩,⟨⟨rfl,rfl,_,rfl⟩,trivial⟩⟩) rfl (fun _ _ _ _=>rfl) (fun _ _ _ _ _ _ _ _=>(Zbz ZfD (Zca (Za0 K) (pv 2) (pv 0) (fun _ _=>rfl)) (pv 1) (nomark _))) h_halved (hr.mono (by decide)) rfl (ZaA (ZcZ K) rfl B.len PySem.boot_len (Zaa (pv 0) Zad))))),?_⟩;walk_at "vc";refine ⟨_,.inl (SqL.of ha),fun j hj=>?_,hT,fun base' fl H2 sT hT2 R=>?_⟩
 · simp only [List.mem_cons,List.not_mem_nil,or_false] at hj
   rcases hj with rfl | rfl
   · exact ⟨_,rfl⟩
   · exact ⟨_,rfl⟩
 rw [List.length_map];have naP:a≠P1:=fun z=>by
   rcases hT with h | ⟨_,_,h,_⟩<;>(rw [← z,ha] at h;cases h)
 have ha2:=sT a _ naP ha;refine ⟨ks.length,cnt (fun k=>decide (k<y)) ks,fl,_,_,_,H,rfl,cnt_le _ _,hl,R,fun H' i R' s' hi hR=>?_,fun t l H' s' f1 f2 h1 h2=>?_⟩
 · walk_at "vc"
   refine ⟨a,rfl,_,SqL.of (s' _ _ ha2),.int (ks.getD i 0),get_int hi,_,rfl,y,rfl,?_⟩;have e:decide (ks.getD i 0<y)=decide (i<cnt (fun k=>decide (k<y)) ks):=hp i _ (by rw [List.getD_eq_getElem?_getD,List.getElem?_eq_getElem hi];rfl);rw [e];exact hR
 · refine q t l H' (fun b o n e=>s' _ _ (sT b o n e)) (hT2.same s') (freeT sT hT2 f1) (freeT sT hT2 f2) ?_ h2
   rw [Int.sub_zero];exact h1
end
def Tups (H:Hp):List V→List (Nat × Nat)→Prop:=Paired fun v r=>∃ t,v=.ref t∧H t=some (.tup [.int (r.1:Nat),.int (r.2:Nat)])
def RunsL (H:Hp)(p:Addr)(rs:List (Nat × Nat)):Prop:=∃ vs,H p=some (.lst vs)∧Tups H vs rs
theorem Tups.same {H H':Hp}{vs:List V}{rs:List (Nat × Nat)}(h:Tups H vs rs)(s:Same H H'):Tups H' vs rs:=Paired.mapP h fun _ _ ⟨t,e,ht⟩=>⟨t,e,s _ _ ht⟩
theorem RunsL.same {H H':Hp}{p:Addr}{rs:List (Nat × Nat)}(h:RunsL H p rs)(s:Same H H'):RunsL H' p rs:=let ⟨vs,e,t⟩:=h;⟨vs,s _ _ e,t.same s⟩
theorem Tups.length {H:Hp}{vs:List V}{rs:List (Nat × Nat)}(h:Tups H vs rs):vs.length=rs.length:=Paired.length h
theorem Tups.snoc {H:Hp}:∀ {vs:List V} {rs:List (Nat × Nat)} {t:Addr} {r:Nat × Nat},Tups H vs rs→H t=some (.tup [.int (r.1:Nat),.int (r.2:Nat)])→Tups H (vs++[.ref t]) (rs++[r])
 | _,_,_,_,.nil,h=>.cons ⟨_,rfl,h⟩ .nil
 | _,_,_,_,.cons r q,h=>.cons r (Tups.snoc q h)
section
variable {K:PySem.W.Frag}{H:Hp}{Q:VK}{a b:Addr}
end
theorem Tups.upd {H:Hp}{r:Addr}{xs ys:List V}{vs:List V}{rs:List (Nat × Nat)}(h:Tups H vs rs)(e:H r=some (.lst xs)):Tups (upd H r (.lst ys)) vs rs :=
 Paired.mapP h fun _ _ ⟨t,z,ht⟩=>⟨t,z,by rw [Zah (ne_of ht e (by intro q;cases q))];exact ht⟩
theorem Up.lt256 {ps:List Nat}(h:Up 0 ps)(hk:∀ p∈ps,p<256):ps.length≤256:=by
 have:∀ (qs:List Nat) (a:Nat),Up a qs→(∀ p∈qs,p<256)→a≤256→qs.length+a≤256:=by
   intro qs;induction qs with
   | nil=>intro a _ _ h;show 0+a≤256;omega
   | cons p r ih =>
     intro a u w _;have h1:=w p List.mem_cons_self;have h2:=u.1;have:=ih (p+1) u.2 (fun q hq=>w q (List.mem_cons_of_mem _ hq)) h1;rw [List.length_cons];omega
 exact this ps 0 h hk (by omega)
def spBelow:Sp:=fun vs H Q _=>∃ p:Nat,vs=[.int p]∧p≤1000∧Q (.int ((2^p-1:Nat):Int)) H
section
variable {P:Program}{w:World}{K:PySem.W.Frag}{mg:Str→Option Value}{base:Heap}
theorem Zf4 (d:DefAt K mg "all_below" ZbP ["place"]):FnAt P w K mg base "all_below" ["place"] 1 spBelow:=by
 refine FnAt.of d Zgh (fun vs H Q E h=>?_) (fun f cdv A outer s H vs Q E hr h=>?_)
 · obtain ⟨p,rfl,_⟩:=h
   rfl
 obtain ⟨p,rfl,hp,q⟩:=h;refine ⟨_,(Zaf (Zak (Zai Za2 (Zai Zbg Zag (pv 0)) Zag))),?_⟩;walk_at "vc";refine ⟨⟨by omega,by omega,by decide⟩,?_⟩;have e:(1:Int)*2^(p:Int).toNat-1=((2^p-1:Nat):Int):=by have:0<2^p:=Nat.pow_pos (by decide);rw [Int.toNat_natCast,Int.one_mul,Int.ofNat_sub this];simp
 rw [e];exact q
end
def spSpan:Sp:=fun vs H Q _=>∃ a b:Nat,vs=[.int a,.int b]∧a≤b+1∧b<1000∧Q (.int (wd (List.range' a (b+1-a)):Nat)) H
section
variable {P:Program}{w:World}{K:PySem.W.Frag}{mg:Str→Option Value}{base:Heap}
theorem ZfN (h_all_below:FnAt P w K mg base "all_below" ["place"] 1 spBelow)(d:DefAt K mg "span_word" ZbW ["first","last"]):FnAt P w K mg base "span_word" ["first","last"] 2 spSpan:=by
 refine FnAt.of d ZfS (fun vs H Q E h=>?_) (fun f cdv A outer s H vs Q E hr h=>?_)
 · obtain ⟨x,y,rfl,_⟩:=h
   rfl
 obtain ⟨x,y,rfl,h1,h2,q⟩:=h;refine ⟨_,(Zaf (Zak (Zai Za2 (Zaj h_all_below (hr.mono (by decide)) rfl (Zaa (Zai ZaD (pv 1) Zag) Zad)) (Zaj h_all_below (hr.mono (by decide)) rfl (Zaa (pv 0) Zad))))),?_⟩;walk_at "vc";refine ⟨y+1,by rw [Int.natCast_add];rfl,by omega,x,rfl,by omega,?_⟩;walk_at "vc";have e:=Zeb (y+1-x) x;rw [show x+(y+1-x)=y+1 by omega] at e;have p1:0<2^x:=Nat.pow_pos (by decide);have p2:0<2^(y+1):=Nat.pow_pos (by decide);have e2:((2^(y+1)-1:Nat):Int)-((2^x-1:Nat):Int)=((wd (List.range' x (y+1-x)):Nat):Int):=by omega
 rw [e2];exact q
end
def spDrop:Sp:=fun vs H Q _=>∃ w:Nat,vs=[.int w]∧Q (.int ((w &&& (w-1):Nat):Int)) H
section
variable {P:Program}{w:World}{K:PySem.W.Frag}{mg:Str→Option Value}{base:Heap}
theorem ZdN (d:DefAt K mg "without_first" Za8 ["word"]):FnAt P w K mg base "without_first" ["word"] 1 spDrop:=by
 refine FnAt.of d ZdJ (fun vs H Q E h=>?_) (fun f cdv A outer s H vs Q E hr h=>?_)
 · obtain ⟨p,rfl,_⟩:=h
   rfl
 obtain ⟨n,rfl,q⟩:=h;refine ⟨_,(Zaf (Zak (Zai Zbl (pv 0) (Zai Za2 (pv 0) Zag)))),?_⟩;walk_at "vc";have e:Builtin.bitAnd (n:Int) ((n:Int)-1)=((n &&& (n-1):Nat):Int):=by
   cases n with
   | zero=>decide
   | succ m =>
     rw [bitAnd_pp (by omega) (by omega)];have e1:((m+1:Nat):Int).toNat=m+1:=Int.toNat_natCast _;have e2:(((m+1:Nat):Int)-1).toNat=m+1-1:=by omega
     rw [e1,e2]
 rw [e];exact q
end
section
variable {P:Program}{w:World}{K:PySem.W.Frag}{mg:Str→Option Value}{base:Heap}
def spCount:Sp:=fun vs H Q _=>∃ ps:List Nat,vs=[.int (wd ps:Nat)]∧Up 0 ps∧(∀ p∈ps,p<256)∧Q (.int ps.length) H
structure LowC (mg:Str→Option Value):Prop where
 a:∃ t,mg "LOWER_1"=some (.int 38597363079105398474523661669562635951089994888546854679819194669304376546645 t)
 b:∃ t,mg "LOWER_2"=some (.int 23158417847463239084714197001737581570653996933128112807891516801582625927987 t)
 c:∃ t,mg "LOWER_4"=some (.int 6811299366900952671974763824040465167839410862684739061144563765171360567055 t)
 d:∃ t,mg "LOWER_8"=some (.int 450552876409790643671482431940419874915447411150352389258589821042463539455 t)
theorem Zh8 (L:LowC mg)(d:DefAt K mg "counted" ZcT ["word"]):FnAt P w K mg base "counted" ["word"] 2 spCount:=by
 obtain ⟨⟨t1,c_LOWER_1⟩,⟨t2,c_LOWER_2⟩,⟨t4,c_LOWER_4⟩,⟨t8,c_LOWER_8⟩⟩:=L;refine FnAt.of d sc_counted (fun vs H Q E h=>?_) (fun f cdv A outer s H vs Q E hr h=>?_)
 · obtain ⟨ps,rfl,_⟩:=h
   rfl
 obtain ⟨ps,rfl,up,h256,q⟩:=h;refine ⟨_,(Zac (Zal (i:=1) sc_counted.nd rfl (by walk_at "l") (Zai ZaD (Zai Zbl (pv 0) (Zav (v:=.int 38597363079105398474523661669562635951089994888546854679819194669304376546645) rfl c_LOWER_1 ⟨_,rfl⟩)) (Zai Zbl (Zai ZeL (pv 0) Zag) (Zav (v:=.int 38597363079105398474523661669562635951089994888546854679819194669304376546645) rfl c_LOWER_1 ⟨_,rfl⟩))))
     (Zac (Zal (i:=2) sc_counted.nd rfl (by walk_at "l") (Zai ZaD (Zai Zbl (pv 1) (Zav (v:=.int 23158417847463239084714197001737581570653996933128112807891516801582625927987) rfl c_LOWER_2 ⟨_,rfl⟩)) (Zai Zbl (Zai ZeL (pv 1) Zag) (Zav (v:=.int 23158417847463239084714197001737581570653996933128112807891516801582625927987) rfl c_LOWER_2 ⟨_,rfl⟩))))
     (Zac (Zal (i:=3) sc_counted.nd rfl (by walk_at "l") (Zai ZaD (Zai Zbl (pv 2) (Zav (v:=.int 6811299366900952671974763824040465167839410862684739061144563765171360567055) rfl c_LOWER_4 ⟨_,rfl⟩)) (Zai Zbl (Zai ZeL (pv 2) Zag) (Zav (v:=.int 6811299366900952671974763824040465167839410862684739061144563765171360567055) rfl c_LOWER_4 ⟨_,rfl⟩))))
     (Zac (Zal (i:=4) sc_counted.nd rfl (by walk_at "l") (Zai ZaD (Zai Zbl (pv 3) (Zav (v:=.int 450552876409790643671482431940419874915447411150352389258589821042463539455) rfl c_LOWER_8 ⟨_,rfl⟩)) (Zai Zbl (Zai ZeL (pv 3) Zag) (Zav (v:=.int 450552876409790643671482431940419874915447411150352389258589821042463539455) rfl c_LOWER_8 ⟨_,rfl⟩))))
     (Zaf (Zak (Zai Zax (pv 4) Zag))))))),?_⟩
 walk_at "vc";rw [swarI (k:=1) (n:=128) (d:=2) (w:=wd ps) (by rw [msk1];rfl) rfl];rw [swarI (k:=2) (n:=64) (d:=4) (by rw [msk2];rfl) rfl];rw [swarI (k:=4) (n:=32) (d:=16) (by rw [msk4];rfl) rfl];rw [swarI (k:=8) (n:=16) (d:=256) (by rw [msk8];rfl) rfl];rw [countI up h256];exact q
end
def spLast:Sp:=fun vs H Q _=>∃ ps:List Nat,vs=[.int (wd ps:Nat)]∧Up 0 ps∧Q (match ps.getLast? with | none=>.non | some p=>.int (p:Nat)) H
def spFirst:Sp:=fun vs H Q _=>∃ ps:List Nat,vs=[.int (wd ps:Nat)]∧Up 0 ps∧Q (match ps with | []=>.non | p::_=>.int (p:Nat)) H
section
variable {P:Program}{w:World}{K:PySem.W.Frag}{mg:Str→Option Value}{base:Heap}
theorem ZgU (d:DefAt K mg "last_one" Zce ["word"]):FnAt P w K mg base "last_one" ["word"] 1 spLast:=by
 refine FnAt.of d Zgs (fun vs H Q E h=>?_) (fun f cdv A outer s H vs Q E hr h=>?_)
 · obtain ⟨ps,rfl,_⟩:=h
   rfl
 obtain ⟨ps,rfl,up,q⟩:=h;refine ⟨_,(Zac (ZaF (Zas Zbw (pv 0) Zag (nomark _)) (Zaf (Zak ZaU)) Zat)
     (Zaf (Zak (Zai Za2 (pe_bm0K K PySem.F.plainAttrs_int PySem.F.slot_int_bit_length PySem.F.type_int_bit_length Zi4 (pv 0)) Zag)))),?_⟩
 walk_at "vc";rcases List.eq_nil_or_concat ps with rfl | ⟨qs,p,rfl⟩
 · rw [if_pos (show ((wd []:Nat):Int)=0 from rfl)]
   exact q
 · rw [List.concat_eq_append] at up q ⊢
   have h0:0<wd (qs++[p]):=by
     rw [Zbm];have:0<2^p:=Nat.pow_pos (by decide);show 0<wd qs+(2^p+0)
     omega
   rw [if_neg (by omega),Zgc up];have e:((p+1:Nat):Int)-1=(p:Nat):=by omega
   rw [e];rw [List.getLast?_concat] at q;exact q
theorem Zf6 (h_last_one:FnAt P w K mg base "last_one" ["word"] 1 spLast)(d:DefAt K mg "first_one" ZbY ["word"]):FnAt P w K mg base "first_one" ["word"] 2 spFirst:=by
 refine FnAt.of d Zf9 (fun vs H Q E h=>?_) (fun f cdv A outer s H vs Q E hr h=>?_)
 · obtain ⟨ps,rfl,_⟩:=h
   rfl
 obtain ⟨ps,rfl,up,q⟩:=h;refine ⟨_,(Zaf (Zak (Zaj h_last_one (hr.mono (by decide)) rfl (Zaa (Zai Zbl (pv 0) (Zha ZhR (pv 0))) Zad)))),?_⟩;walk_at "vc";cases ps with
 | nil=>exact ⟨[],rfl,trivial,q⟩
 | cons p r =>
   refine ⟨[p],?_,⟨Nat.zero_le _,trivial⟩,q⟩;rw [Zh2 up.2];rfl
end
def fstN:L2.St→Nat
 | some (.int w)::_=>w.toNat
 | _=>0
def spBit:Sp:=fun vs H Q _=>∃ (w k:Nat),vs=[.int w,.int k]∧Q (.int ((w.testBit k).toNat:Nat)) H
section
variable {P:Program}{w:World}{K:PySem.W.Frag}{mg:Str→Option Value}{base:Heap}
theorem Zi8 (d:DefAt K mg "bit_at" Zdi ["word","place"]):FnAt P w K mg base "bit_at" ["word","place"] 1 spBit:=by
 refine FnAt.of d Zjb (fun vs H Q E h=>?_) (fun f cdv A outer s H vs Q E hr h=>?_)
 · obtain ⟨v,k,rfl,_⟩:=h
   rfl
 obtain ⟨v,k,rfl,q⟩:=h;refine ⟨_,(Zaf (Zak (Zai Zbl (Zai ZeL (pv 0) (pv 1)) Zag))),?_⟩;walk_at "vc";refine ⟨by omega,?_⟩;have e:Builtin.bitAnd ((v:Int)/2^((k:Nat):Int).toNat) 1=((v.testBit k).toNat:Nat):=by
   rw [bitAnd_m1,Int.toNat_natCast];have e1:(v:Int)/2^k%2=((v/2^k%2:Nat):Int):=by rw [Int.natCast_emod,Int.natCast_ediv,Int.natCast_pow];rfl
   rw [e1,Nat.testBit_eq_decide_div_mod_eq];by_cases h1:v/2^k%2=1
   · rw [decide_eq_true h1,h1]
     rfl
   · rw [decide_eq_false h1]
     have:v/2^k%2=0:=by omega
     rw [this];rfl
 rw [e];exact q
end
def spRunsOf:Sp:=fun vs H Q _=>∃ ps:List Nat,vs=[.int (wd ps:Nat)]∧Up 0 ps∧(∀ p∈ps,p<256)∧∀ (r:Addr) (H':Hp),Same H H'→H r=none→RunsL H' r (runsOf ps)→Q (.ref r) H'
structure RoI (ps:List Nat)(r:Addr)(H:Hp)(σ:L2.St)(H':Hp):Prop where
 ex:∃ (qs:List Nat) (rs:List (Nat × Nat)) (v2 v3:Option V),σ=[some (.int (wd qs:Nat)),some (.ref r),v2,v3]∧Up 0 qs∧(∀ p∈qs,p<256)∧runsOf ps=rs++runsOf qs∧RunsL H' r rs∧rs.length+qs.length≤ps.length
 same:Same H H'
section
variable {P:Program}{w:World}{K:PySem.W.Frag}{mg:Str→Option Value}{base:Heap}
theorem ZhT (h_first_one:FnAt P w K mg base "first_one" ["word"] 2 spFirst)(h_span_word:FnAt P w K mg base "span_word" ["first","last"] 2 spSpan)(d:DefAt K mg "runs_of" Zc3 ["word"]):FnAt P w K mg base "runs_of" ["word"] 3 spRunsOf:=by
 refine FnAt.of d sc_runs_of (fun vs H Q E h=>?_) (fun f cdv A outer s H vs Q E hr h=>?_)
 · obtain ⟨ps,rfl,_⟩:=h
   rfl
 obtain ⟨ps,rfl,up,h256,q⟩:=h;have hlen:=Up.lt256 up h256;refine ⟨_,(Zac (Zal (i:=1) sc_runs_of.nd rfl (by walk_at "l") (ZaM Zad))
     (Zac (ZeY PassesOwn.never (Zas op_gt (pv 0) Zag (nomark _)) (Zac (Zal (i:=2) sc_runs_of.nd rfl (by walk_at "l") (Zaj h_first_one (hr.mono (by decide)) rfl (Zaa (pv 0) Zad)))
     (Zac (Zal (i:=3) sc_runs_of.nd rfl (by walk_at "l") (Zaj h_first_one (hr.mono (by decide)) rfl (Zaa (Zai ZaD (pv 0) (Zai Zbg Zag (pv 2))) Zad)))
     (Zac (ZaE (Zga K PySem.F.plainAttrs_list PySem.F.slot_list_append PySem.F.type_list_append ZcX (pv 1) (Zaa (ZcB (Zaa (pv 2) (Zaa (Zai Za2 (pv 3) Zag) Zad))) Zad)))
     (Zaf (Zal (i:=0) sc_runs_of.nd rfl (by walk_at "l") (Zai Za2 (pv 0) (Zaj h_span_word (hr.mono (by decide)) rfl (Zaa (pv 2) (Zaa (Zai Za2 (pv 3) Zag) Zad))))))))))
     (Zaf (Zak (pv 1))))),?_⟩
 walk_at "vc";refine ⟨Nat.zero_le _,fun r nr=>?_⟩;refine Ze1 (RoI ps r H) (fun σ _=>fstN σ) ⟨⟨ps,[],none,none,rfl,up,h256,rfl,⟨[],Zab,.nil⟩,by simp⟩,Same.new nr⟩ ?_ (fun σ H R R' h ⟨v,e,i,j,e1,e2,k,e3,q⟩=>⟨v,e,i,j,e1,e2,k,e3,h _ _ q⟩);rintro σ H1 ⟨⟨qs,rs,v2,v3,rfl,upq,q256,er,⟨vs,hv,ht⟩,hl⟩,sm⟩;walk_at "vc";cases qs with
 | nil =>
   rw [if_neg (by show ¬ (0:Int)<((0:Nat):Int);decide)];walk_at "vc";refine q r H1 sm nr ⟨vs,hv,?_⟩;rw [er];simpa [runsOf] using ht
 | cons p rr =>
   have hw:0<wd (p::rr):=Zf3;rw [if_pos (by omega)];obtain ⟨n,rest,e1,u1,l1⟩:=ZdO rr p upq.2;obtain ⟨f1,f2⟩:=Zi0 u1;have p256:p<256:=q256 p List.mem_cons_self;have pn:p+n<256:=q256 (p+n) (by rw [e1];exact List.mem_append.mpr (.inl (List.mem_range'_1.mpr (by omega))));have rest256:∀ z∈rest,z<256:=fun z hz=>q256 z (by rw [e1];exact List.mem_append.mpr (.inr hz))
   have upr:Up 0 rest:=u1.mono (Nat.zero_le _);refine ⟨p::rr,rfl,upq,?_⟩;walk_at "vc";refine ⟨⟨by omega,by omega,by decide⟩,(p+n+1)::rest,?_,⟨Nat.zero_le _,by rw [show p+n+1+1=p+n+2 by omega];exact u1⟩,?_⟩
   · rw [Int.one_mul,Int.toNat_natCast,e1,← f1,Int.natCast_add,Int.natCast_pow]
     rfl
   walk_at "vc";refine ⟨⟨_,SqL.of hv⟩,by decide,fun t nt=>?_⟩;have eb:(((p+n+1:Nat):Int)-1)=((p+n:Nat):Int):=by omega
   rw [eb];have smT:Same H1 (upd H1 t (.tup [.int (p:Nat),.int ((p+n:Nat):Int)])):=Same.new nt;have hv2:=smT _ _ hv;have lv:=ht.length;rw [List.length_cons] at hl;refine ⟨vs,hv2,small1000 (by omega),p,p+n,rfl,by omega,by omega,?_⟩;walk_at "vc";have e2:((wd (p::rr):Nat):Int)-((wd (List.range' p (p+n+1-p)):Nat):Int)=((wd rest:Nat):Int):=by rw [show p+n+1-p=n+1 by omega,e1];have:=Zbm (List.range' p (n+1)) rest;omega
   rw [e2];refine ⟨⟨⟨rest,rs++[(p,p+n)],_,_,rfl,upr,rest256,?_,⟨_,Zab,((ht.same smT).snoc (r:=(p,p+n)) Zab).upd hv2⟩,?_⟩,fun b o z=>?_⟩,?_⟩
   · rw [er,e1,Zh4 u1,List.append_assoc]
     rfl
   · rw [List.length_append]
     show rs.length+1+_≤_;omega
   · rw [Zah (Zan z nr)]
     exact smT _ _ (sm b o z)
   · show (((wd rest:Nat):Int)).toNat<(((wd (p::rr):Nat):Int)).toNat
     rw [e1,Zbm];have:=Zeb (n+1) p;have k1:2^p<2^(p+(n+1)):=Nat.pow_lt_pow_right (by decide) (by omega);omega
end
def spPlacesOf:Sp:=fun vs H Q _=>∃ ps:List Nat,vs=[.int (wd ps:Nat)]∧Up 0 ps∧(∀ p∈ps,p<256)∧∀ (r:Addr) (H':Hp),Same H H'→H r=none→H' r=some (.lst (pint ps))→Q (.ref r) H'
structure PoI (ps:List Nat)(r:Addr)(H:Hp)(σ:L2.St)(H':Hp):Prop where
 ex:∃ qs rs:List Nat,σ=[some (.int (wd qs:Nat)),some (.ref r)]∧Up 0 qs∧ps=rs++qs∧H' r=some (.lst (pint rs))
 same:Same H H'
section
variable {P:Program}{w:World}{K:PySem.W.Frag}{mg:Str→Option Value}{base:Heap}
theorem Zgk (h_first_one:FnAt P w K mg base "first_one" ["word"] 2 spFirst)(h_without_first:FnAt P w K mg base "without_first" ["word"] 1 spDrop)(d:DefAt K mg "places_of" ZbU ["word"]):FnAt P w K mg base "places_of" ["word"] 3 spPlacesOf:=by
 refine FnAt.of d sc_places_of (fun vs H Q E h=>?_) (fun f cdv A outer s H vs Q E hr h=>?_)
 · obtain ⟨ps,rfl,_⟩:=h
   rfl
 obtain ⟨ps,rfl,up,h256,q⟩:=h;have hlen:=Up.lt256 up h256;refine ⟨_,(Zac (Zal (i:=1) sc_places_of.nd rfl (by walk_at "l") (ZaM Zad))
     (Zac (ZeY PassesOwn.never (Zas op_gt (pv 0) Zag (nomark _)) (Zac (ZaE (Zga K PySem.F.plainAttrs_list PySem.F.slot_list_append PySem.F.type_list_append ZcX (pv 1) (Zaa (Zaj h_first_one (hr.mono (by decide)) rfl (Zaa (pv 0) Zad)) Zad)))
     (Zaf (Zal (i:=0) sc_places_of.nd rfl (by walk_at "l") (Zaj h_without_first (hr.mono (by decide)) rfl (Zaa (pv 0) Zad))))))
     (Zaf (Zak (pv 1))))),?_⟩
 walk_at "vc";refine ⟨Nat.zero_le _,fun r nr=>?_⟩;refine Ze1 (PoI ps r H) (fun σ _=>fstN σ) ⟨⟨ps,[],rfl,up,rfl,Zab⟩,Same.new nr⟩ ?_ (fun σ H R R' h ⟨v,e,i,j,e1,e2,k,e3,q⟩=>⟨v,e,i,j,e1,e2,k,e3,h _ _ q⟩);rintro σ H1 ⟨⟨qs,rs,rfl,upq,er,hv⟩,sm⟩;walk_at "vc";cases qs with
 | nil =>
   rw [if_neg (by show ¬ (0:Int)<((0:Nat):Int);decide)];walk_at "vc";refine q r H1 sm nr ?_;rw [er,List.append_nil];exact hv
 | cons p rr =>
   have hw:0<wd (p::rr):=Zf3;rw [if_pos (by omega)];have hl:rs.length<ps.length:=by rw [er,List.length_append,List.length_cons];omega
   refine ⟨⟨_,SqL.of hv⟩,p::rr,rfl,upq,?_⟩;walk_at "vc";refine ⟨_,hv,small1000 (by rw [Zaq];omega),_,rfl,?_⟩;walk_at "vc";refine ⟨⟨⟨rr,rs++[p],?_,upq.2.mono (Nat.zero_le _),?_,?_⟩,fun b o z=>?_⟩,?_⟩
   · rw [ZfP upq.2]
   · rw [er,List.append_assoc]
     rfl
   · rw [Zab]
     unfold pint;rw [List.map_append];rfl
   · rw [Zah (Zan z nr)]
     exact sm b o z
   · show ((((wd (p::rr) &&& (wd (p::rr)-1):Nat):Int)).toNat)<((wd (p::rr):Nat):Int).toNat
     rw [ZfP upq.2,Int.toNat_natCast,Int.toNat_natCast];have:0<2^p:=Nat.pow_pos (by decide);show wd rr<2^p+wd rr;omega
end
def spWordOf (K:PySem.W.Frag):Sp:=fun vs H Q _=>∃ (a:Addr) (ps:List Nat),vs=[.ref a]∧SqL K H a (pint ps)∧(∀ p∈ps,p<1000)∧Q (.int (orW ps:Nat)) H
structure WordOfI (a:Addr)(ps:List Nat)(H:Hp)(i:Nat)(σ:L2.St)(H':Hp):Prop where
 ex:∃ v,σ=[some (.ref a),some (.int (orW (ps.take i):Nat)),v]
 hp:H'=H
section
variable {P:Program}{w:World}{K:PySem.W.Frag}{mg:Str→Option Value}{base:Heap}
theorem ZhI (d:DefAt K mg "word_of" ZcW ["places"]):FnAt P w K mg base "word_of" ["places"] 1 (spWordOf K):=by
 refine FnAt.of d sc_word_of (fun vs H Q E h=>?_) (fun f cdv A outer s H vs Q E hr h=>?_)
 · obtain ⟨a,ps,rfl,_⟩:=h
   rfl
 obtain ⟨a,ps,rfl,hS,h1000,q⟩:=h;refine ⟨_,(Zac (Zal (i:=1) sc_word_of.nd rfl (by walk_at "l") Zag)
     (Zac (Zb4 PassesOwn.never rfl (Za5 K (pv 0)) (ZaH (i:=2) sc_word_of.nd rfl (by walk_at "l")) (Zaf (Zal (i:=1) sc_word_of.nd rfl (by walk_at "l") (Zai op_or (pv 1) (Zai Zbg Zag (pv 2))))))
     (Zaf (Zak (pv 1))))),?_⟩
 walk_at "vc";refine ⟨⟨_,hS⟩,loopL (xs:=pint ps) (WordOfI a ps H) ⟨⟨_,rfl⟩,rfl⟩ ?_ ?_ ?_⟩
 · rintro i σ H' hi ⟨_,rfl⟩
   exact hS
 · rintro i x σ H' hi ⟨⟨v,rfl⟩,rfl⟩
   obtain ⟨p,hp,rfl⟩:=ZbG hi;have hmem:p<1000:=h1000 p (List.mem_of_getElem? hp);have tk:ps.take (i+1)=ps.take i++[p]:=by rw [List.take_succ,hp];rfl
   walk_at "vc";refine ⟨⟨by omega,by omega,by decide⟩,⟨some (.int p),?_⟩,rfl⟩;rw [tk,orW_snoc,ZeW (Int.natCast_nonneg _) (by rw [Int.one_mul];exact Zes _)];rw [Int.toNat_natCast,Int.toNat_natCast,Int.one_mul];congr
 · rintro σ H' ⟨⟨v,rfl⟩,rfl⟩
   walk_at "vc";rw [List.take_of_length_le (by rw [Zaq];exact Nat.le_refl _)];exact q
end
def spWordOfRuns:Sp:=fun vs H Q _=>∃ (a:Addr) (rs:List (Nat × Nat)),vs=[.ref a]∧RunsL H a rs∧(∀ r∈rs,r.1≤r.2∧r.2<999)∧Q (.int (orR rs:Nat)) H
structure WordRI (a:Addr)(rs:List (Nat × Nat))(H:Hp)(i:Nat)(σ:L2.St)(H':Hp):Prop where
 ex:∃ v v',σ=[some (.ref a),some (.int (orR (rs.take i):Nat)),v,v']
 hp:H'=H
theorem Tups.get {H:Hp}:∀ {vs:List V} {rs:List (Nat × Nat)} {i:Nat} {x:V},Tups H vs rs→vs[i]?=some x→∃ t r,x=.ref t∧rs[i]?=some r∧H t=some (.tup [.int (r.1:Nat),.int (r.2:Nat)])
 | _,_,_,_,.nil,e=>by simp at e
 | _,_,0,_,.cons ⟨t,z,h⟩ _,e=>by
   simp at e;subst e;exact ⟨t,_,z,rfl,h⟩
 | _,_,i+1,x,.cons _ q,e=>by
   obtain ⟨t,r,h1,h2,h3⟩:=Tups.get (i:=i) (x:=x) q (by simpa using e);exact ⟨t,r,h1,by simpa using h2,h3⟩
section
variable {P:Program}{w:World}{K:PySem.W.Frag}{mg:Str→Option Value}{base:Heap}
theorem Zd7 (h_span_word:FnAt P w K mg base "span_word" ["first","last"] 2 spSpan)(d:DefAt K mg "word_of_runs" Zbc ["runs"]):FnAt P w K mg base "word_of_runs" ["runs"] 3 spWordOfRuns:=by
 refine FnAt.of d sc_word_of_runs (fun vs H Q E h=>?_) (fun f cdv A outer s H vs Q E hr h=>?_)
 · obtain ⟨a,rs,rfl,_⟩:=h
   rfl
 obtain ⟨a,rs,rfl,⟨vs,hv,ht⟩,hb,q⟩:=h;refine ⟨_,(Zac (Zal (i:=1) sc_word_of_runs.nd rfl (by walk_at "l") Zag)
     (Zac (Zb4 PassesOwn.never rfl (Za5 K (pv 0)) (Zea K rfl (Zbd (ZaH (i:=2) sc_word_of_runs.nd rfl (by walk_at "l")) (Zbd (ZaH (i:=3) sc_word_of_runs.nd rfl (by walk_at "l")) Zel))) (Zaf (Zal (i:=1) sc_word_of_runs.nd rfl (by walk_at "l") (Zai op_or (pv 1) (Zaj h_span_word (hr.mono (by decide)) rfl (Zaa (pv 2) (Zaa (pv 3) Zad)))))))
     (Zaf (Zak (pv 1))))),?_⟩
 walk_at "vc";refine ⟨⟨_,SqL.of hv⟩,loopL (xs:=vs) (WordRI a rs H) ⟨⟨_,_,rfl⟩,rfl⟩ ?_ ?_ ?_⟩
 · rintro i σ H' hi ⟨_,rfl⟩
   exact SqL.of hv
 · rintro i x σ H' hi ⟨⟨v,v',rfl⟩,rfl⟩
   obtain ⟨t,r,rfl,hr1,htt⟩:=ht.get hi;obtain ⟨b1,b2⟩:=hb r (List.mem_of_getElem? hr1);have tk:rs.take (i+1)=rs.take i++[r]:=by rw [List.take_succ,hr1];rfl
   walk_at "vc";refine ⟨_,SqT.of htt,rfl,?_⟩;walk_at "vc";refine ⟨_,_,⟨rfl,rfl⟩,?_⟩;walk_at "vc";refine ⟨_,_,⟨rfl,rfl⟩,?_⟩;walk_at "vc";refine ⟨r.1,r.2,rfl,by omega,by omega,?_⟩;walk_at "vc";refine ⟨⟨some (.int (r.1:Nat)),some (.int (r.2:Nat)),?_⟩,rfl⟩;rw [tk,orR_snoc,ZeW (Int.natCast_nonneg _) (Int.natCast_nonneg _),Int.toNat_natCast,Int.toNat_natCast]
 · rintro σ H' ⟨⟨v,v',rfl⟩,rfl⟩
   walk_at "vc";rw [List.take_of_length_le (by rw [ht.length];exact Nat.le_refl _)];exact q
end
inductive Kd where
 | l | b | r
def StAt (c:Kd→Addr)(k:Kd)(H:Hp)(a:Addr)(ps:List Nat):Prop:=match k with
 | .l=>∃ dx l,H a=some (.ins (c .l) dx [("places",.ref l)])∧H l=some (.lst (pint ps))
 | .b=>∃ dx,H a=some (.ins (c .b) dx [("ones",.int (wd ps:Nat))])
 | .r=>∃ dx l,H a=some (.ins (c .r) dx [("runs",.ref l)])∧RunsL H l (runsOf ps)
theorem StAt.same {c:Kd→Addr}{k:Kd}{H H':Hp}{a:Addr}{ps:List Nat}(h:StAt c k H a ps)(s:Same H H'):StAt c k H' a ps:=by
 cases k with
 | l=>obtain ⟨dx,l,e,h⟩:=h;exact ⟨dx,l,s _ _ e,s _ _ h⟩
 | b=>obtain ⟨dx,e⟩:=h;exact ⟨dx,s _ _ e⟩
 | r=>obtain ⟨dx,l,e,h⟩:=h;exact ⟨dx,l,s _ _ e,h.same s⟩
def noF (fs:List (Str × V)):Prop:=fs.lookup (Str.ofString "kind")=none∧fs.lookup (Str.ofString "body")=none∧fs.lookup (Str.ofString "word")=none∧fs.lookup (Str.ofString "size")=none∧fs.lookup (Str.ofString "told")=none∧fs.lookup (Str.ofString "many")=none∧fs.lookup (Str.ofString "has")=none∧fs.lookup (Str.ofString "below")=none∧fs.lookup (Str.ofString "chosen")=none∧fs.lookup (Str.ofString "onward")=none∧fs.lookup (Str.ofString "backward")=none
theorem ZhQ (v:V):noF [("places",v)]:=⟨rfl,rfl,rfl,rfl,rfl,rfl,rfl,rfl,rfl,rfl,rfl⟩
theorem noF_ones (v:V):noF [("ones",v)]:=⟨rfl,rfl,rfl,rfl,rfl,rfl,rfl,rfl,rfl,rfl,rfl⟩
theorem noF_runs (v:V):noF [("runs",v)]:=⟨rfl,rfl,rfl,rfl,rfl,rfl,rfl,rfl,rfl,rfl,rfl⟩
theorem StAt.obj {c:Kd→Addr}{k:Kd}{H:Hp}{a:Addr}{ps:List Nat}(h:StAt c k H a ps):∃ dx fs,H a=some (.ins (c k) dx fs)∧noF fs:=by
 cases k with
 | l=>obtain ⟨dx,l,e,_⟩:=h;exact ⟨dx,_,e,ZhQ _⟩
 | b=>obtain ⟨dx,e⟩:=h;exact ⟨dx,_,e,noF_ones _⟩
 | r=>obtain ⟨dx,l,e,_⟩:=h;exact ⟨dx,_,e,noF_runs _⟩
def spWordM (c:Kd→Addr)(k:Kd):Sp:=fun vs H Q _=>∃ (a:Addr) (ps:List Nat),vs=[.ref a]∧StAt c k H a ps∧Up 0 ps∧(∀ p∈ps,p<256)∧Q (.int (wd ps:Nat)) H
def spManyM (c:Kd→Addr)(k:Kd):Sp:=fun vs H Q _=>∃ (a:Addr) (ps:List Nat),vs=[.ref a]∧StAt c k H a ps∧Up 0 ps∧(∀ p∈ps,p<256)∧Q (.int ps.length) H
def spInitS (K:PySem.W.Frag)(c:Kd→Addr):Kd→Sp
 | .l=>fun vs H Q _=>∃ (x dx p:Addr) (ps:List Nat),vs=[.ref x,.ref p]∧H x=some (.ins (c .l) dx [])∧SqL K H p (pint ps)∧∀ l,H l=none→Q .non (upd (upd H l (.lst (pint ps))) x (.ins (c .l) dx [("places",.ref l)]))
 | .b=>fun vs H Q _=>∃ (x dx:Addr) (v:V),vs=[.ref x,v]∧H x=some (.ins (c .b) dx [])∧Q .non (upd H x (.ins (c .b) dx [("ones",v)]))
 | .r=>fun vs H Q _=>∃ (x dx p:Addr) (us:List V),vs=[.ref x,.ref p]∧H x=some (.ins (c .r) dx [])∧H p=some (.lst us)∧∀ l,H l=none→Q .non (upd (upd H l (.lst us)) x (.ins (c .r) dx [("runs",.ref l)]))
section
variable {P:Program}{w:World}{K:PySem.W.Frag}{mg:Str→Option Value}{base:Heap}{c:Kd→Addr}
theorem Zjy (B:Blt mg)(cd:CD_ListStretch K mg (c .l)):MakeAt P w K mg base "ListStretch" (c .l) ["self","places"] 1 (spInitS K c .l):=by
 refine MakeAt.of cd.at_ cd.init Zb9 (fun vs H Q E h=>?_) (fun f cdv A outer s H vs Q E hr h=>?_)
 · obtain ⟨x,dx,p,ps,rfl,_⟩:=h
   rfl
 obtain ⟨x,dx,p,ps,rfl,hx,hp,q⟩:=h;refine ⟨_,(Zaf (ZaC K (pv 0) (Zcd (ZbD K) rfl B.lst boot_list (Zaa (pv 1) Zad)))),?_⟩;walk_at "vc";refine ⟨_,.inl hp,fun l hl=>?_⟩;have hx2:upd H l (.lst (pint ps)) x=some (.ins (c .l) dx []):=by rw [Zah (Zan hx hl)];exact hx
 exact ⟨_,_,_,hx2,cd.c,cd.n_places,by decide,q l hl⟩
theorem Zjo (cd:CD_BitStretch K mg (c .b)):MakeAt P w K mg base "BitStretch" (c .b) ["self","word"] 1 (spInitS K c .b):=by
 refine MakeAt.of cd.at_ cd.init Zci (fun vs H Q E h=>?_) (fun f cdv A outer s H vs Q E hr h=>?_)
 · obtain ⟨x,dx,v,rfl,_⟩:=h
   rfl
 obtain ⟨x,dx,v,rfl,hx,q⟩:=h;refine ⟨_,(Zaf (ZaC K (pv 0) (pv 1))),?_⟩;walk_at "vc";exact ⟨_,_,_,hx,cd.c,cd.n_ones,by decide,q⟩
theorem ZjB (B:Blt mg)(cd:CD_RunStretch K mg (c .r)):MakeAt P w K mg base "RunStretch" (c .r) ["self","runs"] 1 (spInitS K c .r):=by
 refine MakeAt.of cd.at_ cd.init Zco (fun vs H Q E h=>?_) (fun f cdv A outer s H vs Q E hr h=>?_)
 · obtain ⟨x,dx,p,us,rfl,_⟩:=h
   rfl
 obtain ⟨x,dx,p,us,rfl,hx,hp,q⟩:=h;refine ⟨_,(Zaf (ZaC K (pv 0) (Zcd (ZbD K) rfl B.lst boot_list (Zaa (pv 1) Zad)))),?_⟩;walk_at "vc";refine ⟨_,.inl (SqL.of hp),fun l hl=>?_⟩;have hx2:upd H l (.lst us) x=some (.ins (c .r) dx []):=by rw [Zah (Zan hx hl)];exact hx
 exact ⟨_,_,_,hx2,cd.c,cd.n_runs,by decide,q l hl⟩
end
section
variable {P:Program}{w:World}{K:PySem.W.Frag}{mg:Str→Option Value}{base:Heap}{c:Kd→Addr}
theorem Zjt (h_word_of:FnAt P w K mg base "word_of" ["places"] 1 (spWordOf K))(cd:CD_ListStretch K mg (c .l)):MethAt P w K mg base (c .l) "word" ["self"] 4 (spWordM c .l):=by
 refine MethAt.of cd.c cd.m_word Zc5 (fun vs H Q E h=>?_) (fun f cdv A outer s H vs Q E hr h=>?_)
 · obtain ⟨a,ps,rfl,_⟩:=h
   rfl
 obtain ⟨a,ps,rfl,⟨dx,l,ha,hl⟩,up,h256,q⟩:=h;refine ⟨_,(Zaf (Zak (Zaj h_word_of (hr.mono (by decide)) rfl (Zaa (Zao K (pv 0)) Zad)))),?_⟩;walk_at "vc";refine ⟨_,_,_,ha,cd.c,cd.n_places,.ref l,rfl,l,ps,rfl,SqL.of hl,fun p hp=>Nat.lt_trans (h256 p hp) (by decide),?_⟩;rw [orW_up up];exact q
theorem ZjI (cd:CD_BitStretch K mg (c .b)):MethAt P w K mg base (c .b) "word" ["self"] 4 (spWordM c .b):=by
 refine MethAt.of cd.c cd.m_word Zde (fun vs H Q E h=>?_) (fun f cdv A outer s H vs Q E hr h=>?_)
 · obtain ⟨a,ps,rfl,_⟩:=h
   rfl
 obtain ⟨a,ps,rfl,⟨dx,ha⟩,up,h256,q⟩:=h;refine ⟨_,(Zaf (Zak (Zao K (pv 0)))),?_⟩;walk_at "vc";exact ⟨_,_,_,ha,cd.c,cd.n_ones,_,rfl,q⟩
theorem Zji (h_word_of_runs:FnAt P w K mg base "word_of_runs" ["runs"] 3 spWordOfRuns)(cd:CD_RunStretch K mg (c .r)):MethAt P w K mg base (c .r) "word" ["self"] 4 (spWordM c .r):=by
 refine MethAt.of cd.c cd.m_word Zdb (fun vs H Q E h=>?_) (fun f cdv A outer s H vs Q E hr h=>?_)
 · obtain ⟨a,ps,rfl,_⟩:=h
   rfl
 obtain ⟨a,ps,rfl,⟨dx,l,ha,hl⟩,up,h256,q⟩:=h;refine ⟨_,(Zaf (Zak (Zaj h_word_of_runs (hr.mono (by decide)) rfl (Zaa (Zao K (pv 0)) Zad)))),?_⟩;walk_at "vc";refine ⟨_,_,_,ha,cd.c,cd.n_runs,.ref l,rfl,l,_,rfl,hl,fun r hr=>⟨ZdE ps r hr,Nat.lt_trans (Zjp h256 r hr) (by decide)⟩,?_⟩;rw [Zh1 up];exact q
end
section
variable {P:Program}{w:World}{K:PySem.W.Frag}{mg:Str→Option Value}{base:Heap}{c:Kd→Addr}
theorem ok_many (hw:∀ k,MethAt P w K mg base (c k) "word" ["self"] 4 (spWordM c k))(h_counted:FnAt P w K mg base "counted" ["word"] 2 spCount)(k:Kd)(cc:Cls K (c k))(d:MDefAt K (c k) "many" "Stretch.many" ZaV ["self"]):MethAt P w K mg base (c k) "many" ["self"] 5 (spManyM c k):=by
 refine MethAt.of cc d Zd6 (fun vs H Q E h=>?_) (fun f cdv A outer s H vs Q E hr h=>?_)
 · obtain ⟨a,ps,rfl,_⟩:=h
   rfl
 obtain ⟨a,ps,rfl,hst,up,h256,q⟩:=h;obtain ⟨dx,fs,ha,nf⟩:=hst.obj;refine ⟨_,(Zaf (Zak (Zaj h_counted (hr.mono (by decide)) rfl (Zaa (ZaR (P:=P) (w:=w) (K:=K) (mg:=mg) (base:=base) 4 (hr.mono (by decide)) (pv 0)) Zad)))),?_⟩;walk_at "vc";exact ⟨_,_,_,ha,nf.2.2.1,_,_,hw k,a,ps,rfl,hst,up,h256,ps,rfl,up,h256,q⟩
end
def ofO:Option Nat→V
 | none=>.non
 | some n=>.int (n:Nat)
def spHasM (c:Kd→Addr)(k:Kd):Sp:=fun vs H Q _=>∃ (a:Addr) (ps:List Nat) (p:Nat),vs=[.ref a,.int p]∧StAt c k H a ps∧Up 0 ps∧(∀ p∈ps,p<256)∧Q (.bl (decide (p∈ps))) H
section
variable {P:Program}{w:World}{K:PySem.W.Frag}{mg:Str→Option Value}{base:Heap}{c:Kd→Addr}
theorem ok_has (hw:∀ k,MethAt P w K mg base (c k) "word" ["self"] 4 (spWordM c k))(h_bit_at:FnAt P w K mg base "bit_at" ["word","place"] 1 spBit)(k:Kd)(cc:Cls K (c k))(d:MDefAt K (c k) "has" "Stretch.has" Za4 ["self","place"]):MethAt P w K mg base (c k) "has" ["self","place"] 5 (spHasM c k):=by
 refine MethAt.of cc d Zev (fun vs H Q E h=>?_) (fun f cdv A outer s H vs Q E hr h=>?_)
 · obtain ⟨a,ps,p,rfl,_⟩:=h
   rfl
 obtain ⟨a,ps,p,rfl,hst,up,h256,q⟩:=h;obtain ⟨dx,fs,ha,nf⟩:=hst.obj;refine ⟨_,(Zaf (Zak (Zbz Zbw (Zaj h_bit_at (hr.mono (by decide)) rfl (Zaa (ZaR (P:=P) (w:=w) (K:=K) (mg:=mg) (base:=base) 4 (hr.mono (by decide)) (pv 0)) (Zaa (pv 1) Zad))) Zag (nomark _)))),?_⟩;walk_at "vc";refine ⟨_,_,_,ha,nf.2.2.1,_,_,hw k,a,ps,rfl,hst,up,h256,?_⟩;walk_at "vc";refine ⟨wd ps,p,rfl,?_⟩;rw [ZaN up];walk_at "vc";have e:decide ((((decide (p∈ps)).toNat:Nat):Int)=1)=decide (p∈ps):=by by_cases h:p∈ps<;>simp [h]
 rw [e];exact q
end
def kdOf (ps:List Nat):Kd:=if ps.length≤32∧ps.length≤2*(runsOf ps).length then .l else if 32≤2*(runsOf ps).length then .b else .r
def spSizes:Sp:=fun vs H Q _=>∃ ps:List Nat,vs=[.int (wd ps:Nat)]∧Up 0 ps∧(∀ p∈ps,p<256)∧∀ t,H t=none→Q (.ref t) (upd H t (.tup [.int ps.length,.int 32,.int ((2*(runsOf ps).length:Nat):Int)]))
def KeptIs (c:Kd→Addr)(H:Hp)(ps:List Nat)(v:V):Prop:=(ps=[]→v=.non)∧(ps≠[]→∃ x,v=.ref x∧StAt c (kdOf ps) H x ps)
def spKept (c:Kd→Addr):Sp:=fun vs H Q _=>∃ ps:List Nat,vs=[.int (wd ps:Nat)]∧Up 0 ps∧(∀ p∈ps,p<256)∧∀ v H',Same H H'→KeptIs c H' ps v→Q v H'
theorem wd_eq0 {ps:List Nat}:((wd ps:Nat):Int)=0↔ps=[]:=by
 cases ps with
 | nil=>exact ⟨fun _=>rfl,fun _=>rfl⟩
 | cons p r =>
   have:0<wd (p::r):=Zf3;exact ⟨fun h=>by omega,fun h=>by cases h⟩
section
variable {K:PySem.W.Frag}{c:Kd→Addr}{H:Hp}{Q:VK}{E:XK}
theorem mkS_l {l1:Addr}{ps:List Nat}(hl:SqL K H l1 (pint ps))(q:∀ a H',Same H H'→H a=none→StAt c .l H' a ps→Q (.ref a) H') :
   ∀ x dx,H x=none→H dx=none→dx≠x→spInitS K c .l [.ref x,.ref l1] (upd (upd H dx (.own x)) x (.ins (c .l) dx [])) (fun v H'=>v=.non∧Q (.ref x) H') E:=by
 intro x dx nx ndx dne;have m2:Same H (upd (upd H dx (.own x)) x (.ins (c .l) dx [])):=(Same.new ndx).put nx;refine ⟨x,dx,l1,ps,rfl,Zab,m2.seq hl,fun l nl=>⟨rfl,?_⟩⟩;have m4:=(m2.put (o:=.lst (pint ps)) (m2.free nl)).put (o:=.ins (c .l) dx [("places",.ref l)]) nx;refine q x _ m4 nx ⟨dx,l,Zab,?_⟩;have:l≠x:=fun z=>by rw [z,Zab] at nl;cases nl
 rw [Zah this,Zab]
theorem mkS_b {ps:List Nat}(q:∀ a H',Same H H'→H a=none→StAt c .b H' a ps→Q (.ref a) H') :
   ∀ x dx,H x=none→H dx=none→dx≠x→spInitS K c .b [.ref x,.int (wd ps:Nat)] (upd (upd H dx (.own x)) x (.ins (c .b) dx [])) (fun v H'=>v=.non∧Q (.ref x) H') E:=by
 intro x dx nx ndx dne;have m2:Same H (upd (upd H dx (.own x)) x (.ins (c .b) dx [])):=(Same.new ndx).put nx;exact ⟨x,dx,_,rfl,Zab,rfl,q x _ (m2.put nx) nx ⟨dx,Zab⟩⟩
theorem mkS_r {l1:Addr}{ps:List Nat}(hl:RunsL H l1 (runsOf ps))(q:∀ a H',Same H H'→H a=none→StAt c .r H' a ps→Q (.ref a) H') :
   ∀ x dx,H x=none→H dx=none→dx≠x→spInitS K c .r [.ref x,.ref l1] (upd (upd H dx (.own x)) x (.ins (c .r) dx [])) (fun v H'=>v=.non∧Q (.ref x) H') E:=by
 intro x dx nx ndx dne;obtain ⟨us,hu,ht⟩:=hl;have m2:Same H (upd (upd H dx (.own x)) x (.ins (c .r) dx [])):=(Same.new ndx).put nx;refine ⟨x,dx,l1,us,rfl,Zab,m2 _ _ hu,fun l nl=>⟨rfl,?_⟩⟩;have m4:=(m2.put (o:=.lst us) (m2.free nl)).put (o:=.ins (c .r) dx [("runs",.ref l)]) nx;refine q x _ m4 nx ⟨dx,l,Zab,us,?_,ht.same m4⟩;have:l≠x:=fun z=>by rw [z,Zab] at nl;cases nl
 rw [Zah this,Zab]
end
section
variable {P:Program}{w:World}{K:PySem.W.Frag}{mg:Str→Option Value}{base:Heap}{c:Kd→Addr}
theorem ok_sizes (cP:∃ t,mg "PLACES"=some (.int 256 t))(h_counted:FnAt P w K mg base "counted" ["word"] 2 spCount)(d:DefAt K mg "sizes" Zeo ["word"]):FnAt P w K mg base "sizes" ["word"] 3 spSizes:=by
 obtain ⟨tP,c_PLACES⟩:=cP;refine FnAt.of d sc_sizes (fun vs H Q E h=>?_) (fun f cdv A outer s H vs Q E hr h=>?_)
 · obtain ⟨ps,rfl,_⟩:=h
   rfl
 obtain ⟨ps,rfl,up,h256,q⟩:=h;refine ⟨_,(Zac (Zal (i:=1) sc_sizes.nd rfl (by walk_at "l") (Zai Zbl (pv 0) (Zha un_inv (Zai Zbg (pv 0) Zag))))
     (Zaf (Zak (ZcB (Zaa (Zaj h_counted (hr.mono (by decide)) rfl (Zaa (pv 0) Zad)) (Zaa (Zai Zay (Zav (v:=.int 256) rfl c_PLACES ⟨_,rfl⟩) Zag) (Zaa (Zai Zcp Zag (Zaj h_counted (hr.mono (by decide)) rfl (Zaa (pv 1) Zad))) Zad))))))),?_⟩
 walk_at "vc";refine ⟨wd_abs up h256,ps,rfl,up,h256,bgs ps,by rw [bgs_wdI2 up],up.filter,bgs_lt h256,_,rfl,by decide,fun t nt=>?_⟩;have e:=q t nt;rw [runs_bgs up,Int.natCast_mul] at e;exact e
theorem ok_kept (h_sizes:FnAt P w K mg base "sizes" ["word"] 3 spSizes)(h_places_of:FnAt P w K mg base "places_of" ["word"] 3 spPlacesOf)(h_runs_of:FnAt P w K mg base "runs_of" ["word"] 3 spRunsOf)
   (h_ListStretch:MakeAt P w K mg base "ListStretch" (c .l) ["self","places"] 1 (spInitS K c .l)) (h_BitStretch:MakeAt P w K mg base "BitStretch" (c .b) ["self","word"] 1 (spInitS K c .b)) (h_RunStretch:MakeAt P w K mg base "RunStretch" (c .r) ["self","runs"] 1 (spInitS K c .r))
   (d:DefAt K mg "kept" ZfV ["word"]):FnAt P w K mg base "kept" ["word"] 4 (spKept c):=by
 refine FnAt.of d sc_kept (fun vs H Q E h=>?_) (fun f cdv A outer s H vs Q E hr h=>?_)
 · obtain ⟨ps,rfl,_⟩:=h
   rfl
 obtain ⟨ps,rfl,up,h256,q⟩:=h;refine ⟨_,(Zac (ZaF (Zas Zbw (pv 0) Zag (nomark _)) (Zaf (Zak ZaU)) Zat)
     (Zac (ps_asg (Zaj h_sizes (hr.mono (by decide)) rfl (Zaa (pv 0) Zad)) (Zea K rfl (Zbd (ZaH (i:=1) sc_kept.nd rfl (by walk_at "l")) (Zbd (ZaH (i:=2) sc_kept.nd rfl (by walk_at "l")) (Zbd (ZaH (i:=3) sc_kept.nd rfl (by walk_at "l")) Zel)))))
     (Zac (ZaF (PW.pt (pw_and (Zas ZdC (pv 1) (pv 2) (nomark _)) (pw_and1 (Zas ZdC (pv 1) (pv 3) (nomark _))))) (Zaf (Zak (ZcA h_ListStretch (hr.mono (by decide)) rfl (Zaa (Zaj h_places_of (hr.mono (by decide)) rfl (Zaa (pv 0) Zad)) Zad)))) Zat)
     (Zac (ZaF (Zas ZdC (pv 2) (pv 3) (nomark _)) (Zaf (Zak (ZcA h_BitStretch (hr.mono (by decide)) rfl (Zaa (pv 0) Zad)))) Zat)
     (Zaf (Zak (ZcA h_RunStretch (hr.mono (by decide)) rfl (Zaa (Zaj h_runs_of (hr.mono (by decide)) rfl (Zaa (pv 0) Zad)) Zad)))))))),?_⟩
 walk_at "vc";by_cases e0:ps=[]
 · rw [if_pos (wd_eq0.mpr e0)]
   exact q _ _ (Same.refl _) ⟨fun _=>rfl,fun z=>absurd e0 z⟩
 rw [if_neg (fun z=>e0 (wd_eq0.mp z))];have q:∀ x H',Same H H'→StAt c (kdOf ps) H' x ps→Q (.ref x) H':=fun x H' s st=>q _ _ s ⟨fun z=>absurd z e0,fun _=>⟨x,rfl,st⟩⟩
 refine ⟨ps,rfl,up,h256,fun t nt=>?_⟩;have smT:Same H (upd H t (.tup [.int ps.length,.int 32,.int ((2*(runsOf ps).length:Nat):Int)])):=Same.new nt;refine ⟨t,rfl,_,SqT.of Zab,rfl,_,_,rfl,_,_,rfl,_,_,rfl,rfl,_,rfl,_,rfl,?_⟩;generalize upd H t (.tup [.int ps.length,.int 32,.int ((2*(runsOf ps).length:Nat):Int)])=H1 at smT ⊢;have rest:¬ (ps.length≤32∧ps.length≤2*(runsOf ps).length)→∃ i,V.int 32=V.int i∧∃ x,V.int ((2*(runsOf ps).length:Nat):Int)=V.int x ∧
     if i≤x then ∀ (x dx:Addr),H1 x=none→H1 dx=none→dx≠x→spInitS K c Kd.b [V.ref x,V.int ((wd ps:Nat):Int)] (upd (upd H1 dx (HO.own x)) x (HO.ins (c Kd.b) dx [])) (fun v H2=>v=V.non∧Q (V.ref x) H2) E0
     else spRunsOf [V.int ((wd ps:Nat):Int)] H1 (fun x H1=>∀ (x_1 dx:Addr),H1 x_1=none→H1 dx=none→dx≠x_1→spInitS K c Kd.r [V.ref x_1,x] (upd (upd H1 dx (HO.own x_1)) x_1 (HO.ins (c Kd.r) dx [])) (fun v H2=>v=V.non∧Q (V.ref x_1) H2) E0) E0:=fun n1=>by
   refine ⟨_,rfl,_,rfl,?_⟩;by_cases c3:32≤2*(runsOf ps).length
   · rw [if_pos (by omega)]
     have e:kdOf ps=.b:=by unfold kdOf;rw [if_neg n1,if_pos c3]
     rw [e] at q;exact mkS_b fun x H' sm nx st=>q x H' (smT.trans sm) st
   · rw [if_neg (by omega)]
     have e:kdOf ps=.r:=by unfold kdOf;rw [if_neg n1,if_neg c3]
     rw [e] at q;refine ⟨ps,rfl,up,h256,fun r H2 s2 nr hr2=>?_⟩;exact mkS_r hr2 fun x H' sm nx st=>q x H' (smT.trans (s2.trans sm)) st
 by_cases c1:ps.length≤32
 · rw [if_pos (by omega)]
   refine ⟨_,rfl,_,rfl,?_⟩;by_cases c2:ps.length≤2*(runsOf ps).length
   · rw [if_pos (by omega)]
     have e:kdOf ps=.l:=by unfold kdOf;rw [if_pos ⟨c1,c2⟩]
     rw [e] at q;refine ⟨ps,rfl,up,h256,fun r H2 s2 nr hr2=>?_⟩;exact mkS_l (SqL.of hr2) fun x H' sm nx st=>q x H' (smT.trans (s2.trans sm)) st
   · rw [if_neg (by omega)]
     exact rest fun z=>c2 z.2
 · rw [if_neg (by omega)]
   exact rest fun z=>c1 z.1
end
def gJoin (ps qs:List Nat):List Nat:=(List.range 256).filter fun p=>decide (p∈ps)||decide (p∈qs)
def gLess (ps qs:List Nat):List Nat:=ps.filter fun p=>!decide (p∈qs)
theorem rng_lt {f:Nat→Bool}:∀ p∈(List.range 256).filter f,p<256:=fun p hp=>List.mem_range.mp (List.mem_filter.mp hp).1
theorem flt_lt {f:Nat→Bool}{ps:List Nat}(h:∀ p∈ps,p<256):∀ p∈ps.filter f,p<256:=fun p hp=>h p (List.mem_filter.mp hp).1
def gAdd (ps:List Nat)(p:Nat):List Nat:=gJoin ps [p]
def gRem (ps:List Nat)(p:Nat):List Nat:=gLess ps [p]
def spPut (c:Kd→Addr)(g:List Nat→Nat→List Nat):Sp:=fun vs H Q _=>∃ (a:Addr) (k:Kd) (ps:List Nat) (p:Nat),vs=[.ref a,.int p]∧StAt c k H a ps∧Up 0 ps∧(∀ p∈ps,p<256)∧p<256∧∀ v H',Same H H'→KeptIs c H' (g ps p) v→Q v H'
theorem ZdQ (p:Nat):Up 0 [p]:=⟨Nat.zero_le _,trivial⟩
theorem ZhC {p:Nat}(h:p<256):∀ q∈[p],q<256:=fun q hq=>by
 have:q=p:=by simpa using hq
 omega
theorem ZfW (p:Nat):(1:Int)*2^((p:Nat):Int).toNat=((wd [p]:Nat):Int):=by
 rw [Int.toNat_natCast,Int.one_mul];show (2:Int)^p=((2^p+0:Nat):Int)
 rw [Nat.add_zero,Int.natCast_pow];rfl
section
variable {P:Program}{w:World}{K:PySem.W.Frag}{mg:Str→Option Value}{base:Heap}{c:Kd→Addr}
theorem ok_added (hw:∀ k,MethAt P w K mg base (c k) "word" ["self"] 4 (spWordM c k))(h_kept:FnAt P w K mg base "kept" ["word"] 4 (spKept c))(d:DefAt K mg "added" Zed ["stretch","place"]):FnAt P w K mg base "added" ["stretch","place"] 5 (spPut c gAdd):=by
 refine FnAt.of d sc_added (fun vs H Q E h=>?_) (fun f cdv A outer s H vs Q E hr h=>?_)
 · obtain ⟨a,k,ps,p,rfl,_⟩:=h
   rfl
 obtain ⟨a,k,ps,p,rfl,st,up,l,hp,q⟩:=h;obtain ⟨dx,fs,hx,nf⟩:=st.obj;refine ⟨_,(Zaf (Zak (Zaj h_kept (hr.mono (by decide)) rfl (Zaa (Zai op_or (ZaR (P:=P) (w:=w) (K:=K) (mg:=mg) (base:=base) 4 (hr.mono (by decide)) (pv 0)) (Zai Zbg Zag (pv 1))) Zad)))),?_⟩;walk_at "vc";refine ⟨_,_,_,hx,nf.2.2.1,_,_,hw k,a,ps,rfl,st,up,l,?_⟩;walk_at "vc";refine ⟨⟨by omega,by omega,by decide⟩,gAdd ps p,?_,Zdw _ _,rng_lt (f:=fun x=>decide (x∈ps)||decide (x∈[p])),q⟩;rw [ZfW,or_wdI up (ZdQ p) l (ZhC hp)];rfl
theorem ZhS (hw:∀ k,MethAt P w K mg base (c k) "word" ["self"] 4 (spWordM c k))(h_kept:FnAt P w K mg base "kept" ["word"] 4 (spKept c))(d:DefAt K mg "removed" ZcS ["stretch","place"]):FnAt P w K mg base "removed" ["stretch","place"] 5 (spPut c gRem):=by
 refine FnAt.of d Zh3 (fun vs H Q E h=>?_) (fun f cdv A outer s H vs Q E hr h=>?_)
 · obtain ⟨a,k,ps,p,rfl,_⟩:=h
   rfl
 obtain ⟨a,k,ps,p,rfl,st,up,l,hp,q⟩:=h;obtain ⟨dx,fs,hx,nf⟩:=st.obj;refine ⟨_,(Zaf (Zak (Zaj h_kept (hr.mono (by decide)) rfl (Zaa (Zai Zbl (ZaR (P:=P) (w:=w) (K:=K) (mg:=mg) (base:=base) 4 (hr.mono (by decide)) (pv 0)) (Zha un_inv (Zai Zbg Zag (pv 1)))) Zad)))),?_⟩;walk_at "vc";refine ⟨_,_,_,hx,nf.2.2.1,_,_,hw k,a,ps,rfl,st,up,l,?_⟩;walk_at "vc";refine ⟨⟨by omega,by omega,by decide⟩,gRem ps p,?_,up.filter,flt_lt (f:=fun x=>!decide (x∈[p])) l,q⟩;rw [ZfW,less_wdI up (ZdQ p)];rfl
end
def spIsWhole:Sp:=fun vs H Q _=>∃ i:Int,vs=[.int i]∧Q (.bl true) H
def spChk:Sp:=fun vs H Q _=>∃ n:Nat,vs=[.int n]∧n≤65535∧Q .non H
section
variable {P:Program}{w:World}{K:PySem.W.Frag}{mg:Str→Option Value}{base:Heap}
theorem Zhx (B:Blt mg)(d:DefAt K mg "is_whole" ZbF ["thing"]):FnAt P w K mg base "is_whole" ["thing"] 1 spIsWhole:=by
 refine FnAt.of d ZdU (fun vs H Q E h=>?_) (fun f cdv A outer s H vs Q E hr h=>?_)
 · obtain ⟨k,rfl,_⟩:=h
   rfl
 obtain ⟨k,rfl,q⟩:=h;refine ⟨_,(Zaf (Zak (Zc9 (ZaA (ZaP K) rfl B.isi ZaO (Zaa (pv 0) (Zaa (Zcn (v:=.ty "int") rfl B.int boot_int rfl) Zad))) (ZdD (Zh7 (ZaA (ZaP K) rfl B.isi ZaO (Zaa (pv 0) (Zaa (Zcn (v:=.ty "bool") rfl B.bool boot_bool rfl) Zad)))))))),?_⟩;walk_at "vc";exact q
theorem ok_check (cG:∃ t,mg "GREATEST"=some (.int 65535 t))(h_is_whole:FnAt P w K mg base "is_whole" ["thing"] 1 spIsWhole)(d:DefAt K mg "check_number" ZaX ["thing"]):FnAt P w K mg base "check_number" ["thing"] 2 spChk:=by
 obtain ⟨tG,c_GREATEST⟩:=cG;refine FnAt.of d Zct (fun vs H Q E h=>?_) (fun f cdv A outer s H vs Q E hr h=>?_)
 · obtain ⟨k,rfl,_⟩:=h
   rfl
 obtain ⟨n,rfl,hn,q⟩:=h;refine ⟨_,(Zaf (ZaF (PW.pt (Zgx (ZaY (ZaJ (Zaj h_is_whole (hr.mono (by decide)) rfl (Zaa (pv 0) Zad)))) (Ze0 (ZaY (Zgo ZdC ZdC Zag (pv 0) (Zav (v:=.int 65535) rfl c_GREATEST ⟨_,rfl⟩)))))) (Zaf (Zgv)) Zat)),?_⟩;walk_at "vc";refine ⟨_,rfl,_,rfl,?_⟩;rw [if_neg (by decide),if_pos (by omega),if_pos (by omega)];exact q
end
theorem ZgA (xs:List V)(k:Nat):cutV xs none (some (k:Int))=xs.take k:=by
 unfold cutV;rw [HT.sIx_none,HT.sIx_nat,List.drop_zero,Nat.sub_zero];rcases Nat.le_total k xs.length with h | h
 · rw [Nat.min_eq_left h]
 · rw [Nat.min_eq_right h,List.take_length,List.take_of_length_le h]
theorem ZgX (xs:List V)(k:Nat):cutV xs (some (k:Int)) none=xs.drop k:=by
 unfold cutV;rw [HT.sIx_none,HT.sIx_nat];rcases Nat.le_total k xs.length with h | h
 · rw [Nat.min_eq_left h,List.take_of_length_le (by rw [List.length_drop];omega)]
 · rw [Nat.min_eq_right h,List.drop_of_length_le h,List.drop_length,List.take_nil]
def spHKt (ts:Tabs)(pr:Int→Int→Bool)(df:Int):Sp:=fun vs H Q _=>∃ (a:Addr) (ks:List Int) (y:Int),vs=[.ref a,.int y]∧noT H a=some (.lst (ks.map V.int))∧ks.length≤1000∧Pre (pr y) ks∧Tbs ts H ∧
 ∀ t l H',Nx ts H H'→noT H t=none→noT H l=none→noT H' t=some (.tup [.int ((cnt (pr y) ks:Int)-df),.ref l])→noT H' l=some (.lst (pint (halv 0 ks.length (cnt (pr y) ks))))→Q (.ref t) H'
theorem hkT {ts:Tabs}{pr:Int→Int→Bool}{df:Int}{c P1:Addr}{qual:Str}{lp:Pos}(u:TabsUq ts)(hm:(P1,qual,lp)∈ts):∀ vs H Q E,spHKt ts pr df vs H Q E→spHK pr df c P1 qual lp vs H Q E:=by rintro vs H Q E ⟨a,ks,y,rfl,ha,hl,hp,hT,q⟩;exact ⟨a,ks,y,rfl,(Zae ha).1,hl,hp,hT _ hm,fun t l H' s t' f1 f2 h1 h2=>q t l H' (Tbs.grow u hT hm s t') (ZaT f1) (ZaT f2) (Zam h1 (nt _)) (Zam h2 (nl _))⟩
theorem pre_of {p:Int→Bool} (hd:∀ a b:Int,a<b→p b=true→p a=true):∀ {ks:List Int},ks.Pairwise (·<·)→Pre p ks
 | [],_=>fun i k h=>by cases h
 | x :: r,h=>by
   obtain ⟨h1,h2⟩:=List.pairwise_cons.mp h;cases hp:p x with
   | false =>
     have no:∀ k∈x::r,p k=false:=fun k hk=>by
       rcases List.mem_cons.mp hk with rfl | hk
       · exact hp
       · cases q:p k with
         | false=>rfl
         | true=>rw [hd x k (h1 k hk) q] at hp;cases hp
     have c0:cnt p (x::r)=0:=by unfold cnt;rw [List.length_eq_zero_iff,List.filter_eq_nil_iff];intro k hk;rw [no k hk];decide
     intro i k hk;rw [c0,no k (List.mem_of_getElem? hk)];simp
   | true =>
     have c1:cnt p (x::r)=cnt p r+1:=by unfold cnt;rw [List.filter_cons,if_pos hp];rfl
     intro i k hk;rw [c1];cases i with
     | zero=>cases (show x=k from Option.some.inj hk);rw [hp];simp
     | succ i =>
       rw [pre_of hd h2 i k hk];simp
theorem Zhi (ps:List Nat):pint ps=(ps.map fun (p:Nat)=>(p:Int)).map V.int:=by unfold pint;rw [List.map_map];rfl
theorem Zf0:∀ {a:Nat} {ps:List Nat},Up a ps→(ps.map fun (p:Nat)=>(p:Int)).Pairwise (·<·)
 | _,[],_=>.nil
 | a,p::r,h=>by
   refine List.pairwise_cons.mpr ⟨fun y hy=>?_,Zf0 h.2⟩;obtain ⟨x,hx,rfl⟩:=List.mem_map.mp hy;have:=Up.of_lt h.2 x hx;show (p:Int)<(x:Int);omega
theorem cnt_lo (k:Nat)(es:List Ent):cnt (fun x=>decide (x<(k:Int))) ((kys es).map fun (p:Nat)=>(p:Int))=(loE k es).length:=by unfold cnt kys loE;rw [List.map_map,List.filter_map,List.length_map];refine congrArg List.length (List.filter_congr fun e _=>?_);show decide ((e.key:Int)<(k:Int))=decide (e.key<k);rw [decide_eq_decide];omega
theorem Zhb {es:List Ent}(h:EsOk es):es.length≤256:=by
 have:=Up.lt256 h.up fun p hp=>by obtain ⟨e,he,rfl⟩:=List.mem_map.mp hp;exact h.klt e he
 unfold kys at this;rw [List.length_map] at this;exact this
theorem ZhD {es:List Ent}(k:Nat)(h:EsOk es):es[(loE k es).length]?=(miE k es++hiE k es).head?:=by
 have hs:es=loE k es++(miE k es++hiE k es):=by rw [← List.append_assoc];exact split k h.up
 have:(loE k es++(miE k es++hiE k es))[(loE k es).length]?=(miE k es++hiE k es).head?:=by rw [List.getElem?_append_right (Nat.le_refl _),Nat.sub_self,List.head?_eq_getElem?]
 rw [← hs] at this;exact this
theorem Ziz {es:List Ent}(k:Nat)(h:EsOk es):es.take (loE k es).length=loE k es:=by
 have hs:es=loE k es++(miE k es++hiE k es):=by rw [← List.append_assoc];exact split k h.up
 have:(loE k es++(miE k es++hiE k es)).take (loE k es).length=loE k es:=List.take_left;rw [← hs] at this;exact this
theorem drop_lo {es:List Ent}(k:Nat)(h:EsOk es):es.drop (loE k es).length=miE k es++hiE k es:=by
 have hs:es=loE k es++(miE k es++hiE k es):=by rw [← List.append_assoc];exact split k h.up
 have:(loE k es++(miE k es++hiE k es)).drop (loE k es).length=miE k es++hiE k es:=List.drop_left;rw [← hs] at this;exact this
theorem len_lo {es:List Ent}(k:Nat):(loE k es).length≤es.length:=List.length_filter_le _ _
theorem Zf1 {ks:List Nat}{i x:Nat}(h:ks[i]?=some x):atI (pint ks) (i:Int)=some (.int (x:Nat)):=Zem (by unfold pint;rw [List.getElem?_map,h];rfl)
theorem Zig {es:List Ent}{i:Nat}{e:Ent}(h:es[i]?=some e):(kys es)[i]?=some e.key:=by unfold kys;rw [List.getElem?_map,h];rfl
structure MkAt (c:Kd→Addr)(CM:Addr)(H:Hp)(m:Addr)(es:List Ent):Prop where
 ex:∃ dx kd ah sr:Addr,H m=some (.ins CM dx [("keyed",.ref kd),("aheads",.ref ah),("stretches",.ref sr),("held",.int (tot es:Nat))])∧H kd=some (.lst (pint (kys es)))∧H ah=some (.lst (pint (ahs 0 es)))∧H sr=some (.lst (es.map fun e=>V.ref e.loc))
 st:∀ e∈es,StAt c (kdOf e.ps) H e.loc e.ps
theorem MkAt.same {c:Kd→Addr}{CM:Addr}{H H':Hp}{m:Addr}{es:List Ent}(h:MkAt c CM H m es)(s:Same H H'):MkAt c CM H' m es:=by obtain ⟨⟨dx,kd,ah,sr,h1,h2,h3,h4⟩,st⟩:=h;exact ⟨⟨dx,kd,ah,sr,s _ _ h1,s _ _ h2,s _ _ h3,s _ _ h4⟩,fun e he=>(st e he).same s⟩
def noM (fs:List (Str × V)):Prop:=fs.lookup (Str.ofString "found")=none∧fs.lookup (Str.ofString "stands")=none∧fs.lookup (Str.ofString "ahead_of")=none∧fs.lookup (Str.ofString "stretch_at")=none∧fs.lookup (Str.ofString "keep")=none∧fs.lookup (Str.ofString "has")=none∧fs.lookup (Str.ofString "put")=none∧fs.lookup (Str.ofString "take")=none∧fs.lookup (Str.ofString "below")=none∧fs.lookup (Str.ofString "below_looks")=none∧fs.lookup (Str.ofString "numbers")=none∧fs.lookup (Str.ofString "many")=none∧fs.lookup (Str.ofString "chosen")=none∧fs.lookup (Str.ofString "onward")=none∧fs.lookup (Str.ofString "backward")=none∧fs.lookup (Str.ofString "word_at")=none
theorem noM_of (a b d e:V):noM [("keyed",a),("aheads",b),("stretches",d),("held",e)]:=⟨rfl,rfl,rfl,rfl,rfl,rfl,rfl,rfl,rfl,rfl,rfl,rfl,rfl,rfl,rfl,rfl⟩
theorem MkAt.obj {c:Kd→Addr}{CM:Addr}{H:Hp}{m:Addr}{es:List Ent}(h:MkAt c CM H m es):∃ dx fs,H m=some (.ins CM dx fs)∧noM fs:=by obtain ⟨dx,kd,ah,sr,h1,_⟩:=h.ex;exact ⟨dx,_,h1,noM_of _ _ _ _⟩
def stV (k:Nat)(es:List Ent):V:=match miE k es with
 | []=>.non
 | e::_=>.ref e.loc
def spFound (c:Kd→Addr)(CM:Addr)(ts:Tabs):Sp:=fun vs H Q _=>∃ (m:Addr) (k:Nat) (es:List Ent),vs=[.ref m,.int k]∧MkAt c CM (noT H) m es∧EsOk es∧Tbs ts H∧∀ H',Nx ts H H'→Q (.int (loE k es).length) H'
def spStands (c:Kd→Addr)(CM:Addr):Sp:=fun vs H Q _=>∃ (m:Addr) (k:Nat) (es:List Ent),vs=[.ref m,.int (loE k es).length,.int k]∧MkAt c CM (noT H) m es∧EsOk es∧Q (.bl (decide (miE k es≠[]))) H
def spAhead (c:Kd→Addr)(CM:Addr):Sp:=fun vs H Q _=>∃ (m:Addr) (i:Nat) (es:List Ent),vs=[.ref m,.int i]∧MkAt c CM (noT H) m es∧i≤es.length∧Q (.int (tot (es.take i):Nat)) H
def spStAt (c:Kd→Addr)(CM:Addr)(ts:Tabs):Sp:=fun vs H Q _=>∃ (m:Addr) (k:Nat) (es:List Ent),vs=[.ref m,.int k]∧MkAt c CM (noT H) m es∧EsOk es∧Tbs ts H∧∀ H',Nx ts H H'→Q (stV k es) H'
section
variable {P:Program}{w:World}{K:PySem.W.Frag}{mg:Str→Option Value}{base:Heap}{c:Kd→Addr}{CM:Addr}{ts:Tabs}
theorem ok_found (h_halved_keys:FnAt P w K mg base "halved_keys" ["keys","key"] 3 (spHKt ts (fun y k=>decide (k<y)) 0))(cd:CD_Marks K mg CM):MethAt P w K mg base CM "found" ["self","key"] 4 (spFound c CM ts):=by
 refine MethAt.of cd.c cd.m_found ZeP (fun vs H Q E h=>?_) (fun f cdv A outer s H vs Q E hr h=>?_)
 · obtain ⟨m,k,es,rfl,_⟩:=h
   rfl
 obtain ⟨m,k,es,rfl,hm,ok,ht,q⟩:=h;obtain ⟨dx,kd,ah,sr,h1,h2,h3,h4⟩:=hm.ex;refine ⟨_,(Zaf (Zak (Zca (Zih K) (Zaj h_halved_keys (hr.mono (by decide)) rfl (Zaa (Zao K (pv 0)) (Zaa (pv 1) Zad))) Zag (fun _ _=>rfl)))),?_⟩;walk_at "vc";refine ⟨_,_,_,(Zae h1).1,cd.c,cd.n_keyed,.ref kd,rfl,kd,_,k,rfl,by rw [h2,Zhi],?_,pre_of (fun a b h p=>decide_eq_true (Int.lt_trans h (of_decide_eq_true p))) (Zf0 ok.up),ht,fun t l H' nx f1 f2 g1 g2=>?_⟩
 · have:=Zhb ok
   rw [List.length_map];unfold kys;rw [List.length_map];omega
 · refine ⟨t,rfl,_,SqT.of (Zae g1).1,_,rfl,?_⟩
   rw [cnt_lo,Int.sub_zero];exact q H' nx
theorem ZiZ (B:Blt mg) (cd:CD_Marks K mg CM):MethAt P w K mg base CM "stands" ["self","at","key"] 1 (spStands c CM):=by
 refine MethAt.of cd.c cd.m_stands Zd9 (fun vs H Q E h=>?_) (fun f cdv A outer s H vs Q E hr h=>?_)
 · obtain ⟨m,k,es,rfl,_⟩:=h
   rfl
 obtain ⟨m,k,es,rfl,hm,ok,q⟩:=h;obtain ⟨dx,kd,ah,sr,h1,h2,h3,h4⟩:=hm.ex;refine ⟨_,(Zaf (Zak (Zc9 (Zbz ZfD (pv 1) (ZaA (ZcZ K) rfl B.len PySem.boot_len (Zaa (Zao K (pv 0)) Zad)) (nomark _)) (ZdD (Zbz Zbw (Zca (Za0 K) (Zao K (pv 0)) (pv 1) (fun _ _=>rfl)) (pv 2) (nomark _)))))),?_⟩;walk_at "vc";have hkd:=(Zae h2).1;have hm1:=(Zae h1).1;refine ⟨_,_,_,hm1,cd.c,cd.n_keyed,.ref kd,rfl,kd,rfl,_,.inl (SqL.of hkd),?_⟩;have lk:(pint (kys es)).length=es.length:=by rw [Zaq];unfold kys;rw [List.length_map]
 rw [lk];have g:=ZhD k ok;by_cases lt:(loE k es).length<es.length
 · rw [if_pos (by omega)]
   rw [List.getElem?_eq_getElem lt] at g;have ge:es[(loE k es).length]?=some es[(loE k es).length]:=List.getElem?_eq_getElem lt;refine ⟨_,_,_,hm1,cd.c,cd.n_keyed,.ref kd,rfl,kd,rfl,_,SqL.of hkd,_,Zf1 (Zig ge),rfl,?_⟩;have e:decide (V.int ((es[(loE k es).length].key:Nat):Int)=V.int (k:Int))=decide (miE k es≠[]):=by
     rcases Zb1 k ok.up with z | ⟨e,z1,z2,z3⟩
     · rw [z,List.nil_append] at g
       have hh:es[(loE k es).length]∈hiE k es:=List.mem_of_head? g.symm;have:=(Zgi hh).2;rw [decide_eq_false (by simp;omega),decide_eq_false (by simp [z])]
     · rw [z1] at g
       have:es[(loE k es).length]=e:=Option.some.inj g;rw [this,z2,z1];simp
   rw [e];exact q
 · rw [if_neg (by omega)]
   have z:miE k es=[]:=by rw [List.getElem?_eq_none (by omega)] at g;have:=List.head?_eq_none_iff.mp g.symm;exact (List.append_eq_nil_iff.mp this).1
   rw [decide_eq_false (by simp [z])] at q;exact q
theorem ok_ahead (B:Blt mg)(cd:CD_Marks K mg CM):MethAt P w K mg base CM "ahead_of" ["self","at"] 1 (spAhead c CM):=by
 refine MethAt.of cd.c cd.m_ahead_of Zdj (fun vs H Q E h=>?_) (fun f cdv A outer s H vs Q E hr h=>?_)
 · obtain ⟨m,k,es,rfl,_⟩:=h
   rfl
 obtain ⟨m,i,es,rfl,hm,hi,q⟩:=h;obtain ⟨dx,kd,ah,sr,h1,h2,h3,h4⟩:=hm.ex;refine ⟨_,(Zaf (Zak (ZbK (Zas ZfD (pv 1) (ZaA (ZcZ K) rfl B.len PySem.boot_len (Zaa (Zao K (pv 0)) Zad)) (nomark _)) (Zca (Za0 K) (Zao K (pv 0)) (pv 1) (fun _ _=>rfl)) (Zao K (pv 0))))),?_⟩;walk_at "vc";have hah:=(Zae h3).1;have hm1:=(Zae h1).1;refine ⟨_,_,_,hm1,cd.c,cd.n_aheads,.ref ah,rfl,ah,rfl,_,.inl (SqL.of hah),?_⟩;rw [Zaq,ZbR];by_cases lt:i<es.length
 · rw [if_pos (by omega)]
   have g:=Zgl 0 es i lt;rw [Nat.zero_add] at g;exact ⟨_,_,_,hm1,cd.c,cd.n_aheads,.ref ah,rfl,ah,rfl,_,SqL.of hah,_,Zf1 g,q⟩
 · rw [if_neg (by omega)]
   rw [List.take_of_length_le (by omega)] at q;exact ⟨_,_,_,hm1,cd.c,cd.n_held,_,rfl,q⟩
theorem Ze6 (h_found:MethAt P w K mg base CM "found" ["self","key"] 4 (spFound c CM ts))(h_stands:MethAt P w K mg base CM "stands" ["self","at","key"] 1 (spStands c CM))(cd:CD_Marks K mg CM):MethAt P w K mg base CM "stretch_at" ["self","key"] 5 (spStAt c CM ts):=by
 refine MethAt.of cd.c cd.m_stretch_at sc_Marks_stretch_at (fun vs H Q E h=>?_) (fun f cdv A outer s H vs Q E hr h=>?_)
 · obtain ⟨m,k,es,rfl,_⟩:=h
   rfl
 obtain ⟨m,k,es,rfl,hm,ok,ht,q⟩:=h;obtain ⟨dx,fs,ho,nf⟩:=hm.obj;refine ⟨_,(Zac (Zal (i:=2) sc_Marks_stretch_at.nd rfl (by walk_at "l") (Zau (P:=P) (w:=w) (K:=K) (mg:=mg) (base:=base) 4 (hr.mono (by decide)) (pv 0) (Zaa (pv 1) Zad)))
     (Zaf (Zak (ZbK (ZaJ (Zau (P:=P) (w:=w) (K:=K) (mg:=mg) (base:=base) 1 (hr.mono (by decide)) (pv 0) (Zaa (pv 2) (Zaa (pv 1) Zad)))) (Zca (Za0 K) (Zao K (pv 0)) (pv 2) (fun _ _=>rfl)) ZaU)))),?_⟩
 walk_at "vc";refine ⟨_,_,_,(Zae ho).1,nf.1,_,_,h_found,m,k,es,rfl,hm,ok,ht,fun H' nx=>?_⟩;have hm2:=hm.same nx.same;refine ⟨_,_,_,(Zae (nx.at ho)).1,nf.2.1,_,_,h_stands,m,k,es,rfl,hm2,ok,_,rfl,?_⟩;have q:=q H' nx;unfold stV at q;have g:=ZhD k ok;rcases Zb1 k ok.up with z | ⟨e,z1,z2,z3⟩
 · rw [z] at q
   rw [decide_eq_false (by simp [z]),if_neg (by decide)];exact q
 · rw [z1] at q g
   obtain ⟨dx2,kd,ah,sr,h1,h2,h3,h4⟩:=hm2.ex;rw [decide_eq_true (by simp [z1]),if_pos rfl];walk_at "vc";refine ⟨_,_,_,(Zae h1).1,cd.c,cd.n_stretches,.ref sr,rfl,sr,rfl,_,SqL.of (Zae h4).1,.ref e.loc,Zem (by rw [List.getElem?_map,g];rfl),q⟩
end
def KeptA (c:Kd→Addr)(H:Hp)(ps:List Nat)(v:V)(a:Addr):Prop:=(ps=[]→v=.non)∧(ps≠[]→v=.ref a∧StAt c (kdOf ps) H a ps)
theorem KeptIs.at {c:Kd→Addr}{H:Hp}{ps:List Nat}{v:V}(h:KeptIs c H ps v):∃ a,KeptA c H ps v a:=by
 by_cases e:ps=[]
 · exact ⟨0,fun _=>h.1 e,fun n=>absurd e n⟩
 · obtain ⟨x,rfl,st⟩:=h.2 e
   exact ⟨x,fun z=>absurd z e,fun _=>⟨rfl,st⟩⟩
theorem KeptA.same {c:Kd→Addr}{H H':Hp}{ps:List Nat}{v:V}{a:Addr}(h:KeptA c H ps v a)(s:Same H H'):KeptA c H' ps v a:=⟨h.1,fun e=>⟨(h.2 e).1,(h.2 e).2.same s⟩⟩
theorem tups_noT {H:Hp}{vs:List V}{rs:List (Nat × Nat)}(h:Tups H vs rs):Tups (noT H) vs rs:=Paired.mapP h fun _ _ ⟨t,e,ht⟩=>⟨t,e,Zam ht (nt _)⟩
theorem StAt.noT {c:Kd→Addr}{k:Kd}{H:Hp}{a:Addr}{ps:List Nat}(h:StAt c k H a ps):StAt c k (noT H) a ps:=by
 cases k with
 | l=>obtain ⟨dx,l,e,h⟩:=h;exact ⟨dx,l,Zam e (ni _ _ _),Zam h (nl _)⟩
 | b=>obtain ⟨dx,e⟩:=h;exact ⟨dx,Zam e (ni _ _ _)⟩
 | r =>
   obtain ⟨dx,l,e,us,h,t⟩:=h;refine ⟨dx,l,Zam e (ni _ _ _),us,Zam h (nl _),?_⟩;exact tups_noT t
theorem KeptIs.noT {c:Kd→Addr}{H:Hp}{ps:List Nat}{v:V}(h:KeptIs c H ps v):KeptIs c (noT H) ps v:=⟨h.1,fun e=>let ⟨x,a,b⟩:=h.2 e;⟨x,a,b.noT⟩⟩
theorem rep_one (ps:List Nat)(y:V):(List.replicate (if ps=[] then 0 else 1:Int).toNat [y]).flatten=if ps=[] then [] else [y]:=by
 by_cases e:ps=[]
 · rw [if_pos e,if_pos e];rfl
 · rw [if_neg e,if_neg e];rfl
theorem drop_hi {es:List Ent}(k:Nat)(h:EsOk es):es.drop ((loE k es).length+(miE k es).length)=hiE k es:=by rw [← List.drop_drop,drop_lo k h,List.drop_left]
theorem Zhh {es:List Ent}{k:Nat}{ps:List Nat}{a:Nat}(f:Ent→V){y:V}(h:EsOk es)(hy:ps≠[]→y=f ⟨k,ps,a⟩) :
   (es.map f).take (loE k es).length++(if ps=[] then [] else [y])++(es.map f).drop ((loE k es).length+(miE k es).length)=(keepE k ps a es).map f:=by
 rw [← List.map_take,← List.map_drop,Ziz k h,drop_hi k h];unfold keepE;rw [List.map_append,List.map_append];by_cases e:ps=[]
 · rw [if_pos e,if_pos e];rfl
 · rw [if_neg e,if_neg e,hy e];rfl
theorem Zhc (es:List Ent):pint (kys es)=es.map fun e=>V.int (e.key:Nat):=by unfold pint kys;rw [List.map_map];rfl
theorem tot_mi {es:List Ent}(k:Nat)(h:EsOk es):tot es=tot (loE k es)+tot (miE k es)+tot (hiE k es):=by have:=congrArg tot (split k h.up);rw [ZaK,ZaK] at this;exact this
theorem ahs_take {es:List Ent}(k:Nat)(h:EsOk es):(pint (ahs 0 es)).take (loE k es).length=pint (ahs 0 (loE k es)):=by
 have hs:es=loE k es++(miE k es++hiE k es):=by rw [← List.append_assoc];exact split k h.up
 have:(pint (ahs 0 (loE k es++(miE k es++hiE k es)))).take (loE k es).length=pint (ahs 0 (loE k es)):=by rw [ZbL];unfold pint;rw [List.map_append,List.take_left' (by rw [List.length_map,ZbR])]
 rw [← hs] at this;exact this
theorem ahs_drop {es:List Ent}(k:Nat)(h:EsOk es):(pint (ahs 0 es)).drop ((loE k es).length+(miE k es).length)=pint (ahs (tot (loE k es)+tot (miE k es)) (hiE k es)):=by
 have hs:es=(loE k es++miE k es)++hiE k es:=split k h.up;have:(pint (ahs 0 ((loE k es++miE k es)++hiE k es))).drop ((loE k es).length+(miE k es).length)=pint (ahs (tot (loE k es)+tot (miE k es)) (hiE k es)):=by rw [ZbL];unfold pint;rw [List.map_append,List.drop_left' (by rw [List.length_map,ZbR,List.length_append]),ZaK,Nat.zero_add]
 rw [← hs] at this;exact this
theorem ahs_keep {es:List Ent}{k:Nat}{ps:List Nat}{a:Nat}:ahs 0 (keepE k ps a es)=ahs 0 (loE k es)++(if ps=[] then [] else [tot (loE k es)])++ahs (tot (loE k es)+ps.length) (hiE k es):=by
 unfold keepE;rw [ZbL,ZbL,ZaK];by_cases e:ps=[]
 · rw [if_pos e,if_pos e,e]
   show ahs 0 (loE k es)++[]++ahs (0+(tot (loE k es)+0)) (hiE k es)=_;rw [Nat.zero_add];rfl
 · rw [if_neg e,if_neg e]
   show ahs 0 (loE k es)++[0+tot (loE k es)]++ahs (0+(tot (loE k es)+(ps.length+0))) (hiE k es)=_;rw [Nat.zero_add,Nat.zero_add,Nat.add_zero]
theorem tot_keep {es:List Ent}{k:Nat}{ps:List Nat}{a:Nat}:tot (keepE k ps a es)=tot (loE k es)+ps.length+tot (hiE k es):=by
 unfold keepE;rw [ZaK,ZaK];by_cases e:ps=[]
 · rw [if_pos e,e];rfl
 · rw [if_neg e];rfl
theorem Zg2 {es:List Ent}(k:Nat)(h:EsOk es):tot (es.take ((loE k es).length+(miE k es).length))=tot (loE k es)+tot (miE k es):=by have hs:es=(loE k es++miE k es)++hiE k es:=split k h.up;have:((loE k es++miE k es)++hiE k es).take ((loE k es).length+(miE k es).length)=loE k es++miE k es:=List.take_left' (by rw [List.length_append]);rw [← hs] at this;rw [this,ZaK]
section
variable {K:PySem.W.Frag}{m C dx l:Addr}{fs:List (Str × V)}{f:Str}{xs:List V}{n:Nat}{v1 v2 v3 v4 v5 v6 v7:Option V}{H:Hp}{Q:VK}
theorem cat_a {i:Nat}{y:V}{ps:List Nat}(hc:Cls K C)(hna:NoAttr K C f)(ho:H m=some (.ins C dx fs))(hf:fs.lookup f=some (.ref l))(hl:H l=some (.lst xs))(lx:xs.length≤900)(hi:[some (.ref m),v1,v2,some (.int (n:Nat)),v4,v5,v6,some (.int (if ps=[] then 0 else 1))][i]?=some (some y))
   (q:∀ p H',Same H H'→H p=none→H' p=some (.lst (xs.take n++(if ps=[] then [] else [y])))→Q (.ref p) H') :
   tOp rCat (tSl (rSlL K) (tFld K (tVar 0) f) tNoPart (tPart (tVar 3))) (tOp rRep (tLst (tCons (tVar i) tNil)) (tVar 7)) [some (.ref m),v1,v2,some (.int (n:Nat)),v4,v5,v6,some (.int (if ps=[] then 0 else 1))] H Q:=by
 simp only [ZeE,ZfX,Zep,Zdx,Zck,Zdz,Zec,Zgf,ZeC,ZfM,ZfR,Zek];refine ⟨_,rfl,_,_,_,_,_,rfl,ho,hc,hna,hf,_,rfl,_,rfl,_,_,rfl,SqL.of hl,fun p1 n1=>⟨y,hi,by show 1≤sizeLine;decide,fun p2 n2=>⟨_,rfl,?_⟩⟩⟩;rw [ZgA] at n2 ⊢;have s1:=Same.new (o:=.lst (xs.take n)) n1;have g1:upd H p1 (.lst (xs.take n)) p1=some (.lst (xs.take n)):=Zab;generalize upd H p1 (.lst (xs.take n))=H1 at n2 s1 g1 ⊢;have s2:=Same.new (o:=.lst [y]) n2;have g2:upd H1 p2 (.lst [y]) p2=some (.lst [y]):=Zab;have g1:=s2 _ _ g1;generalize upd H1 p2 (.lst [y])=H2 at s2 g1 g2 ⊢;refine ⟨_,_,_,rfl,rfl,g2,?_,?_,?_,fun p3 n3=>?_⟩
 · split<;>decide
 · split<;>decide
 · show 1*_≤sizeLine
   split<;>decide
 rw [rep_one];have s3:=Same.new (o:=.lst (if ps=[] then [] else [y])) n3;have g3:upd H2 p3 (.lst (if ps=[] then [] else [y])) p3=some (.lst (if ps=[] then [] else [y])):=Zab;have g1:=s3 _ _ g1;generalize upd H2 p3 (.lst (if ps=[] then [] else [y]))=H3 at s3 g1 g3 ⊢;refine ⟨_,_,_,_,rfl,rfl,g1,g3,?_,fun p4 n4=>?_⟩
 · have:(if ps=[] then [] else [y]).length≤1:=by split<;>simp
   rw [List.length_take];exact Nat.le_of_lt (small1000 (by omega))
 · have S:=s1.trans (s2.trans s3)
   exact q p4 _ (S.trans (Same.new n4)) (S.free n4) Zab
theorem cat_b (hc:Cls K C)(hna:NoAttr K C f)(ho:H m=some (.ins C dx fs))(hf:fs.lookup f=some (.ref l))(hl:H l=some (.lst xs))(q:∀ p H',Same H H'→H p=none→H' p=some (.lst (xs.drop n))→Q (.ref p) H') :
   tSl (rSlL K) (tFld K (tVar 0) f) (tPart (tVar 4)) tNoPart [some (.ref m),v1,v2,v3,some (.int (n:Nat)),v5,v6,v7] H Q:=by
 simp only [ZfX,Zep,Zdx,Zck,Zdz,Zec];refine ⟨_,rfl,_,_,_,_,_,rfl,ho,hc,hna,hf,_,rfl,_,rfl,_,_,rfl,SqL.of hl,fun p1 n1=>?_⟩;rw [ZgX];exact q _ _ (Same.new n1) n1 Zab
theorem ZiE {i j:Nat}{y:V}{ps:List Nat}{D:Ends}(hc:Cls K C)(hna:NoAttr K C f)(ho:H m=some (.ins C dx fs))(hf:fs.lookup f=some (.ref l))(hl:H l=some (.lst xs))(lx:xs.length≤400)(lf:fs.length<1000)(hi:[some (.ref m),v1,v2,some (.int (n:Nat)),some (.int (j:Nat)),v5,v6,some (.int (if ps=[] then 0 else 1))][i]?=some (some y))
   (q:∀ p H',Same H H'→H p=none→H' p=some (.lst (xs.take n++(if ps=[] then [] else [y])++xs.drop j))→D.nx [some (.ref m),v1,v2,some (.int (n:Nat)),some (.int (j:Nat)),v5,v6,some (.int (if ps=[] then 0 else 1))] (upd H' m (.ins C dx (putF f (.ref p) fs)))) :
   sFld K (tVar 0) (tOp rCat (tOp rCat (tSl (rSlL K) (tFld K (tVar 0) f) tNoPart (tPart (tVar 3))) (tOp rRep (tLst (tCons (tVar i) tNil)) (tVar 7))) (tSl (rSlL K) (tFld K (tVar 0) f) (tPart (tVar 4)) tNoPart)) f D [some (.ref m),v1,v2,some (.int (n:Nat)),some (.int (j:Nat)),v5,v6,some (.int (if ps=[] then 0 else 1))] H:=by
 rw [Zeq,ZeE];refine cat_a hc hna ho hf hl (by omega) hi fun p1 H1 s1 n1 g1=>cat_b hc hna (s1 _ _ ho) hf (s1 _ _ hl) fun p2 H2 s2 n2 g2=>?_
 rw [Zek];refine ⟨_,_,_,_,rfl,rfl,s2 _ _ g1,g2,?_,fun p3 n3=>?_⟩
 · have:(if ps=[] then [] else [y]).length≤1:=by split<;>simp
   rw [List.length_append,List.length_take,List.length_drop];exact Nat.le_of_lt (small1000 (by omega))
 · have S:=s1.trans s2
   have S3:=S.trans (Same.new (o:=.lst (xs.take n++(if ps=[] then [] else [y])++xs.drop j)) n3);simp only [Zdx];exact ⟨_,rfl,_,_,_,_,rfl,S3 _ _ ho,hc,hna,lf,q p3 _ S3 (S.free n3) Zab⟩
end
def Four (o:HO):Prop:=∃ C dx a b d e,o=.ins C dx [("keyed",a),("aheads",b),("stretches",d),("held",e)]
theorem StAt.nb {c:Kd→Addr}{k:Kd}{H H':Hp}{m x:Addr}{ps:List Nat}{o:HO}(h:StAt c k H x ps)(hm:H m=some o)(f:Four o)(s:∀ b o,b≠m→H b=some o→H' b=some o):StAt c k H' x ps:=by
 obtain ⟨C,dx0,f1,f2,f3,f4,rfl⟩:=f;cases k with
 | l =>
   obtain ⟨dx,l,e,h⟩:=h;refine ⟨dx,l,s _ _ (fun z=>?_) e,s _ _ (fun z=>?_) h⟩
   · rw [z,hm] at e;cases e
   · rw [z,hm] at h;cases h
 | b =>
   obtain ⟨dx,e⟩:=h;refine ⟨dx,s _ _ (fun z=>?_) e⟩;rw [z,hm] at e;cases e
 | r =>
   obtain ⟨dx,l,e,us,h,t⟩:=h;refine ⟨dx,l,s _ _ (fun z=>?_) e,us,s _ _ (fun z=>?_) h,Paired.mapP t fun _ _ ⟨t,e,ht⟩=>⟨t,e,s _ _ (fun z=>?_) ht⟩⟩
   · rw [z,hm] at e;cases e
   · rw [z,hm] at h;cases h
   · rw [z,hm] at ht;cases ht
theorem MkAt.four {c:Kd→Addr}{CM:Addr}{H:Hp}{m:Addr}{es:List Ent}(h:MkAt c CM H m es):∃ o,H m=some o∧Four o:=by obtain ⟨dx,kd,ah,sr,h1,_⟩:=h.ex;exact ⟨_,h1,_,_,_,_,_,_,rfl⟩
def fAdd (m:Int):V→V
 | .int c=>.int (c+m)
 | v=>v
theorem Zjg (m:Int)(zs:List Nat):(pint zs).map (fAdd m)=zs.map fun (x:Nat)=>V.int ((x:Int)+m):=by unfold pint;rw [List.map_map];rfl
def spKeep (c:Kd→Addr)(CM:Addr)(ts:Tabs):Sp:=fun vs H Q _=>∃ (m:Addr) (k:Nat) (es:List Ent) (ps:List Nat) (v:V) (a:Addr),vs=[.ref m,.int k,v]∧MkAt c CM (noT H) m es∧EsOk es∧KeptA c (noT H) ps v a∧Up 0 ps∧(∀ p∈ps,p<256)∧Tbs ts H∧∀ H',Nb ts m H H'→MkAt c CM (noT H') m (keepE k ps a es)→Q .non H'
section
variable {P:Program}{w:World}{K:PySem.W.Frag}{mg:Str→Option Value}{base:Heap}{c:Kd→Addr}{CM:Addr}{ts:Tabs}
theorem ok_keep (h_found:MethAt P w K mg base CM "found" ["self","key"] 4 (spFound c CM ts))(h_stands:MethAt P w K mg base CM "stands" ["self","at","key"] 1 (spStands c CM))(h_ahead:MethAt P w K mg base CM "ahead_of" ["self","at"] 1 (spAhead c CM))(hn:∀ k,MethAt P w K mg base (c k) "many" ["self"] 5 (spManyM c k))(cd:CD_Marks K mg CM):MethAt P w K mg base CM "keep" ["self","key","stretch"] 6 (spKeep c CM ts):=by
 refine MethAt.of cd.c cd.m_keep sc_Marks_keep (fun vs H Q E h=>?_) (fun f cdv A outer s H vs Q E hr h=>?_)
 · obtain ⟨m,k,es,ps,v,a,rfl,_⟩:=h
   rfl
 obtain ⟨m,k,es,ps,v,a,rfl,hm,ok,hv,up,lt,ht,q⟩:=h;obtain ⟨dx,fs,ho,nf⟩:=hm.obj;refine ⟨_,(Zac (Zal (i:=3) sc_Marks_keep.nd rfl (by walk_at "l") (Zau (P:=P) (w:=w) (K:=K) (mg:=mg) (base:=base) 4 (hr.mono (by decide)) (pv 0) (Zaa (pv 1) Zad)))
     (Zc0 (Zal (i:=4) sc_Marks_keep.nd rfl (by walk_at "l") (ZbK (ZaJ (Zau (P:=P) (w:=w) (K:=K) (mg:=mg) (base:=base) 1 (hr.mono (by decide)) (pv 0) (Zaa (pv 3) (Zaa (pv 1) Zad)))) (Zai ZaD (pv 3) Zag) (pv 3)))
     (Zac (Zal (i:=5) sc_Marks_keep.nd rfl (by walk_at "l") (Zau (P:=P) (w:=w) (K:=K) (mg:=mg) (base:=base) 1 (hr.mono (by decide)) (pv 0) (Zaa (pv 3) Zad)))
     (Zc0 (Zal (i:=6) sc_Marks_keep.nd rfl (by walk_at "l") (Zai Za2 (ZbK (Zas ZdL (pv 2) ZaU (nomark _)) Zag (ZaR (P:=P) (w:=w) (K:=K) (mg:=mg) (base:=base) 5 (hr.mono (by decide)) (pv 2))) (Zai Za2 (Zau (P:=P) (w:=w) (K:=K) (mg:=mg) (base:=base) 1 (hr.mono (by decide)) (pv 0) (Zaa (pv 4) Zad)) (pv 5))))
     (Zc0 (Zal (i:=7) sc_Marks_keep.nd rfl (by walk_at "l") (ZbK (Zas ZdL (pv 2) ZaU (nomark _)) Zag Zag))
     (Zc0 (ZaC K (pv 0) (Zai ZdP (Zai ZdP (Zbt (Zbu K) (Zao K (pv 0)) Zcl (ZbA (pv 3))) (Zai ZhY (ZaM (Zaa (pv 1) Zad)) (pv 7))) (Zbt (Zbu K) (Zao K (pv 0)) (ZbA (pv 4)) Zcl)))
     (Zc0 (ZaC K (pv 0) (Zai ZdP (Zai ZdP (Zbt (Zbu K) (Zao K (pv 0)) Zcl (ZbA (pv 3))) (Zai ZhY (ZaM (Zaa (pv 5) Zad)) (pv 7))) (ZfZ ["each"] [6] rfl (Za5 K (Zbt (Zbu K) (Zao K (pv 0)) (ZbA (pv 4)) Zcl)) (fun _ _ _ _ _=>ZaH (i:=0) (by show List.Nodup (["each","more"]:List Str);decide +kernel) rfl (Or.inl rfl)) (fun _ _ _ _ _=>Zix) (fun _ _ _ _ _=>(Zai ZaD (pv 0) (pv 1))) ⟨⟨_,rfl,rfl,.inl rfl⟩,trivial⟩ ZdI)))
     (Zc0 (ZaC K (pv 0) (Zai ZdP (Zai ZdP (Zbt (Zbu K) (Zao K (pv 0)) Zcl (ZbA (pv 3))) (Zai ZhY (ZaM (Zaa (pv 2) Zad)) (pv 7))) (Zbt (Zbu K) (Zao K (pv 0)) (ZbA (pv 4)) Zcl)))
     (Zaf (ZaC K (pv 0) (Zai ZaD (Zao K (pv 0)) (pv 6)))))))))))),?_⟩
 have ll:=len_lo (es:=es) k;have lm:(loE k es).length+(miE k es).length≤es.length:=by have:=congrArg List.length (split k ok.up);rw [List.length_append,List.length_append] at this;omega
 walk_at "vc";refine ⟨_,_,_,(Zae ho).1,nf.1,_,_,h_found,m,k,es,rfl,hm,ok,ht,fun H1 nx=>?_⟩;refine ⟨fun σ H2=>σ=[some (.ref m),some (.int k),some v,some (.int (loE k es).length),some (.int (((loE k es).length+(miE k es).length:Nat):Int)),none,none,none]∧H2=H1,?_,?_⟩
 · have hm2:=hm.same nx.same
   have ho:=nx.at ho;walk_at "vc";refine ⟨_,_,_,(Zae ho).1,nf.2.1,_,_,h_stands,m,k,es,rfl,hm2,ok,_,rfl,?_⟩;rcases Zb1 k ok.up with z | ⟨e,z1,z2,z3⟩
   · rw [decide_eq_false (by simp [z]),if_neg (by decide),z]
     exact ⟨rfl,rfl⟩
   · rw [decide_eq_true (by simp [z1]),if_pos rfl,z1]
     walk_at "vc";show ((loE k es).length:Int)+1=(((loE k es).length+1:Nat):Int)
     omega
 rintro σ Ha ⟨rfl,rfl⟩;have hm:=hm.same nx.same;have hv:=hv.same nx.same;have ho:=nx.at ho;walk_at "vc";refine ⟨_,_,_,(Zae ho).1,nf.2.2.1,_,_,h_ahead,m,_,es,rfl,hm,ll,?_⟩;rw [Ziz k ok];refine ⟨fun σ H2=>σ=[some (.ref m),some (.int k),some v,some (.int (loE k es).length),some (.int (((loE k es).length+(miE k es).length:Nat):Int)),some (.int (tot (loE k es):Nat)),some (.int ((ps.length:Int)-(tot (miE k es):Nat))),none]∧H2=Ha,?_,?_⟩
 · walk_at "vc"
   by_cases e0:ps=[]
   · rw [if_pos (hv.1 e0)]
     refine ⟨_,_,_,(Zae ho).1,nf.2.2.1,_,_,h_ahead,m,_,es,rfl,hm,lm,_,rfl,?_,rfl⟩;rw [Zg2 k ok,e0];show 0-(((tot (loE k es)+tot (miE k es):Nat):Int)-_)=((0:Nat):Int)-_;omega
   · obtain ⟨rfl,st⟩:=hv.2 e0
     obtain ⟨dx2,fs2,ho2,nf2⟩:=(st.same noT_sub).obj;rw [if_neg (by intro z;cases z)];refine ⟨_,rfl,_,_,_,ho2,nf2.2.2.2.2.2.1,_,_,hn _,a,ps,rfl,st.same noT_sub,up,lt,?_⟩;refine ⟨_,_,_,(Zae ho).1,nf.2.2.1,_,_,h_ahead,m,_,es,rfl,hm,lm,_,rfl,_,rfl,?_,rfl⟩;rw [Zg2 k ok];omega
 rintro σ Hb ⟨rfl,rfl⟩;refine ⟨fun σ H2=>σ=[some (.ref m),some (.int k),some v,some (.int (loE k es).length),some (.int (((loE k es).length+(miE k es).length:Nat):Int)),some (.int (tot (loE k es):Nat)),some (.int ((ps.length:Int)-(tot (miE k es):Nat))),some (.int (if ps=[] then 0 else 1))]∧H2=Hb,?_,?_⟩
 · walk_at "vc"
   by_cases e0:ps=[]
   · rw [if_pos (hv.1 e0),if_pos e0]
   · rw [if_neg (by rw [(hv.2 e0).1];intro z;cases z),if_neg e0]
 rintro σ Hc ⟨rfl,rfl⟩;obtain ⟨dx2,kd,ah,sr,h1,h2,h3,h4⟩:=hm.ex;have les:=Zhb ok;have ln:=Zhh (es:=es) (k:=k) (ps:=ps) (a:=a) (fun e=>V.ref e.loc) (y:=v) ok fun e=>(hv.2 e).1
 have lk:=Zhh (es:=es) (k:=k) (ps:=ps) (a:=a) (fun e=>V.int (e.key:Nat)) (y:=V.int k) ok fun _=>rfl
 refine ⟨fun σ H2=>σ=[some (.ref m),some (.int k),some v,some (.int (loE k es).length),some (.int (((loE k es).length+(miE k es).length:Nat):Int)),some (.int (tot (loE k es):Nat)),some (.int ((ps.length:Int)-(tot (miE k es):Nat))),some (.int (if ps=[] then 0 else 1))]∧Nb ts m Hc H2 ∧
   ∃ kd',H2 m=some (.ins CM dx2 [("keyed",.ref kd'),("aheads",.ref ah),("stretches",.ref sr),("held",.int (tot es:Nat))])∧noT H2 kd'=some (.lst (pint (kys (keepE k ps a es)))),?_,?_⟩
 · refine ZiE cd.c cd.n_keyed (Zae h1).1 rfl (Zae h2).1 (by rw [Zaq];unfold kys;rw [List.length_map];omega) (by show 4<1000;decide) rfl fun p H' sm np hp=>⟨rfl,((nx.tb.nx sm).nb (m:=m)).put (sm _ _ (Zae h1).1) trivial,p,Zab,?_⟩
   have:p≠m:=fun z=>by rw [z,(Zae h1).1] at np;cases np
   refine Zam ?_ (nl _);rw [Zah this,hp,Zhc,Zhc,lk]
 rintro σ H5 ⟨rfl,nb5,kd5,h51,h52⟩;have kdm:kd5≠m:=fun z=>by have:=(Zae h52).1;rw [z,h51] at this;cases this
 have ahm:ah≠m:=fun z=>by rw [z,h1] at h3;cases h3
 have srm:sr≠m:=fun z=>by rw [z,h1] at h4;cases h4
 have h53:=nb5.same _ _ ahm h3;have h54:=nb5.same _ _ srm h4;refine ⟨fun σ H2=>σ=[some (.ref m),some (.int k),some v,some (.int (loE k es).length),some (.int (((loE k es).length+(miE k es).length:Nat):Int)),some (.int (tot (loE k es):Nat)),some (.int ((ps.length:Int)-(tot (miE k es):Nat))),some (.int (if ps=[] then 0 else 1))]∧Nb ts m H5 H2 ∧
   ∃ ah',H2 m=some (.ins CM dx2 [("keyed",.ref kd5),("aheads",.ref ah'),("stretches",.ref sr),("held",.int (tot es:Nat))])∧noT H2 ah'=some (.lst (pint (ahs 0 (keepE k ps a es)))),?_,?_⟩
 · rw [Zeq,ZeE]
   refine cat_a cd.c cd.n_aheads h51 rfl (Zae h53).1 (by rw [Zaq,ZbR];omega) rfl fun p1 H6 s1 n1 g1=>?_
   walk_at "vc";refine ⟨_,_,_,s1 _ _ h51,cd.c,cd.n_aheads,.ref ah,rfl,ah,rfl,_,SqL.of (s1 _ _ (Zae h53).1),fun p2 n2=>?_⟩;rw [ZgX,ahs_drop k ok];have s2:=Same.new (o:=.lst (pint (ahs (tot (loE k es)+tot (miE k es)) (hiE k es)))) n2;have g2:upd H6 p2 (.lst (pint (ahs (tot (loE k es)+tot (miE k es)) (hiE k es)))) p2=some (.lst (pint (ahs (tot (loE k es)+tot (miE k es)) (hiE k es)))):=Zab;generalize upd H6 p2 (.lst (pint (ahs (tot (loE k es)+tot (miE k es)) (hiE k es))))=H7 at s2 g2 ⊢;have lh:(hiE k es).length≤es.length:=List.length_filter_le _ _;refine ⟨⟨_,SqL.of g2⟩,compL (fun _=>true) (fAdd ((ps.length:Int)-(tot (miE k es):Nat))) (SqL.of g2) (by rw [Zaq,ZbR];omega) (fun x H R hx s h=>?_) (fun x H R hx _ s h=>?_) (fun b1 n3=>?_)⟩
   · walk_at "vc"
     exact h
   · obtain ⟨z,hz,rfl⟩:=Zg7 hx
     walk_at "vc";exact h
   rw [List.filter_eq_self.mpr (fun _ _=>rfl),Zjg];have s3:=Same.new (o:=.lst ((ahs (tot (loE k es)+tot (miE k es)) (hiE k es)).map fun (x:Nat)=>V.int ((x:Int)+((ps.length:Int)-(tot (miE k es):Nat))))) n3;have g3:upd H7 b1 (.lst ((ahs (tot (loE k es)+tot (miE k es)) (hiE k es)).map fun (x:Nat)=>V.int ((x:Int)+((ps.length:Int)-(tot (miE k es):Nat))))) b1=some (.lst (pint (ahs (tot (loE k es)+ps.length) (hiE k es)))):=by have e:=congrArg (List.map V.int) (ZfF ((ps.length:Int)-(tot (miE k es):Nat)) (tot (loE k es)+tot (miE k es)) (tot (loE k es)+ps.length) (hiE k es) (by omega));rw [List.map_map,List.map_map] at e;rw [Zab];exact congrArg (fun z=>some (HO.lst z)) e
   generalize upd H7 b1 (.lst ((ahs (tot (loE k es)+tot (miE k es)) (hiE k es)).map fun (x:Nat)=>V.int ((x:Int)+((ps.length:Int)-(tot (miE k es):Nat)))))=H8 at s3 g3 ⊢;have g1:=s3 _ _ (s2 _ _ g1);refine ⟨b1,rfl,_,g1,_,g3,?_,fun p4 n4=>?_⟩
   · have:(if ps=[] then [] else [V.int (tot (loE k es):Nat)]).length≤1:=by split<;>simp
     rw [List.length_append,List.length_take,Zaq,Zaq,ZbR,ZbR];exact Nat.le_of_lt (small1000 (by omega))
   have el:(pint (ahs 0 es)).take (loE k es).length++(if ps=[] then [] else [V.int (tot (loE k es):Nat)])++pint (ahs (tot (loE k es)+ps.length) (hiE k es))=pint (ahs 0 (keepE k ps a es)):=by
     rw [ahs_take k ok,ahs_keep];unfold pint;rw [List.map_append,List.map_append];by_cases e:ps=[]
     · rw [if_pos e,if_pos e];rfl
     · rw [if_neg e,if_neg e];rfl
   rw [el];have S:=s1.trans (s2.trans s3);have S4:=S.trans (Same.new (o:=.lst (pint (ahs 0 (keepE k ps a es)))) n4);refine ⟨_,_,_,S4 _ _ h51,cd.c,cd.n_aheads,by show 4<1000;decide,((nb5.tb.nx S4).nb (m:=m)).put (S4 _ _ h51) trivial,p4,Zab,?_⟩;have pm:p4≠m:=fun z=>by rw [z,S _ _ h51] at n4;cases n4
   refine Zam ?_ (nl _);rw [Zah pm,Zab]
 rintro σ H6 ⟨rfl,nb6,ah6,h61,h62⟩;have h64:=nb6.same _ _ srm h54;have h63:=nb6.same _ _ kdm h52;refine ⟨fun σ H2=>σ=[some (.ref m),some (.int k),some v,some (.int (loE k es).length),some (.int (((loE k es).length+(miE k es).length:Nat):Int)),some (.int (tot (loE k es):Nat)),some (.int ((ps.length:Int)-(tot (miE k es):Nat))),some (.int (if ps=[] then 0 else 1))]∧Nb ts m H6 H2 ∧
   ∃ sr',H2 m=some (.ins CM dx2 [("keyed",.ref kd5),("aheads",.ref ah6),("stretches",.ref sr'),("held",.int (tot es:Nat))])∧noT H2 sr'=some (.lst ((keepE k ps a es).map fun e=>V.ref e.loc)),?_,?_⟩
 · refine ZiE cd.c cd.n_stretches h61 rfl (Zae h64).1 (by rw [List.length_map];omega) (by show 4<1000;decide) rfl fun p H' sm np hp=>⟨rfl,((nb6.tb.nx sm).nb (m:=m)).put (sm _ _ h61) trivial,p,Zab,?_⟩
   have:p≠m:=fun z=>by rw [z,h61] at np;cases np
   refine Zam ?_ (nl _);rw [Zah this,hp,ln]
 rintro σ H7 ⟨rfl,nb7,sr7,h71,h72⟩;have ahm6:ah6≠m:=fun z=>by have:=(Zae h62).1;rw [z,h61] at this;cases this
 have h73:=nb7.same _ _ kdm h63;have h74:=nb7.same _ _ ahm6 h62;walk_at "vc";refine ⟨_,_,_,h71,cd.c,cd.n_held,_,rfl,_,rfl,_,_,_,h71,cd.c,cd.n_held,by show 4<1000;decide,?_⟩;have nbA:Nb ts m Hc H7:=(nb5.trans nb6).trans nb7;have sr7m:sr7≠m:=fun z=>by have:=(Zae h72).1;rw [z,h71] at this;cases this
 refine q _ ((nx.nb.trans nbA).put h71 trivial) ⟨⟨dx2,kd5,ah6,sr7,Zam ?_ (ni _ _ _),Zam ?_ (nl _),Zam ?_ (nl _),Zam ?_ (nl _)⟩,fun e he=>?_⟩
 · rw [Zab]
   have:((tot es:Nat):Int)+((ps.length:Int)-(tot (miE k es):Nat))=(tot (keepE k ps a es):Nat):=by rw [tot_keep];have:=tot_mi k ok;omega
   rw [this];rfl
 · rw [Zah kdm];exact (Zae h73).1
 · rw [Zah ahm6];exact (Zae h74).1
 · rw [Zah sr7m];exact (Zae h72).1
 · have fr:=(nbA.put (o':=.ins CM dx2 (putF (Str.ofString "held") (V.int (((tot es:Nat):Int)+((ps.length:Int)-(tot (miE k es):Nat)))) [("keyed",.ref kd5),("aheads",.ref ah6),("stretches",.ref sr7),("held",.int (tot es:Nat))])) h71 trivial).same
   rcases ZcC he with ⟨z,_⟩ | ⟨z,rfl⟩
   · exact (hm.st e z).nb h1 ⟨_,_,_,_,_,_,rfl⟩ fr
   · exact (hv.2 z).2.nb h1 ⟨_,_,_,_,_,_,rfl⟩ fr
end
theorem ZcR {es:List Ent}{k:Nat}(z:miE k es=[]):stV k es=.non∧plcE k es=[]:=by unfold stV plcE;rw [z];exact ⟨rfl,rfl⟩
theorem Zcg {es:List Ent}{k:Nat}{e:Ent}(z:miE k es=[e]):stV k es=.ref e.loc∧plcE k es=e.ps:=by unfold stV plcE;rw [z];exact ⟨rfl,rfl⟩
theorem mem_gAdd {ps:List Nat}{p y:Nat}(hl:∀ q∈ps,q<256)(hp:p<256):y∈gAdd ps p↔y∈ps∨y=p:=by
 unfold gAdd gJoin;rw [List.mem_filter,List.mem_range];simp only [Bool.or_eq_true,decide_eq_true_eq,List.mem_singleton];constructor
 · exact fun h=>h.2
 · intro h
   refine ⟨?_,h⟩;rcases h with h | h
   · exact hl y h
   · omega
theorem mem_gRem {ps:List Nat}{p y:Nat}:y∈gRem ps p↔y∈ps∧y≠p:=by unfold gRem gLess;rw [List.mem_filter];simp
theorem put_mem {n a:Nat}{es:List Ent}{ps:List Nat}(ok:EsOk es)(ok2:EsOk (keepE (n/256) ps a es))(h:∀ y,y∈ps↔y∈plcE (n/256) es∨y=n%256)(x:Nat):x∈flat (keepE (n/256) ps a es)↔x∈flat es∨x=n:=by
 rw [Zbe ok2,Zbe ok,Zg5];by_cases c:x/256=n/256
 · rw [if_pos c,h,c]
   constructor
   · rintro (z | z)
     · exact .inl z
     · exact .inr (by omega)
   · rintro (z | z)
     · exact .inl z
     · exact .inr (by omega)
 · rw [if_neg c]
   constructor
   · exact .inl
   · rintro (z | z)
     · exact z
     · exact absurd (by rw [z]) c
theorem take_mem {n a:Nat}{es:List Ent}{ps:List Nat}(ok:EsOk es)(ok2:EsOk (keepE (n/256) ps a es))(h:∀ y,y∈ps↔y∈plcE (n/256) es∧y≠n%256)(x:Nat):x∈flat (keepE (n/256) ps a es)↔x∈flat es∧x≠n:=by
 rw [Zbe ok2,Zbe ok,Zg5];by_cases c:x/256=n/256
 · rw [if_pos c,h,c]
   exact ⟨fun z=>⟨z.1,by omega⟩,fun z=>⟨z.1,by omega⟩⟩
 · rw [if_neg c]
   exact ⟨fun z=>⟨z,fun y=>c (by rw [y])⟩,fun z=>z.1⟩
def spInitM (c:Kd→Addr)(CM:Addr)(ts:Tabs):Sp:=fun vs H Q _=>∃ x dx:Addr,vs=[.ref x]∧H x=some (.ins CM dx [])∧Tbs ts H∧∀ H',Nb ts x H H'→MkAt c CM (noT H') x []→Q .non H'
def spHas (c:Kd→Addr)(CM:Addr)(ts:Tabs):Sp:=fun vs H Q _=>∃ (m:Addr) (n:Nat) (es:List Ent),vs=[.ref m,.int n]∧n≤65535∧MkAt c CM (noT H) m es∧EsOk es∧Tbs ts H∧∀ H',Nx ts H H'→Q (.bl (decide (n∈flat es))) H'
def spPutM (c:Kd→Addr)(CM:Addr)(ts:Tabs):Sp:=fun vs H Q _=>∃ (m:Addr) (n:Nat) (es:List Ent),vs=[.ref m,.int n]∧n≤65535∧MkAt c CM (noT H) m es∧EsOk es∧Tbs ts H∧∀ H' es',Nb ts m H H'→MkAt c CM (noT H') m es'→EsOk es'→(∀ x,x∈flat es'↔x∈flat es∨x=n)→Q (.bl (!decide (n∈flat es))) H'
def spTakeM (c:Kd→Addr)(CM:Addr)(ts:Tabs):Sp:=fun vs H Q _=>∃ (m:Addr) (n:Nat) (es:List Ent),vs=[.ref m,.int n]∧n≤65535∧MkAt c CM (noT H) m es∧EsOk es∧Tbs ts H∧∀ H' es',Nb ts m H H'→MkAt c CM (noT H') m es'→EsOk es'→(∀ x,x∈flat es'↔x∈flat es∧x≠n)→Q (.bl (decide (n∈flat es))) H'
section
variable {P:Program}{w:World}{K:PySem.W.Frag}{mg:Str→Option Value}{base:Heap}{c:Kd→Addr}{CM:Addr}{ts:Tabs}
theorem ok_initM (cd:CD_Marks K mg CM):MakeAt P w K mg base "Marks" CM ["self"] 1 (spInitM c CM ts):=by
 refine MakeAt.of cd.at_ cd.init ZbM (fun vs H Q E h=>?_) (fun f cdv A outer s H vs Q E hr h=>?_)
 · obtain ⟨x,dx,rfl,_⟩:=h
   rfl
 obtain ⟨x,dx,rfl,hx,ht,q⟩:=h;refine ⟨_,(Zac (ZaC K (pv 0) (ZaM Zad))
     (Zac (ZaC K (pv 0) (ZaM Zad))
     (Zac (ZaC K (pv 0) (ZaM Zad))
     (Zaf (ZaC K (pv 0) Zag))))),?_⟩
 walk_at "vc";refine ⟨Nat.zero_le _,fun p1 n1=>?_⟩;have s1:Same H (upd H p1 (.lst [])):=Same.new n1;have g1:upd H p1 (.lst []) p1=some (.lst []):=Zab;generalize upd H p1 (.lst [])=H1 at s1 g1 ⊢;have hx:=s1 _ _ hx;have px1:p1≠x:=fun z=>by rw [z,hx] at g1;cases g1
 refine ⟨_,_,_,hx,cd.c,cd.n_keyed,by show 0<1000;decide,Nat.zero_le _,?_⟩;have b1:Nb ts x H (upd H1 x (.ins CM dx [("keyed",.ref p1)])):=((ht.nx s1).nb).put hx trivial;rw [show putF (Str.ofString "keyed") (V.ref p1) []=[(Str.ofString "keyed",V.ref p1)] from rfl];have hx:upd H1 x (.ins CM dx [("keyed",.ref p1)]) x=some (.ins CM dx [("keyed",.ref p1)]):=Zab;have g1:upd H1 x (.ins CM dx [("keyed",.ref p1)]) p1=some (.lst []):=by rw [Zah px1];exact g1
 intro p2 n2;generalize upd H1 x (.ins CM dx [("keyed",.ref p1)])=H2 at b1 hx g1 n2 ⊢;have s2:Same H2 (upd H2 p2 (.lst [])):=Same.new n2;have g2:upd H2 p2 (.lst []) p2=some (.lst []):=Zab;generalize upd H2 p2 (.lst [])=H3 at s2 g2 ⊢;have hx:=s2 _ _ hx;have g1:=s2 _ _ g1;have px2:p2≠x:=fun z=>by rw [z,hx] at g2;cases g2
 refine ⟨_,_,_,hx,cd.c,cd.n_aheads,by show 1<1000;decide,Nat.zero_le _,?_⟩;have b2:Nb ts x H (upd H3 x (.ins CM dx [("keyed",.ref p1),("aheads",.ref p2)])):=(b1.trans (b1.tb.nx s2).nb).put hx trivial;rw [show putF (Str.ofString "aheads") (V.ref p2) [(Str.ofString "keyed",V.ref p1)]=[(Str.ofString "keyed",V.ref p1),(Str.ofString "aheads",V.ref p2)] from rfl];have hx:upd H3 x (.ins CM dx [("keyed",.ref p1),("aheads",.ref p2)]) x=some (.ins CM dx [("keyed",.ref p1),("aheads",.ref p2)]):=Zab;have g1:upd H3 x (.ins CM dx [("keyed",.ref p1),("aheads",.ref p2)]) p1=some (.lst []):=by rw [Zah px1];exact g1
 have g2:upd H3 x (.ins CM dx [("keyed",.ref p1),("aheads",.ref p2)]) p2=some (.lst []):=by rw [Zah px2];exact g2
 intro p3 n3;generalize upd H3 x (.ins CM dx [("keyed",.ref p1),("aheads",.ref p2)])=H4 at b2 hx g1 g2 n3 ⊢;have s3:Same H4 (upd H4 p3 (.lst [])):=Same.new n3;have g3:upd H4 p3 (.lst []) p3=some (.lst []):=Zab;generalize upd H4 p3 (.lst [])=H5 at s3 g3 ⊢;have hx:=s3 _ _ hx;have g1:=s3 _ _ g1;have g2:=s3 _ _ g2;have px3:p3≠x:=fun z=>by rw [z,hx] at g3;cases g3
 refine ⟨_,_,_,hx,cd.c,cd.n_stretches,by show 2<1000;decide,_,_,_,Zab,cd.c,cd.n_held,by show 3<1000;decide,?_⟩;have b3:=(b2.trans (b2.tb.nx s3).nb).put (o':=.ins CM dx [("keyed",.ref p1),("aheads",.ref p2),("stretches",.ref p3)]) hx trivial;refine q _ (b3.put Zab trivial) ⟨⟨dx,p1,p2,p3,Zam Zab (ni _ _ _),Zam ?_ (nl _),Zam ?_ (nl _),Zam ?_ (nl _)⟩,fun e he=>nomatch he⟩
 · rw [Zah px1,Zah px1];exact g1
 · rw [Zah px2,Zah px2];exact g2
 · rw [Zah px3,Zah px3];exact g3
theorem ok_hasM (cP:∃ t,mg "PLACES"=some (.int 256 t))(h_check_number:FnAt P w K mg base "check_number" ["thing"] 2 spChk)(h_stretch_at:MethAt P w K mg base CM "stretch_at" ["self","key"] 5 (spStAt c CM ts))(hh:∀ k,MethAt P w K mg base (c k) "has" ["self","place"] 5 (spHasM c k))(cd:CD_Marks K mg CM):MethAt P w K mg base CM "has" ["self","n"] 6 (spHas c CM ts):=by
 obtain ⟨tP,c_PLACES⟩:=cP;refine MethAt.of cd.c cd.m_has sc_Marks_has (fun vs H Q E h=>?_) (fun f cdv A outer s H vs Q E hr h=>?_)
 · obtain ⟨m,n,es,rfl,_⟩:=h
   rfl
 obtain ⟨m,n,es,rfl,hn,hm,ok,ht,q⟩:=h;obtain ⟨dx,fs,ho,nf⟩:=hm.obj;refine ⟨_,(Zac (ZaE (Zaj h_check_number (hr.mono (by decide)) rfl (Zaa (pv 1) Zad)))
     (Zac (Zal (i:=2) sc_Marks_has.nd rfl (by walk_at "l") (Zau (P:=P) (w:=w) (K:=K) (mg:=mg) (base:=base) 5 (hr.mono (by decide)) (pv 0) (Zaa (Zai Zay (pv 1) (Zav (v:=.int 256) rfl c_PLACES ⟨_,rfl⟩)) Zad)))
     (Zaf (Zak (Zc9 (Zbz ZiL (pv 2) ZaU (nomark _)) (ZdD (Zau (P:=P) (w:=w) (K:=K) (mg:=mg) (base:=base) 5 (hr.mono (by decide)) (pv 2) (Zaa (Zai Zax (pv 1) (Zav (v:=.int 256) rfl c_PLACES ⟨_,rfl⟩)) Zad)))))))),?_⟩
 have e1:(n:Int)/256=((n/256:Nat):Int):=by omega
 have e2:(n:Int)%256=((n%256:Nat):Int):=by omega
 walk_at "vc";rw [e1,e2];refine ⟨n,rfl,hn,_,_,_,(Zae ho).1,nf.2.2.2.1,_,_,h_stretch_at,m,n/256,es,rfl,hm,ok,ht,fun H' nx=>?_⟩;have q:=q H' nx;have hm:=hm.same nx.same;rcases Zb1 (n/256) ok.up with z | ⟨e,z1,z2,z3⟩
 · rw [(ZcR z).1]
   rw [decide_eq_false (by rw [Zbe ok,(ZcR z).2];intro y;cases y)] at q;show if V.non=V.non then _ else _
   rw [if_pos rfl];exact q
 · rw [(Zcg z1).1]
   have st:=(hm.st e z3).same noT_sub;obtain ⟨dx2,fs2,ho2,nf2⟩:=st.obj;show if V.ref e.loc=V.non then _ else _
   rw [if_neg (by intro y;cases y)];refine ⟨_,rfl,_,_,_,ho2,nf2.2.2.2.2.2.2.1,_,_,hh _,e.loc,e.ps,n%256,rfl,st,ok.pup e z3,ok.plt e z3,?_⟩;rw [decide_eq_decide.mpr (show n%256∈e.ps↔n∈flat es by rw [Zbe ok,(Zcg z1).2])];exact q
theorem ok_putM (cP:∃ t,mg "PLACES"=some (.int 256 t))(h_hasM:MethAt P w K mg base CM "has" ["self","n"] 6 (spHas c CM ts))(h_stretch_at:MethAt P w K mg base CM "stretch_at" ["self","key"] 5 (spStAt c CM ts))(h_keep:MethAt P w K mg base CM "keep" ["self","key","stretch"] 6 (spKeep c CM ts))(h_kept:FnAt P w K mg base "kept" ["word"] 4 (spKept c))(h_added:FnAt P w K mg base "added" ["stretch","place"] 5 (spPut c gAdd))(cd:CD_Marks K mg CM):MethAt P w K mg base CM "put" ["self","n"] 7 (spPutM c CM ts):=by
 obtain ⟨tP,c_PLACES⟩:=cP;refine MethAt.of cd.c cd.m_put sc_Marks_put (fun vs H Q E h=>?_) (fun f cdv A outer s H vs Q E hr h=>?_)
 · obtain ⟨m,n,es,rfl,_⟩:=h
   rfl
 obtain ⟨m,n,es,rfl,hn,hm,ok,ht,q⟩:=h;obtain ⟨dx,fs,ho,nf⟩:=hm.obj;refine ⟨_,(Zac (ZaF (ZaJ (Zau (P:=P) (w:=w) (K:=K) (mg:=mg) (base:=base) 6 (hr.mono (by decide)) (pv 0) (Zaa (pv 1) Zad))) (Zaf (Zak Za1)) Zat)
     (Zac (Zal (i:=2) sc_Marks_put.nd rfl (by walk_at "l") (Zau (P:=P) (w:=w) (K:=K) (mg:=mg) (base:=base) 5 (hr.mono (by decide)) (pv 0) (Zaa (Zai Zay (pv 1) (Zav (v:=.int 256) rfl c_PLACES ⟨_,rfl⟩)) Zad)))
     (Zac (Zal (i:=3) sc_Marks_put.nd rfl (by walk_at "l") (Zai Zax (pv 1) (Zav (v:=.int 256) rfl c_PLACES ⟨_,rfl⟩)))
     (Zac (ZaE (Zau (P:=P) (w:=w) (K:=K) (mg:=mg) (base:=base) 6 (hr.mono (by decide)) (pv 0) (Zaa (Zai Zay (pv 1) (Zav (v:=.int 256) rfl c_PLACES ⟨_,rfl⟩)) (Zaa (ZbK (Zas ZdL (pv 2) ZaU (nomark _)) (Zaj h_kept (hr.mono (by decide)) rfl (Zaa (Zai Zbg Zag (pv 3)) Zad)) (Zaj h_added (hr.mono (by decide)) rfl (Zaa (pv 2) (Zaa (pv 3) Zad)))) Zad))))
     (Zaf (Zak Za1)))))),?_⟩
 have e1:(n:Int)/256=((n/256:Nat):Int):=by omega
 have e2:(n:Int)%256=((n%256:Nat):Int):=by omega
 walk_at "vc";rw [e1,e2];refine ⟨_,_,_,(Zae ho).1,nf.2.2.2.2.2.1,_,_,h_hasM,m,n,es,rfl,hn,hm,ok,ht,fun H1 nx=>⟨_,rfl,?_⟩⟩;have hm1:=hm.same nx.same;have p0:n%256<256:=Nat.mod_lt _ (by decide);have k0:n/256<256:=by omega
 by_cases hin:n∈flat es
 · rw [if_pos (decide_eq_true hin)]
   have q:=q H1 es nx.nb hm1 ok fun x=>⟨.inl,fun z=>z.elim id fun z=>by rw [z];exact hin⟩
   rw [decide_eq_true hin] at q;exact q
 rw [if_neg (by rw [decide_eq_true_eq];exact hin)];rw [decide_eq_false hin] at q;have ho:=nx.at ho;refine ⟨_,_,_,(Zae ho).1,nf.2.2.2.1,_,_,h_stretch_at,m,n/256,es,rfl,hm1,ok,nx.tb,fun H2 nx2=>?_⟩;have hm2:=hm1.same nx2.same;have ho:=nx2.at ho;refine ⟨_,_,_,(Zae ho).1,nf.2.2.2.2.1,_,_,h_keep,?_⟩;have fin:∀ (ps:List Nat) (v:V) (H3:Hp),Up 0 ps→(∀ p∈ps,p<256)→(∀ y,y∈ps↔y∈plcE (n/256) es∨y=n%256)→Same H2 H3→KeptIs c H3 ps v→spKeep c CM ts [.ref m,.int ((n/256:Nat):Int),v] H3 (fun x H1=>Q (V.bl true) H1) E0:=by
   intro ps v H3 up lt me s3 kp;obtain ⟨a,ka⟩:=kp.noT.at
   have nx3:=nx2.tb.nx s3;have ok2:EsOk (keepE (n/256) ps a es):=ok.keep k0 up lt;exact ⟨m,n/256,es,ps,v,a,rfl,hm2.same nx3.same,ok,ka,up,lt,nx3.tb,fun H4 nb hm4=>q H4 _ (((nx.trans nx2).trans nx3).nb.trans nb) hm4 ok2 (put_mem ok ok2 me)⟩
 rcases Zb1 (n/256) ok.up with z | ⟨e,z1,z2,z3⟩
 · rw [(ZcR z).1,if_pos rfl]
   refine ⟨⟨by omega,by omega,by decide⟩,[n%256],by rw [ZfW],ZdQ _,ZhC p0,fun v H3 s3 kp=>fin _ v H3 (ZdQ _) (ZhC p0) (fun y=>?_) s3 kp⟩;rw [(ZcR z).2];simp
 · rw [(Zcg z1).1,if_neg (by intro y;cases y)]
   refine ⟨e.loc,kdOf e.ps,e.ps,n%256,rfl,(hm2.st e z3).same noT_sub,ok.pup e z3,ok.plt e z3,p0,fun v H3 s3 kp=>fin _ v H3 (Zdw _ _) (rng_lt (f:=fun x=>decide (x∈e.ps)||decide (x∈[n%256]))) (fun y=>?_) s3 kp⟩;rw [(Zcg z1).2];exact mem_gAdd (ok.plt e z3) p0
theorem ok_takeM (cP:∃ t,mg "PLACES"=some (.int 256 t))(h_hasM:MethAt P w K mg base CM "has" ["self","n"] 6 (spHas c CM ts))(h_stretch_at:MethAt P w K mg base CM "stretch_at" ["self","key"] 5 (spStAt c CM ts))(h_keep:MethAt P w K mg base CM "keep" ["self","key","stretch"] 6 (spKeep c CM ts))(h_removed:FnAt P w K mg base "removed" ["stretch","place"] 5 (spPut c gRem))(cd:CD_Marks K mg CM):MethAt P w K mg base CM "take" ["self","n"] 7 (spTakeM c CM ts):=by
 obtain ⟨tP,c_PLACES⟩:=cP;refine MethAt.of cd.c cd.m_take Zfc (fun vs H Q E h=>?_) (fun f cdv A outer s H vs Q E hr h=>?_)
 · obtain ⟨m,n,es,rfl,_⟩:=h
   rfl
 obtain ⟨m,n,es,rfl,hn,hm,ok,ht,q⟩:=h;obtain ⟨dx,fs,ho,nf⟩:=hm.obj;refine ⟨_,(Zac (ZaF (ZaY (ZaJ (Zau (P:=P) (w:=w) (K:=K) (mg:=mg) (base:=base) 6 (hr.mono (by decide)) (pv 0) (Zaa (pv 1) Zad)))) (Zaf (Zak Za1)) Zat)
     (Zac (ZaE (Zau (P:=P) (w:=w) (K:=K) (mg:=mg) (base:=base) 6 (hr.mono (by decide)) (pv 0) (Zaa (Zai Zay (pv 1) (Zav (v:=.int 256) rfl c_PLACES ⟨_,rfl⟩)) (Zaa (Zaj h_removed (hr.mono (by decide)) rfl (Zaa (Zau (P:=P) (w:=w) (K:=K) (mg:=mg) (base:=base) 5 (hr.mono (by decide)) (pv 0) (Zaa (Zai Zay (pv 1) (Zav (v:=.int 256) rfl c_PLACES ⟨_,rfl⟩)) Zad)) (Zaa (Zai Zax (pv 1) (Zav (v:=.int 256) rfl c_PLACES ⟨_,rfl⟩)) Zad))) Zad))))
     (Zaf (Zak Za1)))),?_⟩
 have e1:(n:Int)/256=((n/256:Nat):Int):=by omega
 have e2:(n:Int)%256=((n%256:Nat):Int):=by omega
 walk_at "vc";rw [e1,e2];refine ⟨_,_,_,(Zae ho).1,nf.2.2.2.2.2.1,_,_,h_hasM,m,n,es,rfl,hn,hm,ok,ht,fun H1 nx=>⟨_,rfl,?_⟩⟩;have hm1:=hm.same nx.same;have p0:n%256<256:=Nat.mod_lt _ (by decide);have k0:n/256<256:=by omega
 by_cases hin:n∈flat es
 · rw [if_neg (by rw [decide_eq_true hin];decide)]
   rw [decide_eq_true hin] at q;have ho:=nx.at ho;refine ⟨_,_,_,(Zae ho).1,nf.2.2.2.2.1,_,_,h_keep,_,_,_,(Zae ho).1,nf.2.2.2.1,_,_,h_stretch_at,m,n/256,es,rfl,hm1,ok,nx.tb,fun H2 nx2=>?_⟩;have hm2:=hm1.same nx2.same;rcases Zb1 (n/256) ok.up with z | ⟨e,z1,z2,z3⟩
   · rw [Zbe ok,(ZcR z).2] at hin
     cases hin
   · rw [(Zcg z1).1]
     refine ⟨e.loc,kdOf e.ps,e.ps,n%256,rfl,(hm2.st e z3).same noT_sub,ok.pup e z3,ok.plt e z3,p0,fun v H3 s3 kp=>?_⟩;obtain ⟨a,ka⟩:=kp.noT.at
     have nx3:=nx2.tb.nx s3;have up:Up 0 (gRem e.ps (n%256)):=(ok.pup e z3).filter;have lt:∀ p∈gRem e.ps (n%256),p<256:=fun p hp=>ok.plt e z3 p (mem_gRem.mp hp).1
     have ok2:EsOk (keepE (n/256) (gRem e.ps (n%256)) a es):=ok.keep k0 up lt;exact ⟨m,n/256,es,_,v,a,rfl,hm2.same nx3.same,ok,ka,up,lt,nx3.tb,fun H4 nb hm4=>q H4 _ (((nx.trans nx2).trans nx3).nb.trans nb) hm4 ok2 (take_mem ok ok2 fun y=>by rw [(Zcg z1).2];exact mem_gRem)⟩
 · rw [if_pos (decide_eq_false hin)]
   have q:=q H1 es nx.nb hm1 ok fun x=>⟨fun z=>⟨z,fun y=>hin (by rw [← y];exact z)⟩,fun z=>z.1⟩
   rw [decide_eq_false hin] at q;exact q
end
section
variable {P:Program}{w:World}{K:PySem.W.Frag}{mg:Str→Option Value}{base:Heap}{c:Kd→Addr}{CM:Addr}{ts:Tabs}
theorem ZeK:EsOk []:=⟨trivial,(fun _ h=>nomatch h),(fun _ h=>nomatch h),(fun _ h=>nomatch h),(fun _ h=>nomatch h)⟩
theorem mkM {H:Hp}{R:Addr→Hp→Prop}{E:XK}(ht:Tbs ts H)(q:∀ x H',Nx ts H H'→noT H x=none→MkAt c CM (noT H') x []→R x H'):∀ x dx,H x=none→H dx=none→dx≠x→spInitM c CM ts [.ref x] (upd (upd H dx (.own x)) x (.ins CM dx [])) (fun v H'=>v=.non∧R x H') E:=by intro x dx nx ndx dne;have m2:Same H (upd (upd H dx (.own x)) x (.ins CM dx [])):=(Same.new ndx).put nx;exact ⟨x,dx,rfl,Zab,ht.same m2,fun H' nb hm=>⟨rfl,q x H' (((ht.nx m2).nb.trans nb).of_new (ZaT nx)) (ZaT nx) hm⟩⟩
end
def Scal:V→Prop
 | .int _=>True
 | .bl _=>True
 | .non=>True
 | .str _=>True
 | _=>False
def isI:V→Bool
 | .int _=>true
 | _=>false
def spIsV:Sp:=fun vs H Q _=>∃ v,vs=[v]∧Scal v∧Q (.bl (isI v)) H
structure XF (K:PySem.W.Frag)(C S T:Addr):Prop where
 c:XCls K C
 i:EX.XIsi K C
 m:PySem.W.exmOne K (.ref C) (.ref S)=some true
 n:PySem.W.kitOne K (.ref C) (.ref T)=some false
 y:PySem.W.kitOne K (.ref C) (.ref C)=some true
section
variable {P:Program}{w:World}{K:PySem.W.Frag}{mg:Str→Option Value}{base:Heap}{c:Kd→Addr}{CM:Addr}{ts:Tabs}
theorem ZfY (B:Blt mg)(d:DefAt K mg "is_whole" ZbF ["thing"]):FnAt P w K mg base "is_whole" ["thing"] 1 spIsV:=by
 refine FnAt.of d ZdU (fun vs H Q E h=>?_) (fun f cdv A outer s H vs Q E hr h=>?_)
 · obtain ⟨k,rfl,_⟩:=h
   rfl
 obtain ⟨v,rfl,sv,q⟩:=h;refine ⟨_,(Zaf (Zak (Zc9 (ZaA (ZaP K) rfl B.isi ZaO (Zaa (pv 0) (Zaa (Zcn (v:=.ty "int") rfl B.int boot_int rfl) Zad))) (ZdD (Zh7 (ZaA (ZaP K) rfl B.isi ZaO (Zaa (pv 0) (Zaa (Zcn (v:=.ty "bool") rfl B.bool boot_bool rfl) Zad)))))))),?_⟩;cases v with
 | int z=>walk_at "vc";exact q
 | bl b=>walk_at "vc";exact q
 | non =>
   walk_at "vc";exact ⟨_,_,_,_,false,rfl,rfl,.non,rfl,_,rfl,q⟩
 | str z =>
   walk_at "vc";exact ⟨_,_,_,_,false,rfl,rfl,.str z,rfl,_,rfl,q⟩
 | _=>exact sv.elim
end
def okN (v:V):Bool:=match v with
 | .int z=>decide (0≤z∧z≤65535)
 | _=>false
def spChkX (CN:Addr):Sp:=fun vs H Q E=>∃ v:V,vs=[v]∧Scal v∧if okN v=true then Q .non H else E (.ref CN) none H
def spRz (c:Kd→Addr)(CM CN:Addr):Sp:=fun vs H Q E=>∃ (m:Addr) (es:List Ent) (v:V),vs=[.ref m,v]∧MkAt c CM (noT H) m es∧Scal v∧okN v=false∧E (.ref CN) none H
section
variable {P:Program}{w:World}{K:PySem.W.Frag}{mg:Str→Option Value}{base:Heap}{c:Kd→Addr}{CM:Addr}{ts:Tabs}
theorem ok_chkX {C_NoNumber:Addr} (cG:∃ t,mg "GREATEST"=some (.int 65535 t)) (xc_NoNumber:XCls K C_NoNumber) (g_NoNumber:mg "NoNumber"=some (.ref C_NoNumber)) (h_is_whole:FnAt P w K mg base "is_whole" ["thing"] 1 spIsV) (d:DefAt K mg "check_number" ZaX ["thing"]):FnX P w K mg base "check_number" ["thing"] 2 (spChkX C_NoNumber):=by
 obtain ⟨tG,c_GREATEST⟩:=cG;refine FnX.of d Zct (fun vs H Q E h=>?_) (fun f cdv A outer s H vs Q E hr h=>?_)
 · obtain ⟨v,rfl,_⟩:=h
   rfl
 obtain ⟨v,rfl,sv,q⟩:=h;refine ⟨_,(Zaf (ZaF (PW.pt (Zgx (ZaY (ZaJ (Zaj h_is_whole (hr.mono (by decide)) rfl (Zaa (pv 0) Zad)))) (Ze0 (ZaY (Zgo ZdC ZdC Zag (pv 0) (Zav (v:=.int 65535) rfl c_GREATEST ⟨_,rfl⟩)))))) (Zaf (ZfB xc_NoNumber g_NoNumber rfl (pe_fstr rfl c_GREATEST))) Zat)),?_⟩;walk_at "vc";refine ⟨v,rfl,sv,_,rfl,?_⟩;cases v with
 | int z =>
   show if true=false then _ else _
   rw [if_neg (by decide)];refine ⟨z,rfl,?_⟩;by_cases z0:0≤z
   · rw [if_pos z0]
     refine ⟨z,rfl,?_⟩;by_cases z1:z≤65535
     · rw [if_pos z1]
       rw [show okN (.int z)=true from decide_eq_true ⟨z0,z1⟩,if_pos rfl] at q;exact q
     · rw [if_neg z1]
       rw [show okN (.int z)=false from decide_eq_false fun h=>z1 h.2,if_neg (by decide)] at q;exact fun _=>q
   · rw [if_neg z0]
     rw [show okN (.int z)=false from decide_eq_false fun h=>z0 h.1,if_neg (by decide)] at q;exact fun _=>q
 | bl b=>exact fun _=>q
 | non=>exact fun _=>q
 | str z=>exact fun _=>q
 | _=>exact sv.elim
theorem ok_hasX {CN:Addr}(h_chkX:FnX P w K mg base "check_number" ["thing"] 2 (spChkX CN))(cd:CD_Marks K mg CM):MethX P w K mg base CM "has" ["self","n"] 6 (spRz c CM CN):=by
 refine MethX.of cd.c cd.m_has sc_Marks_has (fun vs H Q E h=>?_) (fun f cdv A outer s H vs Q E hr h=>?_)
 · obtain ⟨m,es,v,rfl,_⟩:=h
   rfl
 obtain ⟨m,es,v,rfl,hm,sv,hv,q⟩:=h;refine ⟨_,(Zac (ZaE (ZeS h_chkX (hr.mono (by decide)) rfl (Zaa (pv 1) Zad))) Zbb),?_⟩;walk_at "vc";refine ⟨v,rfl,sv,?_⟩;rw [if_neg (by rw [hv];decide)];exact q
end
def spNumbers (c:Kd→Addr)(CM:Addr):Sp:=fun vs H Q _=>∃ (m:Addr) (es:List Ent),vs=[.ref m]∧MkAt c CM (noT H) m es∧EsOk es∧tot es≤900∧∀ l H',Same H H'→H l=none→H' l=some (.lst (pint (flat es)))→Q (.ref l) H'
structure NmI (m D:Addr)(es:List Ent)(H:Hp)(i:Nat)(σ:L2.St)(H':Hp):Prop where
 ex:∃ v2 v3:Option V,σ=[some (.ref m),some (.ref D),v2,v3]∧H' D=some (.lst (pint (flat (es.take i))))
 same:Same H H'
section
variable {P:Program}{w:World}{K:PySem.W.Frag}{mg:Str→Option Value}{base:Heap}{c:Kd→Addr}{CM:Addr}{ts:Tabs}
theorem ZhH (B:Blt mg) (cP:∃ t,mg "PLACES"=some (.int 256 t)) (hw:∀ k,MethAt P w K mg base (c k) "word" ["self"] 4 (spWordM c k)) (h_places_of:FnAt P w K mg base "places_of" ["word"] 3 spPlacesOf) (cd:CD_Marks K mg CM):MethAt P w K mg base CM "numbers" ["self"] 5 (spNumbers c CM):=by
 obtain ⟨tP,c_PLACES⟩:=cP;refine MethAt.of cd.c cd.m_numbers sc_Marks_numbers (fun vs H Q E h=>?_) (fun f cdv A outer s H vs Q E hr h=>?_)
 · obtain ⟨m,es,rfl,_⟩:=h
   rfl
 obtain ⟨m,es,rfl,hm,ok,ln,q⟩:=h;obtain ⟨dx,kd,ah,sr,h1,h2,h3,h4⟩:=hm.ex;refine ⟨_,(Zac (Zal (i:=1) sc_Marks_numbers.nd rfl (by walk_at "l") (ZaM Zad))
     (Zac (Zb4 PassesOwn.never rfl (pi_zipK K rfl B.zip (Zaa (Zao K (pv 0)) (Zaa (Zao K (pv 0)) Zad))) (Zea K rfl (Zbd (ZaH (i:=2) sc_Marks_numbers.nd rfl (by walk_at "l")) (Zbd (ZaH (i:=3) sc_Marks_numbers.nd rfl (by walk_at "l")) Zel))) (Zaf (ZaE (Zga K PySem.F.plainAttrs_list PySem.F.slot_list_extend PySem.F.type_list_extend Zjs (pv 1) (Zaa (ZfZ ["place"] [2] rfl (Za5 K (Zaj h_places_of (hr.mono (by decide)) rfl (Zaa (ZaR (P:=P) (w:=w) (K:=K) (mg:=mg) (base:=base) 4 (hr.mono (by decide)) (pv 3)) Zad))) (fun _ _ _ _ _=>ZaH (i:=0) (by show List.Nodup (["place","key"]:List Str);decide +kernel) rfl (Or.inl rfl)) (fun _ _ _ _ _=>Zix) (fun _ _ _ _ _=>(Zai ZaD (Zai Zcp (pv 1) (Zav (v:=.int 256) rfl c_PLACES ⟨_,rfl⟩)) (pv 0))) ⟨⟨_,rfl,rfl,.inl rfl⟩,trivial⟩ ZdI) Zad)))))
     (Zaf (Zak (pv 1))))),?_⟩
 walk_at "vc";refine ⟨Nat.zero_le _,fun D nD=>?_⟩;have s1:=Same.new (o:=.lst []) nD;refine ⟨_,_,_,s1 _ _ (Zae h1).1,cd.c,cd.n_keyed,.ref kd,rfl,_,_,_,s1 _ _ (Zae h1).1,cd.c,cd.n_stretches,.ref sr,rfl,kd,sr,⟨rfl,rfl⟩,⟨_,SqL.of (s1 _ _ (Zae h2).1)⟩,⟨_,SqL.of (s1 _ _ (Zae h4).1)⟩,loopZ (xs:=pint (kys es)) (ys:=es.map fun e=>V.ref e.loc) (NmI m D es H) ⟨⟨_,_,rfl,Zab⟩,s1⟩ ?_ ?_ ?_⟩
 · rintro i σ H1 ⟨_,sm⟩
   exact ⟨SqL.of (sm _ _ (Zae h2).1),SqL.of (sm _ _ (Zae h4).1)⟩
 · rintro i x y T σ H1 hx hy nT ⟨⟨v2,v3,rfl,hD⟩,sm⟩
   obtain ⟨e,he,rfl,rfl⟩:∃ e,es[i]?=some e∧x=.int (e.key:Nat)∧y=.ref e.loc:=by
     rw [List.getElem?_map] at hy;cases q:es[i]? with
     | none=>rw [q] at hy;cases hy
     | some e =>
       rw [q] at hy;obtain ⟨p,hp,rfl⟩:=ZbG hx;rw [Zig q] at hp;cases hp;exact ⟨e,rfl,rfl,(Option.some.inj hy).symm⟩
   have hin:=List.mem_of_getElem? he;have sT:=Same.new (o:=.tup [.int (e.key:Nat),.ref e.loc]) nT;have st:=(((hm.st e hin).same noT_sub).same sm).same sT;have hD2:=sT _ _ hD;walk_at "vc";refine ⟨_,SqT.of Zab,rfl,?_⟩;walk_at "vc";generalize upd H1 T (.tup [.int (e.key:Nat),.ref e.loc])=H2 at sT st hD2 ⊢;obtain ⟨dx2,fs2,ho2,nf2⟩:=st.obj;have up:=ok.pup e hin;have lt:=ok.plt e hin;have l256:=Up.lt256 up lt;refine ⟨_,_,⟨rfl,rfl⟩,_,_,rfl,rfl,⟨_,SqL.of hD2⟩,_,rfl,_,_,_,ho2,nf2.2.2.1,_,_,hw _,e.loc,e.ps,rfl,st,up,lt,e.ps,rfl,up,lt,fun r H3 s3 nr hr=>⟨r,rfl,⟨_,SqL.of hr⟩,compL (fun _=>true) (mapI fun p=>(e.key:Int)*256+p) (SqL.of hr) (by rw [Zaq];omega) (fun x H R hx s h=>?_) (fun x H R hx _ s h=>?_) (fun b nb=>?_)⟩⟩
   · walk_at "vc"
     exact h
   · obtain ⟨p,hp,rfl⟩:=Zg7 hx
     walk_at "vc";exact h
   rw [List.filter_eq_self.mpr (fun _ _=>rfl),Zg3 (g:=fun p=>256*e.key+p) fun p _=>by omega];have sb:=Same.new (o:=.lst (pint (e.ps.map fun p=>256*e.key+p))) nb;have S:=s3.trans sb;have tk:flat (es.take (i+1))=flat (es.take i)++e.ps.map fun p=>256*e.key+p:=by rw [List.take_succ,he,Zd5];show _++(_++flat [])=_;rw [show flat []=[] from rfl,List.append_nil]
   have tl:(flat (es.take (i+1))).length≤900:=by rw [Zb6];have:=ZaK (es.take (i+1)) (es.drop (i+1));rw [List.take_append_drop] at this;omega
   rw [tk,List.length_append] at tl;refine ⟨_,rfl,_,S _ _ hD2,_,Zab,?_,⟨⟨_,_,rfl,?_⟩,((sm.trans sT).trans S).put nD⟩⟩
   · rw [Zaq,Zaq]
     exact Nat.le_of_lt (small1000 (by omega))
   · rw [Zab,tk]
     unfold pint;rw [List.map_append]
 · rintro σ H1 ⟨⟨v2,v3,rfl,hD⟩,sm⟩
   walk_at "vc";rw [List.take_of_length_le (by rw [Zaq,List.length_map];unfold kys;rw [List.length_map];omega)] at hD;exact q D H1 sm nD hD
end
def spRow51 (K:PySem.W.Frag):Sp:=fun vs H Q _=>∃ (a:Addr) (ns:List Int) (c:Int),vs=[.ref a,.int c]∧SqL K H a (ns.map V.int)∧∀ r:Nat,r≤65535→Q (.int r) H
section
variable {P:Program}{w:World}{K:PySem.W.Frag}{mg:Str→Option Value}{base:Heap}
theorem ok_row51 (h_l_mixed:FnAt P w K mg base "_law_mixed" ["_law_cell","_law_k"] 1 spMixed)(h_l_cell_at:FnAt P w K mg base "_law_cell_at" ["_law_script","_law_k"] 1 (spCell K))(d:DefAt K mg "_law_row" Zef ["_law_script","_law_cell"]):FnAt P w K mg base "_law_row" ["_law_script","_law_cell"] 2 (spRow51 K):=by
 refine FnAt.of d sc_l_row (fun vs H Q E h=>?_) (fun f cdv A outer s H vs Q E hr h=>?_)
 · obtain ⟨a,ns,c,rfl,_⟩:=h
   rfl
 obtain ⟨a,ns,c,rfl,hS,q⟩:=h;refine ⟨_,(Zac (Zal (i:=2) sc_l_row.nd rfl (by walk_at "l") (Zaj h_l_mixed (hr.mono (by decide)) rfl (Zaa (pv 1) (Zaa Zag Zad))))
     (Zac (Zal (i:=3) sc_l_row.nd rfl (by walk_at "l") (Zaj h_l_cell_at (hr.mono (by decide)) rfl (Zaa (pv 0) (Zaa Zag Zad))))
     (Zac (Zal (i:=4) sc_l_row.nd rfl (by walk_at "l") (Zai Zax (Zaj h_l_mixed (hr.mono (by decide)) rfl (Zaa (pv 3) (Zaa (Zai ZaD Zag (Zai Zax (pv 2) Zag)) Zad))) Zag))
     (Zac (ZaF (Zas Zbw (Zai Zax (Zai Zay (pv 2) Zag) Zag) Zag (nomark _)) (Zaf (Zak (Zai ZaD (Zai Zcp Zag (pv 4)) (Zai Zax (Zai Zay (pv 2) Zag) Zag)))) Zat)
     (Zaf (Zak (Zai ZaD (Zai Zcp Zag (pv 4)) (Zai Zax (Zai ZaD (Zaj h_l_mixed (hr.mono (by decide)) rfl (Zaa (pv 3) (Zaa Zag Zad))) (Zai Zax (Zai Zay (pv 2) Zag) Zag)) Zag)))))))),?_⟩
 walk_at "vc";refine ⟨_,_,rfl,a,ns,0,rfl,hS,_,rfl,_,_,rfl,_,rfl,_,rfl,?_⟩;have fin:∀ x:Int,0≤x→x≤65535→Q (.int x) H:=fun x h0 h1=>by
   have:=q x.toNat (by omega)
   rw [Int.toNat_of_nonneg h0] at this;exact this
 split
 · exact ⟨_,rfl,fin _ (by omega) (by omega)⟩
 · exact ⟨_,_,rfl,_,rfl,_,rfl,fin _ (by omega) (by omega)⟩
end
def spVal51:Sp:=fun vs H Q _=>∃ (c t:Int),vs=[.int c,.int t]∧0≤t∧t<2^40∧∀ v:Int,0≤v→v≤t→Q (.int v) H
section
variable {P:Program}{w:World}{K:PySem.W.Frag}{mg:Str→Option Value}{base:Heap}
theorem ok_val51 (B:Blt mg)(h_l_mixed:FnAt P w K mg base "_law_mixed" ["_law_cell","_law_k"] 1 spMixed)(d:DefAt K mg "_law_value" Zc2 ["_law_cell","_law_top"]):FnAt P w K mg base "_law_value" ["_law_cell","_law_top"] 2 spVal51:=by
 refine FnAt.of d sc_l_value (fun vs H Q E h=>?_) (fun f cdv A outer s H vs Q E hr h=>?_)
 · obtain ⟨c,t,rfl,_⟩:=h
   rfl
 obtain ⟨c,t,rfl,t0,t1,q⟩:=h;refine ⟨_,(Zac (Zal (i:=2) sc_l_value.nd rfl (by walk_at "l") (Zaj h_l_mixed (hr.mono (by decide)) rfl (Zaa (pv 0) (Zaa Zag Zad))))
     (Zac (Zal (i:=3) sc_l_value.nd rfl (by walk_at "l") (Zaj h_l_mixed (hr.mono (by decide)) rfl (Zaa (pv 0) (Zaa Zag Zad))))
     (Zac (ZaF (Zas Zbw (Zai Zax (pv 2) Zag) Zag (nomark _)) (Zaf (Zak (Zai Zax (Zai Zay (pv 2) Zag) (Zai ZaD (ZaA (Zft rfl) rfl B.min ZfG (Zaa (pv 1) (Zaa Zag Zad))) Zag)))) Zat)
     (Zac (ZaF (Zas Zbw (Zai Zax (pv 2) Zag) Zag (nomark _)) (Zaf (Zak (Zai Za2 (pv 1) (Zai Zax (Zai Zay (pv 2) Zag) (Zai ZaD (ZaA (Zft rfl) rfl B.min ZfG (Zaa (pv 1) (Zaa Zag Zad))) Zag))))) Zat)
     (Zac (ZaF (Zas Zbw (Zai Zax (pv 2) Zag) Zag (nomark _)) (Zaf (Zak (Zai Zax (Zai Za2 (Zai Zbg Zag (Zai Zax (pv 3) Zag)) (Zai Zax (Zai Zay (pv 2) Zag) Zag)) (Zai ZaD (pv 1) Zag)))) Zat)
     (Zaf (Zak (Zai Zax (Zai ZaD (Zai Zcp (pv 2) Zag) (pv 3)) (Zai ZaD (pv 1) Zag))))))))),?_⟩
 walk_at "vc";refine ⟨_,_,rfl,_,_,rfl,?_⟩;have em:∀ x y:Int,0<y→0≤x%y∧x%y<y:=fun x y hy=>⟨Int.emod_nonneg x (by omega),Int.emod_lt_of_pos x hy⟩
 refine ⟨_,rfl,?_⟩;split
 · refine ⟨_,rfl,_,_,⟨rfl,rfl⟩,?_⟩
   have p:0<(if 3<t then 3 else t)+1:=by split<;>omega
   have:=em (mixI c 21/4) _ p;refine ⟨p,q _ this.1 ?_⟩;have l:(if 3<t then 3 else t)≤t:=by split<;>omega
   omega
 refine ⟨_,rfl,?_⟩;split
 · refine ⟨_,rfl,_,_,⟨rfl,rfl⟩,?_⟩
   have p:0<(if 2<t then 2 else t)+1:=by split<;>omega
   have:=em (mixI c 21/4) _ p;have l:(if 2<t then 2 else t)≤t:=by split<;>omega
   exact ⟨p,q _ (by omega) (by omega)⟩
 refine ⟨_,rfl,?_⟩;have t2:0<t+1:=by omega
 split
 · have f:=em (mixI c 22) 40 (by decide)
   refine ⟨_,rfl,⟨f.1,by omega,by decide⟩,_,rfl,t2,?_⟩;have:=em (1*2^(mixI c 22%40).toNat-mixI c 21/4%2) _ t2;exact q _ this.1 (by omega)
 · have:=em (mixI c 21*2147483629+mixI c 22) _ t2
   exact ⟨_,rfl,_,rfl,t2,q _ this.1 (by omega)⟩
end
def spIs51:Sp:=fun vs H Q _=>∃ n:Int,vs=[.int n,.int n]∧Q (.bl true) H
def spSame51:Sp:=fun vs H Q _=>∃ v:V,vs=[v,v]∧((∃ n:Int,v=.int n)∨v=.non)∧Q (.bl true) H
section
variable {P:Program}{w:World}{K:PySem.W.Frag}{mg:Str→Option Value}{base:Heap}
theorem ok_is51 (B:Blt mg)(d:DefAt K mg "_law_is" Zf2 ["_law_found","_law_due"]):FnAt P w K mg base "_law_is" ["_law_found","_law_due"] 1 spIs51:=by
 refine FnAt.of d sc_l_is (fun vs H Q E h=>?_) (fun f cdv A outer s H vs Q E hr h=>?_)
 · obtain ⟨n,rfl,_⟩:=h
   rfl
 obtain ⟨n,rfl,q⟩:=h;refine ⟨_,(Zaf (Zak (Zc9 (ZaA (ZaP K) rfl B.isi ZaO (Zaa (pv 0) (Zaa (Zcn (v:=.ty "int") rfl B.int boot_int rfl) Zad))) (Zc9 (Zh7 (ZaA (ZaP K) rfl B.isi ZaO (Zaa (pv 0) (Zaa (Zcn (v:=.ty "bool") rfl B.bool boot_bool rfl) Zad)))) (ZdD (Zbz Zbw (pv 0) (pv 1) (nomark _))))))),?_⟩;walk_at "vc";exact q
theorem Zjf (h_l_is:FnAt P w K mg base "_law_is" ["_law_found","_law_due"] 1 spIs51)(d:DefAt K mg "_law_same" ZdB ["_law_found","_law_due"]):FnAt P w K mg base "_law_same" ["_law_found","_law_due"] 2 spSame51:=by
 refine FnAt.of d Zjh (fun vs H Q E h=>?_) (fun f cdv A outer s H vs Q E hr h=>?_)
 · obtain ⟨v,rfl,_⟩:=h
   rfl
 obtain ⟨v,rfl,hv,q⟩:=h;refine ⟨_,(Zac (ZaF (Zas ZdL (pv 1) ZaU (nomark _)) (Zaf (Zak (Zbz ZdL (pv 0) ZaU (nomark _)))) Zat)
     (Zaf (Zak (Zaj h_l_is (hr.mono (by decide)) rfl (Zaa (pv 0) (Zaa (pv 1) Zad)))))),?_⟩
 walk_at "vc";rcases hv with ⟨n,rfl⟩ | rfl
 · rw [if_neg (fun z=>by cases z)]
   exact ⟨n,rfl,q⟩
 · rw [if_pos rfl,decide_eq_true (p:=V.non=V.non) rfl]
   exact q
end
theorem Zc1 (c k:Int):0≤mixI c k∧mixI c k<2147483629:=⟨Int.emod_nonneg _ (by decide),Int.emod_lt_of_pos _ (by decide)⟩
theorem Zjx {ks:List Int}:∀ {a:Nat},ks.Pairwise (·<·)→(∀ y∈ks,(a:Int)≤y)→∃ os:List Nat,ks=os.map (fun (o:Nat)=>(o:Int))∧Up a os:=by
 induction ks with
 | nil=>exact fun _ _=>⟨[],rfl,trivial⟩
 | cons x r ih =>
   intro a so h;obtain ⟨h1,h2⟩:=List.pairwise_cons.mp so;have hx:=h x (.head _);obtain ⟨os,e,u⟩:=ih (a:=x.toNat+1) h2 fun y hy=>by have:=h1 y hy;omega
   refine ⟨x.toNat::os,?_,by omega,u⟩;rw [List.map_cons,← e,Int.toNat_of_nonneg (by omega)]
theorem mem_cast {k:Nat}{os:List Nat}:(k:Int)∈os.map (fun (o:Nat)=>(o:Int))↔k∈os:=by
 rw [List.mem_map];constructor
 · rintro ⟨o,ho,e⟩
   have:o=k:=by omega
   rw [← this];exact ho
 · exact fun h=>⟨k,h,rfl⟩
theorem ZeJ {a:Nat}{ps:List Nat}(h:Up a ps):ps.Nodup:=by
 have h2:(ps.map fun (p:Nat)=>(p:Int)).Nodup:=(Zf0 h).imp fun h=>Int.ne_of_lt h
 exact List.Pairwise.of_map (fun (p:Nat)=>(p:Int)) (fun a b h e=>h (by rw [e])) h2
structure Dn (kvs:List (Key × V))(ms:List Nat):Prop where
 keys:kvs.map (·.1)=ms.map fun (k:Nat)=>(Sum.inl (k:Int):Key)
 nd:ms.Nodup
theorem Zcq (kvs:List (Key × V))(k:Key)(v:V):(putK kvs k v).map (·.1)=if (valV kvs k).isSome=true then kvs.map (·.1) else kvs.map (·.1)++[k]:=by
 unfold putK;rw [Zcb];split
 · rw [List.map_map]
   refine List.map_congr_left fun kv _=>?_
   show (if kv.1=k then (kv.1,v) else kv).1=kv.1;split<;>rfl
 · rw [List.map_append]
   rfl
section
variable {kvs:List (Key × V)}{ms:List Nat}
theorem inl_nat {x n:Nat}:(Sum.inl (x:Int):Key)=Sum.inl (n:Int)↔x=n:=⟨fun e=>by have:=Sum.inl.inj e;omega,fun e=>by rw [e]⟩
theorem Dn.some (h:Dn kvs ms)(n:Nat):(valV kvs (Sum.inl (n:Int))).isSome=decide (n∈ms):=by
 have e:(kvs.any fun kv=>decide (kv.1=(Sum.inl (n:Int):Key)))=(kvs.map (·.1)).any fun k=>decide (k=(Sum.inl (n:Int):Key)):=by rw [List.any_map];rfl
 rw [← Zcb,e,h.keys,List.any_map,Bool.eq_iff_iff,List.any_eq_true,decide_eq_true_eq];constructor
 · rintro ⟨k,hk,e⟩
   rw [← inl_nat.mp (of_decide_eq_true e)];exact hk
 · exact fun hn=>⟨n,hn,decide_eq_true rfl⟩
theorem Dn.put (h:Dn kvs ms)(n:Nat)(v:V):∃ ms',Dn (putK kvs (Sum.inl (n:Int)) v) ms'∧(∀ x,x∈ms'↔x∈ms∨x=n)∧ms'.length≤ms.length+1:=by
 by_cases hn:n∈ms
 · refine ⟨ms,⟨?_,h.nd⟩,fun x=>⟨.inl,fun z=>z.elim id fun z=>z ▸ hn⟩,Nat.le_succ _⟩
   rw [Zcq,if_pos (by rw [h.some];exact decide_eq_true hn),h.keys]
 · refine ⟨ms++[n],⟨?_,?_⟩,fun x=>by rw [List.mem_append,List.mem_singleton],by rw [List.length_append];exact Nat.le_refl _⟩
   · rw [Zcq,if_neg (by rw [h.some,decide_eq_true_eq];exact hn),h.keys,List.map_append]
     rfl
   · rw [List.nodup_append]
     refine ⟨h.nd,List.nodup_cons.mpr ⟨List.not_mem_nil,.nil⟩,fun a ha b hb e=>hn ?_⟩;rw [List.mem_singleton.mp hb] at e;rw [← e];exact ha
theorem Dn.drop (h:Dn kvs ms)(n:Nat):Dn (dropK kvs (Sum.inl (n:Int))) (ms.filter fun x=>decide (x≠n)):=by
 refine ⟨?_,h.nd.filter _⟩;unfold dropK;have e:(kvs.filter fun kv=>decide (kv.1≠(Sum.inl (n:Int):Key))).map (·.1)=(kvs.map (·.1)).filter fun k=>decide (k≠(Sum.inl (n:Int):Key)):=by rw [List.filter_map];rfl
 rw [e,h.keys,List.filter_map];congr 1
 refine List.filter_congr fun x _=>?_
 show decide ((Sum.inl (x:Int):Key)≠Sum.inl (n:Int))=decide (x≠n);rw [decide_eq_decide];exact ⟨fun h e=>h (by rw [e]),fun h e=>h (inl_nat.mp e)⟩
end
theorem Dn.len {kvs:List (Key × V)}{ms:List Nat}(h:Dn kvs ms):kvs.length=ms.length:=by have:=congrArg List.length h.keys;rw [List.length_map,List.length_map] at this;exact this
structure Nd (ts:Tabs)(m d:Addr)(H H':Hp):Prop where
 same:∀ b o,b≠m→b≠d→noT H b=some o→noT H' b=some o
 tb:Tbs ts H'
section
variable {ts:Tabs}{m d:Addr}{H H' H2:Hp}
end
structure Dm (c:Kd→Addr)(CM:Addr)(H:Hp)(m d:Addr)(es:List Ent)(kvs:List (Key × V))(ms:List Nat):Prop where
 mkA:MkAt c CM (noT H) m es
 ok:EsOk es
 hd:noT H d=some (.dK kvs)
 dn:Dn kvs ms
 mem:∀ x,x∈flat es↔x∈ms
section
variable {c:Kd→Addr}{CM:Addr}{ts:Tabs}{H H':Hp}{m d:Addr}{es:List Ent}{kvs:List (Key × V)}{ms:List Nat}
end
theorem ZfA {kvs:List (Key × V)}{ms:List Nat}{zs:List Int}(h:Dn kvs ms)(pm:zs.Perm (ms.map fun (n:Nat)=>(n:Int)))(so:zs.Pairwise (·≤·)):∃ os:List Nat,zs.map V.int=pint os∧Up 0 os∧(∀ n,n∈os↔n∈ms)∧os.length=ms.length:=by
 have n1:(ms.map fun (n:Nat)=>(n:Int)).Nodup:=by rw [List.Nodup,List.pairwise_map];exact h.nd.imp fun h e=>h (by omega)
 have lt:zs.Pairwise (·<·):=(so.and (pm.nodup_iff.mpr n1)).imp fun h=>by omega
 have mem:∀ y,y∈zs↔∃ n∈ms,(n:Int)=y:=fun y=>by rw [pm.mem_iff,List.mem_map]
 obtain ⟨os,eo,uo⟩:=Zjx (a:=0) lt fun y hy=>by
   obtain ⟨n,_,rfl⟩:=(mem y).mp hy;omega
 refine ⟨os,by rw [eo,← Zhi],uo,fun n=>?_,?_⟩
 · have:=mem (n:Int)
   rw [eo,mem_cast] at this;rw [this];constructor
   · rintro ⟨k,hk,e⟩
     have:k=n:=by omega
     rw [← this];exact hk
   · exact fun hn=>⟨n,hn,rfl⟩
 · have:=pm.length_eq
   rw [eo,List.length_map,List.length_map] at this;exact this
theorem Zez (kvs:List (Key × V)){k j:Key}(n:j≠k):valV (dropK kvs k) j=valV kvs j:=by
 unfold valV dropK;rw [List.find?_filter];congr 2
 funext x;by_cases c:x.1=j
 · simp [c,n]
 · simp [c]
def Loose (H:Hp)(b:Addr):Prop:=(∃ o,H b=some o∧Four o)∨∃ kvs,H b=some (.dK kvs)
theorem Loose.no {H:Hp}{b:Addr}{o:HO}(h:Loose H b)(e:H b=some o)(n1:¬ Four o)(n2:∀ kvs,o≠.dK kvs):False:=by
 rcases h with ⟨o',e',f⟩ | ⟨kvs,e'⟩
 · rw [e] at e'
   cases e';exact n1 f
 · rw [e] at e'
   exact n2 kvs (Option.some.inj e')
theorem Za6 {xs:List V}:¬ Four (.lst xs):=fun ⟨_,_,_,_,_,_,z⟩=>by cases z
theorem four_tup {xs:List V}:¬ Four (.tup xs):=fun ⟨_,_,_,_,_,_,z⟩=>by cases z
theorem Zet {C dx:Addr}{f:Str × V}:¬ Four (.ins C dx [f]):=fun ⟨_,_,_,_,_,_,z⟩=>by cases z
section
variable {c:Kd→Addr}{CM:Addr}{H H':Hp}{F:Addr→Prop}
theorem StAt.off {k:Kd}{x:Addr}{ps:List Nat}(hF:∀ b,F b→Loose H b)(h:StAt c k H x ps)(s:∀ b o,¬ F b→H b=some o→H' b=some o):StAt c k H' x ps:=by
 have go:∀ {b o},H b=some o→¬ Four o→(∀ kvs,o≠.dK kvs)→H' b=some o:=fun {b o} e n1 n2=>s b o (fun z=>(hF b z).no e n1 n2) e
 cases k with
 | l =>
   obtain ⟨dx,l,e,h⟩:=h;exact ⟨dx,l,go e Zet (fun _ z=>by cases z),go h Za6 (fun _ z=>by cases z)⟩
 | b =>
   obtain ⟨dx,e⟩:=h;exact ⟨dx,go e Zet (fun _ z=>by cases z)⟩
 | r =>
   obtain ⟨dx,l,e,us,h,t⟩:=h;exact ⟨dx,l,go e Zet (fun _ z=>by cases z),us,go h Za6 (fun _ z=>by cases z),Paired.mapP t fun _ _ ⟨t,e,ht⟩=>⟨t,e,go ht four_tup (fun _ z=>by cases z)⟩⟩
theorem MkAt.off {m:Addr}{es:List Ent}(hF:∀ b,F b→Loose H b)(h:MkAt c CM H m es)(n:¬ F m)(s:∀ b o,¬ F b→H b=some o→H' b=some o):MkAt c CM H' m es:=by
 have go:∀ {b o},H b=some o→¬ Four o→(∀ kvs,o≠.dK kvs)→H' b=some o:=fun {b o} e n1 n2=>s b o (fun z=>(hF b z).no e n1 n2) e
 obtain ⟨⟨dx,kd,ah,sr,h1,h2,h3,h4⟩,st⟩:=h;exact ⟨⟨dx,kd,ah,sr,s _ _ n h1,go h2 Za6 (fun _ z=>by cases z),go h3 Za6 (fun _ z=>by cases z),go h4 Za6 (fun _ z=>by cases z)⟩,fun e he=>(st e he).off hF s⟩
end
structure ColD where
 mv:Addr
 dn:Addr
 dk:Addr
 ev:List Ent
 kn:List (Key × V)
 ns:List Nat
 kk:List (Key × V)
 ks:List Nat
 A:Nat→Addr
 E:Nat→List Ent
 B:Nat→Addr
 kb:Nat→List (Key × V)
 nb:Nat→List Nat
def ColD.F (D:ColD)(b:Addr):Prop:=b=D.mv∨b=D.dn∨b=D.dk∨(∃ n∈D.ns,b=D.A n)∨∃ k∈D.ks,b=D.B k
structure ColAt (c:Kd→Addr)(CM C:Addr)(f:Str)(t:Int)(H:Hp)(x:Addr)(D:ColD)(S:Nat→Prop)(R:Nat→Nat→Prop)(U:Nat→Prop)(T:Nat→Nat→Prop):Prop where
 hx:∃ dx,H x=some (.ins C dx [("valued",.ref D.mv),("by_number",.ref D.dn),("by_key",.ref D.dk),(f,.int t)])
 hv:MkAt c CM H D.mv D.ev
 okv:EsOk D.ev
 hn:H D.dn=some (.dK D.kn)
 dnn:Dn D.kn D.ns
 hk:H D.dk=some (.dK D.kk)
 dnk:Dn D.kk D.ks
 an:∀ n∈D.ns,valV D.kn (Sum.inl (n:Int))=some (.ref (D.A n))∧MkAt c CM H (D.A n) (D.E n)∧EsOk (D.E n)
 ak:∀ k∈D.ks,valV D.kk (Sum.inl (k:Int))=some (.ref (D.B k))∧H (D.B k)=some (.dK (D.kb k))∧Dn (D.kb k) (D.nb k)
 a1:∀ n∈D.ns,D.A n≠D.mv
 a2:∀ n∈D.ns,∀ m∈D.ns,D.A n=D.A m→n=m
 kl:∀ k∈D.ks,k<256
 b1:D.dn≠D.dk
 b2:∀ k∈D.ks,D.B k≠D.dn∧D.B k≠D.dk
 b3:∀ k∈D.ks,∀ j∈D.ks,D.B k=D.B j→k=j
 m1:∀ r,r∈flat D.ev↔S r
 m2:∀ n∈D.ns,∀ r,r∈flat (D.E n)↔R n r
 m3:∀ k n,(k∈D.ks∧n∈D.nb k)↔T k n
 m4:∀ n,n∈D.ns↔U n
theorem ZbH {c:Kd→Addr}{CM:Addr}{H:Hp}{m d:Addr}{es:List Ent}{kvs:List (Key × V)}(h:MkAt c CM H m es)(e:H d=some (.dK kvs)):m≠d:=fun z=>by
 obtain ⟨dx,fs,ho,_⟩:=h.obj;rw [z,e] at ho;cases ho
section
variable {c:Kd→Addr}{CM C:Addr}{f:Str}{t:Int}{H H':Hp}{x:Addr}{D:ColD}{S S':Nat→Prop}{R R':Nat→Nat→Prop}{U U':Nat→Prop}{T T':Nat→Nat→Prop}
theorem ColAt.imp (h:ColAt c CM C f t H x D S R U T)(h1:∀ r,S r↔S' r)(h2:∀ n r,U n→(R n r↔R' n r))(h3:∀ n,U n↔U' n)(h4:∀ k n,T k n↔T' k n):ColAt c CM C f t H x D S' R' U' T' :=
 { h with m1:=fun r=>(h.m1 r).trans (h1 r),m2:=fun n hn r=>(h.m2 n hn r).trans (h2 n r ((h.m4 n).mp hn)),m3:=fun k n=>(h.m3 k n).trans (h4 k n),m4:=fun n=>(h.m4 n).trans (h3 n) }
theorem ColAt.loose (h:ColAt c CM C f t H x D S R U T):∀ b,D.F b→Loose H b:=by
 rintro b (rfl | rfl | rfl | ⟨n,hn,rfl⟩ | ⟨k,hk,rfl⟩)
 · exact .inl h.hv.four
 · exact .inr ⟨_,h.hn⟩
 · exact .inr ⟨_,h.hk⟩
 · exact .inl (h.an n hn).2.1.four
 · exact .inr ⟨_,(h.ak k hk).2.1⟩
theorem ColAt.notF (h:ColAt c CM C f t H x D S R U T):¬ Loose H x:=by
 obtain ⟨dx,hx⟩:=h.hx;intro z;refine z.no hx ?_ (fun _ z=>by cases z);rintro ⟨_,_,_,_,_,_,z⟩;injection z with _ _ z
 injection z with z _
 injection z with z _
 revert z;decide +kernel
theorem ColAt.off {F:Addr→Prop}(h:ColAt c CM C f t H x D S R U T)(hF:∀ b,F b→Loose H b)(no:∀ b,D.F b→¬ F b)(s:∀ b o,¬ F b→H b=some o→H' b=some o):ColAt c CM C f t H' x D S R U T:=by
 obtain ⟨dx,hx⟩:=h.hx;exact { h with
   hx:=⟨dx,s _ _ (fun z=>h.notF (hF _ z)) hx⟩
   hv:=h.hv.off hF (no _ (.inl rfl)) s
   hn:=s _ _ (no _ (.inr (.inl rfl))) h.hn
   hk:=s _ _ (no _ (.inr (.inr (.inl rfl)))) h.hk
   an:=fun n hn=>⟨(h.an n hn).1,(h.an n hn).2.1.off hF (no _ (.inr (.inr (.inr (.inl ⟨n,hn,rfl⟩))))) s,(h.an n hn).2.2⟩
   ak:=fun k hk=>⟨(h.ak k hk).1,s _ _ (no _ (.inr (.inr (.inr (.inr ⟨k,hk,rfl⟩))))) (h.ak k hk).2.1,(h.ak k hk).2.2⟩ }
theorem ColAt.same (h:ColAt c CM C f t H x D S R U T)(s:Same H H'):ColAt c CM C f t H' x D S R U T:=h.off (F:=fun _=>False) (fun _ z=>z.elim) (fun _ _ z=>z) fun b o _ e=>s b o e
theorem ColAt.hx1 {p:Addr}(h:ColAt c CM C f t H x D S R U T)(lp:Loose H p)(s:∀ b o,b≠p→H b=some o→H' b=some o):∃ dx,H' x=some (.ins C dx [("valued",.ref D.mv),("by_number",.ref D.dn),("by_key",.ref D.dk),(f,.int t)]):=by obtain ⟨dx,hx⟩:=h.hx;exact ⟨dx,s _ _ (fun z=>h.notF (z ▸ lp)) hx⟩
theorem MkAt.one {p m:Addr}{es:List Ent}(h:MkAt c CM H m es)(lp:Loose H p)(n:m≠p)(s:∀ b o,b≠p→H b=some o→H' b=some o):MkAt c CM H' m es:=h.off (F:=fun b=>b=p) (fun b z=>z ▸ lp) n s
theorem ColAt.setV {ev':List Ent}(h:ColAt c CM C f t H x D S R U T)(s:∀ b o,b≠D.mv→H b=some o→H' b=some o)(hm:MkAt c CM H' D.mv ev')(ok:EsOk ev')(m1:∀ r,r∈flat ev'↔S' r):ColAt c CM C f t H' x { D with ev:=ev' } S' R U T :=
 have lp:Loose H D.mv:=.inl h.hv.four
 { h with
   hx:=h.hx1 lp s
   hv:=hm
   okv:=ok
   hn:=s _ _ (Ne.symm (ZbH h.hv h.hn)) h.hn
   hk:=s _ _ (Ne.symm (ZbH h.hv h.hk)) h.hk
   an:=fun n hn=>⟨(h.an n hn).1,(h.an n hn).2.1.one lp (h.a1 n hn) s,(h.an n hn).2.2⟩
   ak:=fun k hk=>⟨(h.ak k hk).1,s _ _ (Ne.symm (ZbH h.hv (h.ak k hk).2.1)) (h.ak k hk).2.1,(h.ak k hk).2.2⟩
   m1:=m1 }
theorem ColAt.setN {n:Nat}{e':List Ent}(h:ColAt c CM C f t H x D S R U T)(hn:n∈D.ns)(s:∀ b o,b≠D.A n→H b=some o→H' b=some o)(hm:MkAt c CM H' (D.A n) e')(ok:EsOk e')(m2:∀ r,r∈flat e'↔R' n r)(m2':∀ m r,m≠n→(R m r↔R' m r)):ColAt c CM C f t H' x { D with E:=fun m=>if m=n then e' else D.E m } S R' U T:=by
 have hA:=(h.an n hn).2.1;have lp:Loose H (D.A n):=.inl hA.four;refine { h with
   hx:=h.hx1 lp s
   hv:=h.hv.one lp (Ne.symm (h.a1 n hn)) s
   hn:=s _ _ (Ne.symm (ZbH hA h.hn)) h.hn
   hk:=s _ _ (Ne.symm (ZbH hA h.hk)) h.hk
   an:=fun m hm'=>⟨(h.an m hm').1,?_⟩
   ak:=fun k hk=>⟨(h.ak k hk).1,s _ _ (Ne.symm (ZbH hA (h.ak k hk).2.1)) (h.ak k hk).2.1,(h.ak k hk).2.2⟩
   m2:=fun m hm' r=>?_ }
 · by_cases e:m=n
   · subst e
     simp only [if_pos rfl];exact ⟨hm,ok⟩
   · simp only [if_neg e]
     exact ⟨(h.an m hm').2.1.one lp (fun z=>e (h.a2 m hm' n hn z)) s,(h.an m hm').2.2⟩
 · by_cases e:m=n
   · subst e
     simp only [if_pos rfl];exact m2 r
   · simp only [if_neg e]
     exact (h.m2 m hm' r).trans (m2' m r e)
theorem ColAt.addN {n:Nat}{z:Addr}(h:ColAt c CM C f t H x D S R U T)(hn:n∉D.ns)(hz:MkAt c CM H z [])(nF:¬ D.F z):ColAt c CM C f t (upd H D.dn (.dK (putK D.kn (Sum.inl (n:Int)) (.ref z)))) x { D with kn:=putK D.kn (Sum.inl (n:Int)) (.ref z),ns:=D.ns++[n],A:=fun m=>if m=n then z else D.A m,E:=fun m=>if m=n then [] else D.E m } S (fun m r=>m≠n∧R m r) (fun m=>U m∨m=n) T:=by
 have lp:Loose H D.dn:=.inr ⟨_,h.hn⟩;have s:∀ b o,b≠D.dn→H b=some o→upd H D.dn (.dK (putK D.kn (Sum.inl (n:Int)) (.ref z))) b=some o:=fun b o nb e=>by rw [Zah nb];exact e
 have ne:∀ m∈D.ns,m≠n:=fun m hm z=>hn (z ▸ hm)
 have zA:∀ m∈D.ns,D.A m≠z:=fun m hm e=>nF (.inr (.inr (.inr (.inl ⟨m,hm,e.symm⟩))))
 refine { h with
   hx:=h.hx1 lp s
   hv:=h.hv.one lp (ZbH h.hv h.hn) s
   hn:=Zab
   dnn:=?_
   hk:=s _ _ (Ne.symm h.b1) h.hk
   an:=fun m hm=>?_
   ak:=fun k hk=>⟨(h.ak k hk).1,s _ _ (h.b2 k hk).1 (h.ak k hk).2.1,(h.ak k hk).2.2⟩
   a1:=fun m hm=>?_
   a2:=fun m hm m' hm' e=>?_
   m2:=fun m hm r=>?_
   m4:=fun m=>?_ }
 · refine ⟨?_,?_⟩
   · rw [Zcq,if_neg (by rw [h.dnn.some,decide_eq_true_eq];exact hn),h.dnn.keys,List.map_append]
     rfl
   · rw [List.nodup_append]
     refine ⟨h.dnn.nd,List.nodup_cons.mpr ⟨List.not_mem_nil,.nil⟩,fun a ha b hb e=>hn ?_⟩;rw [List.mem_singleton.mp hb] at e;rw [← e];exact ha
 · rw [ZeA]
   rcases List.mem_append.mp hm with hm | hm
   · rw [if_neg (fun q=>ne m hm (inl_nat.mp q))]
     simp only [if_neg (ne m hm)];exact ⟨(h.an m hm).1,(h.an m hm).2.1.one lp (ZbH (h.an m hm).2.1 h.hn) s,(h.an m hm).2.2⟩
   · rw [List.mem_singleton.mp hm,if_pos rfl]
     simp only [if_pos rfl];exact ⟨rfl,hz.one lp (ZbH hz h.hn) s,ZeK⟩
 · rcases List.mem_append.mp hm with hm | hm
   · simp only [if_neg (ne m hm)]
     exact h.a1 m hm
   · rw [List.mem_singleton.mp hm]
     simp only [if_pos rfl];exact fun e=>nF (.inl e)
 · rcases List.mem_append.mp hm with hm | hm<;>rcases List.mem_append.mp hm' with hm' | hm'
   · simp only [if_neg (ne m hm),if_neg (ne m' hm')] at e
     exact h.a2 m hm m' hm' e
   · rw [List.mem_singleton.mp hm'] at e
     simp only [if_neg (ne m hm),if_pos rfl] at e;exact absurd e (zA m hm)
   · rw [List.mem_singleton.mp hm] at e
     simp only [if_neg (ne m' hm'),if_pos rfl] at e;exact absurd e.symm (zA m' hm')
   · rw [List.mem_singleton.mp hm,List.mem_singleton.mp hm']
 · rcases List.mem_append.mp hm with hm | hm
   · simp only [if_neg (ne m hm)]
     exact (h.m2 m hm r).trans ⟨fun z=>⟨ne m hm,z⟩,fun z=>z.2⟩
   · rw [List.mem_singleton.mp hm]
     simp only [if_pos rfl];exact ⟨fun z=>(nomatch z),fun z=>(z.1 rfl).elim⟩
 · show m∈D.ns++[n]↔_
   rw [List.mem_append,List.mem_singleton,h.m4]
theorem ColAt.popN {n:Nat}(h:ColAt c CM C f t H x D S R U T):ColAt c CM C f t (upd H D.dn (.dK (dropK D.kn (Sum.inl (n:Int))))) x { D with kn:=dropK D.kn (Sum.inl (n:Int)),ns:=D.ns.filter fun m=>decide (m≠n) } S R (fun m=>U m∧m≠n) T:=by
 have lp:Loose H D.dn:=.inr ⟨_,h.hn⟩;have s:∀ b o,b≠D.dn→H b=some o→upd H D.dn (.dK (dropK D.kn (Sum.inl (n:Int)))) b=some o:=fun b o nb e=>by rw [Zah nb];exact e
 have mem:∀ {m},m∈D.ns.filter (fun m=>decide (m≠n))→m∈D.ns∧m≠n:=fun hm=>⟨(List.mem_filter.mp hm).1,of_decide_eq_true (List.mem_filter.mp hm).2⟩
 refine { h with
   hx:=h.hx1 lp s
   hv:=h.hv.one lp (ZbH h.hv h.hn) s
   hn:=Zab
   dnn:=h.dnn.drop n
   hk:=s _ _ (Ne.symm h.b1) h.hk
   an:=fun m hm=>?_
   ak:=fun k hk=>⟨(h.ak k hk).1,s _ _ (h.b2 k hk).1 (h.ak k hk).2.1,(h.ak k hk).2.2⟩
   a1:=fun m hm=>h.a1 m (mem hm).1
   a2:=fun m hm m' hm' e=>h.a2 m (mem hm).1 m' (mem hm').1 e
   m2:=fun m hm r=>h.m2 m (mem hm).1 r
   m4:=fun m=>?_ }
 · rw [Zez _ fun q=>(mem hm).2 (inl_nat.mp q)]
   have hm:=(mem hm).1;exact ⟨(h.an m hm).1,(h.an m hm).2.1.one lp (ZbH (h.an m hm).2.1 h.hn) s,(h.an m hm).2.2⟩
 · show m∈D.ns.filter (fun m=>decide (m≠n))↔_
   rw [List.mem_filter,decide_eq_true_eq,h.m4]
theorem ColAt.setK {k:Nat}{kb':List (Key × V)}{nb':List Nat}(h:ColAt c CM C f t H x D S R U T)(hk:k∈D.ks)(dn':Dn kb' nb')(m3:∀ n,n∈nb'↔T' k n)(m3':∀ j n,j≠k→(T j n↔T' j n)):ColAt c CM C f t (upd H (D.B k) (.dK kb')) x { D with kb:=fun j=>if j=k then kb' else D.kb j,nb:=fun j=>if j=k then nb' else D.nb j } S R U T':=by
 have hB:=(h.ak k hk).2.1;have lp:Loose H (D.B k):=.inr ⟨_,hB⟩;have s:∀ b o,b≠D.B k→H b=some o→upd H (D.B k) (.dK kb') b=some o:=fun b o nb e=>by rw [Zah nb];exact e
 refine { h with
   hx:=h.hx1 lp s
   hv:=h.hv.one lp (ZbH h.hv hB) s
   hn:=s _ _ (Ne.symm (h.b2 k hk).1) h.hn
   hk:=s _ _ (Ne.symm (h.b2 k hk).2) h.hk
   an:=fun m hm=>⟨(h.an m hm).1,(h.an m hm).2.1.one lp (ZbH (h.an m hm).2.1 hB) s,(h.an m hm).2.2⟩
   ak:=fun j hj=>⟨(h.ak j hj).1,?_⟩
   m3:=fun j n=>?_ }
 · by_cases e:j=k
   · subst e
     simp only [if_pos rfl];exact ⟨Zab,dn'⟩
   · simp only [if_neg e]
     exact ⟨s _ _ (fun z=>e (h.b3 j hj k hk z)) (h.ak j hj).2.1,(h.ak j hj).2.2⟩
 · by_cases e:j=k
   · subst e
     simp only [if_pos rfl];rw [← m3];exact ⟨fun z=>z.2,fun z=>⟨hk,z⟩⟩
   · simp only [if_neg e]
     exact (h.m3 j n).trans (m3' j n e)
theorem ColAt.addK {k:Nat}{z:Addr}(h:ColAt c CM C f t H x D S R U T)(k256:k<256)(hk:k∉D.ks)(hz:H z=some (.dK []))(nF:¬ D.F z):ColAt c CM C f t (upd H D.dk (.dK (putK D.kk (Sum.inl (k:Int)) (.ref z)))) x { D with kk:=putK D.kk (Sum.inl (k:Int)) (.ref z),ks:=D.ks++[k],B:=fun j=>if j=k then z else D.B j,kb:=fun j=>if j=k then [] else D.kb j,nb:=fun j=>if j=k then [] else D.nb j } S R U T:=by
 have lp:Loose H D.dk:=.inr ⟨_,h.hk⟩;have s:∀ b o,b≠D.dk→H b=some o→upd H D.dk (.dK (putK D.kk (Sum.inl (k:Int)) (.ref z))) b=some o:=fun b o nb e=>by rw [Zah nb];exact e
 have ne:∀ m∈D.ks,m≠k:=fun m hm z=>hk (z ▸ hm)
 have zB:∀ m∈D.ks,D.B m≠z:=fun m hm e=>nF (.inr (.inr (.inr (.inr ⟨m,hm,e.symm⟩))))
 refine { h with
   hx:=h.hx1 lp s
   hv:=h.hv.one lp (ZbH h.hv h.hk) s
   hn:=s _ _ h.b1 h.hn
   hk:=Zab
   dnk:=?_
   an:=fun m hm=>⟨(h.an m hm).1,(h.an m hm).2.1.one lp (ZbH (h.an m hm).2.1 h.hk) s,(h.an m hm).2.2⟩
   ak:=fun m hm=>?_
   kl:=fun m hm=>(List.mem_append.mp hm).elim (fun z=>h.kl m z) fun z=>by rw [List.mem_singleton.mp z];exact k256
   b2:=fun m hm=>?_
   b3:=fun m hm m' hm' e=>?_
   m3:=fun m n=>?_ }
 · refine ⟨?_,?_⟩
   · rw [Zcq,if_neg (by rw [h.dnk.some,decide_eq_true_eq];exact hk),h.dnk.keys,List.map_append]
     rfl
   · rw [List.nodup_append]
     refine ⟨h.dnk.nd,List.nodup_cons.mpr ⟨List.not_mem_nil,.nil⟩,fun a ha b hb e=>hk ?_⟩;rw [List.mem_singleton.mp hb] at e;rw [← e];exact ha
 · rw [ZeA]
   rcases List.mem_append.mp hm with hm | hm
   · rw [if_neg (fun q=>ne m hm (inl_nat.mp q))]
     simp only [if_neg (ne m hm)];exact ⟨(h.ak m hm).1,s _ _ (h.b2 m hm).2 (h.ak m hm).2.1,(h.ak m hm).2.2⟩
   · rw [List.mem_singleton.mp hm,if_pos rfl]
     simp only [if_pos rfl];exact ⟨rfl,s _ _ (fun e=>nF (.inr (.inr (.inl e)))) hz,⟨rfl,.nil⟩⟩
 · rcases List.mem_append.mp hm with hm | hm
   · simp only [if_neg (ne m hm)]
     exact h.b2 m hm
   · rw [List.mem_singleton.mp hm]
     simp only [if_pos rfl];exact ⟨fun e=>nF (.inr (.inl e)),fun e=>nF (.inr (.inr (.inl e)))⟩
 · rcases List.mem_append.mp hm with hm | hm<;>rcases List.mem_append.mp hm' with hm' | hm'
   · simp only [if_neg (ne m hm),if_neg (ne m' hm')] at e
     exact h.b3 m hm m' hm' e
   · rw [List.mem_singleton.mp hm'] at e
     simp only [if_neg (ne m hm),if_pos rfl] at e;exact absurd e (zB m hm)
   · rw [List.mem_singleton.mp hm] at e
     simp only [if_neg (ne m' hm'),if_pos rfl] at e;exact absurd e.symm (zB m' hm')
   · rw [List.mem_singleton.mp hm,List.mem_singleton.mp hm']
 · show (m∈D.ks++[k]∧n∈if m=k then [] else D.nb m)↔_
   rw [← h.m3,List.mem_append,List.mem_singleton];by_cases e:m=k
   · rw [if_pos e]
     exact ⟨fun z=>(nomatch z.2),fun z=>absurd z.1 (e ▸ hk)⟩
   · rw [if_neg e]
     exact ⟨fun z=>⟨z.1.elim id fun y=>absurd y e,z.2⟩,fun z=>⟨.inl z.1,z.2⟩⟩
end
theorem Dn.small {kvs:List (Key × V)}{ms:List Nat}(h:Dn kvs ms)(b:∀ n∈ms,n<1000):kvs.length<sizeLine:=by rw [h.len];refine small1000 (Nat.le_trans (h.nd.length_le_of_subset (l₂:=List.range 1000) fun n hn=>List.mem_range.mpr (b n hn)) ?_);rw [List.length_range];exact Nat.le_refl _
theorem Loose.none {H:Hp}{b:Addr}(h:Loose H b)(e:H b=none):False:=by rcases h with ⟨o,e',_⟩ | ⟨kvs,e'⟩<;>rw [e] at e'<;>cases e'
structure Cf (ts:Tabs)(F:Addr→Prop)(H:Hp)(F':Addr→Prop)(H':Hp):Prop where
 same:∀ b o,¬ F b→noT H b=some o→noT H' b=some o
 tb:Tbs ts H'
 foot:∀ b,F' b→F b∨noT H b=none
section
variable {ts:Tabs}{F F' F2:Addr→Prop}{H H' H2:Hp}
theorem Cf.trans (a:Cf ts F H F' H') (b:Cf ts F' H' F2 H2):Cf ts F H F2 H2:=by
 refine ⟨fun d o n e=>b.same d o (fun z=>?_) (a.same d o n e),b.tb,fun d z=>?_⟩
 · rcases a.foot d z with z | z
   · exact n z
   · rw [z] at e;cases e
 · rcases b.foot d z with z | z
   · exact a.foot d z
   · by_cases y:F d
     · exact .inl y
     · refine .inr ?_
       cases e:noT H d with
       | none=>rfl
       | some o=>rw [a.same d o y e] at z;cases z
theorem Cf.nx (a:Nx ts H H'):Cf ts F H F H':=⟨fun b o _ e=>a.same b o e,a.tb,fun _ z=>.inl z⟩
theorem Cf.nb {m:Addr}(a:Nb ts m H H')(hm:F m):Cf ts F H F H':=⟨fun b o n e=>a.same b o (fun z=>n (z ▸ hm)) e,a.tb,fun _ z=>.inl z⟩
theorem Cf.put {m:Addr}{o o':HO}(ht:Tbs ts H)(hm:F m)(e:H m=some o)(so:Soft o)(hF:∀ b,F' b→F b∨noT H b=none):Cf ts F H F' (upd H m o'):=by refine ⟨fun b o n e=>?_,ht.put e so,hF⟩;have z:=Zae e;exact Zam (by rw [Zah (fun y=>n (by rw [y];exact hm))];exact z.1) z.2
end
def spCountM (c:Kd→Addr)(CM:Addr)(ts:Tabs):Sp:=fun vs H Q _=>∃ (m:Addr) (k:Nat) (es:List Ent),vs=[.ref m,.int k]∧MkAt c CM (noT H) m es∧EsOk es∧Tbs ts H∧∀ H',Nx ts H H'→Q (.int ((plcE k es).length:Nat)) H'
def spManyMM (c:Kd→Addr)(CM:Addr):Sp:=fun vs H Q _=>∃ (m:Addr) (es:List Ent),vs=[.ref m]∧MkAt c CM (noT H) m es∧Q (.int (tot es:Nat)) H
def spCop (c:Kd→Addr)(CM:Addr)(ts:Tabs):Sp:=fun vs H Q _=>∃ (m:Addr) (es:List Ent),vs=[.ref m]∧MkAt c CM (noT H) m es∧Tbs ts H∧∀ m' H',Nx ts H H'→noT H m'=none→MkAt c CM (noT H') m' es→Q (.ref m') H'
section
variable {P:Program}{w:World}{K:PySem.W.Frag}{mg:Str→Option Value}{base:Heap}{c:Kd→Addr}{CM:Addr}{ts:Tabs}
theorem Zhe (h_found:MethAt P w K mg base CM "found" ["self","key"] 4 (spFound c CM ts))(h_stands:MethAt P w K mg base CM "stands" ["self","at","key"] 1 (spStands c CM))(h_ahead:MethAt P w K mg base CM "ahead_of" ["self","at"] 1 (spAhead c CM))(cd:CD_Marks K mg CM):MethAt P w K mg base CM "count_at" ["self","key"] 5 (spCountM c CM ts):=by
 refine MethAt.of cd.c cd.m_count_at sc_Marks_count_at (fun vs H Q E h=>?_) (fun f cdv A outer s H vs Q E hr h=>?_)
 · obtain ⟨m,k,es,rfl,_⟩:=h
   rfl
 obtain ⟨m,k,es,rfl,hm,ok,ht,q⟩:=h;obtain ⟨dx,fs,ho,nf⟩:=hm.obj;refine ⟨_,(Zac (Zal (i:=2) sc_Marks_count_at.nd rfl (by walk_at "l") (Zau (P:=P) (w:=w) (K:=K) (mg:=mg) (base:=base) 4 (hr.mono (by decide)) (pv 0) (Zaa (pv 1) Zad)))
     (Zaf (Zak (ZbK (ZaJ (Zau (P:=P) (w:=w) (K:=K) (mg:=mg) (base:=base) 1 (hr.mono (by decide)) (pv 0) (Zaa (pv 2) (Zaa (pv 1) Zad)))) (Zai Za2 (Zau (P:=P) (w:=w) (K:=K) (mg:=mg) (base:=base) 1 (hr.mono (by decide)) (pv 0) (Zaa (Zai ZaD (pv 2) Zag) Zad)) (Zca (Za0 K) (Zao K (pv 0)) (pv 2) (fun _ _=>rfl))) Zag)))),?_⟩
 walk_at "vc";refine ⟨_,_,_,(Zae ho).1,nf.1,_,_,h_found,m,k,es,rfl,hm,ok,ht,fun H1 nx=>?_⟩;have q:=q H1 nx;have hm:=hm.same nx.same;refine ⟨_,_,_,(Zae (nx.at ho)).1,nf.2.1,_,_,h_stands,m,k,es,rfl,hm,ok,_,rfl,?_⟩;have gl:=ZhD k ok;rcases Zb1 k ok.up with z | ⟨e,z1,z2,z3⟩
 · have e0:plcE k es=[]:=by
     unfold plcE;rw [z]
   rw [e0] at q;rw [decide_eq_false (by simp [z]),if_neg (by decide)];exact q
 · have e0:plcE k es=e.ps:=by
     unfold plcE;rw [z1]
   rw [e0] at q;rw [z1] at gl;have gl:es[(loE k es).length]?=some e:=gl;obtain ⟨dx2,kd,ah,sr,h1,h2,h3,h4⟩:=hm.ex;have ll:=(List.getElem?_eq_some_iff.mp gl).1;rw [decide_eq_true (by simp [z1]),if_pos rfl];walk_at "vc";have ga:=Zgl 0 es _ ll;rw [Nat.zero_add] at ga;refine ⟨_,_,_,(Zae (nx.at ho)).1,nf.2.2.1,_,_,h_ahead,m,(loE k es).length+1,es,rfl,hm,by omega,_,_,_,(Zae h1).1,cd.c,cd.n_aheads,.ref ah,rfl,ah,rfl,_,SqL.of (Zae h3).1,.int (tot (es.take (loE k es).length):Nat),Zf1 ga,_,rfl,_,rfl,?_⟩;have et:tot (es.take ((loE k es).length+1))=tot (es.take (loE k es).length)+e.ps.length:=by rw [List.take_succ,gl];show tot (_++[e])=_;rw [ZaK];show _+(e.ps.length+0)=_;omega
   rw [et];have:((tot (es.take (loE k es).length)+e.ps.length:Nat):Int)-(tot (es.take (loE k es).length):Nat)=(e.ps.length:Nat):=by omega
   rw [this];exact q
theorem Zjm (cd:CD_Marks K mg CM):MethAt P w K mg base CM "many" ["self"] 1 (spManyMM c CM):=by
 refine MethAt.of cd.c cd.m_many Ze8 (fun vs H Q E h=>?_) (fun f cdv A outer s H vs Q E hr h=>?_)
 · obtain ⟨m,es,rfl,_⟩:=h
   rfl
 obtain ⟨m,es,rfl,hm,q⟩:=h;obtain ⟨dx,kd,ah,sr,h1,_⟩:=hm.ex;refine ⟨_,(Zaf (Zak (Zao K (pv 0)))),?_⟩;walk_at "vc";exact ⟨_,_,_,(Zae h1).1,cd.c,cd.n_held,_,rfl,q⟩
theorem ok_copM (B:Blt mg)(h_Marks:MakeAt P w K mg base "Marks" CM ["self"] 1 (spInitM c CM ts))(cd:CD_Marks K mg CM):MethAt P w K mg base CM "copied" ["self"] 3 (spCop c CM ts):=by
 refine MethAt.of cd.c cd.m_copied sc_Marks_copied (fun vs H Q E h=>?_) (fun f cdv A outer s H vs Q E hr h=>?_)
 · obtain ⟨m,es,rfl,_⟩:=h
   rfl
 obtain ⟨m,es,rfl,hm,ht,q⟩:=h;obtain ⟨dx,kd,ah,sr,h1,h2,h3,h4⟩:=hm.ex;refine ⟨_,(Zac (Zal (i:=1) sc_Marks_copied.nd rfl (by walk_at "l") (ZdH h_Marks (hr.mono (by decide)) rfl))
     (Zac (ZaC K (pv 1) (Zcd (ZbD K) rfl B.lst boot_list (Zaa (Zao K (pv 0)) Zad)))
     (Zac (ZaC K (pv 1) (Zcd (ZbD K) rfl B.lst boot_list (Zaa (Zao K (pv 0)) Zad)))
     (Zac (ZaC K (pv 1) (Zcd (ZbD K) rfl B.lst boot_list (Zaa (Zao K (pv 0)) Zad)))
     (Zac (ZaC K (pv 1) (Zao K (pv 0)))
     (Zaf (Zak (pv 1)))))))),?_⟩
 walk_at "vc";refine mkM ht fun y H1 nx ny hy=>?_
 obtain ⟨d2,a2,b2,c2,e1,_⟩:=hy.ex;have e1:=(Zae e1).1;have stp:∀ (H3:Hp) (l:Addr) (xs:List V) (fs fs':List (Str × V)),Nx ts H H3→H3 y=some (.ins CM d2 fs)→H3 l=none→Nx ts H (upd (upd H3 l (.lst xs)) y (.ins CM d2 fs'))∧upd (upd H3 l (.lst xs)) y (.ins CM d2 fs') l=some (.lst xs)∧∀ l' ys,H3 l'=some (.lst ys)→upd (upd H3 l (.lst xs)) y (.ins CM d2 fs') l'=some (.lst ys):=fun H3 l xs fs fs' s3 hy nl=>by
   have ly:l≠y:=fun z=>by rw [z,hy] at nl;cases nl
   refine ⟨(s3.trans (Nx.new s3.tb nl)).put ny ((Same.new nl) _ _ hy) trivial,by rw [Zah ly,Zab],fun l' ys e=>?_⟩;have:l'≠y:=fun z=>by rw [z,hy] at e;cases e
   rw [Zah this];exact (Same.new nl) _ _ e
 refine ⟨_,_,_,(Zae (nx.at h1)).1,cd.c,cd.n_keyed,_,rfl,_,rfl,_,.inl (SqL.of (Zae (nx.at h2)).1),fun l1 n1=>⟨_,_,_,(Same.new n1) _ _ e1,cd.c,cd.n_keyed,by show 4<1000;decide,?_⟩⟩;obtain ⟨s3,k3,_⟩:=stp H1 l1 (pint (kys es)) _ [("keyed",.ref l1),("aheads",.ref b2),("stretches",.ref c2),("held",.int (tot []:Nat))] nx e1 n1;have y3:=Zab (H:=upd H1 l1 (.lst (pint (kys es)))) (a:=y) (o:=.ins CM d2 [("keyed",.ref l1),("aheads",.ref b2),("stretches",.ref c2),("held",.int (tot []:Nat))]);rw [show putF (Str.ofString "keyed") (V.ref l1) ([("keyed",.ref a2),("aheads",.ref b2),("stretches",.ref c2),("held",.int (tot []:Nat))]:List (Str × V))=([("keyed",.ref l1),("aheads",.ref b2),("stretches",.ref c2),("held",.int (tot []:Nat))]:List (Str × V)) from rfl];generalize upd (upd H1 l1 (.lst (pint (kys es)))) y (.ins CM d2 [("keyed",.ref l1),("aheads",.ref b2),("stretches",.ref c2),("held",.int (tot []:Nat))])=H3 at s3 k3 y3 ⊢;refine ⟨_,_,_,(Zae (s3.at h1)).1,cd.c,cd.n_aheads,_,rfl,_,rfl,_,.inl (SqL.of (Zae (s3.at h3)).1),fun l2 n2=>⟨_,_,_,(Same.new n2) _ _ y3,cd.c,cd.n_aheads,by show 4<1000;decide,?_⟩⟩;obtain ⟨s4,k4,k3'⟩:=stp H3 l2 (pint (ahs 0 es)) _ [("keyed",.ref l1),("aheads",.ref l2),("stretches",.ref c2),("held",.int (tot []:Nat))] s3 y3 n2;have k3:=k3' _ _ k3;have y4:=Zab (H:=upd H3 l2 (.lst (pint (ahs 0 es)))) (a:=y) (o:=.ins CM d2 [("keyed",.ref l1),("aheads",.ref l2),("stretches",.ref c2),("held",.int (tot []:Nat))]);rw [show putF (Str.ofString "aheads") (V.ref l2) ([("keyed",.ref l1),("aheads",.ref b2),("stretches",.ref c2),("held",.int (tot []:Nat))]:List (Str × V))=([("keyed",.ref l1),("aheads",.ref l2),("stretches",.ref c2),("held",.int (tot []:Nat))]:List (Str × V)) from rfl];generalize upd (upd H3 l2 (.lst (pint (ahs 0 es)))) y (.ins CM d2 [("keyed",.ref l1),("aheads",.ref l2),("stretches",.ref c2),("held",.int (tot []:Nat))])=H4 at s4 k4 k3 y4 ⊢;refine ⟨_,_,_,(Zae (s4.at h1)).1,cd.c,cd.n_stretches,_,rfl,_,rfl,_,.inl (SqL.of (Zae (s4.at h4)).1),fun l3 n3=>⟨_,_,_,(Same.new n3) _ _ y4,cd.c,cd.n_stretches,by show 4<1000;decide,?_⟩⟩;obtain ⟨s5,k5,k4'⟩:=stp H4 l3 (es.map fun e=>V.ref e.loc) _ [("keyed",.ref l1),("aheads",.ref l2),("stretches",.ref l3),("held",.int (tot []:Nat))] s4 y4 n3;have k3:=k4' _ _ k3;have k4:=k4' _ _ k4;have y5:=Zab (H:=upd H4 l3 (.lst (es.map fun e=>V.ref e.loc))) (a:=y) (o:=.ins CM d2 [("keyed",.ref l1),("aheads",.ref l2),("stretches",.ref l3),("held",.int (tot []:Nat))]);rw [show putF (Str.ofString "stretches") (V.ref l3) ([("keyed",.ref l1),("aheads",.ref l2),("stretches",.ref c2),("held",.int (tot []:Nat))]:List (Str × V))=([("keyed",.ref l1),("aheads",.ref l2),("stretches",.ref l3),("held",.int (tot []:Nat))]:List (Str × V)) from rfl];generalize upd (upd H4 l3 (.lst (es.map fun e=>V.ref e.loc))) y (.ins CM d2 [("keyed",.ref l1),("aheads",.ref l2),("stretches",.ref l3),("held",.int (tot []:Nat))])=H5 at s5 k5 k4 k3 y5 ⊢;refine ⟨_,_,_,(Zae (s5.at h1)).1,cd.c,cd.n_held,_,rfl,_,_,_,y5,cd.c,cd.n_held,by show 4<1000;decide,?_⟩;have s6:=s5.put (o':=.ins CM d2 [("keyed",.ref l1),("aheads",.ref l2),("stretches",.ref l3),("held",.int (tot es:Nat))]) ny y5 trivial;refine q y _ s6 ny ⟨⟨d2,l1,l2,l3,Zam Zab (ni _ _ _),Zam ?_ (nl _),Zam ?_ (nl _),Zam ?_ (nl _)⟩,fun e he=>(hm.st e he).same s6.same⟩
 · rw [Zah (fun z=>by rw [z,y5] at k3;cases k3)]
   exact k3
 · rw [Zah (fun z=>by rw [z,y5] at k4;cases k4)]
   exact k4
 · rw [Zah (fun z=>by rw [z,y5] at k5;cases k5)]
   exact k5
end
section
variable {K:PySem.W.Frag}{a:Addr}{xs:List V}{m:Nat}{caps:List Nat}{tt:TT}{te:TE}{σ:L2.St}{H1:Hp}{Q:VK}{ts:Tabs}
theorem compX (hT:Tbs ts H1)(p:Nat→Bool)(fy:Nat→V)(hS:noT H1 a=some (.lst xs))(hn:xs.length≤1000000)
   (ht:∀ i x H2 (R:Bool→Hp→Prop),xs[i]?=some x→Nx ts H1 H2→(∀ H3,Nx ts H2 H3→R (p i) H3)→tt ((capSt m caps σ).set 0 (some x)) H2 R)
   (he:∀ i x H2 (R:VK),xs[i]?=some x→p i=true→Nx ts H1 H2→(∀ H3,Nx ts H2 H3→R (fy i) H3)→te ((capSt m caps σ).set 0 (some x)) H2 R)
   (hq:∀ D H2,Nx ts H1 H2→noT H1 D=none→H2 D=some (.lst (((List.range xs.length).filter p).map fy))→Q (.ref D) H2):CompJ (Itl K a) m caps (gName 0) tt te σ H1 Q:=by
 have sq:∀ {H2},Nx ts H1 H2→SqL K H2 a xs:=fun n=>SqL.of (Zae (n.at hS)).1
 refine compG (n:=xs.length) (fun D i ys H2=>i≤xs.length∧Nx ts H1 H2∧H2 D=some (.lst ys)∧ys=((List.range i).filter p).map fy) (fun D hD=>⟨Nat.zero_le _,Nx.new hT hD,Zab,rfl⟩) (fun D i ys H2 h=>h.1)
   (fun D ys H2 hD h=>⟨xs,sq h.2.1,Nat.le_refl _⟩) (fun D i ys H2 hD hi h=>⟨xs,_,sq h.2.1,List.getElem?_eq_getElem hi⟩) ?_ (fun D ys H2 hD h=>hq D H2 h.2.1 (ZaT hD) (h.2.2.2 ▸ h.2.2.1))
 rintro D i ys H2 x H3 hD hi ⟨_,s2,h2,rfl⟩ ⟨rfl,y⟩;have hx:=y xs (sq s2);rw [ZcO];refine ht i x H3 _ hx s2 fun H4 s4=>?_
 have ll:(((List.range i).filter p).map fy).length≤i:=by rw [List.length_map];exact Nat.le_trans (List.length_filter_le _ _) (by rw [List.length_range];exact Nat.le_refl _)
 have at4:∀ {H5 xs},Nx ts H3 H5→H3 D=some (.lst xs)→H5 D=some (.lst xs):=fun n e=>(Zae (n.at (Zam e (nl _)))).1
 split
 · rename_i e
   refine he i x _ _ hx e (s2.trans s4) fun H5 s5=>compYes hn hi ll (at4 (s4.trans s5) h2) ⟨hi,((s2.trans s4).trans s5).put (ZaT hD) (at4 (s4.trans s5) h2) trivial,Zab,?_⟩
   rw [List.range_succ,List.filter_append,List.map_append];simp [e]
 · rename_i e
   refine compNo (ys:=((List.range i).filter p).map fy) hi ⟨hi,s2.trans s4,at4 s4 h2,?_⟩;rw [List.range_succ,List.filter_append,List.map_append];simp [e]
end
def nmB (b:Bool)(v:Nat):List Nat:=if b=true then [v] else pl 256 v
def Rg (b:Bool)(g:Nat→Option Nat)(n r:Nat):Prop:=∃ v,g r=some v∧n∈nmB b v
def tpB (b:Bool)(t:Nat):Nat:=if b=true then t else 2^t-1
def okT (b:Bool)(t:Nat):Prop:=if b=true then t≤999 else t≤40
def fK (b:Bool):Str:=if b=true then "greatest" else "width"
structure ColF (b:Bool)(c:Kd→Addr)(CM C:Addr)(t:Nat)(H:Hp)(x:Addr)(D:ColD)(g:Nat→Option Nat):Prop where
 at_:ColAt c CM C (fK b) t H x D (fun r=>∃ v,g r=some v) (Rg b g) (fun n=>∃ r,Rg b g n r) (fun k n=>∃ r,r/256=k∧Rg b g n r)
 bd:∀ r v,g r=some v→r≤65535∧v≤tpB b t
 ok:okT b t
theorem nmB_up (b:Bool)(v:Nat):Up 0 (nmB b v):=by
 unfold nmB;split
 · exact ZdQ _
 · exact Zg8 _ _
theorem ZhJ {t:Nat}(h:t≤40):2^t≤2^40:=Nat.pow_le_pow_right (by decide) h
theorem ZhV {b:Bool}{t v n:Nat}(ok:okT b t)(h:v≤tpB b t)(hn:n∈nmB b v):n<1000:=by
 unfold okT at ok;unfold tpB at h;unfold nmB at hn;cases b with
 | true =>
   simp only [if_true] at ok h hn;rw [List.mem_singleton.mp hn];omega
 | false =>
   simp only [Bool.false_eq_true,if_false] at hn;have:=(mem_pl.mp hn).1;omega
section
variable {b:Bool}{c:Kd→Addr}{CM C:Addr}{t:Nat}{H H':Hp}{x:Addr}{D:ColD}{g:Nat→Option Nat}{ts:Tabs}
theorem ColF.same (h:ColF b c CM C t H x D g)(s:Same H H'):ColF b c CM C t H' x D g:=⟨h.at_.same s,h.bd,h.ok⟩
theorem ColF.lt (h:ColF b c CM C t H x D g){n r:Nat}(z:Rg b g n r):n<1000:=by obtain ⟨v,e,hn⟩:=z;exact ZhV h.ok (h.bd r v e).2 hn
theorem ColF.off {F:Addr→Prop}(h:ColF b c CM C t H x D g)(hF:∀ b,F b→Loose H b)(no:∀ b,D.F b→¬ F b)(s:∀ b o,¬ F b→H b=some o→H' b=some o):ColF b c CM C t H' x D g:=⟨h.at_.off hF no s,h.bd,h.ok⟩
end
theorem ColAt.get {c:Kd→Addr}{CM C:Addr}{f:Str}{t:Int}{H:Hp}{x:Addr}{D:ColD}{S:Nat→Prop}{R:Nat→Nat→Prop}{U:Nat→Prop}{T:Nat→Nat→Prop}(h:ColAt c CM C f t (noT H) x D S R U T){n:Nat}(hn:n∈D.ns):DGet H D.dn (.int (n:Int)) (some (.ref (D.A n)))∧MkAt c CM (noT H) (D.A n) (D.E n)∧EsOk (D.E n):=by refine ⟨?_,(h.an n hn).2⟩;have:=DGet.k (k:=Sum.inl (n:Int)) (Zae h.hn).1;rw [(h.an n hn).1] at this;exact this
theorem sum_wd:∀ ps:List Nat,(ps.map fun n=>(2:Int)^n).sum=(wd ps:Nat)
 | []=>rfl
 | p::r=>by
   rw [List.map_cons,List.sum_cons,sum_wd r];show _=((2^p+wd r:Nat):Int)
   rw [Int.natCast_add,Int.natCast_pow];rfl
structure ClC (K:PySem.W.Frag)(C:Addr):Prop where
 c:Cls K C
 n1:NoAttr K C "valued"
 n2:NoAttr K C "by_number"
 n3:NoAttr K C "by_key"
def spNat (c:Kd→Addr)(CM C:Addr):Sp:=fun vs H Q _=>∃ (x:Addr) (k:Nat) (f:Str) (t:Int) (D:ColD) (S:Nat→Prop) (R:Nat→Nat→Prop) (U:Nat→Prop) (T:Nat→Nat→Prop),vs=[.ref x,.int k]∧ColAt c CM C f t (noT H) x D S R U T∧∀ l os H',Same H H'→H l=none→H' l=some (.lst (pint os))→Up 0 os→(∀ n,n∈os↔T k n)→Q (.ref l) H'
section
variable {P:Program}{w:World}{K:PySem.W.Frag}{mg:Str→Option Value}{base:Heap}{c:Kd→Addr}{CM C:Addr}{ts:Tabs}
theorem ok_nat (B:Blt mg)(cc:ClC K C)(d:MDefAt K C "numbers_at" "Column.numbers_at" ZaL ["self","key"]):MethAt P w K mg base C "numbers_at" ["self","key"] 2 (spNat c CM C):=by
 refine MethAt.of cc.c d ZcH (fun vs H Q E h=>?_) (fun f cdv A outer s H vs Q E hr h=>?_)
 · obtain ⟨x,k,f,t,D,S,R,U,T,rfl,_⟩:=h
   rfl
 obtain ⟨x,k,f,t,D,S,R,U,T,rfl,hc,q⟩:=h;obtain ⟨dx,hx⟩:=hc.hx;refine ⟨_,(Zaf (Zak (ZaA Zdu rfl B.sorted L2.boot_sorted (Zaa (pe_dget2 (hu1 hr) (Zao K (pv 0)) (pv 1) ZcJ ⟨rfl,rfl,rfl,rfl⟩) Zad)))),?_⟩;walk_at "vc";refine ⟨_,_,_,(Zae hx).1,cc.c,cc.n3,_,rfl,_,rfl,.inl ⟨_,.inl (Zae hc.hk).1⟩,fun p np=>?_⟩;have s1:Same H (upd H p (.dK [])):=Same.new np;refine ⟨_,DGet.k (k:=Sum.inl (k:Int)) (s1 _ _ (Zae hc.hk).1),?_⟩;by_cases hk:k∈D.ks
 · obtain ⟨h1,h2,h3⟩:=hc.ak k hk
   rw [h1];refine ⟨_,rfl,_,s1 _ _ (Zae h2).1,(D.nb k).map fun (n:Nat)=>(n:Int),by rw [h3.keys,List.map_map];rfl,fun l zs nl pm so=>?_⟩;obtain ⟨os,e,up,mem,_⟩:=ZfA h3 pm so;rw [e];exact q l os _ (s1.trans (Same.new nl)) (s1.free nl) Zab up fun n=>by rw [mem,← hc.m3];exact ⟨fun z=>⟨hk,z⟩,fun z=>z.2⟩
 · have hz:valV D.kk (Sum.inl (k:Int))=none:=by
     have:=hc.dnk.some k;rw [decide_eq_false hk] at this;exact Option.not_isSome_iff_eq_none.mp (by rw [this];decide)
   rw [hz];refine ⟨_,rfl,_,Zab,[],rfl,fun l zs nl pm so=>?_⟩;rw [List.perm_nil.mp pm];exact q l [] _ (s1.trans (Same.new nl)) (s1.free nl) Zab trivial fun n=>by rw [← hc.m3];exact ⟨fun z=>(nomatch z),fun z=>absurd z.1 hk⟩
def spVal (b:Bool)(c:Kd→Addr)(CM C:Addr)(ts:Tabs):Sp:=fun vs H Q _=>∃ (x:Addr) (r t:Nat) (D:ColD) (g:Nat→Option Nat),vs=[.ref x,.int r]∧r≤65535∧ColF b c CM C t (noT H) x D g∧Tbs ts H∧∀ H',Nx ts H H'→Q (ofO (g r)) H'
theorem ok_valV (B:Blt mg) (cP:∃ t,mg "PLACES"=some (.int 256 t)) (cc:ClC K C) (h_check_number:FnAt P w K mg base "check_number" ["thing"] 2 spChk) (h_nat:MethAt P w K mg base C "numbers_at" ["self","key"] 2 (spNat c CM C)) (h_hasM:MethAt P w K mg base CM "has" ["self","n"] 6 (spHas c CM ts)) (d:MDefAt K C "value" "ByValue.value" Za9 ["self","row"]):MethAt P w K mg base C "value" ["self","row"] 7 (spVal true c CM C ts):=by
 obtain ⟨tP,c_PLACES⟩:=cP;refine MethAt.of cc.c d sc_ByValue_value (fun vs H Q E h=>?_) (fun f cdv A outer s H vs Q E hr h=>?_)
 · obtain ⟨x,r,t,D,g,rfl,_⟩:=h
   rfl
 obtain ⟨x,r,t,D,g,rfl,hr1,hc,ht,q⟩:=h;obtain ⟨dx,hx⟩:=hc.at_.hx;refine ⟨_,(Zac (ZaE (Zaj h_check_number (hr.mono (by decide)) rfl (Zaa (pv 1) Zad)))
     (Zac (Zb4 PassesOwn.never rfl (Za5 K (Zau (P:=P) (w:=w) (K:=K) (mg:=mg) (base:=base) 2 (hr.mono (by decide)) (pv 0) (Zaa (Zai Zay (pv 1) (Zav (v:=.int 256) rfl c_PLACES ⟨_,rfl⟩)) Zad))) (ZaH (i:=2) sc_ByValue_value.nd rfl (by walk_at "l")) (Zaf (ZaF (ZaJ (Zau (P:=P) (w:=w) (K:=K) (mg:=mg) (base:=base) 6 (hr.mono (by decide)) (Zdl (hu1 hr) (Zao K (pv 0)) (pv 2) (fun _ _=>rfl)) (Zaa (pv 1) Zad))) (Zaf (Zak (pv 2))) Zat)))
     (Zaf (Zak ZaU)))),?_⟩
 have e1:(r:Int)/256=((r/256:Nat):Int):=by omega
 walk_at "vc";rw [e1];refine ⟨r,rfl,hr1,_,_,_,(Zae hx).1,rfl,_,_,h_nat,x,r/256,_,_,D,_,_,_,_,rfl,hc.at_,fun l os H1 s1 nl hl up mem=>?_⟩;refine ⟨l,rfl,⟨_,SqL.of hl⟩,?_⟩;refine loopL (xs:=pint os) (fun i σ H'=>(∃ v2,σ=[some (.ref x),some (.int r),v2])∧Nx ts H H'∧noT H' l=some (.lst (pint os))∧∀ j n,j<i→os[j]?=some n→g r≠some n) ⟨⟨_,rfl⟩,ht.nx s1,Zam hl (L2.nl _),fun j n h=>absurd h (by omega)⟩ ?_ ?_ ?_
 · rintro i σ H2 _ ⟨_,nx,hl2,_⟩
   exact SqL.of (Zae hl2).1
 · rintro i v σ H2 hv ⟨⟨v2,rfl⟩,nx,hl2,no⟩
   obtain ⟨n,hn,rfl⟩:=ZbG hv;have hc2:=hc.same nx.same;obtain ⟨r',_,hR⟩:=(mem n).mp (List.mem_of_getElem? hn);have hin:n∈D.ns:=(hc2.at_.m4 n).mpr ⟨r',hR⟩;obtain ⟨a1,a2,a3⟩:=hc2.at_.an n hin;obtain ⟨dx2,hx2⟩:=hc2.at_.hx;obtain ⟨dm,fs,ho,nf⟩:=a2.obj;walk_at "vc";refine ⟨_,_,_,(Zae hx2).1,cc.c,cc.n2,_,rfl,_,rfl,_,(hc2.at_.get hin).1,_,rfl,_,_,_,(Zae ho).1,nf.2.2.2.2.2.1,_,_,h_hasM,D.A n,r,D.E n,rfl,hr1,a2,a3,nx.tb,fun H3 nx3=>⟨_,rfl,?_⟩⟩;have eq:r∈flat (D.E n)↔g r=some n:=by rw [hc2.at_.m2 n hin r];exact ⟨fun ⟨v,e,hv⟩=>by rw [e,List.mem_singleton.mp (show n∈[v] from hv)],fun e=>⟨n,e,List.mem_singleton.mpr rfl⟩⟩
   by_cases z:r∈flat (D.E n)
   · rw [if_pos (decide_eq_true z)]
     have:=q H3 (nx.trans nx3);rw [eq.mp z] at this;exact this
   · rw [if_neg (by rw [decide_eq_true_eq];exact z)]
     refine ⟨nx.trans nx3,nx3.at hl2,fun j m hj hm=>?_⟩;by_cases e:j=i
     · rw [e,hn] at hm
       cases hm;exact fun w=>z (eq.mpr w)
     · exact no j m (by omega) hm
 · rintro σ H2 ⟨⟨v2,rfl⟩,nx,hl2,no⟩
   walk_at "vc";have e0:g r=none:=by
     cases e:g r with
     | none=>rfl
     | some v =>
       have hv:v∈os:=(mem v).mpr ⟨r,rfl,v,e,List.mem_singleton.mpr rfl⟩;obtain ⟨j,hj⟩:=List.mem_iff_getElem?.mp hv;exact absurd e (no j v (by rw [Zaq];exact (List.getElem?_eq_some_iff.mp hj).1) hj)
   have:=q H2 nx;rw [e0] at this;exact this
theorem ok_valB (B:Blt mg) (cP:∃ t,mg "PLACES"=some (.int 256 t)) (cc:ClC K C) (h_nat:MethAt P w K mg base C "numbers_at" ["self","key"] 2 (spNat c CM C)) (h_hasM:MethAt P w K mg base CM "has" ["self","n"] 6 (spHas c CM ts)) (d:MDefAt K C "value" "ByBits.value" Zbf ["self","row"]):MethAt P w K mg base C "value" ["self","row"] 7 (spVal false c CM C ts):=by
 obtain ⟨tP,c_PLACES⟩:=cP;refine MethAt.of cc.c d Zcu (fun vs H Q E h=>?_) (fun f cdv A outer s H vs Q E hr h=>?_)
 · obtain ⟨x,r,t,D,g,rfl,_⟩:=h
   rfl
 obtain ⟨x,r,t,D,g,rfl,hr1,hc,ht,q⟩:=h;obtain ⟨dx,hx⟩:=hc.at_.hx;refine ⟨_,(Zac (ZaF (ZaY (ZaJ (Zau (P:=P) (w:=w) (K:=K) (mg:=mg) (base:=base) 6 (hr.mono (by decide)) (Zao K (pv 0)) (Zaa (pv 1) Zad)))) (Zaf (Zak ZaU)) Zat)
     (Zaf (Zak (ZaA (ZjJ K) rfl B.sum ZjM (Zaa (ZfZ ["bit"] [1,0] rfl (Za5 K (Zau (P:=P) (w:=w) (K:=K) (mg:=mg) (base:=base) 2 (hr.mono (by decide)) (pv 0) (Zaa (Zai Zay (pv 1) (Zav (v:=.int 256) rfl c_PLACES ⟨_,rfl⟩)) Zad))) (fun _ _ _ _ _=>ZaH (i:=0) (by show List.Nodup (["bit","row","self"]:List Str);decide +kernel) rfl (Or.inl rfl)) (fun _ _ _ _ _=>pts_one (ZaJ (Zau (P:=P) (w:=w) (K:=K) (mg:=mg) (base:=base) 6 (hr.mono (by decide)) (Zdl (hu1 hr) (Zao K (pv 2)) (pv 0) (fun _ _=>rfl)) (Zaa (pv 1) Zad)))) (fun _ _ _ _ _=>(Zai Zbg Zag (pv 0))) ⟨⟨_,rfl,rfl,.inl rfl⟩,⟨⟨_,rfl,rfl,.inl rfl⟩,trivial⟩⟩ ZdI) Zad))))),?_⟩
 have e1:(r:Int)/256=((r/256:Nat):Int):=by omega
 walk_at "vc";rw [e1];obtain ⟨dm,fs,ho,nf⟩:=hc.at_.hv.obj;refine ⟨_,_,_,(Zae hx).1,cc.c,cc.n1,_,rfl,_,rfl,_,_,_,(Zae ho).1,nf.2.2.2.2.2.1,_,_,h_hasM,D.mv,r,D.ev,rfl,hr1,hc.at_.hv,hc.at_.okv,ht,fun H1 nx=>⟨_,rfl,?_⟩⟩;cases e:g r with
 | none =>
   have z:¬ r∈flat D.ev:=by rw [hc.at_.m1,e];rintro ⟨v,z⟩;cases z
   rw [if_pos (decide_eq_false z)];have:=q H1 nx;rw [e] at this;exact this
 | some v =>
   have z:r∈flat D.ev:=by rw [hc.at_.m1,e];exact ⟨v,rfl⟩
   rw [if_neg (by rw [decide_eq_true z];decide)];have hc1:=hc.same nx.same;obtain ⟨dx1,hx1⟩:=hc1.at_.hx;refine ⟨_,_,_,(Zae hx1).1,rfl,_,_,h_nat,x,r/256,_,_,D,_,_,_,_,rfl,hc1.at_,fun l os H2 s2 nl hl up mem=>?_⟩;walk_at "vc";have nx2:=nx.trans (nx.tb.nx s2);refine ⟨⟨_,SqL.of hl⟩,compX (ts:=ts) nx2.tb (fun i=>decide (os.getD i 0∈pl 256 v)) (fun i=>.int (2^os.getD i 0)) (Zam hl (L2.nl _)) (by
     rw [Zaq];have:=ZeJ up;exact Nat.le_trans (this.length_le_of_subset (l₂:=List.range 1000) fun n hn=>by
       obtain ⟨r',_,hR⟩:=(mem n).mp hn;exact List.mem_range.mpr (hc.lt hR)) (by rw [List.length_range];decide)) ?_ ?_ ?_⟩
   · intro i y H3 R hy nx3 h
     obtain ⟨n,hn,rfl⟩:=ZbG hy;have gd:os.getD i 0=n:=by rw [List.getD_eq_getElem?_getD,hn];rfl
     rw [gd] at h;have hc3:=hc.same (nx2.trans nx3).same;obtain ⟨r',_,hR⟩:=(mem n).mp (List.mem_of_getElem? hn);have hin:n∈D.ns:=(hc3.at_.m4 n).mpr ⟨r',hR⟩;obtain ⟨a1,a2,a3⟩:=hc3.at_.an n hin;obtain ⟨dx3,hx3⟩:=hc3.at_.hx;obtain ⟨dm3,fs3,ho3,nf3⟩:=a2.obj;walk_at "vc";refine ⟨_,_,_,(Zae hx3).1,cc.c,cc.n2,_,rfl,_,rfl,_,(hc3.at_.get hin).1,_,rfl,_,_,_,(Zae ho3).1,nf3.2.2.2.2.2.1,_,_,h_hasM,D.A n,r,D.E n,rfl,hr1,a2,a3,nx3.tb,fun H4 nx4=>⟨_,rfl,?_⟩⟩;have eq:r∈flat (D.E n)↔n∈pl 256 v:=by rw [hc3.at_.m2 n hin r];exact ⟨fun ⟨u,e',hv⟩=>by rw [e] at e';cases e';exact hv,fun e'=>⟨v,e,e'⟩⟩
     rw [decide_eq_decide.mpr eq];exact h H4 nx4
   · intro i y H3 R hy hp nx3 h
     obtain ⟨n,hn,rfl⟩:=ZbG hy;have gd:os.getD i 0=n:=by rw [List.getD_eq_getElem?_getD,hn];rfl
     rw [gd] at h;obtain ⟨r',_,hR⟩:=(mem n).mp (List.mem_of_getElem? hn);have:=hc.lt hR;walk_at "vc";refine ⟨⟨by omega,by omega,by decide⟩,?_⟩;rw [Int.one_mul,Int.toNat_natCast];exact h H3 (.refl nx3.tb)
   · intro L H3 nx3 nL hL
     have en:((List.range (pint os).length).filter fun i=>decide (os.getD i 0∈pl 256 v)).map (fun i=>V.int (2^os.getD i 0))=((pl 256 v).map fun n=>(2:Int)^n).map V.int:=by
       rw [Zaq,Zbn (fun n=>decide (n∈pl 256 v)) (fun n=>V.int (2^n)) os _ _ fun i n hn=>by
         have gd:os.getD i 0=n:=by rw [List.getD_eq_getElem?_getD,hn];rfl
         rw [gd];exact ⟨rfl,rfl⟩]
       have ef:os.filter (fun n=>decide (n∈pl 256 v))=pl 256 v:=Up.ext up.filter (Zg8 _ _) fun n=>by
         rw [List.mem_filter,decide_eq_true_eq];exact ⟨fun z=>z.2,fun z=>⟨(mem n).mpr ⟨r,rfl,v,e,z⟩,z⟩⟩
       rw [ef,List.map_map];rfl
     rw [en] at hL;refine ⟨L,rfl,_,SqL.of hL,?_⟩;have v1:=(hc.bd r v e).2;have v2:v<2^256:=by
       have ok:=hc.ok;unfold okT at ok;unfold tpB at v1;simp only [Bool.false_eq_true,if_false] at ok v1;have:=ZhJ ok;have:(2:Nat)^40<2^256:=by decide
       omega
     rw [sum_wd,wd_pl v2];have:=q H3 (nx2.trans nx3);rw [e] at this;exact this
end
theorem Zap {t u:TS}{D:Ends}{σ:L2.St}{H:Hp}(h:∀ k:L2.St→Hp→Prop,(∀ σ' H',u D σ' H'→k σ' H')→t { D with nx:=k } σ H):tSeq t u D σ H:=h (u D) fun _ _ x=>x
def okV (b:Bool)(t:Nat)(v:V):Bool:=match v with
 | .int z=>decide (0≤z∧z≤tpB b t)
 | _=>false
def spNof (b:Bool):Sp:=fun vs H Q _=>∃ (x:Addr) (v:Nat),vs=[.ref x,.int v]∧v<2^256∧∀ l H',Same H H'→H l=none→H' l=some (.lst (pint (nmB b v)))→Q (.ref l) H'
def spTop (b:Bool)(c:Kd→Addr)(CM C:Addr):Sp:=fun vs H Q _=>∃ (x:Addr) (t:Nat) (D:ColD) (S:Nat→Prop) (R:Nat→Nat→Prop) (U:Nat→Prop) (T:Nat→Nat→Prop),vs=[.ref x]∧ColAt c CM C (fK b) t (noT H) x D S R U T∧okT b t∧Q (.int (tpB b t:Nat)) H
def spCan (b:Bool)(c:Kd→Addr)(CM C:Addr):Sp:=fun vs H Q _=>∃ (x:Addr) (v:V) (t:Nat) (D:ColD) (S:Nat→Prop) (R:Nat→Nat→Prop) (U:Nat→Prop) (T:Nat→Nat→Prop),vs=[.ref x,v]∧ColAt c CM C (fK b) t (noT H) x D S R U T∧okT b t∧Scal v∧Q (.bl (okV b t v)) H
def spRows (c:Kd→Addr)(CM C:Addr)(ts:Tabs):Sp:=fun vs H Q _=>∃ (x:Addr) (f:Str) (t:Int) (D:ColD) (S:Nat→Prop) (R:Nat→Nat→Prop) (U:Nat→Prop) (T:Nat→Nat→Prop),vs=[.ref x]∧ColAt c CM C f t (noT H) x D S R U T∧Tbs ts H∧∀ m H',Nx ts H H'→noT H m=none→MkAt c CM (noT H') m D.ev→Q (.ref m) H'
theorem ZaI {b:Bool}{a1 a2 a3 a4:V}{m:Str}(h:([("valued",a1),("by_number",a2),("by_key",a3)]:List (Str × V)).lookup m=none)(h1:("greatest":Str)≠m)(h2:("width":Str)≠m):([("valued",a1),("by_number",a2),("by_key",a3),(fK b,a4)]:List (Str × V)).lookup m=none:=by
 have e:([("valued",a1),("by_number",a2),("by_key",a3),(fK b,a4)]:List (Str × V))=([("valued",a1),("by_number",a2),("by_key",a3)]:List (Str × V))++[(fK b,a4)]:=rfl;rw [e,List.lookup_append,h];show List.lookup m [(fK b,a4)]=none;have:(m==fK b)=false:=by
   unfold fK;split
   · exact beq_eq_false_iff_ne.mpr (Ne.symm h1)
   · exact beq_eq_false_iff_ne.mpr (Ne.symm h2)
 rw [List.lookup_cons,this];rfl
section
variable {P:Program}{w:World}{K:PySem.W.Frag}{mg:Str→Option Value}{base:Heap}{c:Kd→Addr}{CM C:Addr}{ts:Tabs}
theorem ok_nofV (cc:ClC K C)(d:MDefAt K C "numbers_of" "ByValue.numbers_of" ZaS ["self","value"]):MethAt P w K mg base C "numbers_of" ["self","value"] 4 (spNof true):=by
 refine MethAt.of cc.c d Zcw (fun vs H Q E h=>?_) (fun f cdv A outer s H vs Q E hr h=>?_)
 · obtain ⟨x,v,rfl,_⟩:=h
   rfl
 obtain ⟨x,v,rfl,hv,q⟩:=h;refine ⟨_,(Zaf (Zak (ZaM (Zaa (pv 1) Zad)))),?_⟩;walk_at "vc";exact ⟨by decide,fun p np=>q p _ (Same.new np) np Zab⟩
theorem ok_nofB (cc:ClC K C)(h_places_of:FnAt P w K mg base "places_of" ["word"] 3 spPlacesOf)(d:MDefAt K C "numbers_of" "ByBits.numbers_of" Za3 ["self","value"]):MethAt P w K mg base C "numbers_of" ["self","value"] 4 (spNof false):=by
 refine MethAt.of cc.c d ZcN (fun vs H Q E h=>?_) (fun f cdv A outer s H vs Q E hr h=>?_)
 · obtain ⟨x,v,rfl,_⟩:=h
   rfl
 obtain ⟨x,v,rfl,hv,q⟩:=h;refine ⟨_,(Zaf (Zak (Zaj h_places_of (hr.mono (by decide)) rfl (Zaa (pv 1) Zad)))),?_⟩;walk_at "vc";exact ⟨pl 256 v,by rw [wd_pl hv],Zg8 _ _,fun p hp=>(mem_pl.mp hp).1,fun r H' s nr hr=>q r H' s nr hr⟩
theorem ok_topV (cc:ClC K C)(n4:NoAttr K C "greatest")(d:MDefAt K C "top" "ByValue.top" Zb3 ["self"]):MethAt P w K mg base C "top" ["self"] 1 (spTop true c CM C):=by
 refine MethAt.of cc.c d Ze2 (fun vs H Q E h=>?_) (fun f cdv A outer s H vs Q E hr h=>?_)
 · obtain ⟨x,t,D,S,R,U,T,rfl,_⟩:=h
   rfl
 obtain ⟨x,t,D,S,R,U,T,rfl,hc,ok,q⟩:=h;obtain ⟨dx,hx⟩:=hc.hx;refine ⟨_,(Zaf (Zak (Zao K (pv 0)))),?_⟩;walk_at "vc";exact ⟨_,_,_,(Zae hx).1,cc.c,n4,_,rfl,q⟩
theorem ok_topB (cc:ClC K C)(n4:NoAttr K C "width")(d:MDefAt K C "top" "ByBits.top" Zcf ["self"]):MethAt P w K mg base C "top" ["self"] 1 (spTop false c CM C):=by
 refine MethAt.of cc.c d Zfa (fun vs H Q E h=>?_) (fun f cdv A outer s H vs Q E hr h=>?_)
 · obtain ⟨x,t,D,S,R,U,T,rfl,_⟩:=h
   rfl
 obtain ⟨x,t,D,S,R,U,T,rfl,hc,ok,q⟩:=h;obtain ⟨dx,hx⟩:=hc.hx;refine ⟨_,(Zaf (Zak (Zai Za2 (Zai Zbg Zag (Zao K (pv 0))) Zag))),?_⟩;walk_at "vc";have ok:t≤40:=ok;refine ⟨_,_,_,(Zae hx).1,cc.c,n4,_,rfl,_,rfl,⟨by omega,by omega,by decide⟩,?_⟩;have e:(1:Int)*2^(t:Int).toNat-1=((tpB false t:Nat):Int):=by
   rw [Int.one_mul,Int.toNat_natCast];show _=((2^t-1:Nat):Int)
   have:=Nat.one_le_two_pow (n:=t);rw [Int.ofNat_sub this,Int.natCast_pow];rfl
 rw [e];exact q
theorem ok_can {b:Bool}(cc:ClC K C)(h_is_whole:FnAt P w K mg base "is_whole" ["thing"] 1 spIsV)(h_top:MethAt P w K mg base C "top" ["self"] 1 (spTop b c CM C))(d:MDefAt K C "can_have" "Column.can_have" ZaQ ["self","value"]):MethAt P w K mg base C "can_have" ["self","value"] 2 (spCan b c CM C):=by
 refine MethAt.of cc.c d Zdg (fun vs H Q E h=>?_) (fun f cdv A outer s H vs Q E hr h=>?_)
 · obtain ⟨x,v,t,D,S,R,U,T,rfl,_⟩:=h
   rfl
 obtain ⟨x,v,t,D,S,R,U,T,rfl,hc,ok,sv,q⟩:=h;obtain ⟨dx,hx⟩:=hc.hx;refine ⟨_,(Zaf (Zak (Zc9 (Zaj h_is_whole (hr.mono (by decide)) rfl (Zaa (pv 1) Zad)) (ZdD (pe_chain ZdC ZdC Zag (pv 1) (ZaR (P:=P) (w:=w) (K:=K) (mg:=mg) (base:=base) 1 (hr.mono (by decide)) (pv 0))))))),?_⟩;walk_at "vc";refine ⟨v,rfl,sv,_,rfl,?_⟩;cases v with
 | int z =>
   show if true=true then _ else _
   rw [if_pos rfl];refine ⟨z,rfl,?_⟩;by_cases z0:0≤z
   · rw [if_pos z0]
     refine ⟨_,_,_,(Zae hx).1,ZaI rfl (by decide) (by decide),_,_,h_top,x,t,D,S,R,U,T,rfl,hc,ok,z,rfl,_,rfl,?_⟩;have e:okV b t (.int z)=decide (z≤((tpB b t:Nat):Int)):=decide_eq_decide.mpr ⟨fun h=>h.2,fun h=>⟨z0,h⟩⟩;rw [e] at q;exact q
   · rw [if_neg z0]
     rw [show okV b t (.int z)=false from decide_eq_false fun h=>z0 h.1] at q;exact q
 | bl b=>exact q
 | non=>exact q
 | str z=>exact q
 | _=>exact sv.elim
theorem ZiB (cc:ClC K C)(h_cop:MethAt P w K mg base CM "copied" ["self"] 3 (spCop c CM ts))(d:MDefAt K C "rows" "Column.rows" Zbp ["self"]):MethAt P w K mg base C "rows" ["self"] 4 (spRows c CM C ts):=by
 refine MethAt.of cc.c d ZeI (fun vs H Q E h=>?_) (fun f cdv A outer s H vs Q E hr h=>?_)
 · obtain ⟨x,f,t,D,S,R,U,T,rfl,_⟩:=h
   rfl
 obtain ⟨x,f,t,D,S,R,U,T,rfl,hc,ht,q⟩:=h;obtain ⟨dx,hx⟩:=hc.hx;obtain ⟨dm,kd,ah,sr,ho,_⟩:=hc.hv.ex;refine ⟨_,(Zaf (Zak (ZaR (P:=P) (w:=w) (K:=K) (mg:=mg) (base:=base) 3 (hr.mono (by decide)) (Zao K (pv 0))))),?_⟩;walk_at "vc";exact ⟨_,_,_,(Zae hx).1,cc.c,cc.n1,_,rfl,_,rfl,_,_,_,(Zae ho).1,rfl,_,_,h_cop,D.mv,D.ev,rfl,hc.hv,ht,fun m H' nx nm hm=>q m H' nx nm hm⟩
end
def gOff (g:Nat→Option Nat)(r:Nat):Nat→Option Nat:=fun y=>if y=r then none else g y
def gOn (g:Nat→Option Nat)(r v:Nat):Nat→Option Nat:=fun y=>if y=r then some v else g y
def Ri (b:Bool)(g:Nat→Option Nat)(r v i n y:Nat):Prop:=Rg b g n y∧¬ (y=r∧n∈(nmB b v).take i)
def ColQ (c:Kd→Addr)(CM C:Addr)(f:Str)(t:Int)(H:Hp)(x:Addr)(D:ColD)(S:Nat→Prop)(R:Nat→Nat→Prop):Prop:=ColAt c CM C f t H x D S R (fun n=>∃ y,R n y) (fun k n=>∃ y,y/256=k∧R n y)
theorem Zb5 {p q:Nat→Prop}(h:∀ y,p y↔q y):(∃ y,p y)↔∃ y,q y:=⟨fun ⟨y,z⟩=>⟨y,(h y).mp z⟩,fun ⟨y,z⟩=>⟨y,(h y).mpr z⟩⟩
section
variable {b:Bool}{g:Nat→Option Nat}{r v i n m y:Nat}
theorem ri_zero:Ri b g r v 0 n y↔Rg b g n y:=⟨fun h=>h.1,fun h=>⟨h,fun z=>nomatch z.2⟩⟩
theorem ri_succ (hn:(nmB b v)[i]?=some n):Ri b g r v (i+1) m y↔Ri b g r v i m y∧¬ (m=n∧y=r):=by
 unfold Ri;rw [List.take_succ,hn,List.mem_append,Option.toList_some,List.mem_singleton];constructor
 · exact fun h=>⟨⟨h.1,fun z=>h.2 ⟨z.1,.inl z.2⟩⟩,fun z=>h.2 ⟨z.2,.inr z.1⟩⟩
 · exact fun h=>⟨h.1.1,fun z=>z.2.elim (fun w=>h.1.2 ⟨z.1,w⟩) fun w=>h.2 ⟨w,z.1⟩⟩
theorem Zgp {a:Nat}{ps:List Nat}(u:Up a ps)(h:ps[i]?=some n):n∉ps.take i:=fun z=>by
 have nd:=ZeJ u;obtain ⟨j,hj⟩:=List.mem_iff_getElem?.mp z;rw [List.getElem?_take] at hj;split at hj
 · rename_i lt
   have h1:=(List.getElem?_eq_some_iff.mp hj)
   have h2:=(List.getElem?_eq_some_iff.mp h)
   have:=(List.getElem_inj nd (h₀:=h1.1) (h₁:=h2.1)).mp (h1.2.trans h2.2.symm);omega
 · cases hj
theorem ri_at (u:Up 0 (nmB b v))(e:g r=some v)(hn:(nmB b v)[i]?=some n):Ri b g r v i n r:=⟨⟨v,e,List.mem_of_getElem? hn⟩,fun z=>Zgp u hn z.2⟩
theorem ZhE (e:g r=some v):Ri b g r v (pint (nmB b v)).length n y↔Rg b (gOff g r) n y:=by
 unfold Ri Rg gOff;rw [Zaq,List.take_length];by_cases z:y=r
 · subst z
   rw [if_pos rfl];constructor
   · rintro ⟨⟨u,h1,h2⟩,h3⟩
     rw [e] at h1;cases h1;exact absurd ⟨rfl,h2⟩ h3
   · rintro ⟨u,h,_⟩
     cases h
 · rw [if_neg z]
   exact ⟨fun h=>h.1,fun h=>⟨h,fun w=>z w.1⟩⟩
theorem plc_lt {es:List Ent}{k p:Nat}(ok:EsOk es)(h:p∈plcE k es):p<256:=by
 rcases Zb1 k ok.up with z | ⟨e,z1,z2,z3⟩
 · rw [(ZcR z).2] at h
   cases h
 · rw [(Zcg z1).2] at h
   exact ok.plt e z3 p h
theorem v256 {t:Nat}(ok:okT b t)(v1:v≤tpB b t):v<2^256:=by
 unfold okT at ok;unfold tpB at v1;have:(2:Nat)^40<2^256:=by decide
 have:999<(2:Nat)^256:=by decide
 cases b with
 | true =>
   simp only [if_true] at ok v1;omega
 | false =>
   simp only [Bool.false_eq_true,if_false] at ok v1;have:=ZhJ ok;omega
theorem ColF.v256 {c:Kd→Addr}{CM C:Addr}{t:Nat}{H:Hp}{x:Addr}{D:ColD}(h:ColF b c CM C t H x D g)(e:g r=some v):v<2^256:=My.v256 h.ok (h.bd r v e).2
end
def spTakeC (b:Bool)(c:Kd→Addr)(CM C:Addr)(ts:Tabs):Sp:=fun vs H Q _=>∃ (x:Addr) (r t:Nat) (D:ColD) (g:Nat→Option Nat),vs=[.ref x,.int r]∧r≤65535∧ColF b c CM C t (noT H) x D g∧Tbs ts H∧∀ D' H',Cf ts D.F H D'.F H'→ColF b c CM C t (noT H') x D' (gOff g r)→Q (.bl (g r).isSome) H'
section
variable {P:Program}{w:World}{K:PySem.W.Frag}{mg:Str→Option Value}{base:Heap}{c:Kd→Addr}{CM C:Addr}{ts:Tabs}
theorem ZgN {b:Bool} (cP:∃ t,mg "PLACES"=some (.int 256 t)) (cc:ClC K C) (h_value:MethAt P w K mg base C "value" ["self","row"] 7 (spVal b c CM C ts)) (h_nof:MethAt P w K mg base C "numbers_of" ["self","value"] 4 (spNof b)) (h_take:MethAt P w K mg base CM "take" ["self","n"] 7 (spTakeM c CM ts)) (h_cnt:MethAt P w K mg base CM "count_at" ["self","key"] 5 (spCountM c CM ts)) (h_many:MethAt P w K mg base CM "many" ["self"] 1 (spManyMM c CM)) (d:MDefAt K C "take" "Column.take" Za7 ["self","row"]):MethAt P w K mg base C "take" ["self","row"] 8 (spTakeC b c CM C ts):=by
 obtain ⟨tP,c_PLACES⟩:=cP;refine MethAt.of cc.c d sc_Column_take (fun vs H Q E h=>?_) (fun f cdv A outer s H vs Q E hr h=>?_)
 · obtain ⟨x,r,t,D,g,rfl,_⟩:=h
   rfl
 obtain ⟨x,r,t,D,g,rfl,hr1,hc,ht,q⟩:=h;obtain ⟨dx,hx⟩:=hc.at_.hx;refine ⟨_,(Zac (Zal (i:=2) sc_Column_take.nd rfl (by walk_at "l") (Zau (P:=P) (w:=w) (K:=K) (mg:=mg) (base:=base) 7 (hr.mono (by decide)) (pv 0) (Zaa (pv 1) Zad)))
     (Zac (ZaF (Zas ZdL (pv 2) ZaU (nomark _)) (Zaf (Zak Za1)) Zat)
     (Zac (ZaE (Zau (P:=P) (w:=w) (K:=K) (mg:=mg) (base:=base) 7 (hr.mono (by decide)) (Zao K (pv 0)) (Zaa (pv 1) Zad)))
     (Zac (Zb4 PassesOwn.never rfl (Za5 K (Zau (P:=P) (w:=w) (K:=K) (mg:=mg) (base:=base) 4 (hr.mono (by decide)) (pv 0) (Zaa (pv 2) Zad))) (ZaH (i:=3) sc_Column_take.nd rfl (by walk_at "l")) (Zac (Zal (i:=4) sc_Column_take.nd rfl (by walk_at "l") (Zdl (hu1 hr) (Zao K (pv 0)) (pv 3) (fun _ _=>rfl)))
     (Zac (ZaE (Zau (P:=P) (w:=w) (K:=K) (mg:=mg) (base:=base) 7 (hr.mono (by decide)) (pv 4) (Zaa (pv 1) Zad)))
     (Zac (ZaF (Zas Zbw (Zau (P:=P) (w:=w) (K:=K) (mg:=mg) (base:=base) 5 (hr.mono (by decide)) (pv 4) (Zaa (Zai Zay (pv 1) (Zav (v:=.int 256) rfl c_PLACES ⟨_,rfl⟩)) Zad)) Zag (nomark _)) (Zaf (ZaE (ZgP (Zdl (hu1 hr) (Zao K (pv 0)) (Zai Zay (pv 1) (Zav (v:=.int 256) rfl c_PLACES ⟨_,rfl⟩)) (fun _ _=>rfl)) (pv 3) ⟨rfl,rfl,rfl,rfl⟩))) Zat)
     (Zaf (ZaF (Zas Zbw (ZaR (P:=P) (w:=w) (K:=K) (mg:=mg) (base:=base) 1 (hr.mono (by decide)) (pv 4)) Zag (nomark _)) (Zaf (ZaE (ZgP (Zao K (pv 0)) (pv 3) ⟨rfl,rfl,rfl,rfl⟩))) Zat))))))
     (Zaf (Zak Za1)))))),?_⟩
 have e1:(r:Int)/256=((r/256:Nat):Int):=by omega
 refine Zap fun k hk=>?_
 walk_at "vc";refine ⟨_,_,_,(Zae hx).1,ZaI rfl (by decide) (by decide),_,_,h_value,x,r,t,D,g,rfl,hr1,hc,ht,fun H1 nx=>hk _ _ (Zap fun k hk=>?_)⟩;have hc1:=hc.same nx.same;walk_at "vc";cases e:g r with
 | none =>
   show if V.non=V.non then _ else _
   rw [if_pos rfl];have eg:gOff g r=g:=by
     funext y;unfold gOff;split
     · rename_i h
       rw [h,e]
     · rfl
   have:=q D H1 (Cf.nx nx) (by rw [eg];exact hc1);rw [e] at this;exact this
 | some v =>
   show if V.int (v:Nat)=V.non then _ else _
   rw [if_neg (fun z=>by cases z)];refine hk _ _ (Zap fun k hk=>?_);obtain ⟨dx1,hx1⟩:=hc1.at_.hx;obtain ⟨dm,kd,ah,sr,ho,_⟩:=hc1.at_.hv.ex;walk_at "vc";refine ⟨_,_,_,(Zae hx1).1,cc.c,cc.n1,_,rfl,_,rfl,_,_,_,(Zae ho).1,rfl,_,_,h_take,D.mv,r,D.ev,rfl,hr1,hc1.at_.hv,hc1.at_.okv,nx.tb,fun H2 ev' nb hm ok2 mem2=>hk _ _ (Zap fun k hk=>?_)⟩;have c2:=hc1.at_.setV (S':=fun y=>∃ u,gOff g r y=some u) nb.same hm ok2 fun y=>by
     rw [mem2,hc1.at_.m1];unfold gOff;by_cases z:y=r
     · rw [if_pos z]
       exact ⟨fun h=>absurd z h.2,fun ⟨u,h⟩=>by cases h⟩
     · rw [if_neg z]
       exact ⟨fun h=>h.1,fun h=>⟨h,z⟩⟩
   have f2:Cf ts D.F H ({ D with ev:=ev' }:ColD).F H2:=(Cf.nx nx).trans (Cf.nb nb (.inl rfl));generalize ({ D with ev:=ev' }:ColD)=D2 at c2 f2;obtain ⟨dx2,hx2⟩:=c2.hx;have hv:=hc.v256 e;walk_at "vc";refine ⟨_,_,_,(Zae hx2).1,ZaI rfl (by decide) (by decide),_,_,h_nof,x,v,rfl,hv,fun l H3 s3 nl hl=>⟨l,rfl,⟨_,SqL.of hl⟩,?_⟩⟩;have nx3:=f2.tb.nx s3;refine loopL (xs:=pint (nmB b v)) (fun i σ H'=>(∃ v3 v4,σ=[some (.ref x),some (.int r),some (.int v),v3,v4])∧noT H' l=some (.lst (pint (nmB b v)))∧∃ D',Cf ts D.F H D'.F H'∧ColQ c CM C (fK b) t (noT H') x D' (fun y=>∃ u,gOff g r y=some u) (Ri b g r v i)) ⟨⟨_,_,rfl⟩,Zam hl (L2.nl _),D2,f2.trans (Cf.nx nx3),(c2.same nx3.same).imp (fun _=>Iff.rfl) (fun n y _=>ri_zero.symm) (fun n=>Zb5 fun y=>ri_zero.symm) (fun k n=>Zb5 fun y=>and_congr Iff.rfl ri_zero.symm)⟩ ?_ ?_ ?_
   · rintro i σ H2 _ ⟨_,hl2,_⟩
     exact SqL.of (Zae hl2).1
   · rintro i w σ H4 hw ⟨⟨v3,v4,rfl⟩,hl4,D4,f4,c4⟩
     obtain ⟨n,hn,rfl⟩:=ZbG hw;have rs:∀ m y,Ri b g r v (i+1) m y↔Ri b g r v i m y∧¬ (m=n∧y=r):=fun m y=>ri_succ hn
     have r0:Ri b g r v i n r:=ri_at (nmB_up b v) e hn;have lst4:∀ {D5 H5},Cf ts D4.F H4 D5 H5→noT H5 l=some (.lst (pint (nmB b v))):=fun f=>f.same _ _ (fun z=>(c4.loose _ z).no hl4 Za6 (fun _ z=>by cases z)) hl4
     generalize Ri b g r v i=R at rs r0 c4;generalize Ri b g r v (i+1)=R' at rs;have hin:n∈D4.ns:=(c4.m4 n).mpr ⟨r,r0⟩;obtain ⟨a1,a2,a3⟩:=c4.an n hin;obtain ⟨dx4,hx4⟩:=c4.hx;obtain ⟨dm4,kd4,ah4,sr4,ho4,_⟩:=a2.ex;rw [ZcO];refine Zap fun k hk=>?_
     walk_at "vc";refine ⟨_,_,_,(Zae hx4).1,cc.c,cc.n2,_,rfl,_,rfl,_,(c4.get hin).1,hk _ _ (Zap fun k hk=>?_)⟩;walk_at "vc";refine ⟨_,_,_,(Zae ho4).1,rfl,_,_,h_take,D4.A n,r,D4.E n,rfl,hr1,a2,a3,f4.tb,fun H5 e5 nb5 hm5 ok5 mem5=>hk _ _ (Zap fun k hk=>?_)⟩;have m5:∀ y,y∈flat e5↔R' n y:=fun y=>by
       rw [mem5,c4.m2 n hin,rs];exact ⟨fun h=>⟨h.1,fun z=>h.2 z.2⟩,fun h=>⟨h.1,fun z=>h.2 ⟨rfl,z⟩⟩⟩
     have c5:=c4.setN (R':=R') hin nb5.same hm5 ok5 m5 (fun m y hm=>by rw [rs];exact ⟨fun h=>⟨h,fun z=>hm z.1⟩,fun h=>h.1⟩);have g5:Cf ts D4.F H4 ({ D4 with E:=fun m=>if m=n then e5 else D4.E m }:ColD).F H5:=Cf.nb nb5 (.inr (.inr (.inr (.inl ⟨n,hin,rfl⟩))));have dE:({ D4 with E:=fun m=>if m=n then e5 else D4.E m }:ColD).E n=e5:=if_pos rfl;have dA:({ D4 with E:=fun m=>if m=n then e5 else D4.E m }:ColD).A n=D4.A n:=rfl;have dN:n∈({ D4 with E:=fun m=>if m=n then e5 else D4.E m }:ColD).ns:=hin;generalize ({ D4 with E:=fun m=>if m=n then e5 else D4.E m }:ColD)=D5 at c5 g5 dE dA dN;have hm5':=hm5;obtain ⟨dm5,kd5,ah5,sr5,ho5,_⟩:=hm5'.ex;walk_at "vc";rw [e1];refine ⟨_,_,_,(Zae ho5).1,rfl,_,_,h_cnt,D4.A n,r/256,e5,rfl,hm5,ok5,nb5.tb,fun H6 nx6=>⟨rfl,?_⟩⟩;have c6:=c5.same nx6.same;have g6:=g5.trans (Cf.nx nx6);have fin:∀ D7 H7,Cf ts D4.F H4 D7.F H7→ColAt c CM C (fK b) t (noT H7) x D7 (fun y=>∃ u,gOff g r y=some u) R' (fun n=>∃ y,R n y) (fun k n=>∃ y,y/256=k∧R' n y)→D7.A n=D4.A n→D7.E n=e5→n∈D7.ns→k [some (.ref x),some (.int r),some (.int v),some (.int n),some (.ref (D4.A n))] H7:=by
       intro D7 H7 g7 c7 dA dE dN;refine hk _ _ ?_;obtain ⟨_,b2,b3⟩:=c7.get dN;rw [dA,dE] at b2;obtain ⟨dm7,kd7,ah7,sr7,ho7,_⟩:=b2.ex;walk_at "vc";refine ⟨_,_,_,(Zae ho7).1,rfl,_,_,h_many,D4.A n,e5,rfl,b2,rfl,?_⟩;obtain ⟨dx7,hx7⟩:=c7.hx;by_cases z:flat e5=[]
       · rw [if_pos (by rw [← Zb6,z];rfl)]
         refine ⟨_,_,_,(Zae hx7).1,cc.c,cc.n2,_,rfl,_,rfl,.inl ⟨_,.inl (Zae c7.hn).1⟩,_,(Zae c7.hn).1,Sum.inl (n:Int),rfl,_,(c7.an n dN).1,?_⟩;have g8:Cf ts D7.F H7 ({ D7 with kn:=dropK D7.kn (Sum.inl (n:Int)),ns:=D7.ns.filter fun m=>decide (m≠n) }:ColD).F (upd H7 D7.dn (.dK (dropK D7.kn (Sum.inl (n:Int))))):=Cf.put g7.tb (.inr (.inl rfl)) (Zae c7.hn).1 trivial fun p hp=>.inl (by
           rcases hp with h | h | h | ⟨m,h,w⟩ | h
           · exact .inl h
           · exact .inr (.inl h)
           · exact .inr (.inr (.inl h))
           · exact .inr (.inr (.inr (.inl ⟨m,(List.mem_filter.mp h).1,w⟩)))
           · exact .inr (.inr (.inr (.inr h))))
         refine ⟨lst4 (g7.trans g8),_,f4.trans (g7.trans g8),?_⟩;have c8:=c7.popN (n:=n);rw [← Zcr (nd _) (.inr ⟨_,c7.hn⟩)] at c8;refine c8.imp (fun _=>Iff.rfl) (fun _ _ _=>Iff.rfl) (fun m=>?_) (fun _ _=>Iff.rfl);constructor
         · rintro ⟨⟨y,hy⟩,mn⟩
           exact ⟨y,(rs m y).mpr ⟨hy,fun w=>mn w.1⟩⟩
         · rintro ⟨y,hy⟩
           refine ⟨⟨y,((rs m y).mp hy).1⟩,fun mn=>?_⟩;rw [mn] at hy;have:=(m5 y).mpr hy;rw [z] at this;cases this
       · rw [if_neg (by
           intro w;rw [V.int.injEq] at w;have:(flat e5).length=0:=by rw [Zb6];omega
           exact z (List.eq_nil_of_length_eq_zero this))]
         refine ⟨lst4 g7,_,f4.trans g7,c7.imp (fun _=>Iff.rfl) (fun _ _ _=>Iff.rfl) (fun m=>?_) (fun _ _=>Iff.rfl)⟩;constructor
         · rintro ⟨y,hy⟩
           by_cases mn:m=n
           · rw [mn]
             obtain ⟨y',hy'⟩:=List.exists_mem_of_ne_nil _ z;exact ⟨y',(m5 y').mp hy'⟩
           · exact ⟨y,(rs m y).mpr ⟨hy,fun w=>mn w.1⟩⟩
         · exact fun ⟨y,hy⟩=>⟨y,((rs m y).mp hy).1⟩
     have tk:(r/256)∈D5.ks∧n∈D5.nb (r/256):=(c5.m3 _ _).mpr ⟨r,rfl,r0⟩;by_cases z:plcE (r/256) e5=[]
     · rw [if_pos (by rw [z];rfl)]
       obtain ⟨dx6,hx6⟩:=c6.hx;obtain ⟨q1,q2,q3⟩:=c6.ak _ tk.1;have q4:DGet H6 D5.dk (.int ((r/256:Nat):Int)) (some (.ref (D5.B (r/256)))):=by have:=DGet.k (k:=Sum.inl ((r/256:Nat):Int)) (Zae c6.hk).1;rw [q1] at this;exact this
       have q5:∃ u,valV (D5.kb (r/256)) (Sum.inl (n:Int))=some u:=by have:=q3.some n;rw [decide_eq_true tk.2] at this;exact Option.isSome_iff_exists.mp this
       obtain ⟨u,q5⟩:=q5;refine ⟨_,_,_,(Zae hx6).1,cc.c,cc.n3,_,rfl,_,rfl,_,q4,_,rfl,.inl ⟨_,.inl (Zae q2).1⟩,_,(Zae q2).1,Sum.inl (n:Int),rfl,_,q5,?_⟩;have c7:=c6.setK (T':=fun k n=>∃ y,y/256=k∧R' n y) tk.1 (q3.drop n) (fun m=>by
         rw [List.mem_filter,decide_eq_true_eq];have h3:=c6.m3 (r/256) m;constructor
         · rintro ⟨h1,h2⟩
           obtain ⟨y,y1,y2⟩:=h3.mp ⟨tk.1,h1⟩;exact ⟨y,y1,(rs m y).mpr ⟨y2,fun w=>h2 w.1⟩⟩
         · rintro ⟨y,y1,y2⟩
           refine ⟨(h3.mpr ⟨y,y1,((rs m y).mp y2).1⟩).2,fun mn=>?_⟩;rw [mn] at y2;have:=(Zbe ok5).mp ((m5 y).mpr y2);rw [y1,z] at this;cases this) (fun j m hj=>Zb5 fun y=>and_congr_right fun y1=>by
         rw [rs];exact ⟨fun h=>⟨h,fun w=>hj (by rw [← y1,w.2])⟩,fun h=>h.1⟩)
       rw [← Zcr (nd _) (.inr ⟨_,q2⟩)] at c7;refine fin _ _ ?_ c7 dA dE dN;exact g6.trans (Cf.put g6.tb (.inr (.inr (.inr (.inr ⟨_,tk.1,rfl⟩)))) (Zae q2).1 trivial fun p hp=>.inl hp)
     · rw [if_neg (by
         intro w;rw [V.int.injEq] at w;exact z (List.eq_nil_of_length_eq_zero (by omega)))]
       refine fin D5 H6 g6 (c6.imp (fun _=>Iff.rfl) (fun _ _ _=>Iff.rfl) (fun _=>Iff.rfl) (fun j m=>?_)) dA dE dN;constructor
       · rintro ⟨y,y1,y2⟩
         by_cases w:m=n∧y=r
         · obtain ⟨p,hp⟩:=List.exists_mem_of_ne_nil _ z
           have lt:p<256:=plc_lt ok5 hp;have d1:(256*(r/256)+p)/256=r/256:=by omega
           have d2:(256*(r/256)+p)%256=p:=by omega
           refine ⟨256*(r/256)+p,by rw [d1,← y1,w.2],?_⟩;rw [w.1];exact (m5 _).mp ((Zbe ok5).mpr (by rw [d1,d2];exact hp))
         · exact ⟨y,y1,(rs m y).mpr ⟨y2,w⟩⟩
       · exact fun ⟨y,y1,y2⟩=>⟨y,y1,((rs m y).mp y2).1⟩
   · rintro σ H4 ⟨⟨v3,v4,rfl⟩,hl4,D4,f4,c4⟩
     refine hk _ _ ?_;walk_at "vc";have:=q D4 H4 f4 ⟨c4.imp (fun _=>Iff.rfl) (fun n y _=>ZhE e) (fun n=>Zb5 fun y=>ZhE e) (fun k n=>Zb5 fun y=>and_congr Iff.rfl (ZhE e)),fun y u z=>?_,hc.ok⟩
     · rw [e] at this
       exact this
     · unfold gOff at z
       split at z
       · cases z
       · exact hc.bd y u z
end
def spPutC (b:Bool)(c:Kd→Addr)(CM C:Addr)(ts:Tabs):Sp:=fun vs H Q _=>∃ (x:Addr) (r v t:Nat) (D:ColD) (g:Nat→Option Nat),vs=[.ref x,.int r,.int v]∧r≤65535∧v≤tpB b t∧ColF b c CM C t (noT H) x D g∧Tbs ts H∧∀ D' H',Cf ts D.F H D'.F H'→ColF b c CM C t (noT H') x D' (gOn g r v)→Q .non H'
def Rj (b:Bool)(g:Nat→Option Nat)(r v i n y:Nat):Prop:=Rg b (gOff g r) n y∨(y=r∧n∈(nmB b v).take i)
section
variable {b:Bool}{g:Nat→Option Nat}{r v i n m y:Nat}
theorem rj_zero:Rj b g r v 0 n y↔Rg b (gOff g r) n y:=⟨fun h=>h.elim id fun z=>(nomatch z.2),fun h=>.inl h⟩
theorem rj_succ (hn:(nmB b v)[i]?=some n):Rj b g r v (i+1) m y↔Rj b g r v i m y∨(m=n∧y=r):=by
 unfold Rj;rw [List.take_succ,hn,List.mem_append,Option.toList_some,List.mem_singleton,or_assoc];refine or_congr Iff.rfl ?_;constructor
 · rintro ⟨h,z | z⟩
   · exact .inl ⟨h,z⟩
   · exact .inr ⟨z,h⟩
 · rintro (⟨h,z⟩ | ⟨z,h⟩)
   · exact ⟨h,.inl z⟩
   · exact ⟨h,.inr z⟩
theorem ZhG:Rj b g r v (pint (nmB b v)).length n y↔Rg b (gOn g r v) n y:=by
 unfold Rj Rg gOn gOff;rw [Zaq,List.take_length];by_cases z:y=r
 · subst z
   rw [if_pos rfl,if_pos rfl];constructor
   · rintro (⟨u,h1,h2⟩ | h)
     · cases h1
     · exact ⟨v,rfl,h.2⟩
   · rintro ⟨u,h1,h2⟩
     cases h1;exact .inr ⟨rfl,h2⟩
 · rw [if_neg z,if_neg z]
   exact ⟨fun h=>h.elim id fun w=>absurd w.1 z,fun h=>.inl h⟩
end
section
variable {P:Program}{w:World}{K:PySem.W.Frag}{mg:Str→Option Value}{base:Heap}{c:Kd→Addr}{CM C:Addr}{ts:Tabs}
theorem Zir {b:Bool}(cP:∃ t,mg "PLACES"=some (.int 256 t))(cc:ClC K C)(h_check_number:FnAt P w K mg base "check_number" ["thing"] 2 spChk)(h_can:MethAt P w K mg base C "can_have" ["self","value"] 2 (spCan b c CM C))(h_takeC:MethAt P w K mg base C "take" ["self","row"] 8 (spTakeC b c CM C ts))(h_nof:MethAt P w K mg base C "numbers_of" ["self","value"] 4 (spNof b))(h_put:MethAt P w K mg base CM "put" ["self","n"] 7 (spPutM c CM ts))(h_Marks:MakeAt P w K mg base "Marks" CM ["self"] 1 (spInitM c CM ts))(d:MDefAt K C "put" "Column.put" Zbi ["self","row","value"]):MethAt P w K mg base C "put" ["self","row","value"] 9 (spPutC b c CM C ts):=by
 obtain ⟨tP,c_PLACES⟩:=cP;refine MethAt.of cc.c d sc_Column_put (fun vs H Q E h=>?_) (fun f cdv A outer s H vs Q E hr h=>?_)
 · obtain ⟨x,r,v,t,D,g,rfl,_⟩:=h
   rfl
 obtain ⟨x,r,v,t,D,g,rfl,hr1,hv1,hc,ht,q⟩:=h;obtain ⟨dx,hx⟩:=hc.at_.hx;refine ⟨_,(Zac (ZaE (Zaj h_check_number (hr.mono (by decide)) rfl (Zaa (pv 1) Zad)))
     (Zac (ZaF (ZaY (ZaJ (Zau (P:=P) (w:=w) (K:=K) (mg:=mg) (base:=base) 2 (hr.mono (by decide)) (pv 0) (Zaa (pv 2) Zad)))) (Zaf (Zgv)) Zat)
     (Zac (ZaE (Zau (P:=P) (w:=w) (K:=K) (mg:=mg) (base:=base) 8 (hr.mono (by decide)) (pv 0) (Zaa (pv 1) Zad)))
     (Zac (ZaE (Zau (P:=P) (w:=w) (K:=K) (mg:=mg) (base:=base) 7 (hr.mono (by decide)) (Zao K (pv 0)) (Zaa (pv 1) Zad)))
     (Zaf (Zb4 PassesOwn.never rfl (Za5 K (Zau (P:=P) (w:=w) (K:=K) (mg:=mg) (base:=base) 4 (hr.mono (by decide)) (pv 0) (Zaa (pv 2) Zad))) (ZaH (i:=3) sc_Column_put.nd rfl (by walk_at "l")) (Zac (ZaE (Zau (P:=P) (w:=w) (K:=K) (mg:=mg) (base:=base) 7 (hr.mono (by decide)) (Zim (Zao K (pv 0)) (pv 3) (ZdH h_Marks (hr.mono (by decide)) rfl) ⟨rfl,rfl,rfl,rfl⟩) (Zaa (pv 1) Zad)))
     (Zaf (ZiG (hu1 hr) (Zim (Zao K (pv 0)) (Zai Zay (pv 1) (Zav (v:=.int 256) rfl c_PLACES ⟨_,rfl⟩)) ZcJ ⟨rfl,rfl,rfl,rfl⟩) (pv 3) Za1 rfl))))))))),?_⟩
 have e1:(r:Int)/256=((r/256:Nat):Int):=by omega
 refine Zap fun k hk=>?_
 walk_at "vc";refine ⟨r,rfl,hr1,hk _ _ (Zap fun k hk=>?_)⟩;walk_at "vc";refine ⟨_,_,_,(Zae hx).1,ZaI rfl (by decide) (by decide),_,_,h_can,x,.int v,t,D,_,_,_,_,rfl,hc.at_,hc.ok,trivial,_,rfl,?_⟩;rw [show okV b t (.int (v:Nat))=true from decide_eq_true ⟨by omega,by omega⟩,if_neg (by decide)];refine hk _ _ (Zap fun k hk=>?_);walk_at "vc";refine ⟨_,_,_,(Zae hx).1,ZaI rfl (by decide) (by decide),_,_,h_takeC,x,r,t,D,g,rfl,hr1,hc,ht,fun D1 H1 f1 c1=>hk _ _ (Zap fun k hk=>?_)⟩;obtain ⟨dx1,hx1⟩:=c1.at_.hx;obtain ⟨dm,kd,ah,sr,ho,_⟩:=c1.at_.hv.ex;walk_at "vc";refine ⟨_,_,_,(Zae hx1).1,cc.c,cc.n1,_,rfl,_,rfl,_,_,_,(Zae ho).1,rfl,_,_,h_put,D1.mv,r,D1.ev,rfl,hr1,c1.at_.hv,c1.at_.okv,f1.tb,fun H2 ev' nb hm ok2 mem2=>hk _ _ ?_⟩;have c2:=c1.at_.setV (S':=fun y=>∃ u,gOn g r v y=some u) nb.same hm ok2 fun y=>by
   rw [mem2,c1.at_.m1];unfold gOff gOn;by_cases z:y=r
   · rw [if_pos z,if_pos z]
     exact ⟨fun _=>⟨v,rfl⟩,fun _=>.inr z⟩
   · rw [if_neg z,if_neg z]
     exact ⟨fun h=>h.elim id fun w=>absurd w z,fun h=>.inl h⟩
 have f2:Cf ts D.F H ({ D1 with ev:=ev' }:ColD).F H2:=f1.trans (Cf.nb nb (.inl rfl));generalize ({ D1 with ev:=ev' }:ColD)=D2 at c2 f2;obtain ⟨dx2,hx2⟩:=c2.hx;have hv:v<2^256:=v256 hc.ok hv1;walk_at "vc";refine ⟨_,_,_,(Zae hx2).1,ZaI rfl (by decide) (by decide),_,_,h_nof,x,v,rfl,hv,fun l H3 s3 nl hl=>⟨l,rfl,⟨_,SqL.of hl⟩,?_⟩⟩;have nx3:=f2.tb.nx s3;refine loopL (xs:=pint (nmB b v)) (fun i σ H'=>(∃ v3,σ=[some (.ref x),some (.int r),some (.int v),v3])∧noT H' l=some (.lst (pint (nmB b v)))∧∃ D',Cf ts D.F H D'.F H'∧ColQ c CM C (fK b) t (noT H') x D' (fun y=>∃ u,gOn g r v y=some u) (Rj b g r v i)) ⟨⟨_,rfl⟩,Zam hl (L2.nl _),D2,f2.trans (Cf.nx nx3),(c2.same nx3.same).imp (fun _=>Iff.rfl) (fun n y _=>rj_zero.symm) (fun n=>Zb5 fun y=>rj_zero.symm) (fun k n=>Zb5 fun y=>and_congr Iff.rfl rj_zero.symm)⟩ ?_ ?_ ?_
 · rintro i σ H2 _ ⟨_,hl2,_⟩
   exact SqL.of (Zae hl2).1
 · rintro i w σ H4 hw ⟨⟨v3,rfl⟩,hl4,D4,f4,c4⟩
   obtain ⟨n,hn,rfl⟩:=ZbG hw;have rs:∀ m y,Rj b g r v (i+1) m y↔Rj b g r v i m y∨(m=n∧y=r):=fun m y=>rj_succ hn
   have n1:n<1000:=ZhV hc.ok hv1 (List.mem_of_getElem? hn);have lst4:∀ {D5 H5},Cf ts D4.F H4 D5 H5→noT H5 l=some (.lst (pint (nmB b v))):=fun f=>f.same _ _ (fun z=>(c4.loose _ z).no hl4 Za6 (fun _ z=>by cases z)) hl4
   have rb:∀ m y,Rj b g r v i m y→m<1000:=by
     rintro m y (h | h)
     · exact c1.lt h
     · exact ZhV hc.ok hv1 (List.mem_of_mem_take h.2)
   generalize Rj b g r v i=R at rs c4 rb;generalize Rj b g r v (i+1)=R' at rs;obtain ⟨dx4,hx4⟩:=c4.hx;rw [ZcO];refine Zap fun k hk=>?_
   walk_at "vc";refine ⟨_,_,_,(Zae hx4).1,cc.c,cc.n2,_,rfl,_,rfl,.inl ⟨_,.inl (Zae c4.hn).1⟩,mkM (c:=c) f4.tb fun z H5 nx5 nz hz=>?_⟩;have c5:=c4.same nx5.same;have s5:D4.kn.length<sizeLine:=c4.dnn.small fun m hm=>by
     obtain ⟨y,hy⟩:=(c4.m4 m).mp hm;exact rb m y hy
   have fin:∀ D7 H7,Cf ts D4.F H4 D7.F H7→ColAt c CM C (fK b) t (noT H7) x D7 (fun y=>∃ u,gOn g r v y=some u) R' (fun n=>∃ y,R' n y) (fun k n=>∃ y,y/256=k∧R n y)→k [some (.ref x),some (.int r),some (.int v),some (.int n)] H7:=by
     intro D7 H7 g7 c7;refine hk _ _ ?_;obtain ⟨dx7,hx7⟩:=c7.hx;have k256:r/256<256:=by omega
     walk_at "vc";rw [e1];refine ⟨_,_,_,(Zae hx7).1,cc.c,cc.n3,_,rfl,_,rfl,.inl ⟨_,.inl (Zae c7.hk).1⟩,fun p np=>?_⟩;have nx8:Nx ts H7 (upd H7 p (.dK [])):=Nx.new g7.tb np;have c8:=c7.same nx8.same;have hp8:upd H7 p (.dK []) p=some (.dK []):=Zab;have nF:¬ D7.F p:=fun z=>(c7.loose p z).none (ZaT np)
     have g8:Cf ts D4.F H4 D7.F (upd H7 p (.dK [])):=g7.trans (Cf.nx nx8);generalize upd H7 p (.dK [])=H8 at nx8 c8 hp8 g8 ⊢;have last:∀ D9 H9,Cf ts D4.F H4 D9.F H9→ColAt c CM C (fK b) t (noT H9) x D9 (fun y=>∃ u,gOn g r v y=some u) R' (fun n=>∃ y,R' n y) (fun k n=>∃ y,y/256=k∧R n y)→(hk9:r/256∈D9.ks)→∃ H10,DPut H9 (D9.B (r/256)) (.int (n:Int)) (.bl true) H10∧noT H10 l=some (.lst (pint (nmB b v)))∧∃ D',Cf ts D.F H D'.F H10∧ColQ c CM C (fK b) t (noT H10) x D' (fun y=>∃ u,gOn g r v y=some u) R':=by
       intro D9 H9 g9 c9 hk9;obtain ⟨q1,q2,q3⟩:=c9.ak _ hk9;have s9:(D9.kb (r/256)).length<sizeLine:=q3.small fun m hm=>by
         obtain ⟨y,_,hy⟩:=(c9.m3 (r/256) m).mp ⟨hk9,hm⟩;exact rb m y hy
       refine ⟨_,DPut.k (k:=Sum.inl (n:Int)) (Zae q2).1 s9,?_⟩;obtain ⟨ms',d1,d2,_⟩:=q3.put n (.bl true);have c10:=c9.setK (T':=fun k n=>∃ y,y/256=k∧R' n y) hk9 d1 (fun m=>by
         rw [d2];have h3:=c9.m3 (r/256) m;constructor
         · rintro (h1 | h1)
           · obtain ⟨y,y1,y2⟩:=h3.mp ⟨hk9,h1⟩
             exact ⟨y,y1,(rs m y).mpr (.inl y2)⟩
           · exact ⟨r,rfl,(rs m r).mpr (.inr ⟨h1,rfl⟩)⟩
         · rintro ⟨y,y1,y2⟩
           rcases (rs m y).mp y2 with h | h
           · exact .inl (h3.mpr ⟨y,y1,h⟩).2
           · exact .inr h.1) (fun j m hj=>Zb5 fun y=>and_congr_right fun y1=>by
         rw [rs];exact ⟨.inl,fun h=>h.elim id fun w=>absurd (by rw [← y1,w.2]) hj⟩)
       rw [← Zcr (nd _) (.inr ⟨_,q2⟩)] at c10;have g10:=g9.trans (Cf.put (F':=D9.F) g9.tb (.inr (.inr (.inr (.inr ⟨_,hk9,rfl⟩)))) (Zae q2).1 (o':=.dK (putK (D9.kb (r/256)) (Sum.inl (n:Int)) (.bl true))) trivial fun p hp=>.inl hp);refine ⟨lst4 g10,_,?_,c10⟩;exact f4.trans g10
     have s8:D7.kk.length<sizeLine:=c7.dnk.small fun m hm=>Nat.lt_trans (c7.kl m hm) (by decide)
     refine ⟨_,(Zae c8.hk).1,Sum.inl ((r/256:Nat):Int),rfl,s8,fun u hu=>?_,fun hu=>?_⟩
     · have hin:r/256∈D7.ks:=by
         have:=c7.dnk.some (r/256);rw [hu] at this;exact of_decide_eq_true this.symm
       rw [(c7.ak _ hin).1] at hu;cases hu;obtain ⟨H10,y1,y2⟩:=last D7 H8 g8 c8 hin;exact ⟨_,rfl,H10,y1,y2⟩
     · have hin:r/256∉D7.ks:=fun w=>by
         have:=c7.dnk.some (r/256);rw [hu,decide_eq_true w] at this;cases this
       have c9:=c8.addK k256 hin (Zam hp8 (nd _)) nF;rw [← Zcr (nd _) (.inr ⟨_,c8.hk⟩)] at c9
       have g9 : Cf ts D4.F H4 ({ D7 with kk:=putK D7.kk (Sum.inl ((r/256:Nat):Int)) (.ref p),ks:=D7.ks++[r/256],B:=fun j=>if j=r/256 then p else D7.B j,kb:=fun j=>if j=r/256 then [] else D7.kb j,nb:=fun j=>if j=r/256 then [] else D7.nb j }:ColD).F (upd H8 D7.dk (.dK (putK D7.kk (Sum.inl ((r/256:Nat):Int)) (.ref p)))):=by
         refine g7.trans ⟨fun b o n e=>?_,g8.tb.put (Zae c8.hk).1 trivial,fun b hb=>?_⟩
         · have:=Zae (nx8.at e)
           refine Zam ?_ this.2;rw [Zah (fun z=>n (by rw [z];exact .inr (.inr (.inl rfl))))];exact this.1
         · rcases hb with h | h | h | h | ⟨j,hj,w⟩
           · exact .inl (.inl h)
           · exact .inl (.inr (.inl h))
           · exact .inl (.inr (.inr (.inl h)))
           · exact .inl (.inr (.inr (.inr (.inl h))))
           · by_cases ej:j=r/256
             · simp only [if_pos ej] at w
               rw [w];exact .inr (ZaT np)
             · simp only [if_neg ej] at w
               refine .inl (.inr (.inr (.inr (.inr ⟨j,(List.mem_append.mp hj).elim id fun z=>absurd (List.mem_singleton.mp z) ej,w⟩))))
       obtain ⟨H10,y1,y2⟩:=last _ _ g9 c9 (List.mem_append_right _ (List.mem_singleton.mpr rfl));simp only [if_pos rfl] at y1;exact ⟨H10,y1,y2⟩
   refine ⟨_,(Zae c5.hn).1,Sum.inl (n:Int),rfl,s5,fun u hu=>?_,fun hu=>?_⟩
   · have hin:n∈D4.ns:=by
       have:=c4.dnn.some n;rw [hu] at this;exact of_decide_eq_true this.symm
     obtain ⟨a1,a2,a3⟩:=c5.an n hin;rw [a1] at hu;cases hu;obtain ⟨dm5,kd5,ah5,sr5,ho5,_⟩:=a2.ex;refine ⟨_,rfl,_,_,_,(Zae ho5).1,rfl,_,_,h_put,D4.A n,r,D4.E n,rfl,hr1,a2,a3,nx5.tb,fun H6 e6 nb6 hm6 ok6 mem6=>?_⟩;have c6:=c5.setN (R':=R') hin nb6.same hm6 ok6 (fun y=>by
       rw [mem6,c5.m2 n hin,rs];exact ⟨fun h=>h.elim .inl fun w=>.inr ⟨rfl,w⟩,fun h=>h.elim .inl fun w=>.inr w.2⟩) (fun m y hm=>by rw [rs];exact ⟨.inl,fun h=>h.elim id fun w=>absurd w.1 hm⟩)
     refine fin _ H6 ?_ (c6.imp (fun _=>Iff.rfl) (fun _ _ _=>Iff.rfl) (fun m=>?_) (fun _ _=>Iff.rfl))
     · exact (Cf.nx nx5).trans (Cf.nb nb6 (.inr (.inr (.inr (.inl ⟨n,hin,rfl⟩)))))
     · constructor
       · exact fun ⟨y,hy⟩=>⟨y,(rs m y).mpr (.inl hy)⟩
       · rintro ⟨y,hy⟩
         rcases (rs m y).mp hy with h | h
         · exact ⟨y,h⟩
         · rw [h.1]
           exact (c4.m4 n).mp hin
   · have hin:n∉D4.ns:=fun w=>by
       have:=c4.dnn.some n;rw [hu,decide_eq_true w] at this;cases this
     have nF:¬ D4.F z:=fun w=>(c4.loose z w).none nz
     have zn:z≠D4.dn:=fun w=>nF (.inr (.inl w))
     have c6:=c5.addN hin hz nF;rw [← Zcr (nd _) (.inr ⟨_,c5.hn⟩)] at c6;have hz6:=hz.one (H':=noT (upd H5 D4.dn (.dK (putK D4.kn (Sum.inl (n:Int)) (.ref z))))) (.inr ⟨_,c5.hn⟩) zn (fun b o nb e=>by rw [Zcr (nd _) (.inr ⟨_,c5.hn⟩),Zah nb];exact e)
     have g6 : Cf ts D4.F H4 ({ D4 with kn:=putK D4.kn (Sum.inl (n:Int)) (.ref z),ns:=D4.ns++[n],A:=fun m=>if m=n then z else D4.A m,E:=fun m=>if m=n then [] else D4.E m }:ColD).F (upd H5 D4.dn (.dK (putK D4.kn (Sum.inl (n:Int)) (.ref z)))):=by
       refine ⟨fun b o n e=>?_,nx5.tb.put (Zae c5.hn).1 trivial,fun b hb=>?_⟩
       · have:=Zae (nx5.at e)
         refine Zam ?_ this.2;rw [Zah (fun z=>n (by rw [z];exact .inr (.inl rfl)))];exact this.1
       · rcases hb with h | h | h | ⟨j,hj,w⟩ | h
         · exact .inl (.inl h)
         · exact .inl (.inr (.inl h))
         · exact .inl (.inr (.inr (.inl h)))
         · by_cases ej:j=n
           · simp only [if_pos ej] at w
             rw [w];exact .inr nz
           · simp only [if_neg ej] at w
             refine .inl (.inr (.inr (.inr (.inl ⟨j,(List.mem_append.mp hj).elim id fun z=>absurd (List.mem_singleton.mp z) ej,w⟩))))
         · exact .inl (.inr (.inr (.inr (.inr h))))
     generalize upd H5 D4.dn (.dK (putK D4.kn (Sum.inl (n:Int)) (.ref z)))=H6 at c6 hz6 g6 ⊢;have A6:({ D4 with kn:=putK D4.kn (Sum.inl (n:Int)) (.ref z),ns:=D4.ns++[n],A:=fun m=>if m=n then z else D4.A m,E:=fun m=>if m=n then [] else D4.E m }:ColD).A n=z:=if_pos rfl;have hin6:n∈({ D4 with kn:=putK D4.kn (Sum.inl (n:Int)) (.ref z),ns:=D4.ns++[n],A:=fun m=>if m=n then z else D4.A m,E:=fun m=>if m=n then [] else D4.E m }:ColD).ns:=List.mem_append_right _ (List.mem_singleton.mpr rfl);generalize ({ D4 with kn:=putK D4.kn (Sum.inl (n:Int)) (.ref z),ns:=D4.ns++[n],A:=fun m=>if m=n then z else D4.A m,E:=fun m=>if m=n then [] else D4.E m }:ColD)=D6 at c6 g6 A6 hin6;obtain ⟨dm6,kd6,ah6,sr6,ho6,_⟩:=hz6.ex;refine ⟨_,_,_,(Zae ho6).1,rfl,_,_,h_put,z,r,[],rfl,hr1,hz6,ZeK,g6.tb,fun H7 e7 nb7 hm7 ok7 mem7=>?_⟩;rw [← A6] at nb7 hm7;have c7:=c6.setN (R':=R') hin6 nb7.same hm7 ok7 (fun y=>by
       rw [mem7,rs];constructor
       · rintro (h | h)
         · cases h
         · exact .inr ⟨rfl,h⟩
       · rintro (h | h)
         · exact absurd ((c4.m4 n).mpr ⟨y,h⟩) hin
         · exact .inr h.2) (fun m y hm=>by rw [rs];exact ⟨fun h=>.inl h.2,fun h=>h.elim (fun w=>⟨hm,w⟩) fun w=>absurd w.1 hm⟩)
     refine fin _ H7 ?_ (c7.imp (fun _=>Iff.rfl) (fun _ _ _=>Iff.rfl) (fun m=>?_) (fun _ _=>Iff.rfl))
     · exact g6.trans (Cf.nb nb7 (.inr (.inr (.inr (.inl ⟨n,hin6,rfl⟩)))))
     · constructor
       · rintro (⟨y,hy⟩ | h)
         · exact ⟨y,(rs m y).mpr (.inl hy)⟩
         · exact ⟨r,(rs m r).mpr (.inr ⟨h,rfl⟩)⟩
       · rintro ⟨y,hy⟩
         rcases (rs m y).mp hy with h | h
         · exact .inl ⟨y,h⟩
         · exact .inr h.1
 · rintro σ H4 ⟨⟨v3,rfl⟩,hl4,D4,f4,c4⟩
   walk_at "vc";refine q D4 H4 f4 ⟨c4.imp (fun _=>Iff.rfl) (fun n y _=>ZhG) (fun n=>Zb5 fun y=>ZhG) (fun k n=>Zb5 fun y=>and_congr Iff.rfl ZhG),fun y u z=>?_,hc.ok⟩;unfold gOn at z;split at z
   · rename_i w
     cases z;exact ⟨by omega,hv1⟩
   · exact hc.bd y u z
end
def spRzC (c:Kd→Addr)(CM C CN:Addr):Sp:=fun vs H Q E=>∃ (x:Addr) (v:V) (f:Str) (t:Int) (D:ColD) (S:Nat→Prop) (R:Nat→Nat→Prop) (U:Nat→Prop) (T:Nat→Nat→Prop),vs=[.ref x,v]∧ColAt c CM C f t (noT H) x D S R U T∧(f="greatest"∨f="width")∧Scal v∧okN v=false∧E (.ref CN) none H
def spRzP (b:Bool)(c:Kd→Addr)(CM C CN CB:Addr):Sp:=fun vs H Q E=>∃ (x:Addr) (u v:V) (t:Nat) (D:ColD) (S:Nat→Prop) (R:Nat→Nat→Prop) (U:Nat→Prop) (T:Nat→Nat→Prop),vs=[.ref x,u,v]∧ColAt c CM C (fK b) t (noT H) x D S R U T∧okT b t∧Scal u∧Scal v∧if okN u=true then okV b t v=false∧E (.ref CB) none H else E (.ref CN) none H
theorem look_of {f:Str}{a1 a2 a3 a4:V}{m:Str}(hf:f="greatest"∨f="width")(h:([("valued",a1),("by_number",a2),("by_key",a3)]:List (Str × V)).lookup m=none)(h1:("greatest":Str)≠m)(h2:("width":Str)≠m):([("valued",a1),("by_number",a2),("by_key",a3),(f,a4)]:List (Str × V)).lookup m=none:=by
 rcases hf with rfl | rfl
 · exact ZaI (b:=true) h h1 h2
 · exact ZaI (b:=false) h h1 h2
theorem fK_or (b:Bool):fK b="greatest"∨fK b="width":=by cases b<;>simp [fK]
section
variable {P:Program}{w:World}{K:PySem.W.Frag}{mg:Str→Option Value}{base:Heap}{c:Kd→Addr}{CM C:Addr}{ts:Tabs}
theorem ok_valXV {CN:Addr}(cc:ClC K C)(h_chkX:FnX P w K mg base "check_number" ["thing"] 2 (spChkX CN))(d:MDefAt K C "value" "ByValue.value" Za9 ["self","row"]):MethX P w K mg base C "value" ["self","row"] 7 (spRzC c CM C CN):=by
 refine MethX.of cc.c d sc_ByValue_value (fun vs H Q E h=>?_) (fun f cdv A outer s H vs Q E hr h=>?_)
 · obtain ⟨x,v,f,t,D,S,R,U,T,rfl,_⟩:=h
   rfl
 obtain ⟨x,v,f,t,D,S,R,U,T,rfl,hc,hf,sv,hv,q⟩:=h;refine ⟨_,(Zac (ZaE (ZeS h_chkX (hr.mono (by decide)) rfl (Zaa (pv 1) Zad))) Zbb),?_⟩;walk_at "vc";refine ⟨v,rfl,sv,?_⟩;rw [if_neg (by rw [hv];decide)];exact q
theorem ok_valXB {CN:Addr}(cc:ClC K C)(x_has:MethX P w K mg base CM "has" ["self","n"] 6 (spRz c CM CN))(d:MDefAt K C "value" "ByBits.value" Zbf ["self","row"]):MethX P w K mg base C "value" ["self","row"] 7 (spRzC c CM C CN):=by
 refine MethX.of cc.c d Zcu (fun vs H Q E h=>?_) (fun f cdv A outer s H vs Q E hr h=>?_)
 · obtain ⟨x,v,f,t,D,S,R,U,T,rfl,_⟩:=h
   rfl
 obtain ⟨x,v,f,t,D,S,R,U,T,rfl,hc,hf,sv,hv,q⟩:=h;refine ⟨_,(Zac (ZaF (ZaY (ZaJ (pe_meE 6 (hr.mono (by decide)) (Zao K (pv 0)) (Zaa (pv 1) Zad)))) Zbb Zbb) Zbb),?_⟩;obtain ⟨dx,hx⟩:=hc.hx;obtain ⟨dm,kd,ah,sr,ho,_⟩:=hc.hv.ex;walk_at "vc";exact ⟨_,_,_,(Zae hx).1,cc.c,cc.n1,_,rfl,_,rfl,_,_,_,(Zae ho).1,rfl,_,_,x_has,D.mv,D.ev,v,rfl,hc.hv,sv,hv,q⟩
theorem ZfK {CN:Addr}(cc:ClC K C)(x_value:MethX P w K mg base C "value" ["self","row"] 7 (spRzC c CM C CN))(d:MDefAt K C "take" "Column.take" Za7 ["self","row"]):MethX P w K mg base C "take" ["self","row"] 8 (spRzC c CM C CN):=by
 refine MethX.of cc.c d sc_Column_take (fun vs H Q E h=>?_) (fun f cdv A outer s H vs Q E hr h=>?_)
 · obtain ⟨x,v,f,t,D,S,R,U,T,rfl,_⟩:=h
   rfl
 obtain ⟨x,v,f,t,D,S,R,U,T,rfl,hc,hf,sv,hv,q⟩:=h;refine ⟨_,(Zac (Zal (i:=2) sc_Column_take.nd rfl (by walk_at "l") (pe_meE 7 (hr.mono (by decide)) (pv 0) (Zaa (pv 1) Zad))) Zbb),?_⟩;obtain ⟨dx,hx⟩:=hc.hx;walk_at "vc";exact ⟨_,_,_,(Zae hx).1,look_of hf rfl (by decide) (by decide),_,_,x_value,x,v,f,t,D,S,R,U,T,rfl,hc,hf,sv,hv,q⟩
theorem ZgS {b:Bool}{CN C_BadValue:Addr}(cc:ClC K C)(xc_BadValue:XCls K C_BadValue)(g_BadValue:mg "BadValue"=some (.ref C_BadValue))(h_chkX:FnX P w K mg base "check_number" ["thing"] 2 (spChkX CN))(h_can:MethAt P w K mg base C "can_have" ["self","value"] 2 (spCan b c CM C))(d:MDefAt K C "put" "Column.put" Zbi ["self","row","value"]):MethX P w K mg base C "put" ["self","row","value"] 9 (spRzP b c CM C CN C_BadValue):=by
 refine MethX.of cc.c d sc_Column_put (fun vs H Q E h=>?_) (fun f cdv A outer s H vs Q E hr h=>?_)
 · obtain ⟨x,u,v,t,D,S,R,U,T,rfl,_⟩:=h
   rfl
 obtain ⟨x,u,v,t,D,S,R,U,T,rfl,hc,ok,su,sv,q⟩:=h;refine ⟨_,(Zac (ZaE (ZeS h_chkX (hr.mono (by decide)) rfl (Zaa (pv 1) Zad))) (Zac (ZaF (ZaY (ZaJ (Zau (P:=P) (w:=w) (K:=K) (mg:=mg) (base:=base) 2 (hr.mono (by decide)) (pv 0) (Zaa (pv 2) Zad)))) (Zaf (ZfB xc_BadValue g_BadValue rfl ZhL)) Zbb) Zbb)),?_⟩;obtain ⟨dx,hx⟩:=hc.hx;walk_at "vc";refine ⟨u,rfl,su,?_⟩;by_cases hu:okN u=true
 · rw [if_pos hu] at q ⊢
   refine ⟨_,_,_,(Zae hx).1,ZaI rfl (by decide) (by decide),_,_,h_can,x,v,t,D,S,R,U,T,rfl,hc,ok,sv,_,rfl,?_⟩;rw [if_pos q.1];exact q.2
 · rw [if_neg hu] at q ⊢
   exact q
theorem rNeD_t2 {H:Hp}{Q:VK}{a b:Addr}(x y:Bool)(h1:SqT K H a [.bl x,.bl y])(h2:SqT K H b [.bl x,.bl y])(q:Q (.bl false) H):rNeD K (.ref a) (.ref b) H Q:=by
 refine ⟨_,_,.tup h1 (.cons (.bl x) (.cons (.bl y) .nil)),.tup h2 (.cons (.bl x) (.cons (.bl y) .nil)),?_,?_,?_,?_⟩
 · cases x<;>cases y<;>rfl
 · cases x<;>cases y<;>rfl
 · cases x<;>cases y<;>rfl
 · have:(!PySem.Spec.same (.tuple [.bool x,.bool y]) (.tuple [.bool x,.bool y]))=false:=by cases x<;>cases y<;>rfl
   rw [this];exact q
theorem rEqD_t2 {H:Hp}{Q:VK}{a b:Addr}(x y:Bool)(h1:SqT K H a [.bl x,.bl y])(h2:SqT K H b [.bl x,.bl y])(q:Q (.bl true) H):rEqD K (.ref a) (.ref b) H Q:=by
 refine ⟨_,_,.tup h1 (.cons (.bl x) (.cons (.bl y) .nil)),.tup h2 (.cons (.bl x) (.cons (.bl y) .nil)),?_,?_,?_,?_⟩
 · cases x<;>cases y<;>rfl
 · cases x<;>cases y<;>rfl
 · cases x<;>cases y<;>rfl
 · have:(PySem.Spec.same (.tuple [.bool x,.bool y]) (.tuple [.bool x,.bool y]))=true:=by cases x<;>cases y<;>rfl
   rw [this];exact q
theorem tMeX_ap {k0:Nat}{m:Str}{ta:TE}{t:TA}{W:Addr→L2.St→Hp→Prop}{D:Ends}{σ:L2.St}{H:Hp}:tMeX P w K mg base k0 m ta t W D σ H=ta σ H fun x H1=>∃ a C dx fs ps sp,x=.ref a∧H1 a=some (.ins C dx fs)∧fs.lookup m=none ∧
 MethX P w K mg base C m ps k0 sp∧t σ H1 fun vs H2=>sp (x::vs) H2 (fun _ H3=>D.nx σ H3) (fun cls _ H3=>∃ C',cls=.ref C'∧W C' σ H3):=rfl
end
structure ClX (P:Program)(w:World)(K:PySem.W.Frag)(mg:Str→Option Value)(base:Heap)(b:Bool)(c:Kd→Addr)(CM C CN CB:Addr):Prop where
 value:MethX P w K mg base C "value" ["self","row"] 7 (spRzC c CM C CN)
 take:MethX P w K mg base C "take" ["self","row"] 8 (spRzC c CM C CN)
 put:MethX P w K mg base C "put" ["self","row","value"] 9 (spRzP b c CM C CN CB)
def spTried (c:Kd→Addr)(CM:Addr)(CK:Bool→Addr):Sp:=fun vs H Q _=>∃ (b:Bool) (x:Addr) (j:Nat) (u v:V) (t:Nat) (D:ColD) (g:Nat→Option Nat),vs=[.ref x,.int j,u,v]∧j<3∧ColF b c CM (CK b) t (noT H) x D g∧Scal u∧Scal v∧(okN u=false∨(j=0∧okV b t v=false))∧∀ p H',Same H H'→H p=none→H' p=some (.tup [.bl (!okN u),.bl (okN u)])→Q (.ref p) H'
section
variable {P:Program}{w:World}{K:PySem.W.Frag}{mg:Str→Option Value}{base:Heap}{c:Kd→Addr}{CM:Addr}{CK:Bool→Addr}{ts:Tabs}
theorem ok_tried {C_BadValue C_MarksError C_NoNumber:Addr}(B:Blt mg)(xn:XF K C_NoNumber C_MarksError C_BadValue)(xb:XF K C_BadValue C_MarksError C_NoNumber)(g_BadValue:mg "BadValue"=some (.ref C_BadValue))(g_MarksError:mg "MarksError"=some (.ref C_MarksError))(g_NoNumber:mg "NoNumber"=some (.ref C_NoNumber))(xc:∀ b,ClX P w K mg base b c CM (CK b) C_NoNumber C_BadValue)(d:DefAt K mg "_law_tried" ZcU ["_law_column_here","_law_way","_law_row_here","_law_value_here"]):FnAt P w K mg base "_law_tried" ["_law_column_here","_law_way","_law_row_here","_law_value_here"] 10 (spTried c CM CK):=by
 refine FnAt.of d sc_l_tried (fun vs H Q E h=>?_) (fun f cdv A outer s H vs Q E hr h=>?_)
 · obtain ⟨b,x,j,u,v,t,D,g,rfl,_⟩:=h
   rfl
 obtain ⟨b,x,j,u,v,t,D,g,rfl,hj,hc,su,sv,ho,q⟩:=h;refine ⟨_,(Zac (Zal (i:=4) sc_l_tried.nd rfl (by walk_at "l") ZaU)
     (Zac (ps_tryW (i:=5) K g_MarksError (Zcy (px_if (Zas Zbw (pv 1) Zag (nomark _)) (Zcy (ZfO (P:=P) (w:=w) (K:=K) (mg:=mg) (base:=base) 9 rfl (hr.mono (by decide)) (pv 0) (Zaa (pv 2) (Zaa (pv 3) Zad))) Zdn) (Zcy (px_if (Zas Zbw (pv 1) Zag (nomark _)) (Zcy (ZfO (P:=P) (w:=w) (K:=K) (mg:=mg) (base:=base) 8 rfl (hr.mono (by decide)) (pv 0) (Zaa (pv 2) Zad)) Zdn) (Zcy (ZfO (P:=P) (w:=w) (K:=K) (mg:=mg) (base:=base) 7 rfl (hr.mono (by decide)) (pv 0) (Zaa (pv 2) Zad)) Zdn)) Zdn)) Zdn) (fun ea C oe vs hcX hdX=>(Zaf (Zal (i:=4) sc_l_tried.nd rfl (by walk_at "l") (ZcB (Zaa (ZaA (ZfL K hcX) rfl B.isi ZaO (Zaa (pv 5) (Zaa (Zav (v:=.ref C_NoNumber) rfl g_NoNumber rfl) Zad))) (Zaa (ZaA (ZfL K hcX) rfl B.isi ZaO (Zaa (pv 5) (Zaa (Zav (v:=.ref C_BadValue) rfl g_BadValue rfl) Zad))) Zad)))))) sc_l_tried.nd rfl rfl rfl)
     (Zaf (Zak (pv 4))))),?_⟩
 obtain ⟨dx,hx⟩:=hc.at_.hx;walk_at "vc";simp only [tMeX_ap];walk_at "vc";have two:2≤sizeLine:=by decide
 have fn:okN u=false→∃ C',Value.ref C_NoNumber=Value.ref C'∧W.exmOne K (.ref C') (.ref C_MarksError)=some true∧∀ ea:Addr,H ea=none→EX.XIsi K C'∧∃ x,W.kitOne K (.ref C') (.ref C_NoNumber)=some x∧EX.XIsi K C'∧∃ y,W.kitOne K (.ref C') (.ref C_BadValue)=some y∧2≤sizeLine∧∀ p:Addr,H p=none→Q (.ref p) (upd H p (.tup [.bl x,.bl y])):=fun hu =>
   ⟨_,rfl,xn.m,fun ea _=>⟨xn.i,true,xn.y,xn.i,false,xn.n,two,fun p np=>q p _ (Same.new np) np (by rw [hu];exact Zab)⟩⟩
 have fb:okN u=true→∃ C',Value.ref C_BadValue=Value.ref C'∧W.exmOne K (.ref C') (.ref C_MarksError)=some true∧∀ ea:Addr,H ea=none→EX.XIsi K C'∧∃ x,W.kitOne K (.ref C') (.ref C_NoNumber)=some x∧EX.XIsi K C'∧∃ y,W.kitOne K (.ref C') (.ref C_BadValue)=some y∧2≤sizeLine∧∀ p:Addr,H p=none→Q (.ref p) (upd H p (.tup [.bl x,.bl y])):=fun hu =>
   ⟨_,rfl,xb.m,fun ea _=>⟨xb.i,false,xb.n,xb.i,true,xb.y,two,fun p np=>q p _ (Same.new np) np (by rw [hu];exact Zab)⟩⟩
 have lk:∀ {m:Str} {a1 a2 a3 a4:V},([("valued",a1),("by_number",a2),("by_key",a3)]:List (Str × V)).lookup m=none→("greatest":Str)≠m→("width":Str)≠m→([("valued",a1),("by_number",a2),("by_key",a3),(fK b,a4)]:List (Str × V)).lookup m=none:=fun h h1 h2=>ZaI h h1 h2
 rcases (show j=0∨j=1∨j=2 by omega) with rfl | rfl | rfl
 · rw [if_pos (by decide)]
   refine ⟨_,_,_,(Zae hx).1,lk rfl (by decide) (by decide),_,_,(xc b).put,x,u,v,t,D,_,_,_,_,rfl,hc.at_,hc.ok,su,sv,?_⟩;by_cases hu:okN u=true
   · rw [if_pos hu]
     refine ⟨ho.elim (fun z=>?_) (fun z=>z.2),fb hu⟩;rw [hu] at z;cases z
   · rw [if_neg hu]
     exact fn (by simpa using hu)
 · have hu:okN u=false:=ho.elim id fun z=>absurd z.1 (by decide)
   rw [if_neg (by decide),if_pos (by decide)];exact ⟨_,_,_,(Zae hx).1,lk rfl (by decide) (by decide),_,_,(xc b).take,x,u,_,_,D,_,_,_,_,rfl,hc.at_,fK_or b,su,hu,fn hu⟩
 · have hu:okN u=false:=ho.elim id fun z=>absurd z.1 (by decide)
   rw [if_neg (by decide),if_neg (by decide)];exact ⟨_,_,_,(Zae hx).1,lk rfl (by decide) (by decide),_,_,(xc b).value,x,u,_,_,D,_,_,_,_,rfl,hc.at_,fK_or b,su,hu,fn hu⟩
end
def Fx (x:Addr)(H H':Hp):Prop:=∀ b o,b≠x→H b=some o→H' b=some o
theorem Fx.of {x:Addr}{H H':Hp}(s:Same H H'):Fx x H H':=fun b o _ e=>s b o e
theorem Fx.trans {x:Addr}{H H' H'':Hp}(a:Fx x H H')(b:Fx x H' H''):Fx x H H'':=fun c o n e=>b c o n (a c o n e)
theorem Fx.put {x:Addr}{H H':Hp}{o:HO}(a:Fx x H H'):Fx x H (upd H' x o):=fun c oc n e=>by rw [Zah n];exact a c oc n e
theorem ZiP {H H':Hp}{x dx:Addr}{o o':HO}(h1:H x=none)(h2:H dx=none)(f:Fx x (upd (upd H dx o) x o') H'):Same H H':=fun b ob e=>by
 have nb:b≠x:=Zan e h1;refine f b ob nb ?_;rw [Zah nb,Zah (Zan e h2)];exact e
def MkE (CM:Addr)(H:Hp)(p:Addr):Prop:=∃ dx a b c,H p=some (.ins CM dx [("keyed",.ref a),("aheads",.ref b),("stretches",.ref c),("held",.int 0)])∧H a=some (.lst [])∧H b=some (.lst [])∧H c=some (.lst [])
theorem MkE.fx {CM x:Addr}{H H':Hp}{p:Addr}{C dx:Addr}{fs:List (Str × V)}(n:p≠x)(hx:H x=some (.ins C dx fs))(s:Fx x H H')(h:MkE CM H p):MkE CM H' p:=by
 obtain ⟨dx',a,b,c,h1,h2,h3,h4⟩:=h;have k:∀ {l:Addr},H l=some (.lst [])→H' l=some (.lst []):=fun {l} e=>s _ _ (fun z=>by rw [z,hx] at e;cases e) e
 exact ⟨dx',a,b,c,s _ _ n h1,k h2,k h3,k h4⟩
def spMI (CM:Addr):Sp:=fun vs H Q _=>∃ (x dx:Addr),vs=[.ref x]∧H x=some (.ins CM dx [])∧∀ H',Fx x H H'→MkE CM H' x→Q .non H'
section
variable {P:Program}{w:World}{K:PySem.W.Frag}{mg:Str→Option Value}{base:Heap}{CM:Addr}
theorem ok_MI (cd:CD_Marks K mg CM):MakeAt P w K mg base "Marks" CM ["self"] 1 (spMI CM):=by
 refine MakeAt.of cd.at_ cd.init ZbM (fun vs H Q E h=>?_) (fun f cdv A outer s H vs Q E hr h=>?_)
 · obtain ⟨x,dx,rfl,_⟩:=h
   rfl
 obtain ⟨x,dx,rfl,hx,q⟩:=h;refine ⟨_,(Zac (ZaC K (pv 0) (ZaM Zad))
     (Zac (ZaC K (pv 0) (ZaM Zad))
     (Zac (ZaC K (pv 0) (ZaM Zad))
     (Zaf (ZaC K (pv 0) Zag))))),?_⟩
 walk_at "vc";refine ⟨by decide,fun p1 n1=>⟨_,_,_,(Same.new n1) _ _ hx,cd.c,cd.n_keyed,by decide,by decide,fun p2 n2=>⟨_,_,_,(Same.new n2) _ _ Zab,cd.c,cd.n_aheads,by show 1<1000;decide,by decide,fun p3 n3=>⟨_,_,_,(Same.new n3) _ _ Zab,cd.c,cd.n_stretches,by show 2<1000;decide,_,_,_,Zab,cd.c,cd.n_held,by show 3<1000;decide,q _ ?_ ?_⟩⟩⟩⟩
 · exact ((((Fx.of (Same.new n1)).put.trans (Fx.of (Same.new n2))).put.trans (Fx.of (Same.new n3))).put).put
 · have x1:p1≠x:=Ne.symm (Zan hx n1)
   have x2:p2≠x:=fun z=>by rw [z,Zab] at n2;cases n2
   have x3:p3≠x:=fun z=>by rw [z,Zab] at n3;cases n3
   refine ⟨dx,p1,p2,p3,Zab,?_,?_,?_⟩
   · have e1:=Zab (H:=H) (a:=p1) (o:=.lst [])
     have e2:=(Fx.of (x:=x) (Same.refl _)).put (o:=.ins CM dx [("keyed",.ref p1)]) _ _ x1 e1;have e3:=(Fx.of (Same.new (o:=.lst []) n2)).put (o:=.ins CM dx [("keyed",.ref p1),("aheads",.ref p2)]) _ _ x1 e2;have e4:=(Fx.of (Same.new (o:=.lst []) n3)).put (o:=.ins CM dx [("keyed",.ref p1),("aheads",.ref p2),("stretches",.ref p3)]) _ _ x1 e3;rw [Zah x1];exact e4
   · have e2:=Zab (H:=upd (upd H p1 (.lst [])) x (.ins CM dx [("keyed",.ref p1)])) (a:=p2) (o:=.lst [])
     have e3:=(Fx.of (x:=x) (Same.refl _)).put (o:=.ins CM dx [("keyed",.ref p1),("aheads",.ref p2)]) _ _ x2 e2;have e4:=(Fx.of (Same.new (o:=.lst []) n3)).put (o:=.ins CM dx [("keyed",.ref p1),("aheads",.ref p2),("stretches",.ref p3)]) _ _ x2 e3;rw [Zah x2];exact e4
   · rw [Zah x3,Zah x3,Zab]
end
def spCI (CM C:Addr):Sp:=fun vs H Q _=>∃ (x dx:Addr),vs=[.ref x]∧H x=some (.ins C dx [])∧∀ m d1 d2 H',Fx x H H'→H' x=some (.ins C dx [("valued",.ref m),("by_number",.ref d1),("by_key",.ref d2)])→MkE CM H' m→H' d1=some (.dK [])→H' d2=some (.dK [])→d1≠d2→H m=none→H d1=none→H d2=none→Q .non H'
theorem none_of {H H':Hp}{p:Addr}(s:Same H H')(h:H' p=none):H p=none:=by
 cases e:H p with
 | none=>rfl
 | some o=>rw [s _ _ e] at h;cases h
section
variable {P:Program}{w:World}{K:PySem.W.Frag}{mg:Str→Option Value}{base:Heap}{c:Kd→Addr}{CM:Addr}{ts:Tabs}
theorem ok_CI {C M f:Addr}{fd:FuncData}(h_Marks:MakeAt P w K mg base "Marks" CM ["self"] 1 (spMI CM))(cc:ClC K C)(bc:ByCls K mg "Column" "__init__" M f)(F:Fun K "__init__" "Column.__init__" Zar f fd)(b:Binds K fd ["self"] []):BaseAt P w K mg base "Column" "__init__" ["self"] 3 (spCI CM C):=by
 refine ⟨M,f,fd,bc,?_,b⟩;refine F.ok Zdc (fun vs H Q E h=>?_) (fun cdv A outer s H vs Q E hr h=>?_)
 · obtain ⟨x,dx,rfl,_⟩:=h
   rfl
 obtain ⟨x,dx,rfl,hx,q⟩:=h;refine ⟨_,(Zac (ZaC K (pv 0) (ZdH h_Marks (hr.mono (by decide)) rfl))
     (Zac (ZaC K (pv 0) ZcJ)
     (Zaf (ZaC K (pv 0) ZcJ)))),?_⟩
 walk_at "vc";refine fun m dm nm ndm hne=>⟨m,dm,rfl,Zab,fun H2 f2 me=>⟨rfl,?_⟩⟩
 have sm:=ZiP nm ndm f2;have xm:x≠m:=Zan hx nm;have hx2:=sm _ _ hx;refine ⟨_,_,_,hx2,cc.c,cc.n1,by decide,fun p1 n1=>⟨_,_,_,(Same.new n1) _ _ Zab,cc.c,cc.n2,by show 1<1000;decide,fun p2 n2=>⟨_,_,_,(Same.new n2) _ _ Zab,cc.c,cc.n3,by show 2<1000;decide,?_⟩⟩⟩;have p1x:p1≠x:=fun z=>by rw [z,Zab] at n1;cases n1
 have p2x:p2≠x:=fun z=>by rw [z,Zab] at n2;cases n2
 have g1:Fx x H2 (upd H2 x (.ins C dx [("valued",.ref m)])):=(Fx.of (Same.refl _)).put;have g2:=(g1.trans (Fx.of (Same.new (o:=.dK []) n1))).put (o:=.ins C dx [("valued",.ref m),("by_number",.ref p1)]);have g3:=(g2.trans (Fx.of (Same.new (o:=.dK []) n2))).put (o:=.ins C dx [("valued",.ref m),("by_number",.ref p1),("by_key",.ref p2)]);refine q m p1 p2 _ ((Fx.of sm).trans g3) Zab (me.fx (Ne.symm xm) hx2 g3) ?_ ?_ (fun z=>by rw [← z,Zah p1x,Zab] at n2;cases n2) nm (none_of sm (by rw [Zah p1x] at n1;exact n1)) ?_
 · have e1:=Zab (H:=upd H2 x (.ins C dx [("valued",.ref m)])) (a:=p1) (o:=.dK [])
   have e2:upd (upd (upd H2 x (.ins C dx [("valued",.ref m)])) p1 (.dK [])) x (.ins C dx [("valued",.ref m),("by_number",.ref p1)]) p1=some (.dK []):=by rw [Zah p1x];exact e1
   rw [Zah p1x];exact (Same.new n2) _ _ e2
 · rw [Zah p2x,Zab]
 · refine none_of sm ?_
   rw [Zah p2x] at n2;have n3:=none_of (Same.new (o:=.dK []) n1) n2;rw [Zah p2x] at n3;exact n3
theorem MkE.ne {H:Hp}{m x C dx:Addr}{fs:List (Str × V)}(me:MkE CM H m)(hx:H x=some (.ins C dx (("valued",.ref m)::fs))):m≠x:=fun z=>by
 obtain ⟨_,_,_,_,h1,_⟩:=me;rw [z,hx] at h1;injection h1 with h1
 injection h1 with _ _ h1
 injection h1 with h1
 injection h1 with h1
 revert h1;decide +kernel
def NoR (c:Kd→Addr)(CM C:Addr)(f:Str)(t:Int)(H:Hp)(x:Addr)(D:ColD):Prop:=ColAt c CM C f t H x D (fun _=>False) (fun _ _=>False) (fun _=>False) (fun _ _=>False)
def spVI (c:Kd→Addr)(CM C:Addr)(f:Str):Sp:=fun vs H Q _=>∃ (x dx:Addr) (t:Int),vs=[.ref x,.int t]∧H x=some (.ins C dx [])∧∀ D H',Fx x H H'→NoR c CM C f t (noT H') x D→(∀ b,D.F b→H b=none)→Q .non H'
theorem MkE.toM {H:Hp}{m:Addr}(h:MkE CM H m):MkAt c CM (noT H) m []:=by obtain ⟨dx,a,b,d,h1,h2,h3,h4⟩:=h;exact ⟨⟨dx,a,b,d,Zam h1 (ni _ _ _),Zam h2 (nl _),Zam h3 (nl _),Zam h4 (nl _)⟩,fun e he=>nomatch he⟩
theorem noR_mk {C x dx m d1 d2:Addr}{f:Str}{t:Int}{H H1:Hp}(hx:H x=some (.ins C dx []))(f1:Fx x H H1)(e1:H1 x=some (.ins C dx [("valued",.ref m),("by_number",.ref d1),("by_key",.ref d2)]))(me:MkE CM H1 m)(k1:H1 d1=some (.dK []))(k2:H1 d2=some (.dK []))(n12:d1≠d2)(z0:H m=none)(z1:H d1=none)(z2:H d2=none):∃ D,NoR c CM C f t (noT (upd H1 x (.ins C dx [("valued",.ref m),("by_number",.ref d1),("by_key",.ref d2),(f,.int t)]))) x D∧∀ b,D.F b→H b=none:=by
 have mx:=me.ne e1;have g:Fx x H1 (upd H1 x (.ins C dx [("valued",.ref m),("by_number",.ref d1),("by_key",.ref d2),(f,.int t)])):=(Fx.of (Same.refl _)).put;have me2:=me.fx mx e1 g;have q1:=g _ _ (fun z=>by rw [z,e1] at k1;cases k1) k1;have q2:=g _ _ (fun z=>by rw [z,e1] at k2;cases k2) k2;refine ⟨⟨m,d1,d2,[],[],[],[],[],fun _=>0,fun _=>[],fun _=>0,fun _=>[],fun _=>[]⟩,?_,?_⟩
 · exact { hx:=⟨dx,Zam Zab (ni _ _ _)⟩,hv:=me2.toM,okv:=ZeK,hn:=Zam q1 (nd _),dnn:=⟨rfl,.nil⟩,hk:=Zam q2 (nd _),dnk:=⟨rfl,.nil⟩,an:=fun _ h=>(nomatch h),ak:=fun _ h=>(nomatch h),a1:=fun _ h=>(nomatch h),a2:=fun _ h=>(nomatch h),kl:=fun _ h=>(nomatch h),b1:=n12,b2:=fun _ h=>(nomatch h),b3:=fun _ h=>(nomatch h),m1:=fun _=>⟨fun h=>(nomatch h),fun h=>h.elim⟩,m2:=fun _ h=>(nomatch h),m3:=fun _ _=>⟨fun h=>(nomatch h.1),fun h=>h.elim⟩,m4:=fun _=>⟨fun h=>(nomatch h),fun h=>h.elim⟩ }
 · rintro b (rfl | rfl | rfl | ⟨n,hn,_⟩ | ⟨n,hn,_⟩)
   · exact z0
   · exact z1
   · exact z2
   · cases hn
   · cases hn
theorem ok_VI {CV:Addr}(cd:CD_ByValue K mg CV)(hb_Column:BaseAt P w K mg base "Column" "__init__" ["self"] 3 (spCI CM CV)):MakeAt P w K mg base "ByValue" CV ["self","top"] 4 (spVI c CM CV "greatest"):=by
 refine MakeAt.of cd.at_ cd.init Zc6 (fun vs H Q E h=>?_) (fun f cdv A outer s H vs Q E hr h=>?_)
 · obtain ⟨x,dx,v,rfl,_⟩:=h
   rfl
 obtain ⟨x,dx,v,rfl,hx,q⟩:=h;refine ⟨_,(Zac (ZaE (ZiI hb_Column (hr.mono (by decide)) rfl (Zaa (pv 0) Zad)))
     (Zaf (ZaC K (pv 0) (pv 1)))),?_⟩
 walk_at "vc";refine ⟨x,dx,rfl,hx,fun m d1 d2 H1 f1 e1 me k1 k2 n12 z0 z1 z2=>⟨_,_,_,e1,cd.c,cd.n_greatest,by show 3<1000;decide,?_⟩⟩;obtain ⟨D,r1,r2⟩:=noR_mk (c:=c) (f:="greatest") (t:=v) hx f1 e1 me k1 k2 n12 z0 z1 z2;exact q D _ f1.put r1 r2
theorem ok_BI {CB:Addr}(cd:CD_ByBits K mg CB)(hb_Column:BaseAt P w K mg base "Column" "__init__" ["self"] 3 (spCI CM CB)):MakeAt P w K mg base "ByBits" CB ["self","width"] 4 (spVI c CM CB "width"):=by
 refine MakeAt.of cd.at_ cd.init Zdf (fun vs H Q E h=>?_) (fun f cdv A outer s H vs Q E hr h=>?_)
 · obtain ⟨x,dx,v,rfl,_⟩:=h
   rfl
 obtain ⟨x,dx,v,rfl,hx,q⟩:=h;refine ⟨_,(Zac (ZaE (ZiI hb_Column (hr.mono (by decide)) rfl (Zaa (pv 0) Zad)))
     (Zaf (ZaC K (pv 0) (pv 1)))),?_⟩
 walk_at "vc";refine ⟨x,dx,rfl,hx,fun m d1 d2 H1 f1 e1 me k1 k2 n12 z0 z1 z2=>⟨_,_,_,e1,cd.c,cd.n_width,by show 3<1000;decide,?_⟩⟩;obtain ⟨D,r1,r2⟩:=noR_mk (c:=c) (f:="width") (t:=v) hx f1 e1 me k1 k2 n12 z0 z1 z2;exact q D _ f1.put r1 r2
theorem mkC {C:Addr}{f:Str}{t:Int}{H:Hp}{R:Addr→Hp→Prop}{E:XK}(q:∀ x D H',Same H H'→H x=none→NoR c CM C f t (noT H') x D→(∀ b,D.F b→H b=none)→R x H'):∀ x dx,H x=none→H dx=none→dx≠x→spVI c CM C f [.ref x,.int t] (upd (upd H dx (.own x)) x (.ins C dx [])) (fun v H'=>v=.non∧R x H') E:=by intro x dx nx ndx dne;have m2:Same H (upd (upd H dx (.own x)) x (.ins C dx [])):=(Same.new ndx).put nx;exact ⟨x,dx,t,rfl,Zab,fun D H' fx hc hF=>⟨rfl,q x D H' (ZiP nx ndx fx) nx hc fun b hb=>none_of m2 (hF b hb)⟩⟩
theorem NoR.toF {b:Bool}{C x:Addr}{t:Nat}{H:Hp}{D:ColD}(h:NoR c CM C (fK b) t H x D)(ok:okT b t):ColF b c CM C t H x D (fun _=>none) :=
 ⟨h.imp (fun r=>⟨fun z=>z.elim,fun ⟨v,z⟩=>by cases z⟩) (fun n r z=>z.elim) (fun n=>⟨fun z=>z.elim,fun ⟨r,v,z,_⟩=>by cases z⟩) (fun k n=>⟨fun z=>z.elim,fun ⟨r,_,v,z,_⟩=>by cases z⟩),fun r v z=>(by cases z),ok⟩
end
def kB (c:Int):Bool:=decide (mixI c 26%3=0)
def kT (c:Int):Nat:=(if mixI c 26%3=0 then (if mixI c 26/3%4=0 then mixI c 26/12%1000 else if mixI c 26/3%4=1 then mixI c 26/12%6 else if mixI c 26/3%4=2 then 999 else mixI c 26/12%40) else if mixI c 26%12=2 then 1+mixI c 26/12%40 else 1+mixI c 26/12%7).toNat
theorem kT_ok (c:Int):okT (kB c) (kT c):=by
 unfold okT kB kT;have:=Zc1 c 26;generalize mixI c 26=x at this;by_cases h:x%3=0
 · simp only [h,decide_true,if_true]
   split
   · omega
   · split
     · omega
     · split<;>omega
 · simp only [h,decide_false,if_false,Bool.false_eq_true]
   split<;>omega
theorem top_eq (t:Nat):(1:Int)*2^(t:Int).toNat-1=((tpB false t:Nat):Int):=by
 rw [Int.one_mul,Int.toNat_natCast];show _=((2^t-1:Nat):Int)
 have:=Nat.one_le_two_pow (n:=t);rw [Int.ofNat_sub this,Int.natCast_pow];rfl
def spCol (c:Kd→Addr)(CM:Addr)(CK:Bool→Addr):Sp:=fun vs H Q _=>∃ (z:Int),vs=[.int z]∧∀ x D p H',Same H H'→H x=none→ColF (kB z) c CM (CK (kB z)) (kT z) (noT H') x D (fun _=>none)→(∀ a,D.F a→H a=none)→H p=none→H' p=some (.tup [.ref x,.int (tpB (kB z) (kT z):Nat)])→Q (.ref p) H'
def spRefd (c:Kd→Addr)(CM:Addr)(CK:Bool→Addr):Sp:=fun vs H Q _=>∃ (b:Bool) (x:Addr) (r v:Nat) (z:Int) (t:Nat) (D:ColD) (g:Nat→Option Nat),vs=[.ref x,.int r,.int v,.int z,.int (tpB b t:Nat)]∧r≤65535∧ColF b c CM (CK b) t (noT H) x D g∧∀ H',Same H H'→Q (.bl true) H'
section
variable {P:Program}{w:World}{K:PySem.W.Frag}{mg:Str→Option Value}{base:Heap}{c:Kd→Addr}{CM:Addr}{CK:Bool→Addr}{ts:Tabs}
theorem ok_col (h_l_mixed:FnAt P w K mg base "_law_mixed" ["_law_cell","_law_k"] 1 spMixed) (h_ByValue:MakeAt P w K mg base "ByValue" (CK true) ["self","top"] 4 (spVI c CM (CK true) "greatest")) (h_ByBits:MakeAt P w K mg base "ByBits" (CK false) ["self","width"] 4 (spVI c CM (CK false) "width")) (d:DefAt K mg "_law_column" Zch ["_law_cell"]):FnAt P w K mg base "_law_column" ["_law_cell"] 6 (spCol c CM CK):=by
 refine FnAt.of d sc_l_column (fun vs H Q E h=>?_) (fun f cdv A outer s H vs Q E hr h=>?_)
 · obtain ⟨z,rfl,_⟩:=h
   rfl
 obtain ⟨z,rfl,q⟩:=h;refine ⟨_,(Zac (Zal (i:=1) sc_l_column.nd rfl (by walk_at "l") (Zaj h_l_mixed (hr.mono (by decide)) rfl (Zaa (pv 0) (Zaa Zag Zad))))
     (Zac (ZaF (Zas Zbw (Zai Zax (pv 1) Zag) Zag (nomark _)) (Zac (Zal (i:=2) sc_l_column.nd rfl (by walk_at "l") (Zca (Za0 K) (ZaM (Zaa (Zai Zax (Zai Zay (pv 1) Zag) Zag) (Zaa (Zai Zax (Zai Zay (pv 1) Zag) Zag) (Zaa Zag (Zaa (Zai Zax (Zai Zay (pv 1) Zag) Zag) Zad))))) (Zai Zax (Zai Zay (pv 1) Zag) Zag) (fun _ _=>rfl)))
     (Zaf (Zak (ZcB (Zaa (ZcA h_ByValue (hr.mono (by decide)) rfl (Zaa (pv 2) Zad)) (Zaa (pv 2) Zad)))))) Zat)
     (Zac (Zal (i:=3) sc_l_column.nd rfl (by walk_at "l") (Zai ZaD Zag (Zai Zax (Zai Zay (pv 1) Zag) Zag)))
     (Zac (ZaF (Zas Zbw (Zai Zax (pv 1) Zag) Zag (nomark _)) (Zaf (Zal (i:=3) sc_l_column.nd rfl (by walk_at "l") (Zai ZaD Zag (Zai Zax (Zai Zay (pv 1) Zag) Zag)))) Zat)
     (Zaf (Zak (ZcB (Zaa (ZcA h_ByBits (hr.mono (by decide)) rfl (Zaa (pv 3) Zad)) (Zaa (Zai Za2 (Zai Zbg Zag (pv 3)) Zag) Zad))))))))),?_⟩
 have ok:=kT_ok z;have rg:=Zc1 z 26;walk_at "vc";refine ⟨_,_,rfl,_,rfl,?_⟩;by_cases h:mixI z 26%3=0
 · rw [if_pos h]
   have kb:kB z=true:=decide_eq_true h;rw [kb] at q ok;have idx:atI [V.int (mixI z 26/12%1000),V.int (mixI z 26/12%6),V.int 999,V.int (mixI z 26/12%40)] (mixI z 26/3%4)=some (.int (kT z:Nat)):=by
     unfold kT;rw [if_pos h];rcases (show mixI z 26/3%4=0∨mixI z 26/3%4=1∨mixI z 26/3%4=2∨mixI z 26/3%4=3 by omega) with e | e | e | e
     · rw [e,if_pos rfl,Int.toNat_of_nonneg (by omega)]
       rfl
     · rw [e,if_neg (by decide),if_pos rfl,Int.toNat_of_nonneg (by omega)]
       rfl
     · rw [e,if_neg (by decide),if_neg (by decide),if_pos rfl]
       rfl
     · rw [e,if_neg (by decide),if_neg (by decide),if_neg (by decide),Int.toNat_of_nonneg (by omega)]
       rfl
   refine ⟨_,rfl,_,rfl,_,rfl,by decide,fun p np=>⟨_,rfl,_,SqL.of Zab,_,idx,mkC (c:=c) fun x D H1 s1 nx hN hF=>⟨by decide,fun p2 np2=>?_⟩⟩⟩;have s0:Same H H1:=(Same.new np).trans s1;have s2:=Same.new (o:=.tup [.ref x,.int (kT z:Nat)]) np2;exact q x D p2 _ (s0.trans s2) (none_of (Same.new np) nx) ((NoR.toF (b:=true) hN ok).same s2.noT) (fun a ha=>none_of (Same.new np) (hF a ha)) (none_of s0 np2) Zab
 · rw [if_neg h]
   have kb:kB z=false:=decide_eq_false h;rw [kb] at q ok;have fin:∀ x,H x=none→∀ D H1,Same H H1→NoR c CM (CK false) "width" (kT z:Nat) (noT H1) x D→(∀ b,D.F b→H b=none)→∀ p2,H1 p2=none→Q (.ref p2) (upd H1 p2 (.tup [.ref x,.int (1*2^((kT z:Nat):Int).toNat-1)])):=by intro x nx D H1 s1 hN hF p2 np2;rw [top_eq];have s2:=Same.new (o:=.tup [.ref x,.int (tpB false (kT z):Nat)]) np2;exact q x D p2 _ (s1.trans s2) nx ((NoR.toF (b:=false) hN ok).same s2.noT) hF (none_of s1 np2) Zab
   have ok:kT z≤40:=ok;refine ⟨_,rfl,_,rfl,?_⟩;by_cases h2:mixI z 26%12=2
   · rw [if_pos h2]
     refine ⟨_,rfl,?_⟩;have e:1+mixI z 26/12%40=((kT z:Nat):Int):=by unfold kT;rw [if_neg h,if_pos h2];omega
     rw [e];exact mkC (c:=c) fun x D H1 s1 nx hN hF=>⟨⟨by omega,by omega,by decide⟩,by decide,fin x nx D H1 s1 hN hF⟩
   · rw [if_neg h2]
     have e:1+mixI z 26/12%7=((kT z:Nat):Int):=by unfold kT;rw [if_neg h,if_neg h2];omega
     rw [e];exact mkC (c:=c) fun x D H1 s1 nx hN hF=>⟨⟨by omega,by omega,by decide⟩,by decide,fin x nx D H1 s1 hN hF⟩
theorem ok_refd (B:Blt mg)(h_l_mixed:FnAt P w K mg base "_law_mixed" ["_law_cell","_law_k"] 1 spMixed)(h_l_tried:FnAt P w K mg base "_law_tried" ["_law_column_here","_law_way","_law_row_here","_law_value_here"] 10 (spTried c CM CK))(d:DefAt K mg "_law_refused" ZbN ["_law_column_here","_law_row_here","_law_value_here","_law_cell","_law_top"]):FnAt P w K mg base "_law_refused" ["_law_column_here","_law_row_here","_law_value_here","_law_cell","_law_top"] 11 (spRefd c CM CK):=by
 refine FnAt.of d sc_l_refused (fun vs H Q E h=>?_) (fun f cdv A outer s H vs Q E hr h=>?_)
 · obtain ⟨b,x,r,v,z,t,D,g,rfl,_⟩:=h
   rfl
 obtain ⟨b,x,r,v,z,t,D,g,rfl,hr1,hc,q⟩:=h;refine ⟨_,(Zac (Zal (i:=5) sc_l_refused.nd rfl (by walk_at "l") (Zaj h_l_mixed (hr.mono (by decide)) rfl (Zaa (pv 3) (Zaa Zag Zad))))
     (Zac (Zal (i:=6) sc_l_refused.nd rfl (by walk_at "l") (Zai Zcp (Zai Zax (Zai Zay (pv 5) Zag) Zag) (Zca (Za0 K) (ZaM (Zaa Zag (Zaa (Zai op_pow Zag Zag) Zad))) (Zai Zax (Zai Zay (pv 5) Zag) Zag) (fun _ _=>rfl))))
     (Zac (Zal (i:=7) sc_l_refused.nd rfl (by walk_at "l") (Zca (Za0 K) (ZaM (Zaa (Zai Za2 (Zha ZhR Zag) (pv 6)) (Zaa (Zai ZaD Zag (pv 6)) (Zaa Za1 (Zaa ZaU (Zaa ZhL Zad)))))) (Zai Zax (Zai Zay (pv 5) Zag) Zag) (fun _ _=>rfl)))
     (Zac (Zal (i:=8) sc_l_refused.nd rfl (by walk_at "l") (Zca (Za0 K) (ZaM (Zaa (Zai Za2 (Zha ZhR Zag) (pv 6)) (Zaa (Zai ZaD (Zai ZaD (pv 4) Zag) (pv 6)) (Zaa Za1 (Zaa ZaU (Zaa ZhL Zad)))))) (Zai Zax (Zai Zay (pv 5) Zag) Zag) (fun _ _=>rfl)))
     (Zac (Zb4 PassesOwn.never rfl (ZjA rfl B.range (Zaa Zag Zad)) (ZaH (i:=9) sc_l_refused.nd rfl (by walk_at "l")) (Zaf (ZaF (Zas (op_neD K (hu64 hr)) (Zaj h_l_tried (hr.mono (by decide)) rfl (Zaa (pv 0) (Zaa (pv 9) (Zaa (pv 7) (Zaa (Zca (Za0 K) (ZaM (Zaa (pv 2) (Zaa (pv 8) Zad))) (Zai Zax (pv 5) Zag) (fun _ _=>rfl)) Zad))))) (ZcB (Zaa Za1 (Zaa Za1 Zad))) (nomark _)) (Zaf (Zak Za1)) Zat)))
     (Zaf (Zak (Zbz (op_eqD K (hu64 hr)) (Zaj h_l_tried (hr.mono (by decide)) rfl (Zaa (pv 0) (Zaa Zag (Zaa (pv 1) (Zaa (pv 8) Zad))))) (ZcB (Zaa Za1 (Zaa Za1 Zad))) (nomark _))))))))),?_⟩
 have rg:=Zc1 z 28;refine Zap fun k hk=>?_
 walk_at "vc";refine ⟨_,_,rfl,hk _ _ (Zap fun k hk=>?_)⟩;walk_at "vc";generalize mixI z 28=n at rg hk ⊢;have i1:∃ y:Int,0≤y∧atI [V.int 1,V.int 10000000000000000000000000000000000000000] (n/8000%2)=some (.int y):=by
   rcases (show n/8000%2=0∨n/8000%2=1 by omega) with e | e<;>rw [e]
   · exact ⟨_,by decide,rfl⟩
   · exact ⟨_,by decide,rfl⟩
 obtain ⟨y,y0,i1⟩:=i1;refine ⟨by decide,by decide,fun p1 np1=>⟨_,SqL.of Zab,_,i1,y,rfl,.inl ⟨by omega,by omega⟩,hk _ _ (Zap fun k hk=>?_)⟩⟩;have f0:0≤n/8%1000*y:=Int.mul_nonneg (by omega) y0;have s1:=Same.new (o:=.lst [V.int 1,V.int 10000000000000000000000000000000000000000]) np1;generalize n/8%1000*y=far at f0 hk ⊢;generalize upd H p1 (.lst [V.int 1,V.int 10000000000000000000000000000000000000000])=H1 at s1 hk ⊢;walk_at "vc";have i2:∃ u:V,atI [V.int (-1-far),V.int (65536+far),V.bl true,V.non,V.str (Str.ofString "7")] (n/16000%5)=some u∧Scal u∧okN u=false:=by
   rcases (show n/16000%5=0∨n/16000%5=1∨n/16000%5=2∨n/16000%5=3∨n/16000%5=4 by omega) with e | e | e | e | e<;>rw [e]
   · exact ⟨_,rfl,trivial,decide_eq_false (by omega)⟩
   · exact ⟨_,rfl,trivial,decide_eq_false (by omega)⟩
   · exact ⟨_,rfl,trivial,rfl⟩
   · exact ⟨_,rfl,trivial,rfl⟩
   · exact ⟨_,rfl,trivial,rfl⟩
 obtain ⟨u,i2,su,ou⟩:=i2;refine ⟨by decide,fun p2 np2=>⟨_,SqL.of Zab,_,i2,hk _ _ (Zap fun k hk=>?_)⟩⟩;have s2:=s1.trans (Same.new (o:=.lst [V.int (-1-far),V.int (65536+far),V.bl true,V.non,V.str (Str.ofString "7")]) np2);generalize upd H1 p2 (.lst [V.int (-1-far),V.int (65536+far),V.bl true,V.non,V.str (Str.ofString "7")])=H2 at s2 hk ⊢;walk_at "vc";have i3:∃ u:V,atI [V.int (-1-far),V.int ((tpB b t:Nat)+1+far),V.bl false,V.non,V.str (Str.ofString "1")] (n/80000%5)=some u∧Scal u∧okV b t u=false:=by
   rcases (show n/80000%5=0∨n/80000%5=1∨n/80000%5=2∨n/80000%5=3∨n/80000%5=4 by omega) with e | e | e | e | e<;>rw [e]
   · exact ⟨_,rfl,trivial,decide_eq_false (by omega)⟩
   · exact ⟨_,rfl,trivial,decide_eq_false (by omega)⟩
   · exact ⟨_,rfl,trivial,rfl⟩
   · exact ⟨_,rfl,trivial,rfl⟩
   · exact ⟨_,rfl,trivial,rfl⟩
 obtain ⟨v2,i3,sv2,ov2⟩:=i3;refine ⟨by decide,fun p3 np3=>⟨_,SqL.of Zab,_,i3,hk _ _ (Zap fun k hk=>?_)⟩⟩;have s3:=s2.trans (Same.new (o:=.lst [V.int (-1-far),V.int ((tpB b t:Nat)+1+far),V.bl false,V.non,V.str (Str.ofString "1")]) np3);generalize upd H2 p3 (.lst [V.int (-1-far),V.int ((tpB b t:Nat)+1+far),V.bl false,V.non,V.str (Str.ofString "1")])=H3 at s3 hk ⊢;walk_at "vc";refine loopR (fun _ σ H'=>(∃ w,σ=[some (.ref x),some (.int r),some (.int v),some (.int z),some (.int (tpB b t:Nat)),some (.int n),some (.int far),some u,some v2,w])∧Same H H') ⟨⟨_,rfl⟩,s3⟩ ?_ ?_
 · rintro i σ H4 hi ⟨⟨w,rfl⟩,sm⟩
   walk_at "vc";have i4:∃ u:V,atI [V.int (v:Nat),v2] (n%2)=some u∧Scal u:=by
     rcases (show n%2=0∨n%2=1 by omega) with e | e<;>rw [e]
     · exact ⟨_,rfl,trivial⟩
     · exact ⟨_,rfl,sv2⟩
   obtain ⟨v3,i4,sv3⟩:=i4;refine ⟨by decide,fun p4 np4=>⟨_,SqL.of Zab,_,i4,b,x,i,u,v3,t,D,g,rfl,by omega,hc.same (sm.trans (Same.new np4)).noT,su,sv3,.inl ou,fun p5 H5 s5 np5 h5=>⟨by decide,fun p6 np6=>?_⟩⟩⟩;rw [ou] at h5;refine rNeD_t2 true false (SqT.of ((Same.new np6) _ _ h5)) (SqT.of Zab) ⟨_,rfl,?_⟩;rw [if_neg (by decide)];exact ((sm.trans (Same.new np4)).trans s5).trans (Same.new np6)
 · rintro σ H4 ⟨⟨w,rfl⟩,sm⟩
   refine hk _ _ ?_;walk_at "vc";refine ⟨b,x,0,.int r,v2,t,D,g,rfl,by omega,hc.same sm.noT,trivial,sv2,.inr ⟨rfl,ov2⟩,fun p5 H5 s5 np5 h5=>⟨by decide,fun p6 np6=>?_⟩⟩;rw [show okN (.int (r:Nat))=true from decide_eq_true ⟨by omega,by omega⟩] at h5;exact rEqD_t2 false true (SqT.of ((Same.new np6) _ _ h5)) (SqT.of Zab) (q _ ((sm.trans s5).trans (Same.new np6)))
end
structure Pl (kvs:List (Key × V))(ms:List Nat)(g:Nat→Option Nat):Prop where
 dn:Dn kvs ms
 val:∀ r:Nat,valV kvs (Sum.inl (r:Int))=(g r).map fun v=>V.int (v:Nat)
 len:ms.length≤100
theorem Pl.ofO {kvs:List (Key × V)}{ms:List Nat}{g:Nat→Option Nat}(h:Pl kvs ms g)(r:Nat):(valV kvs (Sum.inl (r:Int))).getD .non=My.ofO (g r):=by rw [h.val];cases g r<;>rfl
theorem Pl.some {kvs:List (Key × V)}{ms:List Nat}{g:Nat→Option Nat}(h:Pl kvs ms g)(r:Nat):(valV kvs (Sum.inl (r:Int))).isSome=(g r).isSome:=by rw [h.val];cases g r<;>rfl
structure Pd (b:Bool)(c:Kd→Addr)(CM:Addr)(CK:Bool→Addr)(t:Nat)(H:Hp)(x d:Addr)(D:ColD)(g:Nat→Option Nat)(kvs:List (Key × V))(ms:List Nat):Prop where
 col:ColF b c CM (CK b) t (noT H) x D g
 hd:noT H d=some (.dK kvs)
 nF:¬ D.F d
 pl:Pl kvs ms g
theorem tpB_40 {b:Bool}{t:Nat}(ok:okT b t):tpB b t<2^40:=by
 unfold okT at ok;unfold tpB;cases b with
 | true =>
   simp only [if_true] at ok ⊢;have:(999:Nat)<2^40:=by decide
   omega
 | false =>
   simp only [Bool.false_eq_true,if_false] at ok ⊢;have:=ZhJ ok;have:=Nat.one_le_two_pow (n:=t);omega
theorem Pd.nx {b:Bool}{c:Kd→Addr}{CM:Addr}{CK:Bool→Addr}{t:Nat}{H H':Hp}{x d:Addr}{D:ColD}{g:Nat→Option Nat}{kvs:List (Key × V)}{ms:List Nat}{ts:Tabs}(h:Pd b c CM CK t H x d D g kvs ms)(n:Nx ts H H'):Pd b c CM CK t H' x d D g kvs ms:=⟨h.col.same n.same,n.at h.hd,h.nF,h.pl⟩
def orD (D:ColD)(d:Addr):Addr→Prop:=fun a=>D.F a∨a=d
section
variable {b:Bool}{c:Kd→Addr}{CM:Addr}{CK:Bool→Addr}{t:Nat}{H H':Hp}{x d:Addr}{D D':ColD}{g:Nat→Option Nat}{kvs:List (Key × V)}{ms:List Nat}{ts:Tabs}
theorem Pd.step (h:Pd b c CM CK t H x d D g kvs ms)(f:Cf ts D.F H D'.F H'):noT H' d=some (.dK kvs)∧¬ D'.F d :=
 ⟨f.same _ _ h.nF h.hd,fun z=>(f.foot d z).elim h.nF fun w=>by rw [h.hd] at w;cases w⟩
theorem Cf.orD (f:Cf ts D.F H D'.F H'):Cf ts (My.orD D d) H (My.orD D' d) H' :=
 ⟨fun b o n e=>f.same b o (fun z=>n (.inl z)) e,f.tb,fun b z=>z.elim (fun w=>(f.foot b w).elim (fun v=>.inl (.inl v)) .inr) fun w=>.inl (.inr w)⟩
theorem Cf.putD {kvs':List (Key × V)}(ht:Tbs ts H)(e:H d=some (.dK kvs)):Cf ts (My.orD D d) H (My.orD D d) (upd H d (.dK kvs')):=Cf.put ht (.inr rfl) e trivial fun _ z=>.inl z
theorem ColF.putD {C:Addr}{kvs':List (Key × V)}(h:ColF b c CM C t (noT H) x D g)(hd:noT H d=some (.dK kvs))(nF:¬ D.F d):ColF b c CM C t (noT (upd H d (.dK kvs'))) x D g :=
 h.off (F:=fun a=>a=d) (fun a e=>by rw [e];exact .inr ⟨_,hd⟩) (fun a ha e=>nF (e ▸ ha)) fun a o n e=>by rw [Zcr (nd _) (.inr ⟨_,hd⟩),Zah n];exact e
end
def spDeed51 (K:PySem.W.Frag)(c:Kd→Addr)(CM:Addr)(CK:Bool→Addr)(ts:Tabs):Sp:=fun vs H Q _=>∃ (b:Bool) (x d a:Addr) (ns:List Int) (z:Int) (t:Nat) (D:ColD) (g:Nat→Option Nat) (kvs:List (Key × V)) (ms:List Nat),vs=[.ref x,.ref d,.ref a,.int z,.int (tpB b t:Nat)]∧Pd b c CM CK t H x d D g kvs ms∧ms.length<100∧SqL K (noT H) a (ns.map V.int)∧Tbs ts H ∧
 ∀ D' g' kvs' ms' H',Cf ts (orD D d) H (orD D' d) H'→Pd b c CM CK t H' x d D' g' kvs' ms'→ms'.length≤ms.length+1→Q (.bl true) H'
structure ClP (P:Program)(w:World)(K:PySem.W.Frag)(mg:Str→Option Value)(base:Heap)(b:Bool)(c:Kd→Addr)(CM C:Addr)(ts:Tabs):Prop where
 value:MethAt P w K mg base C "value" ["self","row"] 7 (spVal b c CM C ts)
 take:MethAt P w K mg base C "take" ["self","row"] 8 (spTakeC b c CM C ts)
 put:MethAt P w K mg base C "put" ["self","row","value"] 9 (spPutC b c CM C ts)
 rows:MethAt P w K mg base C "rows" ["self"] 4 (spRows c CM C ts)
 top:MethAt P w K mg base C "top" ["self"] 1 (spTop b c CM C)
section
variable {P:Program}{w:World}{K:PySem.W.Frag}{mg:Str→Option Value}{base:Heap}{c:Kd→Addr}{CM:Addr}{CK:Bool→Addr}{ts:Tabs}
theorem Zi1 (B:Blt mg) (cp:∀ b,ClP P w K mg base b c CM (CK b) ts) (h_l_mixed:FnAt P w K mg base "_law_mixed" ["_law_cell","_law_k"] 1 spMixed) (h_l_row:FnAt P w K mg base "_law_row" ["_law_script","_law_cell"] 2 (spRow51 K)) (h_l_value:FnAt P w K mg base "_law_value" ["_law_cell","_law_top"] 2 spVal51) (h_l_refused:FnAt P w K mg base "_law_refused" ["_law_column_here","_law_row_here","_law_value_here","_law_cell","_law_top"] 11 (spRefd c CM CK)) (h_l_same:FnAt P w K mg base "_law_same" ["_law_found","_law_due"] 2 spSame51) (d:DefAt K mg "_law_deed" Zdq ["_law_column_here","_law_plain","_law_script","_law_cell","_law_top"]):FnAt P w K mg base "_law_deed" ["_law_column_here","_law_plain","_law_script","_law_cell","_law_top"] 12 (spDeed51 K c CM CK ts):=by
 refine FnAt.of d sc_l_deed (fun vs H Q E h=>?_) (fun f cdv A outer s H vs Q E hr h=>?_)
 · obtain ⟨b,x,d,a,ns,z,t,D,g,kvs,ms,rfl,_⟩:=h
   rfl
 obtain ⟨b,x,d,a,ns,z,t,D,g,kvs,ms,rfl,pd,lm,hS,ht,q⟩:=h;obtain ⟨dx,hx⟩:=pd.col.at_.hx;refine ⟨_,(Zac (Zal (i:=5) sc_l_deed.nd rfl (by walk_at "l") (Zaj h_l_row (hr.mono (by decide)) rfl (Zaa (pv 2) (Zaa (pv 3) Zad))))
     (Zac (Zal (i:=6) sc_l_deed.nd rfl (by walk_at "l") (Zaj h_l_value (hr.mono (by decide)) rfl (Zaa (pv 3) (Zaa (pv 4) Zad))))
     (Zac (Zal (i:=7) sc_l_deed.nd rfl (by walk_at "l") (Zai Zax (Zaj h_l_mixed (hr.mono (by decide)) rfl (Zaa (pv 3) (Zaa Zag Zad))) Zag))
     (Zac (ZaF (Zas ZfD (pv 7) Zag (nomark _)) (Zac (Zal (i:=8) sc_l_deed.nd rfl (by walk_at "l") (Zau (P:=P) (w:=w) (K:=K) (mg:=mg) (base:=base) 8 (hr.mono (by decide)) (pv 0) (Zaa (pv 5) Zad)))
     (Zac (ZaF (PW.pt (Zgx (ZaY (ZaJ (ZaA (ZaP K) rfl B.isi ZaO (Zaa (pv 8) (Zaa (Zcn (v:=.ty "bool") rfl B.bool boot_bool rfl) Zad))))) (Ze0 (Zas op_ne (pv 8) (pe_cmp (pc_din (hu1 hr) (pv 5) (pv 1)) (by with_unfolding_all rfl)) (nomark _))))) (Zaf (Zak Za1)) Zat)
     (Zaf (ZaE (pe_dpop2 (pv 1) (pv 5) ZaU ⟨rfl,rfl,rfl,rfl⟩))))) (Zaf (ZaF (Zas Zbw (pv 7) Zag (nomark _)) (Zaf (ZaF (ZaY (ZaJ (Zaj h_l_refused (hr.mono (by decide)) rfl (Zaa (pv 0) (Zaa (pv 5) (Zaa (pv 6) (Zaa (pv 3) (Zaa (pv 4) Zad)))))))) (Zaf (Zak Za1)) Zat)) (Zac (ZaF (Zas ZiL (Zau (P:=P) (w:=w) (K:=K) (mg:=mg) (base:=base) 9 (hr.mono (by decide)) (pv 0) (Zaa (pv 5) (Zaa (pv 6) Zad))) ZaU (nomark _)) (Zaf (Zak Za1)) Zat)
     (Zaf (ZiG (hu1 hr) (pv 1) (pv 5) (pv 6) rfl))))))
     (Zaf (Zak (Zaj h_l_same (hr.mono (by decide)) rfl (Zaa (Zau (P:=P) (w:=w) (K:=K) (mg:=mg) (base:=base) 7 (hr.mono (by decide)) (pv 0) (Zaa (pv 5) Zad)) (Zaa (Zg6 (hu1 hr) (pv 1) (pv 5) ⟨rfl,rfl,rfl,rfl⟩) Zad))))))))),?_⟩
 refine Zap fun k hk=>?_
 walk_at "vc";refine ⟨a,ns,z,rfl,hS.noT,fun r hr1=>hk _ _ (Zap fun k hk=>?_)⟩;walk_at "vc";refine ⟨z,_,rfl,by omega,?_,fun v v0 v1=>hk _ _ (Zap fun k hk=>?_)⟩
 · have:=tpB_40 pd.col.ok
   omega
 obtain ⟨v,rfl⟩:=Int.eq_ofNat_of_zero_le v0;walk_at "vc";refine ⟨_,_,rfl,_,rfl,hk _ _ (Zap fun k hk=>?_)⟩;have fin:∀ D' g' kvs' ms' H' (w:Option V),Cf ts (orD D d) H (orD D' d) H'→Pd b c CM CK t H' x d D' g' kvs' ms'→ms'.length≤ms.length+1→k [some (.ref x),some (.ref d),some (.ref a),some (.int z),some (.int (tpB b t:Nat)),some (.int r),some (.int v),some (.int (mixI z 25%8)),w] H':=by
   intro D' g' kvs' ms' H' w cf pd' lm';refine hk _ _ ?_;obtain ⟨dx',hx'⟩:=pd'.col.at_.hx;walk_at "vc";refine ⟨_,_,_,(Zae hx').1,ZaI rfl (by decide) (by decide),_,_,(cp b).value,x,r,t,D',g',rfl,hr1,pd'.col,cf.tb,fun H2 nx=>?_⟩;have pd2:=pd'.nx nx;refine ⟨.inl ⟨_,.inl (Zae pd2.hd).1⟩,_,DGet.k (k:=Sum.inl (r:Int)) (Zae pd2.hd).1,?_⟩;rw [pd2.pl.ofO];refine ⟨_,rfl,?_,q D' g' kvs' ms' H2 (cf.trans (Cf.nx nx)) pd2 lm'⟩;cases g' r with
   | none=>exact .inr rfl
   | some v=>exact .inl ⟨_,rfl⟩
 walk_at "vc";by_cases h1:mixI z 25%8<2
 · rw [if_pos h1]
   refine ⟨_,_,_,(Zae hx).1,ZaI rfl (by decide) (by decide),_,_,(cp b).take,x,r,t,D,g,rfl,hr1,pd.col,ht,fun D1 H1 f1 c1=>?_⟩;obtain ⟨hd1,nF1⟩:=pd.step f1;walk_at "vc";refine ⟨_,DGet.k (k:=Sum.inl (r:Int)) (Zae hd1).1,?_⟩;rw [if_pos (pd.pl.some r).symm];refine ⟨.inl ⟨_,.inl (Zae hd1).1⟩,_,(Zae hd1).1,Sum.inl (r:Int),rfl,fun u hu=>?_,fun hu=>?_⟩
   · refine fin D1 (gOff g r) (dropK kvs (Sum.inl (r:Int))) (ms.filter fun m=>decide (m≠r)) _ _ (f1.orD.trans (Cf.putD f1.tb (Zae hd1).1)) ⟨c1.putD hd1 nF1,Zam Zab (nd _),nF1,?_⟩ ?_
     · refine ⟨pd.pl.dn.drop r,fun y=>?_,Nat.le_trans (List.length_filter_le _ _) pd.pl.len⟩
       unfold gOff;by_cases e:y=r
       · rw [if_pos e,e]
         have:=(pd.pl.dn.drop r).some r;rw [decide_eq_false (fun w=>by rw [List.mem_filter,decide_eq_true_eq] at w;exact w.2 rfl)] at this;exact Option.not_isSome_iff_eq_none.mp (by rw [this];decide)
       · rw [if_neg e,Zez _ fun w=>e (inl_nat.mp w)]
         exact pd.pl.val y
     · exact Nat.le_trans (List.length_filter_le _ _) (Nat.le_succ _)
   · refine fin D1 (gOff g r) kvs ms _ _ f1.orD ⟨c1,hd1,nF1,pd.pl.dn,fun y=>?_,pd.pl.len⟩ (Nat.le_succ _)
     unfold gOff;split
     · rename_i e
       rw [e,hu];rfl
     · exact pd.pl.val y
 · rw [if_neg h1]
   by_cases h2:mixI z 25%8=2
   · rw [if_pos h2]
     refine ⟨b,x,r,v,z,t,D,g,rfl,hr1,pd.col,fun H1 s1=>⟨_,rfl,?_⟩⟩;rw [if_neg (by decide)];exact fin D g kvs ms H1 _ (Cf.nx (ht.nx s1)) (pd.nx (ht.nx s1)) (Nat.le_succ _)
   · rw [if_neg h2]
     refine ⟨_,_,_,(Zae hx).1,ZaI rfl (by decide) (by decide),_,_,(cp b).put,x,r,v,t,D,g,rfl,hr1,by omega,pd.col,ht,fun D1 H1 f1 c1=>?_⟩;obtain ⟨hd1,nF1⟩:=pd.step f1;show if V.non=V.non then _ else _
     rw [if_pos rfl];refine ⟨_,DPut.k (k:=Sum.inl (r:Int)) (Zae hd1).1 (small1000 (by rw [pd.pl.dn.len];have:=pd.pl.len;omega)),?_⟩;obtain ⟨ms',d1,d2,d3⟩:=pd.pl.dn.put r (.int (v:Nat));refine fin D1 (gOn g r v) _ ms' _ _ (f1.orD.trans (Cf.putD f1.tb (Zae hd1).1)) ⟨c1.putD hd1 nF1,Zam Zab (nd _),nF1,d1,fun y=>?_,by omega⟩ d3;unfold gOn;rw [ZeA];by_cases e:y=r
     · rw [if_pos e,if_pos (by rw [e])]
       rfl
     · rw [if_neg e,if_neg fun w=>e (inl_nat.mp w)]
       exact pd.pl.val y
end
theorem loopD {a:Addr}{o:Obj}{kvs:List (Key × V)}{g:TG}{tb:TS}{D:Ends}{σ:L2.St}{H:Hp}(Pv:Nat→L2.St→Hp→Prop)(h0:Pv 0 σ H)(hf:∀ i σ H,Pv i σ H→H a=some (.frz o (.dK kvs)))(hs:∀ i kv σ H,kvs[i]?=some kv→Pv i σ H→g (kV kv.1) σ H fun σ2 H2=>tb { D with nx:=Pv (i+1),ct:=Pv (i+1),bk:=D.nx } σ2 H2)(hd:∀ σ H,Pv kvs.length σ H→D.nx σ H):LoopJ (Itd a o kvs) g tb D σ H:=by
 refine ⟨fun i m σ H=>i≤kvs.length∧m=kvs.length-i∧Pv i σ H,⟨_,Nat.zero_le _,rfl,h0⟩,fun i m σ H h=>?_⟩;obtain ⟨il,rfl,p⟩:=h;by_cases c:i<kvs.length
 · refine .inr ⟨⟨hf i σ H p,c⟩,Pv (i+1),fun σ' H' p'=>⟨kvs.length-(i+1),by omega,c,rfl,p'⟩,?_⟩
   rintro x H' ⟨rfl,kv,e,rfl⟩;exact hs i kv σ _ e p
 · have e:i=kvs.length:=by omega
   subst e;exact .inl ⟨⟨hf _ σ H p,Nat.le_refl _⟩,hd σ H p⟩
theorem tbs_thaw {ts:Tabs}{H:Hp}{d:Addr}{o:Obj}{kvs:List (Key × V)}(h:Tbs ts H)(e:H d=some (.frz o (.dK kvs))):Tbs ts (upd H d (.dK kvs)):=fun t ht=>by
 rcases h t ht with h | ⟨c,oc,h1,h2,h3⟩
 · refine .inl ?_
   rw [Zah (fun z=>by rw [z,e] at h;cases h)];exact h
 · refine .inr ⟨c,oc,?_,?_,h3⟩
   · rw [Zah (fun z=>by rw [z,e] at h1;cases h1)]
     exact h1
   · rw [Zah (fun z=>by rw [z,e] at h2;cases h2)]
     exact h2
def spEnd51 (K:PySem.W.Frag)(c:Kd→Addr)(CM:Addr)(CK:Bool→Addr)(ts:Tabs):Sp:=fun vs H Q _=>∃ (b:Bool) (x d a:Addr) (ns:List Int) (t:Nat) (D:ColD) (g:Nat→Option Nat) (kvs:List (Key × V)) (ms:List Nat),vs=[.ref x,.ref d,.ref a]∧Pd b c CM CK t H x d D g kvs ms∧SqL K (noT H) a (ns.map V.int)∧Tbs ts H∧∀ H',Nx ts H H'→Q (.bl true) H'
section
variable {P:Program}{w:World}{K:PySem.W.Frag}{mg:Str→Option Value}{base:Heap}{c:Kd→Addr}{CM:Addr}{CK:Bool→Addr}{ts:Tabs}
theorem ok_end51 (B:Blt mg) (cp:∀ b,ClP P w K mg base b c CM (CK b) ts) (h_numbers:MethAt P w K mg base CM "numbers" ["self"] 5 (spNumbers c CM)) (h_l_mixed:FnAt P w K mg base "_law_mixed" ["_law_cell","_law_k"] 1 spMixed) (h_l_same:FnAt P w K mg base "_law_same" ["_law_found","_law_due"] 2 spSame51) (d:DefAt K mg "_law_end" Zei ["_law_column_here","_law_plain","_law_script"]):FnAt P w K mg base "_law_end" ["_law_column_here","_law_plain","_law_script"] 9 (spEnd51 K c CM CK ts):=by
 refine FnAt.of d sc_l_end (fun vs H Q E h=>?_) (fun f cdv A outer s H vs Q E hr h=>?_)
 · obtain ⟨b,x,d,a,ns,t,D,g,kvs,ms,rfl,_⟩:=h
   rfl
 obtain ⟨b,x,d,a,ns,t,D,g,kvs,ms,rfl,pd,hS,ht,q⟩:=h;refine ⟨_,(Zac (ps_thaw (Zb4 PassesOwn.never rfl (pi_dict (pv 1)) (ZaH (i:=3) sc_l_end.nd rfl (by walk_at "l")) (Zaf (ZaF (ZaY (ZaJ (Zaj h_l_same (hr.mono (by decide)) rfl (Zaa (Zau (P:=P) (w:=w) (K:=K) (mg:=mg) (base:=base) 7 (hr.mono (by decide)) (pv 0) (Zaa (pv 3) Zad)) (Zaa (Zdl (hu1 hr) (pv 1) (pv 3) (fun _ _=>rfl)) Zad))))) (Zaf (Zak Za1)) Zat))))
     (Zac (Zb4 PassesOwn.never rfl (Za5 K (Zbt (Zbu K) (pv 2) Zcl (ZbA Zag))) (ZaH (i:=4) sc_l_end.nd rfl (by walk_at "l")) (Zac (Zal (i:=3) sc_l_end.nd rfl (by walk_at "l") (Zai Zax (Zaj h_l_mixed (hr.mono (by decide)) rfl (Zaa (pv 4) (Zaa Zag Zad))) Zag))
     (Zaf (ZaF (ZaY (ZaJ (Zaj h_l_same (hr.mono (by decide)) rfl (Zaa (Zau (P:=P) (w:=w) (K:=K) (mg:=mg) (base:=base) 7 (hr.mono (by decide)) (pv 0) (Zaa (pv 3) Zad)) (Zaa (Zg6 (hu1 hr) (pv 1) (pv 3) ⟨rfl,rfl,rfl,rfl⟩) Zad))))) (Zaf (Zak Za1)) Zat))))
     (Zaf (Zak (Zbz (op_eqD K (hu64 hr)) (ZaR (P:=P) (w:=w) (K:=K) (mg:=mg) (base:=base) 5 (hr.mono (by decide)) (ZaR (P:=P) (w:=w) (K:=K) (mg:=mg) (base:=base) 4 (hr.mono (by decide)) (pv 0))) (ZaA Zdu rfl B.sorted L2.boot_sorted (Zaa (pv 1) Zad)) (nomark _)))))),?_⟩
 refine Zap fun k hk=>?_
 walk_at "vc";refine ⟨d,kvs,(Zae pd.hd).1,kvs,(Zae pd.hd).1,fun o=>?_⟩;have same:∀ v:V,((∃ n:Int,v=.int n)∨v=.non)→True:=fun _ _=>trivial
 have offD:∀ H',(∀ b ob,b≠d→noT H b=some ob→noT H' b=some ob)→ColF b c CM (CK b) t (noT H') x D g:=fun H' fr =>
   pd.col.off (F:=fun a=>a=d) (fun a e=>by rw [e];exact .inr ⟨_,pd.hd⟩) (fun a ha e=>pd.nF (e ▸ ha)) fun a ob n e=>fr a ob n e
 refine loopD (fun i σ H'=>(∃ v3 v4,σ=[some (.ref x),some (.ref d),some (.ref a),v3,v4])∧H' d=some (.frz o (.dK kvs))∧Tbs ts H'∧∀ b ob,b≠d→noT H b=some ob→noT H' b=some ob) ⟨⟨_,_,rfl⟩,Zab,ht.put (Zae pd.hd).1 trivial,fun b ob n e=>by
   have:=Zae e;exact Zam (by rw [Zah n];exact this.1) this.2⟩ (fun i σ H' h=>h.2.1) ?_ ?_
 · rintro i kv σ H1 hkv ⟨⟨v3,v4,rfl⟩,hd1,tb1,fr1⟩
   obtain ⟨m,hm,em⟩:∃ m∈ms,(Sum.inl (m:Int):Key)=kv.1:=by have:kv.1∈kvs.map (·.1):=List.mem_map.mpr ⟨kv,List.mem_of_getElem? hkv,rfl⟩;rw [pd.pl.dn.keys] at this;exact List.mem_map.mp this
   rw [← em];obtain ⟨v,gv⟩:∃ v,g m=some v:=by have:=pd.pl.some m;rw [pd.pl.dn.some,decide_eq_true hm] at this;exact Option.isSome_iff_exists.mp this.symm
   have vv:=pd.pl.val m;rw [gv] at vv;have c1:=offD H1 fr1;obtain ⟨dx1,hx1⟩:=c1.at_.hx;show gName 3 (.int (m:Int)) _ _ _;walk_at "vc";refine ⟨_,_,_,(Zae hx1).1,ZaI rfl (by decide) (by decide),_,_,(cp b).value,x,m,t,D,g,rfl,(c1.bd m v gv).1,c1,tb1,fun H2 nx=>?_⟩;have hd2:=(Zae (nx.at (Zam hd1 fun _ z=>by cases z))).1;rw [gv];refine ⟨_,.inl ⟨kvs,Sum.inl (m:Int),.inr ⟨o,hd2⟩,rfl,vv.symm⟩,_,rfl,.inl ⟨_,rfl⟩,_,rfl,?_⟩;rw [if_neg (by decide)];exact ⟨hd2,nx.tb,fun b ob n e=>nx.at (fr1 b ob n e)⟩
 · rintro σ H1 ⟨⟨v3,v4,rfl⟩,hd1,tb1,fr1⟩
   refine ⟨o,hd1,hk _ _ (Zap fun k hk=>?_)⟩;have nx1:Nx ts H (upd H1 d (.dK kvs)):=⟨fun b ob e=>by
     by_cases z:b=d
     · rw [z] at e ⊢
       rw [pd.hd] at e;cases e;exact Zam Zab (nd _)
     · have:=Zae (fr1 b ob z e)
       exact Zam (by rw [Zah z];exact this.1) this.2,tbs_thaw tb1 hd1⟩
   generalize upd H1 d (.dK kvs)=H2 at nx1 ⊢;have pd2:=pd.nx nx1;walk_at "vc";have hS2:SqL K (noT H2) a (ns.map V.int):=nx1.same.seq hS;refine ⟨_,hS2.noT,fun p np=>⟨⟨_,SqL.of Zab⟩,?_⟩⟩;have ct:cutV (ns.map V.int) none (some 3)=(ns.take 3).map V.int:=by have:=ZgA (ns.map V.int) 3;rw [← List.map_take] at this;exact this
   rw [ct];have nx3:=nx1.trans (Nx.new (o':=.lst ((ns.take 3).map V.int)) nx1.tb np);have hp3:upd H2 p (.lst ((ns.take 3).map V.int)) p=some (.lst ((ns.take 3).map V.int)):=Zab;generalize upd H2 p (.lst ((ns.take 3).map V.int))=H3 at nx3 hp3 ⊢;refine loopL (xs:=(ns.take 3).map V.int) (fun i σ H'=>(∃ v3 v4,σ=[some (.ref x),some (.ref d),some (.ref a),v3,v4])∧Nx ts H H'∧noT H' p=some (.lst ((ns.take 3).map V.int))) ⟨⟨_,_,rfl⟩,nx3,Zam hp3 (nl _)⟩ ?_ ?_ ?_
   · rintro i σ H4 _ ⟨_,_,h⟩
     exact SqL.of (Zae h).1
   · rintro i y σ H4 hy ⟨⟨v3,v4,rfl⟩,nx4,hp4⟩
     obtain ⟨z,rfl⟩:∃ z:Int,y=.int z:=by obtain ⟨z,_,e⟩:=List.mem_map.mp (List.mem_of_getElem? hy);exact ⟨z,e.symm⟩
     have pd4:=pd.nx nx4;obtain ⟨dx4,hx4⟩:=pd4.col.at_.hx;have rg:=Zc1 z 29;walk_at "vc";refine ⟨_,_,rfl,_,rfl,?_⟩;have er:mixI z 29%65536=(((mixI z 29%65536).toNat:Nat):Int):=by omega
     rw [er];generalize er2:(mixI z 29%65536).toNat=r;have hr1:r≤65535:=by omega
     refine ⟨_,_,_,(Zae hx4).1,ZaI rfl (by decide) (by decide),_,_,(cp b).value,x,r,t,D,g,rfl,hr1,pd4.col,nx4.tb,fun H5 nx5=>?_⟩;have pd5:=pd4.nx nx5;refine ⟨.inl ⟨_,.inl (Zae pd5.hd).1⟩,_,DGet.k (k:=Sum.inl (r:Int)) (Zae pd5.hd).1,?_⟩;rw [pd5.pl.ofO];refine ⟨_,rfl,?_,_,rfl,?_⟩
     · cases g r with
       | none=>exact .inr rfl
       | some v=>exact .inl ⟨_,rfl⟩
     · rw [if_neg (by decide)]
       exact ⟨nx4.trans nx5,nx5.at hp4⟩
   · rintro σ H4 ⟨⟨v3,v4,rfl⟩,nx4,hp4⟩
     refine hk _ _ ?_;have pd4:=pd.nx nx4;obtain ⟨dx4,hx4⟩:=pd4.col.at_.hx;walk_at "vc";refine ⟨_,_,_,(Zae hx4).1,ZaI rfl (by decide) (by decide),_,_,(cp b).rows,x,_,_,D,_,_,_,_,rfl,pd4.col.at_,nx4.tb,fun m H5 nx5 nm hm=>?_⟩;obtain ⟨dm,kd,ah,sr,ho,_⟩:=hm.ex;have mem:∀ y,y∈flat D.ev↔y∈ms:=fun y=>by
       rw [pd.col.at_.m1];have:=pd.pl.some y;rw [pd.pl.dn.some] at this;rw [← decide_eq_true_iff (p:=y∈ms),this];exact Option.isSome_iff_exists.symm
     have ok:=pd.col.at_.okv;have tl:tot D.ev≤900:=by
       rw [← Zb6];have:=(ZeJ ok.flat_up).length_le_of_subset fun y hy=>(mem y).mp hy
       have:=pd.pl.len;omega
     refine ⟨m,rfl,_,_,_,(Zae ho).1,rfl,_,_,h_numbers,m,D.ev,rfl,hm,ok,tl,fun l H6 s6 nl hl=>?_⟩;have nx6:=(nx4.trans nx5).trans (nx5.tb.nx s6);have pd6:=pd.nx nx6;refine ⟨_,(Zae pd6.hd).1,ms.map fun (n:Nat)=>(n:Int),by rw [pd.pl.dn.keys,List.map_map];rfl,fun l2 zs nl2 pm so=>?_⟩;obtain ⟨os,e,up,mem2,_⟩:=ZfA pd.pl.dn pm so;rw [e];have eo:flat D.ev=os:=Up.ext ok.flat_up up fun y=>by rw [mem,mem2]
     rw [← eo];have s7:=Same.new (o:=.lst (pint (flat D.ev))) nl2;refine Zjd (SqL.of (s7 _ _ hl)) (SqL.of Zab) ?_;rw [decide_eq_true rfl];exact q _ (nx6.trans (nx6.tb.nx s7))
end
def spLaw51 (K:PySem.W.Frag)(ts:Tabs):Sp:=fun vs H Q _=>∃ (a:Addr) (ns:List Int),vs=[.ref a]∧SqL K (noT H) a (ns.map V.int)∧ns.length≤63∧Tbs ts H∧∀ H',Q (.bl true) H'
structure ClI (K:PySem.W.Frag)(mg:Str→Option Value)(C:Addr)(b:Bool):Prop where
 c:Cls K C
 t:TyIns K C
 i1:IsiTo K mg C "Column" true
 i2:IsiTo K mg C "ByValue" b
 i3:IsiTo K mg C "ByBits" (!b)
theorem cut_map (ns:List Int)(lo hi:Option Int):∃ ms:List Int,cutV (ns.map V.int) lo hi=ms.map V.int:=by unfold cutV;rw [List.length_map];exact ⟨(ns.drop (HT.sIx ns.length 0 lo)).take (HT.sIx ns.length ns.length hi-HT.sIx ns.length 0 lo),by rw [List.map_take,List.map_drop]⟩
theorem cut30 (ns:List Int):∃ zs:List Int,cutV (ns.map V.int) (some 2) (some 32)=zs.map V.int∧zs.length≤30:=by obtain ⟨zs,e⟩:=cut_map ns (some 2) (some 32);refine ⟨zs,e,?_⟩;have h:=congrArg List.length e;rw [List.length_map] at h;rw [← h];unfold cutV;rw [show (2:Int)=((2:Nat):Int) from rfl,show (32:Int)=((32:Nat):Int) from rfl,HT.sIx_nat,HT.sIx_nat,List.length_take,List.length_drop];omega
structure LwI (b:Bool)(c:Kd→Addr)(CM:Addr)(CK:Bool→Addr)(t:Nat)(ts:Tabs)(K:PySem.W.Frag)(a x x2 d p:Addr)(z:Int)(D3:ColD)(g2:Nat→Option Nat)(ns:List Int)(us:List V)(i:Nat)(σ:L2.St)(H:Hp):Prop where
 st:∃ z',σ=[some (.ref a),some (.int z'),some (.ref x),some (.int (tpB b t:Nat)),some (.ref x2),some (.ref d)]
 tb:Tbs ts H
 ex:∃ D g kvs ms,Pd b c CM CK t H x d D g kvs ms∧ms.length≤i∧ColF b c CM (CK b) t (noT H) x2 D3 g2∧(∀ e,D3.F e→¬ orD D d e)∧noT H p=some (.lst us)∧SqL K (noT H) a (ns.map V.int)
theorem LwI.list {b:Bool}{c:Kd→Addr}{CM:Addr}{CK:Bool→Addr}{t:Nat}{ts:Tabs}{K:PySem.W.Frag}{a x x2 d p:Addr}{z:Int}{D3:ColD}{g2:Nat→Option Nat}{ns:List Int}{us:List V}{i:Nat}{σ:L2.St}{H:Hp}(h:LwI b c CM CK t ts K a x x2 d p z D3 g2 ns us i σ H):noT H p=some (.lst us):=by obtain ⟨_,_,_,_,_,_,_,_,h,_⟩:=h.ex;exact h
theorem Ziv {K:PySem.W.Frag}{ts:Tabs}{H H2 H3:Hp}{F F':Addr→Prop}{a:Addr}{xs:List V}(n:Nx ts H H2)(lo:∀ b,F b→Loose (noT H2) b)(f:Cf ts F H2 F' H3)(h:SqL K (noT H) a xs):SqL K (noT H3) a xs:=by
 have go:∀ {b o},noT H b=some o→¬ Four o→(∀ kvs,o≠.dK kvs)→noT H3 b=some o:=fun {b o} e n1 n2=>f.same b o (fun z=>(lo b z).no (n.at e) n1 n2) (n.at e)
 rcases h with h | h
 · rcases h with h | ⟨o,h⟩
   · exact .inl (.inl (go h Za6 (fun _ z=>by cases z)))
   · exact .inl (.inr ⟨o,go h (fun ⟨_,_,_,_,_,_,z⟩=>by cases z) (fun _ z=>by cases z)⟩)
 · exact .inr h
theorem ColF.away {b b2:Bool}{c:Kd→Addr}{CM C C2:Addr}{t t2:Nat}{H H':Hp}{x x2 d:Addr}{D D' D2:ColD}{g g2:Nat→Option Nat}{kvs:List (Key × V)}{ts:Tabs}(h2:ColF b2 c CM C2 t2 (noT H) x2 D2 g2)(h:ColF b c CM C t (noT H) x D g)(hd:noT H d=some (.dK kvs))(no:∀ a,D2.F a→¬ orD D d a)(f:Cf ts (orD D d) H (orD D' d) H'):ColF b2 c CM C2 t2 (noT H') x2 D2 g2∧∀ a,D2.F a→¬ orD D' d a:=by
 refine ⟨h2.off (F:=orD D d) (fun a ha=>ha.elim (fun z=>h.at_.loose a z) fun z=>by rw [z];exact .inr ⟨_,hd⟩) no f.same,fun a ha z=>?_⟩;rcases f.foot a z with w | w
 · exact no a ha w
 · exact (h2.at_.loose a ha).none w
section
variable {P:Program}{w:World}{K:PySem.W.Frag}{mg:Str→Option Value}{base:Heap}{c:Kd→Addr}{CM:Addr}{CK:Bool→Addr}{ts:Tabs}
theorem ok_law51 {C_Column C_ByValue C_ByBits:Addr}(B:Blt mg)(g_Column:mg "Column"=some (.ref C_Column))(g_ByValue:mg "ByValue"=some (.ref C_ByValue))(g_ByBits:mg "ByBits"=some (.ref C_ByBits))(ci:∀ b,ClI K mg (CK b) b)(cp:∀ b,ClP P w K mg base b c CM (CK b) ts)(h_numbers:MethAt P w K mg base CM "numbers" ["self"] 5 (spNumbers c CM))(h_l_cell_at:FnAt P w K mg base "_law_cell_at" ["_law_script","_law_k"] 1 (spCell K))(h_l_column:FnAt P w K mg base "_law_column" ["_law_cell"] 6 (spCol c CM CK))(h_l_is:FnAt P w K mg base "_law_is" ["_law_found","_law_due"] 1 spIs51)(h_l_same:FnAt P w K mg base "_law_same" ["_law_found","_law_due"] 2 spSame51)(h_l_deed:FnAt P w K mg base "_law_deed" ["_law_column_here","_law_plain","_law_script","_law_cell","_law_top"] 12 (spDeed51 K c CM CK ts))(h_l_end:FnAt P w K mg base "_law_end" ["_law_column_here","_law_plain","_law_script"] 9 (spEnd51 K c CM CK ts))
   {fa:Addr} {fd:FuncData} (FL:Fun K "law" "law" ZdW fa fd):FnOk P w K mg base CX0 13 fa fd ["_law_script"] (spLaw51 K ts):=by
 refine FL.ok sc_law (fun vs H Q E h=>?_) (fun cdv A outer s H vs Q E hr h=>?_)
 · obtain ⟨a,ns,rfl,_⟩:=h
   rfl
 obtain ⟨a,ns,rfl,hS,h63,ht,q⟩:=h;refine ⟨_,(Zac (Zal (i:=1) sc_law.nd rfl (by walk_at "l") (Zaj h_l_cell_at (hr.mono (by decide)) rfl (Zaa (pv 0) (Zaa Zag Zad))))
     (Zac (ps_asg (Zaj h_l_column (hr.mono (by decide)) rfl (Zaa (pv 1) Zad)) (Zea K rfl (Zbd (ZaH (i:=2) sc_law.nd rfl (by walk_at "l")) (Zbd (ZaH (i:=3) sc_law.nd rfl (by walk_at "l")) Zel))))
     (Zac (Zal (i:=4) sc_law.nd rfl (by walk_at "l") (Zca (Zih K) (Zaj h_l_column (hr.mono (by decide)) rfl (Zaa (pv 1) Zad)) Zag (fun _ _=>rfl)))
     (Zac (ZaE (Zau (P:=P) (w:=w) (K:=K) (mg:=mg) (base:=base) 9 (hr.mono (by decide)) (pv 4) (Zaa Zag (Zaa (pv 3) Zad))))
     (Zac (Zal (i:=5) sc_law.nd rfl (by walk_at "l") ZcJ)
     (Zac (ZaF (PW.pt (Zgx (ZaY (ZaJ (ZaA (ZaP K) rfl B.isi ZaO (Zaa (pv 2) (Zaa (Zav (v:=.ref C_Column) rfl g_Column rfl) Zad))))) (Ze0 (Zas Zbw (ZaA (ZaP K) rfl B.isi ZaO (Zaa (pv 2) (Zaa (Zav (v:=.ref C_ByValue) rfl g_ByValue rfl) Zad))) (ZaA (ZaP K) rfl B.isi ZaO (Zaa (pv 2) (Zaa (Zav (v:=.ref C_ByBits) rfl g_ByBits rfl) Zad))) (nomark _))))) (Zaf (Zak Za1)) Zat)
     (Zac (ZaF (ZaY (ZaJ (Zaj h_l_is (hr.mono (by decide)) rfl (Zaa (ZaR (P:=P) (w:=w) (K:=K) (mg:=mg) (base:=base) 1 (hr.mono (by decide)) (pv 2)) (Zaa (pv 3) Zad))))) (Zaf (Zak Za1)) Zat)
     (Zac (Zb4 PassesOwn.never rfl (Za5 K (Zbt (Zbu K) (pv 0) (ZbA Zag) (ZbA Zag))) (ZaH (i:=1) sc_law.nd rfl (by walk_at "l")) (Zaf (ZaF (ZaY (ZaJ (Zaj h_l_deed (hr.mono (by decide)) rfl (Zaa (pv 2) (Zaa (pv 5) (Zaa (pv 0) (Zaa (pv 1) (Zaa (pv 3) Zad)))))))) (Zaf (Zak Za1)) Zat)))
     (Zac (ZaF (PW.pt (Zgx (ZaY (ZaJ (Zaj h_l_end (hr.mono (by decide)) rfl (Zaa (pv 2) (Zaa (pv 5) (Zaa (pv 0) Zad)))))) (Ze0 (Zas (op_neD K (hu64 hr)) (ZaR (P:=P) (w:=w) (K:=K) (mg:=mg) (base:=base) 5 (hr.mono (by decide)) (ZaR (P:=P) (w:=w) (K:=K) (mg:=mg) (base:=base) 4 (hr.mono (by decide)) (pv 4))) (ZaM (Zaa Zag Zad)) (nomark _))))) (Zaf (Zak Za1)) Zat)
     (Zaf (Zak (Zaj h_l_same (hr.mono (by decide)) rfl (Zaa (Zau (P:=P) (w:=w) (K:=K) (mg:=mg) (base:=base) 7 (hr.mono (by decide)) (pv 4) (Zaa Zag Zad)) (Zaa (pv 3) Zad)))))))))))))),?_⟩
 refine Zap fun k hk=>?_
 walk_at "vc";refine ⟨a,ns,1,rfl,hS.noT,hk _ _ (Zap fun k hk=>?_)⟩;generalize ns.getD 1 0=z;walk_at "vc";refine ⟨z,rfl,fun x D p1 H1 s1 nx c1 hF1 np1 hp1=>⟨p1,rfl,_,SqT.of hp1,rfl,_,_,rfl,_,_,rfl,rfl,hk _ _ (Zap fun k hk=>?_)⟩⟩;walk_at "vc";refine ⟨z,rfl,fun x2 D2 p2 H2 s2 nx2 c2 hF2 np2 hp2=>⟨p2,rfl,_,SqT.of hp2,_,rfl,hk _ _ (Zap fun k hk=>?_)⟩⟩;have ok:=kT_ok z;generalize kB z=b at c1 c2 hp1 hp2 ok hk ⊢;generalize kT z=t at c1 c2 hp1 hp2 ok hk ⊢;obtain ⟨dx2,hx2⟩:=c2.at_.hx;have no1:∀ a,D.F a→¬ D2.F a:=fun a ha z=>(c1.at_.loose a ha).none (ZaT (hF2 a z))
 have c1:=c1.same s2.noT;have nx2:=ht.nx (s1.trans s2);walk_at "vc";refine ⟨_,_,_,(Zae hx2).1,ZaI rfl (by decide) (by decide),_,_,(cp b).put,x2,1795,tpB b t,t,D2,_,rfl,by decide,Nat.le_refl _,c2,nx2.tb,fun D3 H3 f3 c3=>hk _ _ (Zap fun k hk=>?_)⟩;have no3:∀ a,D3.F a→¬ D.F a:=fun a ha z=>(f3.foot a ha).elim (no1 a z) fun w=>(c1.at_.loose a z).none w
 have c1:=c1.off c2.at_.loose no1 f3.same;have fH:∀ l xs,noT H l=some (.lst xs)→noT H3 l=some (.lst xs):=fun l xs e=>f3.same _ _ (fun z=>(c2.at_.loose l z).no (nx2.at e) Za6 fun _ z=>by cases z) (nx2.at e)
 have hS3:SqL K (noT H3) a (ns.map V.int):=Ziv nx2 c2.at_.loose f3 hS;generalize hg2:gOn (fun _=>none) 1795 (tpB b t)=g2 at c3;walk_at "vc";intro d nd4;refine hk _ _ (Zap fun k hk=>?_);have nx4:Nx ts H3 (upd H3 d (.dK [])):=Nx.new f3.tb nd4;have pd:Pd b c CM CK t (upd H3 d (.dK [])) x d D (fun _=>none) [] []:=⟨c1.same nx4.same,Zam Zab (nd _),fun z=>(c1.at_.loose d z).none (ZaT nd4),⟨rfl,.nil⟩,fun _=>rfl,by decide⟩
 have no4:∀ a,D3.F a→¬ orD D d a:=fun a ha z=>z.elim (no3 a ha) fun w=>(c3.at_.loose a ha).none (by rw [w];exact ZaT nd4)
 have c3:=c3.same nx4.same;have hS4:SqL K (noT (upd H3 d (.dK []))) a (ns.map V.int):=nx4.same.seq hS3;have tb4:=nx4.tb;generalize upd H3 d (.dK [])=H4 at pd c3 hS4 tb4 hk ⊢;obtain ⟨dx4,hx4⟩:=pd.col.at_.hx;walk_at "vc";refine ZeR (Zae hx4).1 (ci b).c (ci b).t (ci b).i1 g_Column ⟨_,rfl,?_⟩;rw [if_neg (by decide)];refine ZeR (Zae hx4).1 (ci b).c (ci b).t (ci b).i2 g_ByValue ?_;refine ZeR (Zae hx4).1 (ci b).c (ci b).t (ci b).i3 g_ByBits ?_;refine ⟨rfl,?_⟩;rw [if_neg (by cases b<;>decide)];refine hk _ _ (Zap fun k hk=>?_);walk_at "vc";refine ⟨_,_,_,(Zae hx4).1,ZaI rfl (by decide) (by decide),_,_,(cp b).top,x,t,D,_,_,_,_,rfl,pd.col.at_,ok,_,rfl,_,rfl,?_⟩;rw [if_neg (by decide)];refine hk _ _ (Zap fun k hk=>?_);walk_at "vc";obtain ⟨zs,ct,l30⟩:=cut30 ns;refine ⟨_,hS4.noT,fun p np=>⟨⟨_,SqL.of Zab⟩,?_⟩⟩;rw [ct];have nx5:Nx ts H4 (upd H4 p (.lst (zs.map V.int))):=Nx.new tb4 np;have hp5:upd H4 p (.lst (zs.map V.int)) p=some (.lst (zs.map V.int)):=Zab;generalize upd H4 p (.lst (zs.map V.int))=H5 at nx5 hp5 ⊢;have l30:(zs.map V.int).length≤30:=by rw [List.length_map];exact l30
 refine loopL (xs:=zs.map V.int) (LwI b c CM CK t ts K a x x2 d p z D3 g2 ns (zs.map V.int)) ⟨⟨_,rfl⟩,nx5.tb,D,_,[],[],pd.nx nx5,Nat.le_refl _,c3.same nx5.same,no4,Zam hp5 (nl _),nx5.same.seq hS4⟩ ?_ ?_ ?_
 · rintro i σ H6 _ h
   exact SqL.of (Zae h.list).1
 · rintro i y σ H6 hy ⟨⟨z',rfl⟩,tb6,D6,g6,kv6,ms6,pd6,lm6,c6,no6,hp6,hS6⟩
   obtain ⟨u,rfl⟩:∃ z:Int,y=.int z:=by obtain ⟨z,_,e⟩:=List.mem_map.mp (List.mem_of_getElem? hy);exact ⟨z,e.symm⟩
   have hi:=(List.getElem?_eq_some_iff.mp hy).1;walk_at "vc";refine ⟨b,x,d,a,ns,u,t,D6,g6,kv6,ms6,rfl,pd6,by omega,hS6,tb6,fun D7 g7 kv7 ms7 H7 f7 pd7 lm7=>⟨_,rfl,?_⟩⟩;rw [if_neg (by decide)];obtain ⟨c7,no7⟩:=c6.away pd6.col pd6.hd no6 f7;have lo:∀ e,orD D6 d e→Loose (noT H6) e:=fun e he=>he.elim (fun w=>pd6.col.at_.loose e w) fun w=>by rw [w];exact .inr ⟨_,pd6.hd⟩
   exact ⟨⟨_,rfl⟩,f7.tb,D7,g7,kv7,ms7,pd7,by omega,c7,no7,f7.same _ _ (fun w=>(lo _ w).no hp6 Za6 fun _ z=>by cases z) hp6,Ziv (.refl tb6) lo f7 hS6⟩
 · rintro σ H6 ⟨⟨z',rfl⟩,tb6,D6,g6,kv6,ms6,pd6,lm6,c6,no6,hp6,hS6⟩
   refine hk _ _ (Zap fun k hk=>?_);walk_at "vc";refine ⟨b,x,d,a,ns,t,D6,g6,kv6,ms6,rfl,pd6,hS6,tb6,fun H7 nx7=>⟨_,rfl,?_⟩⟩;rw [if_neg (by decide)];have c7:=c6.same nx7.same;obtain ⟨dx7,hx7⟩:=c7.at_.hx;refine ⟨_,_,_,(Zae hx7).1,ZaI rfl (by decide) (by decide),_,_,(cp b).rows,x2,_,_,D3,_,_,_,_,rfl,c7.at_,nx7.tb,fun m H8 nx8 nm hm=>?_⟩;obtain ⟨dm,kd,ah,sr,ho,_⟩:=hm.ex;have okv:=c7.at_.okv;have ef:flat D3.ev=[1795]:=Up.ext okv.flat_up (ZdQ _) fun y=>by
     rw [c7.at_.m1,List.mem_singleton,← hg2];unfold gOn;by_cases e:y=1795
     · rw [if_pos e]
       exact ⟨fun _=>e,fun _=>⟨_,rfl⟩⟩
     · rw [if_neg e]
       exact ⟨fun ⟨v,w⟩=>(by cases w),fun w=>absurd w e⟩
   refine ⟨m,rfl,_,_,_,(Zae ho).1,rfl,_,_,h_numbers,m,D3.ev,rfl,hm,okv,by rw [← Zb6,ef];decide,fun l H9 s9 nl hl=>⟨by decide,fun l2 nl2=>?_⟩⟩;rw [ef] at hl;have s10:=Same.new (o:=.lst [V.int 1795]) nl2;refine Zjr (ps:=[1795]) (qs:=[1795]) (SqL.of (s10 _ _ hl)) (SqL.of Zab) ⟨_,rfl,?_⟩;rw [decide_eq_true rfl,if_neg (by decide)];refine hk _ _ ?_;have nx10:=nx8.trans ((nx8.tb.nx s9).trans ((nx8.tb.nx s9).tb.nx s10));have c10:=c7.same nx10.same;obtain ⟨dx10,hx10⟩:=c10.at_.hx;walk_at "vc";refine ⟨_,_,_,(Zae hx10).1,ZaI rfl (by decide) (by decide),_,_,(cp b).value,x2,1795,t,D3,g2,rfl,by decide,c10,nx10.tb,fun H11 nx11=>?_⟩;rw [show g2 1795=some (tpB b t) by rw [← hg2];exact if_pos rfl];exact ⟨_,rfl,.inl ⟨_,rfl⟩,q _⟩
end
theorem ZeB {K:PySem.W.Frag}{C:Addr}{bm:List Value}{n:String}(q:PySem.W.excIn K C bm n=true):(PySem.W.clsIn K C).isSome=true:=by
 unfold PySem.W.excIn at q;split at q
 next dd cd sl ho =>
   unfold PySem.W.clsIn;rw [ho];rfl
 next=>cases q
theorem xf2_mk {K:PySem.W.Frag}{h:Heap}{mg:Str→Option Value}{C S T:Addr}(X:K.In h)(G:h.Ns mainGlobals mg)(a1:PySem.W.nsIn K mainGlobals "NoNumber"=some (some (.ref C)))(a2:PySem.W.nsIn K mainGlobals "MarksError"=some (some (.ref S)))(a3:PySem.W.nsIn K mainGlobals "BadValue"=some (some (.ref T)))
   (q1:PySem.W.excIn K C bmVal "ValueError.__new__"=true) (q2:PySem.W.keepIn K (.ref C)=true) (i2:PySem.W.findIn K (.ref C) "__getattribute__"=some (some (.builtin "BaseException.__getattribute__"))) (i3:PySem.W.findIn K (.ref C) "__getattr__"=some none) (i4:PySem.W.findIn K (.ref C) "__class__"=some (some (.builtin "object.__class__"))) (i5:PySem.W.mroIn K C (.type "object")=some true) (i6:PySem.W.mroIn K C (.type "BaseException")=some true)
   (m1:PySem.W.exmOne K (.ref C) (.ref S)=some true) (n1:PySem.W.kitOne K (.ref C) (.ref T)=some false) (y1:PySem.W.kitOne K (.ref C) (.ref C)=some true)
   (q1':PySem.W.excIn K T bmVal "ValueError.__new__"=true) (q2':PySem.W.keepIn K (.ref T)=true) (i2':PySem.W.findIn K (.ref T) "__getattribute__"=some (some (.builtin "BaseException.__getattribute__"))) (i3':PySem.W.findIn K (.ref T) "__getattr__"=some none) (i4':PySem.W.findIn K (.ref T) "__class__"=some (some (.builtin "object.__class__"))) (i5':PySem.W.mroIn K T (.type "object")=some true) (i6':PySem.W.mroIn K T (.type "BaseException")=some true)
   (m1':PySem.W.exmOne K (.ref T) (.ref S)=some true) (n1':PySem.W.kitOne K (.ref T) (.ref C)=some false) (y1':PySem.W.kitOne K (.ref T) (.ref T)=some true):∃ C S T,mg "NoNumber"=some (.ref C)∧mg "MarksError"=some (.ref S)∧mg "BadValue"=some (.ref T)∧XF K C S T∧XF K T S C :=
 ⟨C,S,T,PySem.W.mg_of X G a1,PySem.W.mg_of X G a2,PySem.W.mg_of X G a3,⟨⟨q1,q2⟩,⟨ZeB q1,i2,i3,i4,i5,i6⟩,m1,n1,y1⟩,⟨⟨q1',q2'⟩,⟨ZeB q1',i2',i3',i4',i5',i6'⟩,m1',n1',y1'⟩⟩
theorem base_mk {K:PySem.W.Frag}{h:Heap}{mg:Str→Option Value}{M f:Addr}{oc:Value}{od an:Option Addr}{osl:Array (Option Value)}{kV doc pm cdv ct:Value}(X:K.In h)(G:h.Ns mainGlobals mg)(a:PySem.W.nsIn K mainGlobals "Column"=some (some (.ref M)))
   (sp:PySem.W.specialIn K (.ref M) "__getattribute__"=some (some (.builtin "type.__getattribute__"))) (rd:PySem.W.readsIn K M (.type "type")=true) (fc:PySem.W.findCls K (.ref M) (.type "type") "__init__"=some (.val (.ref f)))
   (l:K.lookup f=some ⟨oc,od,.func (PySem.W.fnOf "__init__" "Column.__init__" (defArgs Zar) (defBody Zar) (defScope Zar) .none kV doc pm an cdv ct),osl⟩) (c:PySem.W.codeIn K cdv "Column.__init__"=true) (k:PySem.W.keepIn K (.ref f)=true)
   (hb:∀ (kV doc pm:Value) (an:Option Addr) (cdv ct:Value) (us:List Value),us.length=["self"].length→bindArgs (PySem.W.fnOf "__init__" "Column.__init__" (defArgs Zar) (defBody Zar) (defScope Zar) .none kV doc pm an cdv ct) ⟨us,[]⟩=pure ((["self"]:List Str).zip us)) :
   ∃ M f fd,ByCls K mg "Column" "__init__" M f∧Fun K "__init__" "Column.__init__" Zar f fd∧Binds K fd ["self"] [] :=
 ⟨M,f,_,⟨PySem.W.mg_of X G a,sp,rd,fc,k⟩,Zcm l c k,(Zcm l c k).binds hb⟩
def lamDefs:List Str:=["halved_keys"]
def tsK (K:PySem.W.Frag):Tabs:=[((tabAt K "halved_keys").2,qK,lpK)]
theorem uqK (K:PySem.W.Frag):TabsUq (tsK K):=fun t ht u hu _=>(List.mem_singleton.mp ht).trans (List.mem_singleton.mp hu).symm
def spLawK (K:PySem.W.Frag):Sp:=spLaw51 K (tsK K)
theorem sql_noT {K:PySem.W.Frag}{H:Hp}{a:Addr}{xs:List V}(h:SqL K H a xs):SqL K (noT H) a xs:=by
 rcases h with h | h
 · rcases h with h | ⟨o,h⟩
   · exact .inl (.inl (Zam h (nl _)))
   · exact .inl (.inr ⟨o,Zam h fun _ z=>by cases z⟩)
 · exact .inr h
theorem Zjq {K:Params→PySem.W.Frag}(w:World)(H:Hp)(a:Addr)(ns:List Int)(h1:ns.length≤63)(h2:∀ z∈ns,Builtin.Int.intBits z≤2^20)(h3:∀ y∈lamDefs,H (tabAt (K w.params) y).2=some (.tbl #[]))(h4:(lamDefs.map fun x=>(tabAt (K w.params) x).2).Nodup)(h5:SqL (K w.params) H a (ns.map V.int)):spLawK (K w.params) [.ref a] H (fun v _=>v=.bl true) fun _ _ _=>False:=by refine ⟨a,ns,rfl,sql_noT h5,h1,fun t ht=>?_,fun _=>rfl⟩;rw [List.mem_singleton.mp ht];exact .inl (h3 _ (.head _))
theorem wire51 {P:Program}{w:World}{K:PySem.W.Frag}{mg:Str→Option Value}{base:Heap}{C_ListStretch C_BitStretch C_RunStretch C_Marks C_ByValue C_ByBits C_Column C_NoNumber C_MarksError C_BadValue MC fC:Addr}{fdC:FuncData}{fa:Addr}{fd:FuncData}{ts:Tabs}(B:Blt mg)(c_LOWER_1:∃ t,mg "LOWER_1"=some (.int 38597363079105398474523661669562635951089994888546854679819194669304376546645 t))(c_LOWER_2:∃ t,mg "LOWER_2"=some (.int 23158417847463239084714197001737581570653996933128112807891516801582625927987 t))(c_LOWER_4:∃ t,mg "LOWER_4"=some (.int 6811299366900952671974763824040465167839410862684739061144563765171360567055 t))(c_LOWER_8:∃ t,mg "LOWER_8"=some (.int 450552876409790643671482431940419874915447411150352389258589821042463539455 t))(c_PLACES:∃ t,mg "PLACES"=some (.int 256 t))(c_GREATEST:∃ t,mg "GREATEST"=some (.int 65535 t))(cd_ListStretch:CD_ListStretch K mg C_ListStretch)(cd_BitStretch:CD_BitStretch K mg C_BitStretch)(cd_RunStretch:CD_RunStretch K mg C_RunStretch)(cd_Marks:CD_Marks K mg C_Marks)(cd_ByValue:CD_ByValue K mg C_ByValue)(cd_ByBits:CD_ByBits K mg C_ByBits)(D_all_below:DefAt K mg "all_below" ZbP ["place"])(D_without_first:DefAt K mg "without_first" Za8 ["word"])(D_counted:DefAt K mg "counted" ZcT ["word"])(D_first_one:DefAt K mg "first_one" ZbY ["word"])(D_last_one:DefAt K mg "last_one" Zce ["word"])(D_bit_at:DefAt K mg "bit_at" Zdi ["word","place"])(D_span_word:DefAt K mg "span_word" ZbW ["first","last"])(D_runs_of:DefAt K mg "runs_of" Zc3 ["word"])(D_places_of:DefAt K mg "places_of" ZbU ["word"])(D_word_of:DefAt K mg "word_of" ZcW ["places"])(D_word_of_runs:DefAt K mg "word_of_runs" Zbc ["runs"])(D_sizes:DefAt K mg "sizes" Zeo ["word"])(D_kept:DefAt K mg "kept" ZfV ["word"])(D_added:DefAt K mg "added" Zed ["stretch","place"])(D_removed:DefAt K mg "removed" ZcS ["stretch","place"])(D_is_whole:DefAt K mg "is_whole" ZbF ["thing"])(D_check_number:DefAt K mg "check_number" ZaX ["thing"])(D_l_cell_at:DefAt K mg "_law_cell_at" ZbV ["_law_script","_law_k"])(D_l_mixed:DefAt K mg "_law_mixed" ZcV ["_law_cell","_law_k"])(D_l_is:DefAt K mg "_law_is" Zf2 ["_law_found","_law_due"])(D_l_same:DefAt K mg "_law_same" ZdB ["_law_found","_law_due"])(D_l_value:DefAt K mg "_law_value" Zc2 ["_law_cell","_law_top"])(D_l_row:DefAt K mg "_law_row" Zef ["_law_script","_law_cell"])(D_l_column:DefAt K mg "_law_column" Zch ["_law_cell"])(D_l_tried:DefAt K mg "_law_tried" ZcU ["_law_column_here","_law_way","_law_row_here","_law_value_here"])(D_l_refused:DefAt K mg "_law_refused" ZbN ["_law_column_here","_law_row_here","_law_value_here","_law_cell","_law_top"])(D_l_deed:DefAt K mg "_law_deed" Zdq ["_law_column_here","_law_plain","_law_script","_law_cell","_law_top"])(D_l_end:DefAt K mg "_law_end" Zei ["_law_column_here","_law_plain","_law_script"])(g_Column:mg "Column"=some (.ref C_Column))(g_NoNumber:mg "NoNumber"=some (.ref C_NoNumber))(g_MarksError:mg "MarksError"=some (.ref C_MarksError))(g_BadValue:mg "BadValue"=some (.ref C_BadValue))(xn:XF K C_NoNumber C_MarksError C_BadValue)(xb:XF K C_BadValue C_MarksError C_NoNumber)(bc:ByCls K mg "Column" "__init__" MC fC)(FC:Fun K "__init__" "Column.__init__" Zar fC fdC)(bC:Binds K fdC ["self"] [])(h_hk:FnAt P w K mg base "halved_keys" ["keys","key"] 3 (spHKt ts (fun y k=>decide (k<y)) 0))(FL:Fun K "law" "law" ZdW fa fd):FnOk P w K mg base CX0 40 fa fd ["_law_script"] (spLaw51 K ts):=by
 let c:Kd→Addr:=fun k=>match k with | .l=>C_ListStretch | .b=>C_BitStretch | .r=>C_RunStretch
 have cL:CD_ListStretch K mg (c .l):=cd_ListStretch;have cB:CD_BitStretch K mg (c .b):=cd_BitStretch;have cR:CD_RunStretch K mg (c .r):=cd_RunStretch;have cc:∀ k,Cls K (c k):=fun k=>match k with | .l=>cL.c | .b=>cB.c | .r=>cR.c
 have h_l_mixed:=ok_mixed (P:=P) (w:=w) (base:=base) D_l_mixed;have h_l_cell_at:=ZhM (P:=P) (w:=w) (base:=base) B D_l_cell_at
 have h_span_word:=ZfN (P:=P) (w:=w) (base:=base) (Zf4 D_all_below) D_span_word;have h_first_one:=Zf6 (P:=P) (w:=w) (base:=base) (ZgU D_last_one) D_first_one;have h_counted:=Zh8 (P:=P) (w:=w) (base:=base) ⟨c_LOWER_1,c_LOWER_2,c_LOWER_4,c_LOWER_8⟩ D_counted;have h_runs_of:=ZhT (P:=P) (w:=w) (base:=base) h_first_one h_span_word D_runs_of;have h_places_of:=Zgk (P:=P) (w:=w) (base:=base) h_first_one (ZdN D_without_first) D_places_of;have h_word_of:=ZhI (P:=P) (w:=w) (base:=base) D_word_of;have h_word_of_runs:=Zd7 (P:=P) (w:=w) (base:=base) h_span_word D_word_of_runs;have iL:=Zjy (P:=P) (w:=w) (base:=base) B cL;have iB:=Zjo (P:=P) (w:=w) (base:=base) cB;have iR:=ZjB (P:=P) (w:=w) (base:=base) B cR;have hw:∀ k,MethAt P w K mg base (c k) "word" ["self"] 4 (spWordM c k):=fun k=>match k with | .l=>Zjt h_word_of cL | .b=>ZjI cB | .r=>Zji h_word_of_runs cR
 have h_sizes:=ok_sizes (P:=P) (w:=w) (base:=base) c_PLACES h_counted D_sizes;have h_kept:=ok_kept (P:=P) (w:=w) (base:=base) h_sizes h_places_of h_runs_of iL iB iR D_kept;have h_added:=ok_added (P:=P) (w:=w) (base:=base) hw h_kept D_added;have h_removed:=ZhS (P:=P) (w:=w) (base:=base) hw h_kept D_removed;have h_bit_at:=Zi8 (P:=P) (w:=w) (base:=base) D_bit_at
 have hhas:∀ k,MethAt P w K mg base (c k) "has" ["self","place"] 5 (spHasM c k):=fun k=>ok_has hw h_bit_at k (cc k) (match k with | .l=>cL.m_has | .b=>cB.m_has | .r=>cR.m_has)
 have hmany:∀ k,MethAt P w K mg base (c k) "many" ["self"] 5 (spManyM c k):=fun k=>ok_many hw h_counted k (cc k) (match k with | .l=>cL.m_many | .b=>cB.m_many | .r=>cR.m_many)
 have h_is_whole:=Zhx (P:=P) (w:=w) (base:=base) B D_is_whole;have h_check:=ok_check (P:=P) (w:=w) (base:=base) c_GREATEST h_is_whole D_check_number;have h_found:=ok_found (c:=c) h_hk cd_Marks;have h_stands:=ZiZ (P:=P) (w:=w) (base:=base) (c:=c) B cd_Marks;have h_ahead:=ok_ahead (P:=P) (w:=w) (base:=base) (c:=c) B cd_Marks;have h_stAt:=Ze6 h_found h_stands cd_Marks;have h_keep:=ok_keep h_found h_stands h_ahead hmany cd_Marks;have h_Marks:=ok_initM (P:=P) (w:=w) (base:=base) (c:=c) (ts:=ts) cd_Marks;have h_hasM:=ok_hasM c_PLACES h_check h_stAt hhas cd_Marks;have h_put:=ok_putM c_PLACES h_hasM h_stAt h_keep h_kept h_added cd_Marks;have h_take:=ok_takeM c_PLACES h_hasM h_stAt h_keep h_removed cd_Marks;have h_is_wholeV:=ZfY (P:=P) (w:=w) (base:=base) B D_is_whole;have x_chk:=ok_chkX (P:=P) (w:=w) (base:=base) c_GREATEST xn.c g_NoNumber h_is_wholeV D_check_number;have x_has:=ok_hasX (c:=c) x_chk cd_Marks;have h_numbers:=ZhH (P:=P) (w:=w) (base:=base) (c:=c) B c_PLACES hw h_places_of cd_Marks;have h_many:=Zjm (P:=P) (w:=w) (base:=base) (c:=c) cd_Marks;have h_cnt:=Zhe h_found h_stands h_ahead cd_Marks;have h_cop:=ok_copM B h_Marks cd_Marks;have ccV:ClC K C_ByValue:=⟨cd_ByValue.c,cd_ByValue.n_valued,cd_ByValue.n_by_number,cd_ByValue.n_by_key⟩
 have ccB:ClC K C_ByBits:=⟨cd_ByBits.c,cd_ByBits.n_valued,cd_ByBits.n_by_number,cd_ByBits.n_by_key⟩
 let CK:Bool→Addr:=fun b=>if b=true then C_ByValue else C_ByBits
 have h_MI:=ok_MI (P:=P) (w:=w) (base:=base) cd_Marks;have h_ByValue:=ok_VI (P:=P) (w:=w) (base:=base) (c:=c) cd_ByValue (ok_CI h_MI ccV bc FC bC);have h_ByBits:=ok_BI (P:=P) (w:=w) (base:=base) (c:=c) cd_ByBits (ok_CI h_MI ccB bc FC bC);have natV:=ok_nat (P:=P) (w:=w) (base:=base) (c:=c) (CM:=C_Marks) B ccV cd_ByValue.m_numbers_at
 have natB:=ok_nat (P:=P) (w:=w) (base:=base) (c:=c) (CM:=C_Marks) B ccB cd_ByBits.m_numbers_at
 have valV:=ok_valV B c_PLACES ccV h_check natV h_hasM cd_ByValue.m_value;have valB:=ok_valB B c_PLACES ccB natB h_hasM cd_ByBits.m_value;have nofV:=ok_nofV (P:=P) (w:=w) (base:=base) (mg:=mg) ccV cd_ByValue.m_numbers_of;have nofB:=ok_nofB ccB h_places_of cd_ByBits.m_numbers_of;have topV:=ok_topV (P:=P) (w:=w) (base:=base) (mg:=mg) (c:=c) (CM:=C_Marks) ccV cd_ByValue.n_greatest cd_ByValue.m_top;have topB:=ok_topB (P:=P) (w:=w) (base:=base) (mg:=mg) (c:=c) (CM:=C_Marks) ccB cd_ByBits.n_width cd_ByBits.m_top;have canV:=ok_can ccV h_is_wholeV topV cd_ByValue.m_can_have;have canB:=ok_can ccB h_is_wholeV topB cd_ByBits.m_can_have;have rowsV:=ZiB ccV h_cop cd_ByValue.m_rows;have rowsB:=ZiB ccB h_cop cd_ByBits.m_rows;have takeV:=ZgN c_PLACES ccV valV nofV h_take h_cnt h_many cd_ByValue.m_take;have takeB:=ZgN c_PLACES ccB valB nofB h_take h_cnt h_many cd_ByBits.m_take;have putV:=Zir c_PLACES ccV h_check canV takeV nofV h_put h_Marks cd_ByValue.m_put;have putB:=Zir c_PLACES ccB h_check canB takeB nofB h_put h_Marks cd_ByBits.m_put;have cp:∀ b,ClP P w K mg base b c C_Marks (CK b) ts:=fun b=>match b with | true=>⟨valV,takeV,putV,rowsV,topV⟩ | false=>⟨valB,takeB,putB,rowsB,topB⟩
 have xvV:=ok_valXV (c:=c) (CM:=C_Marks) ccV x_chk cd_ByValue.m_value;have xvB:=ok_valXB ccB x_has cd_ByBits.m_value;have xc:∀ b,ClX P w K mg base b c C_Marks (CK b) C_NoNumber C_BadValue:=fun b=>match b with | true=>⟨xvV,ZfK ccV xvV cd_ByValue.m_take,ZgS ccV xb.c g_BadValue x_chk canV cd_ByValue.m_put⟩ | false=>⟨xvB,ZfK ccB xvB cd_ByBits.m_take,ZgS ccB xb.c g_BadValue x_chk canB cd_ByBits.m_put⟩
 have ci:∀ b,ClI K mg (CK b) b:=fun b=>match b with | true=>⟨cd_ByValue.c,cd_ByValue.ty,cd_ByValue.i_Column,cd_ByValue.i_ByValue,cd_ByValue.i_ByBits⟩ | false=>⟨cd_ByBits.c,cd_ByBits.ty,cd_ByBits.i_Column,cd_ByBits.i_ByValue,cd_ByBits.i_ByBits⟩
 have h_l_is:=ok_is51 (P:=P) (w:=w) (base:=base) B D_l_is;have h_l_same:=Zjf h_l_is D_l_same;have h_l_value:=ok_val51 B h_l_mixed D_l_value;have h_l_row:=ok_row51 h_l_mixed h_l_cell_at D_l_row;have h_l_column:=ok_col (CK:=CK) h_l_mixed h_ByValue h_ByBits D_l_column;have h_l_tried:=ok_tried B xn xb g_BadValue g_MarksError g_NoNumber xc D_l_tried;have h_l_refused:=ok_refd B h_l_mixed h_l_tried D_l_refused;have h_l_deed:=Zi1 B cp h_l_mixed h_l_row h_l_value h_l_refused h_l_same D_l_deed;have h_l_end:=ok_end51 B cp h_numbers h_l_mixed h_l_same D_l_end;exact (ok_law51 B g_Column cd_ByValue.at_ cd_ByBits.at_ ci cp h_numbers h_l_cell_at h_l_column h_l_is h_l_same h_l_deed h_l_end FL).mono (by decide)
theorem law_mk {K:PySem.W.Frag}{h:Heap}{mg:Str→Option Value}{fa f:Addr}{oc:Value}{od an:Option Addr}{osl:Array (Option Value)}{kV doc pm cdv ct:Value}(X:K.In h)(G:h.Ns mainGlobals mg)(hfa:mg "law"=some (.ref fa))(a:PySem.W.nsIn K mainGlobals "law"=some (some (.ref f)))
   (l:K.lookup f=some ⟨oc,od,.func (PySem.W.fnOf "law" "law" (defArgs ZdW) (defBody ZdW) (defScope ZdW) .none kV doc pm an cdv ct),osl⟩) (c:PySem.W.codeIn K cdv "law"=true) (k:PySem.W.keepIn K (.ref f)=true) :
   ∃ fd,Fun K "law" "law" ZdW fa fd∧∀ (s:Shared) (v:Value),BindsTo s fd ⟨[v],[]⟩ [("_law_script",v)]:=by
 have e:=hfa.symm.trans (PySem.W.mg_of X G a);cases e;exact ⟨_,Zcm l c k,fun s v=>.of_eq rfl⟩
theorem walkT {l:PySem.W.OpenLaw}{q:Program}{loose:List Str}{XP:(Str→Option Value)→Heap→Prop}{YP:World→Heap→Prop}{d:DefRec}{K:Params→PySem.W.Frag}(hn:l.most=some 63)(hdf:d.params.defaults=[])
   (hY:∀ (w:World) (h:Heap),YP w h→(K w.params).In h) (ok:∀ P,tabsOk (K P) lamDefs=true) (rok:recsOk q lamDefs=true)
   (F:∀ (w:World) (mg:Str→Option Value) (fa:Addr) (h:Heap),(K w.params).In h→h.Ns mainGlobals mg→mg d.name=some (.ref fa)→(∀ y∈lamDefs,PySem.W.tabIn (K w.params) y=some (tabAt (K w.params) y)) →
     ∃ fd:FuncData,(∀ (s:Shared) (u:Value),BindsTo s fd ⟨[u],[]⟩ [("_law_script",u)])∧∀ base:Heap,(K w.params).In base→base.Ns mainGlobals mg→(∀ y∈lamDefs,TabIn base mg (tabAt (K w.params) y))→FnOk l.prog w (K w.params) mg base CX0 40 fa fd ["_law_script"] (spLawK (K w.params))) :
   PySem.W.WalkO q loose XP YP l.row.toRowW d [] (fun f vs=>PySem.call f vs) :=
 L2.walk_tabs (n:=63) (k:=40) (x:="_law_script") (sp:=fun w=>spLawK (K w.params)) lamDefs hn (by decide) hdf ⟨rfl,by decide,by decide⟩ hY ok rok (fun w mg fa h KX G m=>F w mg fa h KX G m fun y hy=>(ZdF (ok _) hy).1) Zjq
theorem Zfe {K:PySem.W.Frag}{h:Heap}{mg:Str→Option Value}{x:Str}{C:Addr}{R:Addr→Prop}(X:K.In h)(G:h.Ns mainGlobals mg)(a:PySem.W.nsIn K mainGlobals x=some (some (.ref C)))(r:mg x=some (.ref C)→R C):∃ C,R C:=⟨C,r (PySem.W.mg_of X G a)⟩
end My
theorem PySem.W.Fast.te10583761973065014064:True:=trivial
def PySem.W.Fast.tw10583761973065014064:Unit:=()
theorem PySem.W.Fast.te18038135759552256824:True:=trivial
def PySem.W.Fast.tw18038135759552256824:Unit:=()
theorem PySem.W.Fast.te924184682362077458:True:=trivial
def PySem.W.Fast.tw924184682362077458:Unit:=()
theorem PySem.W.Fast.te8403559534865787773:True:=trivial
def PySem.W.Fast.tw8403559534865787773:Unit:=()
theorem PySem.W.Fast.te13052408679150730464:True:=trivial
def PySem.W.Fast.tw13052408679150730464:Unit:=()
theorem PySem.W.Fast.te16555476440528808052:True:=trivial
def PySem.W.Fast.tw16555476440528808052:Unit:=()
theorem PySem.W.Fast.te4868988410673395695:True:=trivial
def PySem.W.Fast.tw4868988410673395695:Unit:=()
open PySem PySem.W PyProof.Rows My L2
abbrev zP:=PySem.Challenge.rw_runmarks_k51_values_put_and_taken.prog
local macro_rules | `(tactic| walk_at "d1")=>`(tactic| (dsimp only [L2.KOf]; refine' ZcL (by assumption) (by assumption) ?a ?l ?c ?k ?b; (case a=>k_is); (case l=>k_is); (case c=>k_is); (case k=>k_is); exact fun _ _ _ _ _ _=>all1 fun _=>rfl))
local macro_rules | `(tactic| walk_at "d2")=>`(tactic| (dsimp only [L2.KOf]; refine' ZcL (by assumption) (by assumption) ?a ?l ?c ?k ?b; (case a=>k_is); (case l=>k_is); (case c=>k_is); (case k=>k_is); exact fun _ _ _ _ _ _=>all2 fun _ _=>rfl))
local macro_rules | `(tactic| walk_at "d3")=>`(tactic| (dsimp only [L2.KOf]; refine' ZcL (by assumption) (by assumption) ?a ?l ?c ?k ?b; (case a=>k_is); (case l=>k_is); (case c=>k_is); (case k=>k_is); exact fun _ _ _ _ _ _=>all3 fun _ _ _=>rfl))
local macro_rules | `(tactic| walk_at "d4")=>`(tactic| (dsimp only [L2.KOf]; refine' ZcL (by assumption) (by assumption) ?a ?l ?c ?k ?b; (case a=>k_is); (case l=>k_is); (case c=>k_is); (case k=>k_is); exact fun _ _ _ _ _ _=>all4 fun _ _ _ _=>rfl))
local macro_rules | `(tactic| walk_at "d5")=>`(tactic| (dsimp only [L2.KOf]; refine' ZcL (by assumption) (by assumption) ?a ?l ?c ?k ?b; (case a=>k_is); (case l=>k_is); (case c=>k_is); (case k=>k_is); exact fun _ _ _ _ _ _=>all5 fun _ _ _ _ _=>rfl))
local macro_rules | `(tactic| walk_at "i1")=>`(tactic| (refine' Zhp ?a ?b ?c ?d ?e ?f ?g ?h; (case a=>k_is); (case b=>k_is); (case c=>k_is); (case d=>k_is); (case e=>k_is); (case f=>k_is); (case g=>k_is); exact fun _ _ _ _ _ _=>all1 fun _=>rfl))
local macro_rules | `(tactic| walk_at "i2")=>`(tactic| (refine' Zhp ?a ?b ?c ?d ?e ?f ?g ?h; (case a=>k_is); (case b=>k_is); (case c=>k_is); (case d=>k_is); (case e=>k_is); (case f=>k_is); (case g=>k_is); exact fun _ _ _ _ _ _=>all2 fun _ _=>rfl))
local macro_rules | `(tactic| walk_at "m1")=>`(tactic| (refine' Zgm ?a ?b ?c ?d ?e ?f; (case a=>k_is); (case b=>k_is); (case c=>k_is); (case d=>k_is); (case e=>k_is); exact fun _ _ _ _ _ _=>all1 fun _=>rfl))
local macro_rules | `(tactic| walk_at "m2")=>`(tactic| (refine' Zgm ?a ?b ?c ?d ?e ?f; (case a=>k_is); (case b=>k_is); (case c=>k_is); (case d=>k_is); (case e=>k_is); exact fun _ _ _ _ _ _=>all2 fun _ _=>rfl))
local macro_rules | `(tactic| walk_at "m3")=>`(tactic| (refine' Zgm ?a ?b ?c ?d ?e ?f; (case a=>k_is); (case b=>k_is); (case c=>k_is); (case d=>k_is); (case e=>k_is); exact fun _ _ _ _ _ _=>all3 fun _ _ _=>rfl))
local macro_rules | `(tactic| walk_at "cc")=>`(tactic| (refine' ⟨?a,?b,?c,?d⟩; (case a=>k_is); (case b=>k_is); (case c=>k_is); (case d=>k_is)))
local macro_rules | `(tactic| walk_at "ci")=>`(tactic| (refine' isi_to (by assumption) (by assumption) ?a ?b; (case a=>k_is); (case b=>kit_is)))
local macro_rules | `(tactic| walk_at "cn")=>`(tactic| (show PySem.W.findIn _ _ _ = _; k_is))
local macro_rules | `(tactic| walk_at "ic")=>`(tactic| (refine' int_mk (by assumption) (by assumption) ?a; (case a=>k_is)))
set_option maxRecDepth 100000 in
set_option maxHeartbeats 0 in
theorem PySem.Challenge.cw_runmarks_k51_values_put_and_taken_holds : PySem.Challenge.rw_runmarks_k51_values_put_and_taken.Holds := by
 w_on;o_law;k_head;(case hw=>w_witness2)
 k_fill
 refine My.walkT (l:=PySem.Challenge.rw_runmarks_k51_values_put_and_taken) rfl rfl (fun w h Y=>PySem.W.km_in_of Y) (fun P=>by kernel_rfl) (by kernel_rfl) ?F
 case F =>
   intro w mg fa h KX G hmg hTI;have D_is_whole:DefAt (L2.KOf KX) mg "is_whole" ZbF ["thing"]:=by walk_at "d1"
   have D_bit_at:DefAt (L2.KOf KX) mg "bit_at" Zdi ["word","place"]:=by walk_at "d2"
   have D_all_below:DefAt (L2.KOf KX) mg "all_below" ZbP ["place"]:=by walk_at "d1"
   have D_without_first:DefAt (L2.KOf KX) mg "without_first" Za8 ["word"]:=by walk_at "d1"
   have D_counted:DefAt (L2.KOf KX) mg "counted" ZcT ["word"]:=by walk_at "d1"
   have D_first_one:DefAt (L2.KOf KX) mg "first_one" ZbY ["word"]:=by walk_at "d1"
   have D_last_one:DefAt (L2.KOf KX) mg "last_one" Zce ["word"]:=by walk_at "d1"
   have D_span_word:DefAt (L2.KOf KX) mg "span_word" ZbW ["first","last"]:=by walk_at "d2"
   have D_word_of:DefAt (L2.KOf KX) mg "word_of" ZcW ["places"]:=by walk_at "d1"
   have D_places_of:DefAt (L2.KOf KX) mg "places_of" ZbU ["word"]:=by walk_at "d1"
   have D_runs_of:DefAt (L2.KOf KX) mg "runs_of" Zc3 ["word"]:=by walk_at "d1"
   have D_word_of_runs:DefAt (L2.KOf KX) mg "word_of_runs" Zbc ["runs"]:=by walk_at "d1"
   have D_sizes:DefAt (L2.KOf KX) mg "sizes" Zeo ["word"]:=by walk_at "d1"
   have D_kept:DefAt (L2.KOf KX) mg "kept" ZfV ["word"]:=by walk_at "d1"
   have D_added:DefAt (L2.KOf KX) mg "added" Zed ["stretch","place"]:=by walk_at "d2"
   have D_removed:DefAt (L2.KOf KX) mg "removed" ZcS ["stretch","place"]:=by walk_at "d2"
   have D_halved:DefAt (L2.KOf KX) mg "halved" Ze3 ["many","goes_on"]:=by walk_at "d2"
   have D_halved_keys:DefAt (L2.KOf KX) mg "halved_keys" Zbs ["keys","key"]:=by walk_at "d2"
   have D_check_number:DefAt (L2.KOf KX) mg "check_number" ZaX ["thing"]:=by walk_at "d1"
   have D_l_cell_at:DefAt (L2.KOf KX) mg "_law_cell_at" ZbV ["_law_script","_law_k"]:=by walk_at "d2"
   have D_l_mixed:DefAt (L2.KOf KX) mg "_law_mixed" ZcV ["_law_cell","_law_k"]:=by walk_at "d2"
   have D_l_is:DefAt (L2.KOf KX) mg "_law_is" Zf2 ["_law_found","_law_due"]:=by walk_at "d2"
   have D_l_same:DefAt (L2.KOf KX) mg "_law_same" ZdB ["_law_found","_law_due"]:=by walk_at "d2"
   have D_l_value:DefAt (L2.KOf KX) mg "_law_value" Zc2 ["_law_cell","_law_top"]:=by walk_at "d2"
   have D_l_row:DefAt (L2.KOf KX) mg "_law_row" Zef ["_law_script","_law_cell"]:=by walk_at "d2"
   have D_l_column:DefAt (L2.KOf KX) mg "_law_column" Zch ["_law_cell"]:=by walk_at "d1"
   have D_l_tried:DefAt (L2.KOf KX) mg "_law_tried" ZcU ["_law_column_here","_law_way","_law_row_here","_law_value_here"]:=by walk_at "d4"
   have D_l_refused:DefAt (L2.KOf KX) mg "_law_refused" ZbN ["_law_column_here","_law_row_here","_law_value_here","_law_cell","_law_top"]:=by walk_at "d5"
   have D_l_deed:DefAt (L2.KOf KX) mg "_law_deed" Zdq ["_law_column_here","_law_plain","_law_script","_law_cell","_law_top"]:=by walk_at "d5"
   have D_l_end:DefAt (L2.KOf KX) mg "_law_end" Zei ["_law_column_here","_law_plain","_law_script"]:=by walk_at "d3"
   have e_ListStretch:∃ C,CD_ListStretch (L2.KOf KX) mg C:=by
     dsimp only [L2.KOf];refine' Zfe (x:="ListStretch") KX G ?aListStretch ?bListStretch
     (case aListStretch=>k_is)
     intro z;refine' ⟨z,?_,?_,?_,?_,?_,?_⟩
     · walk_at "cc"
     · walk_at "i2"
     · walk_at "m1"
     · walk_at "m1"
     · walk_at "m2"
     · walk_at "cn"
   obtain ⟨C_ListStretch,cd_ListStretch⟩:=e_ListStretch;have e_BitStretch:∃ C,CD_BitStretch (L2.KOf KX) mg C:=by
     dsimp only [L2.KOf];refine' Zfe (x:="BitStretch") KX G ?aBitStretch ?bBitStretch
     (case aBitStretch=>k_is)
     intro z;refine' ⟨z,?_,?_,?_,?_,?_,?_⟩
     · walk_at "cc"
     · walk_at "i2"
     · walk_at "m1"
     · walk_at "m1"
     · walk_at "m2"
     · walk_at "cn"
   obtain ⟨C_BitStretch,cd_BitStretch⟩:=e_BitStretch;have e_RunStretch:∃ C,CD_RunStretch (L2.KOf KX) mg C:=by
     dsimp only [L2.KOf];refine' Zfe (x:="RunStretch") KX G ?aRunStretch ?bRunStretch
     (case aRunStretch=>k_is)
     intro z;refine' ⟨z,?_,?_,?_,?_,?_,?_⟩
     · walk_at "cc"
     · walk_at "i2"
     · walk_at "m1"
     · walk_at "m1"
     · walk_at "m2"
     · walk_at "cn"
   obtain ⟨C_RunStretch,cd_RunStretch⟩:=e_RunStretch;have e_Marks:∃ C,CD_Marks (L2.KOf KX) mg C:=by
     dsimp only [L2.KOf];refine' Zfe (x:="Marks") KX G ?aMarks ?bMarks
     (case aMarks=>k_is)
     intro z;refine' ⟨z,?_,?_,?_,?_,?_,?_,?_,?_,?_,?_,?_,?_,?_,?_,?_,?_,?_,?_⟩
     · walk_at "cc"
     · walk_at "i1"
     · walk_at "m2"
     · walk_at "m2"
     · walk_at "m2"
     · walk_at "m1"
     · walk_at "m1"
     · walk_at "m2"
     · walk_at "m2"
     · walk_at "m1"
     · walk_at "m2"
     · walk_at "m3"
     · walk_at "m2"
     · walk_at "m3"
     · walk_at "cn"
     · walk_at "cn"
     · walk_at "cn"
     · walk_at "cn"
   obtain ⟨C_Marks,cd_Marks⟩:=e_Marks;have e_ByBits:∃ C,CD_ByBits (L2.KOf KX) mg C:=by
     dsimp only [L2.KOf];refine' Zfe (x:="ByBits") KX G ?aByBits ?bByBits
     (case aByBits=>k_is)
     intro z;refine' ⟨z,?_,?_,?_,?_,?_,?_,?_,?_,?_,?_,?_,?_,?_,?_,?_,?_,?_,?_⟩
     · walk_at "cc"
     · walk_at "i2"
     · walk_at "m1"
     · walk_at "m2"
     · walk_at "m2"
     · walk_at "m2"
     · walk_at "m3"
     · walk_at "m2"
     · walk_at "m1"
     · walk_at "m2"
     · walk_at "cc"
     · walk_at "ci"
     · walk_at "ci"
     · walk_at "ci"
     · walk_at "cn"
     · walk_at "cn"
     · walk_at "cn"
     · walk_at "cn"
   obtain ⟨C_ByBits,cd_ByBits⟩:=e_ByBits;have e_ByValue:∃ C,CD_ByValue (L2.KOf KX) mg C:=by
     dsimp only [L2.KOf];refine' Zfe (x:="ByValue") KX G ?aByValue ?bByValue
     (case aByValue=>k_is)
     intro z;refine' ⟨z,?_,?_,?_,?_,?_,?_,?_,?_,?_,?_,?_,?_,?_,?_,?_,?_,?_,?_⟩
     · walk_at "cc"
     · walk_at "i2"
     · walk_at "m1"
     · walk_at "m2"
     · walk_at "m2"
     · walk_at "m2"
     · walk_at "m3"
     · walk_at "m2"
     · walk_at "m1"
     · walk_at "m2"
     · walk_at "cc"
     · walk_at "ci"
     · walk_at "ci"
     · walk_at "ci"
     · walk_at "cn"
     · walk_at "cn"
     · walk_at "cn"
     · walk_at "cn"
   obtain ⟨C_ByValue,cd_ByValue⟩:=e_ByValue;have e_Column:∃ C,mg "Column"=some (.ref C)∧True:=by
     refine' ex_cls KX G ?aColumn True.intro
     (case aColumn=>k_is)
   obtain ⟨C_Column,g_Column,_⟩:=e_Column;have c_PLACES:∃ t,mg "PLACES"=some (.int 256 t):=by walk_at "ic"
   have c_LOWER_1:∃ t,mg "LOWER_1"=some (.int 38597363079105398474523661669562635951089994888546854679819194669304376546645 t):=by walk_at "ic"
   have c_LOWER_2:∃ t,mg "LOWER_2"=some (.int 23158417847463239084714197001737581570653996933128112807891516801582625927987 t):=by walk_at "ic"
   have c_LOWER_4:∃ t,mg "LOWER_4"=some (.int 6811299366900952671974763824040465167839410862684739061144563765171360567055 t):=by walk_at "ic"
   have c_LOWER_8:∃ t,mg "LOWER_8"=some (.int 450552876409790643671482431940419874915447411150352389258589821042463539455 t):=by walk_at "ic"
   have c_GREATEST:∃ t,mg "GREATEST"=some (.int 65535 t):=by walk_at "ic"
   have B:Blt mg:=by
     refine' ⟨PySem.W.mg_none_of KX G ?z0,PySem.W.mg_none_of KX G ?z1,PySem.W.mg_none_of KX G ?z2,PySem.W.mg_none_of KX G ?z3,PySem.W.mg_none_of KX G ?z4,PySem.W.mg_none_of KX G ?z5,PySem.W.mg_none_of KX G ?z6,PySem.W.mg_none_of KX G ?z7,PySem.W.mg_none_of KX G ?z8,PySem.W.mg_none_of KX G ?z9,PySem.W.mg_none_of KX G ?z10,PySem.W.mg_none_of KX G ?z11⟩
     (case z0=>k_is);(case z1=>k_is);(case z2=>k_is);(case z3=>k_is);(case z4=>k_is);(case z5=>k_is);(case z6=>k_is);(case z7=>k_is);(case z8=>k_is);(case z9=>k_is);(case z10=>k_is);(case z11=>k_is)
   have L:∃ fd,Fun (L2.KOf KX) "law" "law" ZdW fa fd∧∀ (s:Shared) (v:Value),BindsTo s fd ⟨[v],[]⟩ [("_law_script",v)]:=by
     dsimp only [L2.KOf];refine' My.law_mk KX G hmg ?aL ?lL ?cL ?kL
     (case aL=>k_is);(case lL=>k_is);(case cL=>k_is);(case kL=>k_is)
   obtain ⟨fd,FL,bL⟩:=L;refine ⟨fd,bL,fun base _ _ hTB=>?_⟩;have eX:∃ C S T,mg "NoNumber"=some (.ref C)∧mg "MarksError"=some (.ref S)∧mg "BadValue"=some (.ref T)∧XF (L2.KOf KX) C S T∧XF (L2.KOf KX) T S C:=by
     dsimp only [L2.KOf];refine' xf2_mk KX G ?xa1 ?xa2 ?xa3 ?xq1 ?xq2 ?xi2 ?xi3 ?xi4 ?xi5 ?xi6 ?xm1 ?xn1 ?xy1 ?yq1 ?yq2 ?yi2 ?yi3 ?yi4 ?yi5 ?yi6 ?ym1 ?yn1 ?yy1
     (case xa1=>k_is);(case xa2=>k_is);(case xa3=>k_is);(case xq1=>k_exc);(case xq2=>k_is);(case xi2=>k_is);(case xi3=>k_is);(case xi4=>k_is);(case xi5=>k_is);(case xi6=>k_is);(case xm1=>kts_exm);(case xn1=>kit_is);(case xy1=>kit_is);(case yq1=>k_exc);(case yq2=>k_is);(case yi2=>k_is);(case yi3=>k_is);(case yi4=>k_is);(case yi5=>k_is);(case yi6=>k_is);(case ym1=>kts_exm);(case yn1=>kit_is);(case yy1=>kit_is)
   obtain ⟨C_NoNumber,C_MarksError,C_BadValue,g_NoNumber,g_MarksError,g_BadValue,xn,xb⟩:=eX;have eB:∃ M f fd,ByCls (L2.KOf KX) mg "Column" "__init__" M f∧Fun (L2.KOf KX) "__init__" "Column.__init__" Zar f fd∧Binds (L2.KOf KX) fd ["self"] []:=by
     dsimp only [L2.KOf];refine' base_mk KX G ?ya ?ys ?yr ?yf ?yl ?yc ?yk ?yh
     (case ya=>k_is);(case ys=>k_is);(case yr=>k_is);(case yf=>k_is);(case yl=>k_is);(case yc=>k_is);(case yk=>k_is)
     case yh=>exact fun _ _ _ _ _ _=>all1 fun _=>rfl
   obtain ⟨MC,fC,fdC,bc,FC,bC⟩:=eB;have uq:=uqK (L2.KOf KX);have h_halved:=fun base=>Zja (P:=zP) (w:=w) (base:=base) D_halved
   have h_hk:=(ok_hkeys (P:=zP) (w:=w) (base:=base) B (hTB _ (.head _)) h_halved (DefAt.toC KX G D_halved_keys (hTI _ (.head _)))).imp (hkT uq (.head _));exact wire51 B c_LOWER_1 c_LOWER_2 c_LOWER_4 c_LOWER_8 c_PLACES c_GREATEST cd_ListStretch cd_BitStretch cd_RunStretch cd_Marks cd_ByValue cd_ByBits D_all_below D_without_first D_counted D_first_one D_last_one D_bit_at D_span_word D_runs_of D_places_of D_word_of D_word_of_runs D_sizes D_kept D_added D_removed D_is_whole D_check_number D_l_cell_at D_l_mixed D_l_is D_l_same D_l_value D_l_row D_l_column D_l_tried D_l_refused D_l_deed D_l_end g_Column g_NoNumber g_MarksError g_BadValue xn xb bc FC bC h_hk FL
#print axioms PySem.Challenge.cw_runmarks_k51_values_put_and_taken_holds
